/-
  The contracts of pair.cut, pair.join, pair.With and pair.Without: a new list in a row of its own; conditions: the slice can be read, its length is small.
-/
import Derived.Test.YtkooaechcbopnaaPairFind
namespace Go.Proofs.Ytkooaechcbopnaa
open Go.RowKit Go.Sort
set_option linter.unusedVariables false

/-- What pair.cut answers. -/
def CutPost (w : World) (l : List Ent) (key : ByteArray) (e : Ending) (w' : World) : Prop :=
  ∃ (i : Nat) (f : Bool) (A B : Option Addr) (m k c d : Nat), e = .returned (.tuple #[.slice A m c, .slice B k d, .bool f]) ∧ Place l key i f ∧ (l.take i).length = m ∧ (l.drop (if f then i + 1 else i)).length = k ∧
    Es w' A (l.take i) ∧ Es w' B (l.drop (if f then i + 1 else i)) ∧ Below w.heap.size w w'

theorem Es.cut {w : World} {A : Option Addr} {l : List Ent} (h : Es w A l) {k c : Nat} (hc : l.length ≤ c) : Es w (if c = k then A else A.map (·.add (k * 2))) (l.drop k) := fun h0 => by
  rw [List.length_drop] at h0
  obtain ⟨ad, rfl, _⟩ := h (by omega)
  rw [if_neg (by omega)]
  exact h.drop k (by rw [List.length_drop]; exact h0)

set_option maxHeartbeats 400000 in
theorem cut_any (A : Option Addr) (n c : Nat) (l : List Ent) (key : ByteArray) (w : World) (hr : Es w A l) (hn : l.length = n) (hc : n ≤ c) (hb : n ≤ 100000000000) :
    Calls Try.prog 65 #[.slice A n c, .string key] w (CutPost w l key) := by
  have Hn := Lib.hid hn
  clear hn
  go_enter Try.func65, Try.ntmps65
  go_wp2_with fail
  refine (find_any A n c l key w hr Hn.out hb).mono ?_
  rintro e w1 ⟨i, f, rfl, hp, hb1⟩
  have hi : i ≤ n := by have := hp.le; rw [Hn.out] at this; exact this
  cases f with
  | true =>
    have hi2 : i < n := by have := hp.lt; rw [Hn.out] at this; exact this
    have HP := Lib.hid hp
    clear hp
    go_wp2
    go_quiet (fail)
    have hr1 := hr.below (below_drewN hb1 nq)
    have hr2 := hr1.cut (k := i + 1) (c := c) (by rw [Hn.out]; exact hc)
    generalize (if c = i + 1 then A else A.map (·.add ((i + 1) * 2))) = B at hr2 ⊢
    go_wp2
    go_ret3
    exact ⟨i, true, _, _, _, _, _, _, rfl, HP.out, by rw [List.length_take, Hn.out]; omega, by rw [List.length_drop, Hn.out]; rfl, hr1.take i, hr2, below_drewN hb1 nq⟩
  | false =>
    have HP := Lib.hid hp
    clear hp
    go_wp2
    go_quiet (fail)
    have hr1 := hr.below (below_drewN hb1 nq)
    have hr2 := hr1.cut (k := i) (c := c) (by rw [Hn.out]; exact hc)
    generalize (if c = i then A else A.map (·.add ((i) * 2))) = B at hr2 ⊢
    go_wp2
    go_ret3
    exact ⟨i, false, _, _, _, _, _, _, rfl, HP.out, by rw [List.length_take, Hn.out]; omega, by rw [List.length_drop, Hn.out]; rfl, hr1.take i, hr2, below_drewN hb1 nq⟩

/-- A part of a list that is joined. -/
structure Part where
  A : Option Addr
  c : Nat
  l : List Ent
def pcells (ps : List Part) : List Value := ps.map fun p => .slice p.A p.l.length p.c
def pall (ps : List Part) : List Ent := ps.flatMap (·.l)
theorem pall_snoc {ps : List Part} {k : Nat} {p : Part} (h : ps[k]? = some p) : pall (ps.take (k + 1)) = pall (ps.take k) ++ p.l := by
  rw [List.take_add_one, h]
  simp [pall]

theorem einfo : (Try.prog.info? 39).map (fun i => (i.zero, i.size, i.bytes)) = some (some (.agg #[.string ByteArray.empty, .string ByteArray.empty]), 2, 32) := by kernel_rfl
theorem ent_parts : ∃ i, Try.prog.info? 39 = some i ∧ i.zero = some (.agg #[.string ByteArray.empty, .string ByteArray.empty]) ∧ i.size = 2 ∧ i.bytes = 32 := info_parts einfo

/-- make([]Entry, 0, c). -/
theorem run_make_ents (c : Nat) (hb : c ≤ 1000000) (w : World) :
    (Instr.makeSlice 22 (.int .i64 0) (.int .i64 (c : Int))).run Try.prog w =
      .ok (.slice (some ⟨w.heap.size, 0, none⟩) 0 c) (w.alloc (.cells (madeCells #[.string ByteArray.empty, .string ByteArray.empty] (c * 2)) 39)) := by
  obtain ⟨i0, hi0, hz0, hz1, hz2⟩ := ent_parts
  have hr := run_make (P := Try.prog) w 22 39 i0 _ Try.underlying22 hi0 hz0 .i64 .i64 (0 : Int) (c : Int) (by omega) (by omega) (by rw [hz2]; omega) (by omega)
  rw [hz1] at hr
  simpa [Value.cells] using hr

/-- Entries in a row of the call's own. -/
def Own (w : World) (base : Nat) (v : Value) (l : List Ent) : Prop := w.ownsRow base 39 2 v l.length (ecells l)
theorem Own.form {w : World} {base : Nat} {v : Value} {l : List Ent} (h : Own w base v l) : ∃ A c, v = .slice A l.length c ∧ l.length ≤ c ∧ Es w A l := by
  rcases h.2 with ⟨rfl, h0⟩ | ⟨g, cap, cur, rfl, hg, hh, hc, _⟩
  · exact ⟨none, 0, by rw [h0], by omega, fun hl => by omega⟩
  · exact ⟨_, _, rfl, hc, fun _ => ⟨_, rfl, lt_of_block hh, h.cells (g := g) rfl⟩⟩
theorem Own.at_block {w : World} {base : Nat} {v : Value} {l : List Ent} (h : Own w base v l) : ∀ g, v.ownBlock = some g → base ≤ g := by
  intro g hg
  rcases h.2 with ⟨rfl, h0⟩ | ⟨g', cap, cur, rfl, hb, _⟩
  · simp [Value.ownBlock] at hg
  · have : g' = g := by simpa [Value.ownBlock] using hg
    omega
theorem Own.below {w w' : World} {base : Nat} {v : Value} {l : List Ent} (h : Own w base v l) (hb : Below w.heap.size w w') : Own w' base v l := by
  refine ⟨h.1, ?_⟩
  rcases h.2 with hv | ⟨g, cap, cur, h1, h2, h3, h4⟩
  · exact .inl hv
  · exact .inr ⟨g, cap, cur, h1, h2, (hb.block g (lt_of_block h3)).trans h3, h4⟩
theorem Own.mono {w : World} {b b' : Nat} {v : Value} {l : List Ent} (h : Own w b v l) (hb : b' ≤ b) : Own w b' v l := by
  refine ⟨h.1, ?_⟩
  rcases h.2 with hv | ⟨g, cap, cur, h1, h2, h3⟩
  · exact .inl hv
  · exact .inr ⟨g, cap, cur, h1, Nat.le_trans hb h2, h3⟩
theorem Own.nil_ (w : World) (base : Nat) : Own w base (.slice none 0 0) [] := ⟨rfl, .inl ⟨rfl, rfl⟩⟩
theorem Own.made (w : World) (c : Nat) (hc : c ≤ 1000000) : Own (w.alloc (.cells (madeCells #[.string ByteArray.empty, .string ByteArray.empty] (c * 2)) 39)) w.heap.size (.slice (some ⟨w.heap.size, 0, none⟩) 0 c) [] :=
  ⟨rfl, .inr ⟨w.heap.size, c, _, rfl, Nat.le_refl _, heap_alloc_new w _, Nat.zero_le _, by simp only [maxLen]; omega, size_madeCells _ _, rfl⟩⟩
theorem Own.grow_below {a w w' : World} {base : Nat} {v : Value} {l : List Ent} (h : Own w base v l) (hb : Below base a w) (hs : base ≤ w.heap.size) (hg : w.grownBy w' v.ownBlock) : Below base a w' :=
  hb.grown hg hs (fun k hk => h.at_block k hk)

/-- append(v, part...): onto a row of the call's own. -/
theorem run_append_ents (ty : TypeId) {w : World} {base : Nat} {v : Value} {xs : List Ent} (hown : Own w base v xs) {A : Option Addr} {l : List Ent} (n c : Nat) (hr : Es w A l) (hn : l.length = n) (hb : xs.length + n ≤ 1000000) (hbase : base ≤ w.heap.size) :
    ∃ v' w', (Builtin.append_ #[22, 22] ty #[v, .slice A n c]).run Try.prog w = .ok v' w' ∧ Own w' base v' (xs ++ l) ∧ w.grownBy w' v.ownBlock := by
  subst hn
  obtain ⟨i0, hi0, hz0, hz1, hz2⟩ := ent_parts
  rcases A with _ | ad
  · have h0 : l = [] := by
      rcases Nat.eq_zero_or_pos l.length with h0 | h0
      · exact List.eq_nil_of_length_eq_zero h0
      · obtain ⟨ad, e, _⟩ := hr h0
        cases e
    subst h0
    refine ⟨v, w, ?_, by simpa using hown, World.grownBy.refl w _⟩
    rcases hown.2 with ⟨rfl, h1⟩ | ⟨g, cap, cur, rfl, _, _, hnc, _⟩
    · simp [Builtin.append_, run_underlying Try.underlying22, sizeOf, typeInfo, hi0, Builtin.lenOf, Builtin.firstCells]
    · simp [Builtin.append_, run_underlying Try.underlying22, sizeOf, typeInfo, hi0, Builtin.lenOf, Builtin.firstCells, hnc, storeCells]
  · have hcells : ∀ j u, (ecells l)[j]? = some u → w.cell? (ad.add j) = some u := by
      intro j u hu
      have hl : 0 < l.length := by
        have := (List.getElem?_eq_some_iff.1 hu).1
        rw [ecells_length] at this
        omega
      obtain ⟨ad', e, _, hc⟩ := hr hl
      cases e
      exact hc j u hu
    obtain ⟨v', w', h1, h2, h3, _⟩ := run_append_own (P := Try.prog) w base 22 ty 39 i0 _ 2 32 Try.underlying22 hi0 hz0 hz1 hz2 rfl (by omega) v xs.length (ecells xs) hown ad l.length c (ecells l) (ecells_length l) hcells (ecells_one l) (by simp only [maxLen]; omega) (by omega) hbase
    exact ⟨v', w', h1, by unfold Own; rw [ecells_append, List.length_append]; exact h2, h3⟩

theorem wpList_append_ran {ops : Array Oper} {rest : List Oper} {o : Oper} {a : Act} {w : World} {Q : Exit → Act → World → Prop} (hgd : o.guard = none) (s x : Operand) (t : TypeId)
    (ho : o.op = .call { callee := .builtin .append, args := #[s, x], argTypes := #[t, t] }) (v u v' : Value) (w' : World) (hs : a.eval s = v) (hx : a.eval x = u)
    (hrun : (Builtin.append_ #[t, t] o.type #[v, u]).run Try.prog w = .ok v' w') (h : wpList Try.prog ops Q rest (a.put o.dst v') w') : wpList Try.prog ops Q (o :: rest) a w :=
  wpList_plain hgd fun _ hK => by
    unfold Oper.wp execOp
    simp only [ho, resolve, invoke, builtin, Sem.run_bind, Sem.run_pure, Result.andThen_ok, List.map_toArray, List.map_cons, List.map_nil, hs, hx, hrun]
    exact hK _ _ h

set_option maxHeartbeats 800000 in
theorem join_any (ad : Addr) (K c : Nat) (ps : List Part) (w : World) (hlt : ad.block < w.heap.size) (hK : ps.length = K) (hc : ∀ j p, ps[j]? = some p → w.cell? (ad.add j) = some (.slice p.A p.l.length p.c) ∧ Es w p.A p.l)
    (hb : (pall ps).length ≤ 100000) (hKb : K ≤ 100000) :
    Calls Try.prog 66 #[.slice (some ad) K c] w fun e w' => ∃ v, e = .returned v ∧ Own w' w.heap.size v (pall ps) ∧ Below w.heap.size w w' := by
  have HK := Lib.hid hK
  have HC := Lib.hid hc
  clear hK hc
  have hsub : ∀ k p, ps[k]? = some p → (pall (ps.take k)).length + p.l.length ≤ 100000 := by
    intro k p hp
    have h1 := pall_snoc hp
    have h2 : pall ps = pall (ps.take (k + 1)) ++ pall (ps.drop (k + 1)) := by
      unfold pall
      rw [← List.flatMap_append, List.take_append_drop]
    rw [h2, h1] at hb
    simp at hb
    omega
  have HS := Lib.hid hsub
  clear hsub
  go_enter Try.func66, Try.ntmps66
  go_wp2
  go_loop [3, 11] (fun s3 s11 => ∃ k : Nat, k ≤ K ∧ s11 = .int .i64 k ∧ s3 = .int .i64 (pall (ps.take k)).length) (fun _ s11 => K - (intOf s11).toNat)
  case atStart => exact ⟨0, Nat.zero_le _, rfl, rfl⟩
  case round =>
    obtain ⟨k, hk, rfl, rfl⟩ := hrel
    by_cases hlt : k < K
    · have hkl : k < ps.length := by rw [HK.out]; exact hlt
      obtain ⟨p, hp⟩ : ∃ p, ps[k]? = some p := ⟨_, List.getElem?_eq_getElem hkl⟩
      have hcell := (HC.out k p hp).1
      have hsum := HS.out k p hp
      have hnx := pall_snoc hp
      have HNX : Hid ((pall (ps.take (k + 1))).length = (pall (ps.take k)).length + p.l.length) := Lib.hid (by rw [hnx, List.length_append])
      clear hp hkl hnx
      generalize (pall (ps.take k)).length = q at *
      go_wp2
      refine ⟨⟨k + 1, by omega, by go_num, ?_⟩, by simp [intOf]; omega⟩
      rw [HNX.out]
      go_num
    · have he : k = K := by omega
      subst he
      rw [List.take_of_length_le (by rw [HK.out]; exact Nat.le_refl _)]
      obtain ⟨q, hq⟩ : ∃ q, q = (pall ps).length := ⟨_, rfl⟩
      rw [← hq]
      have hqb : q ≤ 100000 := by omega
      have hmk := run_make_ents q (by omega)
      have hown := Own.made w q (by omega)
      generalize madeCells #[Value.string ByteArray.empty, Value.string ByteArray.empty] (q * 2) = Z at *
      have Hown := Lib.hid hown
      have Hq := Lib.hid hq
      clear hq hown
      go_wp2
      go_loopw [6, 24] (fun s6 s24 wr => ∃ j : Nat, j ≤ k ∧ s24 = .int .i64 j ∧ Own wr w.heap.size s6 (pall (ps.take j)) ∧ Below w.heap.size w wr) (fun _ s24 _ => k - (intOf s24).toNat)
      case atStart => exact ⟨0, Nat.zero_le _, rfl, Hown.out, (Below.refl _ _).alloc (Nat.le_refl _) _⟩
      case round =>
        obtain ⟨j, hj, rfl, hown, hbw⟩ := hrel
        by_cases hlt2 : j < k
        · have hkl : j < ps.length := by rw [HK.out]; exact hlt2
          obtain ⟨p, hp⟩ : ∃ p, ps[j]? = some p := ⟨_, List.getElem?_eq_getElem hkl⟩
          obtain ⟨hcell0, hes⟩ := HC.out j p hp
          have hcell := (hbw.cell (by rw [block_of_add]; assumption)).trans hcell0
          have hsum := HS.out j p hp
          have hnx := pall_snoc hp
          obtain ⟨v', w2, hrun, hown2, hg2⟩ := run_append_ents 22 hown p.l.length p.c (hes.below hbw) rfl (by omega) hbw.size
          rw [← hnx] at hown2
          have HO := Lib.hid hown2
          have HG := Lib.hid (hown.grow_below hbw hbw.size hg2)
          have HR := Lib.hid hrun
          clear hp hkl hnx hown hown2 hcell0 hg2 hsum hrun
          go_wp2_with (at_builtin; refine wpList_append_ran rfl (.tmp 28) (.tmp 29) 22 rfl _ _ _ _ rfl rfl HR.out ?_)
          exact ⟨⟨j + 1, by omega, by go_num, HO.out, HG.out⟩, by simp [intOf]; omega⟩
        · have he : j = k := by omega
          subst he
          rw [List.take_of_length_le (by rw [HK.out]; exact Nat.le_refl _)] at hown
          have HO := Lib.hid hown
          clear hown
          go_wp2
          go_ret
          exact ⟨_, rfl, HO.out, hbw⟩

end Go.Proofs.Ytkooaechcbopnaa
