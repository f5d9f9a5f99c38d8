/-
  Pages that are to be written, in memory; the contract of shadow.chained; conditions: the slices can be read, as many pages as pieces, few of both.
-/
import Derived.Test.YtelenboncejdaaaGreatDoorShIn
namespace Go.Proofs.YtelenboncejdaaaGreatDoor
open Go.RowKit Go.Sort Go.Shelf Rt
set_option linter.unusedVariables false
set_option linter.unusedSimpArgs false
attribute [local go_sem] Oper.semAt_some wide_fn wide_depth

/-- A page that is to be written: its number, the page, its slices. -/
structure DR where
  at_ : Int
  p : PP
  A : Option Addr
  a : Nat
  B : Option Addr
  b : Nat
def pcD (d : DR) : List Value := [.int .i64 d.at_, .int .i64 d.p.kind, .slice d.A d.p.cells.length d.a, .slice d.B d.p.kids.length d.b, .string d.p.piece, .int .i64 d.p.next]
theorem encD : Enc pcD 6 := ⟨fun _ => rfl, fun x u hu => by
  simp only [pcD, List.mem_cons, List.not_mem_nil, or_false] at hu
  rcases hu with rfl | rfl | rfl | rfl | rfl | rfl <;> rfl⟩
def DR.pr (d : DR) : Int × PP := (d.at_, d.p)
theorem drInfo : (Tryz.prog.info? 172).map (fun i => (i.zero, i.size, i.bytes)) = some (some (.agg #[.int .i64 0, .int .i64 0, .slice none 0 0, .slice none 0 0, .string ByteArray.empty, .int .i64 0]), 6, 88) := by kernel_rfl
abbrev OwnD (w : World) (base : Nat) (v : Value) (l : List DR) : Prop := OwnL pcD 172 6 w base v l
/-- Its slices are rows that nobody else writes. -/
def DOk (w : World) (base : Nat) (d : DR) : Prop := OwnL pcC 230 4 w base (.slice d.A d.p.cells.length d.a) d.p.cells ∧ OwnL pcK 233 2 w base (.slice d.B d.p.kids.length d.b) d.p.kids
theorem DOk.below {w w' : World} {base : Nat} {d : DR} (h : DOk w base d) (hb : Below w.heap.size w w') : DOk w' base d := ⟨h.1.below hb, h.2.below hb⟩
theorem DOk.mono {w : World} {b b' : Nat} {d : DR} (h : DOk w b d) (hb : b' ≤ b) : DOk w b' d := ⟨h.1.mono hb, h.2.mono hb⟩
theorem DOk.cells {w : World} {base : Nat} {d : DR} (h : DOk w base d) : Ls pcC w d.A d.p.cells := by
  obtain ⟨A, c, e, _, hr⟩ := h.1.form
  cases e
  exact hr
theorem DOk.kids {w : World} {base : Nat} {d : DR} (h : DOk w base d) : Ls pcK w d.B d.p.kids := by
  obtain ⟨A, c, e, _, hr⟩ := h.2.form
  cases e
  exact hr
/-- It stays where nothing of its types turns. -/
theorem DOk.keep {w w' : World} {base : Nat} {d : DR} (h : DOk w base d) (hk : ∀ (k : Nat) (cs : Array Value) (t : TypeId), t = 230 ∨ t = 233 → w.heap[k]? = some (.cells cs t (0, 0)) → w'.heap[k]? = w.heap[k]?) : DOk w' base d :=
  ⟨h.1.keep fun g hg _ => (own_cells h.1 g hg).elim fun cur hc => hk g cur _ (.inl rfl) hc, h.2.keep fun g hg _ => (own_cells h.2 g hg).elim fun cur hc => hk g cur _ (.inr rfl) hc⟩

/-- The pages of pieces, the last one first, as far as d. -/
def nextOf (n : Nat) (r : List Int) (d : Nat) : Int := if d = 0 then 0 else r.getD (n - d) 0
def chDR (c : List ByteArray) (r : List Int) (d : Nat) : List DR := (List.range d).map fun j => ⟨r.getD (c.length - 1 - j) 0, chP (c.getD (c.length - 1 - j) ByteArray.empty) (nextOf c.length r j), none, 0, none, 0⟩
theorem chDR_len (c : List ByteArray) (r : List Int) (d : Nat) : (chDR c r d).length = d := by simp [chDR]
theorem chDR_succ (c : List ByteArray) (r : List Int) (d : Nat) : chDR c r (d + 1) = chDR c r d ++ [⟨r.getD (c.length - 1 - d) 0, chP (c.getD (c.length - 1 - d) ByteArray.empty) (nextOf c.length r d), none, 0, none, 0⟩] := by
  simp [chDR, List.range_succ]
theorem chDR_ok (w : World) (base : Nat) (c : List ByteArray) (r : List Int) (d : Nat) : ∀ x ∈ chDR c r d, DOk w base x := by
  intro x hx
  obtain ⟨j, _, rfl⟩ := List.mem_map.1 hx
  exact ⟨OwnL.nil_ _ _ _, OwnL.nil_ _ _ _⟩
theorem chDR_pr (c : List ByteArray) (r : List Int) (h : c.length ≤ 2) : (chDR c r c.length).map DR.pr = chainD c r := by
  match c, h with
  | [], _ => rfl
  | [a], _ => rfl
  | [a, b], _ => rfl

/-- The two variables of chained while it ranges. -/
structure ChB (base dB nB : Nat) (T : BS) (W : World) (l : List DR) (v : Value) (x : Int) : Prop where
  dbox : Boxed W dB 165 v
  nbox : Boxed W nB 3 (.int .i64 x)
  row : OwnD W base v l
  own : ∀ i, T i ↔ (i = dB ∨ i = nB ∨ v.ownBlock = some i)
section
variable {base dB nB : Nat} {T : BS} {W W' : World} {l : List DR} {v : Value} {x : Int}
theorem ChB.keep (h : ChB base dB nB T W l v x) (hs : ∀ k, T k → W'.heap[k]? = W.heap[k]?) : ChB base dB nB T W' l v x :=
  ⟨(hs dB ((h.own dB).2 (.inl rfl))).trans h.dbox, (hs nB ((h.own nB).2 (.inr (.inl rfl)))).trans h.nbox, h.row.keep fun g hg _ => hs g ((h.own g).2 (.inr (.inr hg))), h.own⟩
theorem ChB.lt (h : ChB base dB nB T W l v x) : ∀ i, T i → i < W.heap.size := fun i hi => by
  rcases (h.own i).1 hi with rfl | rfl | hi
  · exact h.dbox.lt
  · exact h.nbox.lt
  · exact h.row.lt i hi
theorem ChB.abd (h : ChB base dB nB T W l v x) {n : Nat} (q : Qt n T W W') : ChB base dB nB T W' l v x := h.keep fun k hk => q.same k (h.lt k hk) (.inr hk)
theorem ChB.vd (h : ChB base dB nB T W l v x) : v.ownBlock ≠ some dB ∧ v.ownBlock ≠ some nB := by
  refine ⟨fun e => ?_, fun e => ?_⟩
  · obtain ⟨cur, hc⟩ := own_cells h.row dB e
    have h1 : W.heap[dB]? = some (.cells #[v] 165 (0, 0)) := h.dbox
    rw [h1] at hc
    cases hc
  · obtain ⟨cur, hc⟩ := own_cells h.row nB e
    have h1 : W.heap[nB]? = some (.cells #[.int .i64 x] 3 (0, 0)) := h.nbox
    rw [h1] at hc
    cases hc
theorem ChB.append (h : ChB base dB nB T W l v x) (y : DR) (hl : l.length ≤ 100000) (hbase : base ≤ W.heap.size) :
    ∃ A' c' w4 T', (Builtin.append_ #[165, 165] 165 #[v, .slice (some ⟨W.heap.size, 0, none⟩) 1 1]).run Tryz.prog (W.alloc (.cells (pcD y).toArray 172)) = .ok (.slice A' (l.length + 1) c') w4 ∧ (W.alloc (.cells (pcD y).toArray 172)).grownBy w4 v.ownBlock ∧ Boxed w4 dB 165 v ∧
      Stp T W T' (w4.setCell ⟨dB, 0, none⟩ (.slice A' (l.length + 1) c')) ∧ ChB base dB nB T' (w4.setCell ⟨dB, 0, none⟩ (.slice A' (l.length + 1) c')) (l ++ [y]) (.slice A' (l.length + 1) c') x := by
  have hb0 : Below W.heap.size W (W.alloc (.cells (pcD y).toArray 172)) := (Below.refl _ _).alloc (Nat.le_refl _) _
  obtain ⟨v', w4, h1, h2, h3, h5⟩ := run_append_at encD 165 172 165 _ _ ⟨_, Tryz.underlying165, rfl⟩ drInfo rfl (by omega) (by omega) (h.row.below hb0) y (heap_alloc_new W _) (by omega) (Nat.le_trans hbase hb0.size)
  obtain ⟨A', c', rfl, _, _⟩ := h2.form
  rw [List.length_append, List.length_singleton] at h1 h2 h5
  obtain ⟨hvB, hvN⟩ := h.vd
  have hk : ∀ k, k < W.heap.size → v.ownBlock ≠ some k → w4.heap[k]? = W.heap[k]? := fun k hk hn => (h3.block k (Nat.lt_of_lt_of_le hk hb0.size) fun e => hn e.symm).trans (hb0.block k hk)
  have hB4 : Boxed w4 dB 165 v := (hk dB h.dbox.lt hvB).trans h.dbox
  have hN4 : Boxed w4 nB 3 (.int .i64 x) := (hk nB h.nbox.lt hvN).trans h.nbox
  have hnd : nB ≠ dB := fun e => by
    have h1 : W.heap[nB]? = some (.cells #[.int .i64 x] 3 (0, 0)) := h.nbox
    rw [e, show W.heap[dB]? = some (.cells #[v] 165 (0, 0)) from h.dbox] at h1
    cases h1
  have hv4 : (Value.slice A' (l.length + 1) c').ownBlock ≠ some dB := fun e => by
    rcases h5 with h5 | h5
    · exact hvB (h5.symm.trans e)
    · rw [h5] at e
      have := h.dbox.lt
      simp at e
      omega
  refine ⟨A', c', w4, fun i => i = dB ∨ i = nB ∨ (Value.slice A' (l.length + 1) c').ownBlock = some i, h1, h3, hB4, ⟨⟨h3.os.trans hb0.os, h3.tape.trans hb0.tape, h3.output.trans hb0.output, ?_⟩, fun i hi ht => ?_, fun i ht => ?_, fun i hi ht => ?_⟩, hB4.set _, ?_, ?_, fun i => Iff.rfl⟩
  · rw [setCell_size]
    exact Nat.le_trans hb0.size h3.size
  · rcases ht with rfl | rfl | ht
    · exact (h.own i).2 (.inl rfl)
    · exact (h.own i).2 (.inr (.inl rfl))
    · rcases h5 with h5 | h5
      · exact (h.own i).2 (.inr (.inr (h5.symm.trans ht)))
      · rw [h5] at ht
        simp at ht
        omega
  · rw [setCell_size]
    rcases ht with rfl | rfl | ht
    · exact hB4.lt
    · exact hN4.lt
    · exact h2.lt i ht
  · have h6 : i ≠ dB := fun e => ht ((h.own i).2 (.inl e))
    have h7 : v.ownBlock ≠ some i := fun e => ht ((h.own i).2 (.inr (.inr e)))
    rw [Below.heap_setCell _ _ _ i h6]
    exact hk i hi h7
  · exact (Below.heap_setCell _ _ _ nB hnd).trans hN4
  · exact h2.keep fun g hg hlt => Below.heap_setCell _ _ _ g fun e => hv4 (by rw [hg]; exact congrArg some e)
theorem ChB.next (h : ChB base dB nB T W l v x) (y : Int) : Stp T W T (W.setCell ⟨nB, 0, none⟩ (.int .i64 y)) ∧ ChB base dB nB T (W.setCell ⟨nB, 0, none⟩ (.int .i64 y)) l v y := by
  have hnd : dB ≠ nB := fun e => by
    have h1 : W.heap[nB]? = some (.cells #[.int .i64 x] 3 (0, 0)) := h.nbox
    rw [← e, show W.heap[dB]? = some (.cells #[v] 165 (0, 0)) from h.dbox] at h1
    cases h1
  refine ⟨⟨⟨rfl, rfl, rfl, by rw [setCell_size]; exact Nat.le_refl _⟩, fun _ _ h => h, fun i hi => by rw [setCell_size]; exact h.lt i hi, fun i hi ht => Below.heap_setCell _ _ _ i fun e => ht (by rw [e]; exact (h.own nB).2 (.inr (.inl rfl)))⟩, (Below.heap_setCell _ _ _ dB hnd).trans h.dbox, h.nbox.set _, h.row.keep fun g hg _ => Below.heap_setCell _ _ _ g fun e => h.vd.2 (by rw [hg]; exact congrArg some e), h.own⟩
end

/-- So many pages are there. -/
def ChIn (base dB nB : Nat) (c : List ByteArray) (r : List Int) (T : BS) (W : World) (d : Nat) : Prop := ∃ v, ChB base dB nB T W (chDR c r d) v (nextOf c.length r d)

theorem shut_low {Ds : List Nat} {A B : World} {n : Nat} (h : Shut Ds A B) (hd : ∀ D ∈ Ds, n ≤ D) : Below n A B :=
  ⟨h.1.os, h.1.tape, h.1.output, h.1.size, fun k hk => h.2 k fun hm => by have := hd k hm; omega⟩
set_option maxHeartbeats 4000000 in
set_option maxRecDepth 100000 in
theorem chained_any {w : World} {A B : Option Addr} {n c m d : Nat} {cs : List ByteArray} {r : List Int} (hA : Ls strC w A cs) (hn : cs.length = n) (hn2 : n ≤ 1000) (hB : Ls icell w B r) (hm : r.length = m) (hle : n ≤ m) (hAl : ∀ ad, A = some ad → ad.block < w.heap.size) :
    Calls Tryz.prog 147 #[.slice A n c, .slice B m d] w fun e w' => ∃ v, e = .returned v ∧ OwnD w' w.heap.size v (chDR cs r n) ∧ Below w.heap.size w w' := by
  have HA := Lib.hid hA
  have HN := Lib.hid hn
  have HB := Lib.hid hB
  have HM := Lib.hid hm
  clear hA hn hB hm
  refine callsIn_wide (n := 0).1 (callsIn_of_wp_marks Tryz.func147 rfl trivial ?_ rfl)
  simp only [Tryz.ntmps147, List.size_toArray, List.length_cons, List.length_nil, Nat.reduceAdd, Nat.reduceSub, Array.replicate_succ, Array.replicate_zero, List.push_toArray, List.append_toArray, List.nil_append, List.cons_append]
  gi_wp2_with fail
  obtain ⟨w1, hw1⟩ : ∃ w1, ((w.alloc (.cells #[.slice B m d] 38)).alloc (.cells #[.slice none 0 0] 165)).alloc (.cells #[.int .i64 0] 3) = w1 := ⟨_, rfl⟩
  have hb1 : Below w.heap.size w w1 := by rw [← hw1]; exact (((Below.refl _ _).alloc (Nat.le_refl _) _).alloc (by simp) _).alloc (by simp; omega) _
  have hp1 : w1.heap[w.heap.size]? = some (.cells #[.slice B m d] 38 (0, 0)) := by rw [← hw1, heap_alloc_old _ _ (by simp; omega), heap_alloc_old _ _ (by simp), heap_alloc_new]
  have hd1 : w1.heap[w.heap.size + 1]? = some (.cells #[.slice none 0 0] 165 (0, 0)) := by
    have e1 : (w.alloc (.cells #[.slice B m d] 38)).heap.size = w.heap.size + 1 := by simp
    rw [← hw1, heap_alloc_old _ _ (by simp), ← e1, heap_alloc_new]
  have hx1 : w1.heap[w.heap.size + 1 + 1]? = some (.cells #[.int .i64 0] 3 (0, 0)) := by
    have e1 : ((w.alloc (.cells #[.slice B m d] 38)).alloc (.cells #[.slice none 0 0] 165)).heap.size = w.heap.size + 1 + 1 := by simp
    rw [← hw1, ← e1, heap_alloc_new]
  have hs1 : w1.heap.size = w.heap.size + 3 := by rw [← hw1]; simp
  rw [hw1]
  refine CallsIn.mono (callsIn_wide.2 (backS_made w1 A n c)) ?_
  rintro e w2 ⟨rfl, hw2⟩
  have hb2 : Below w1.heap.size w1 w2 := by rw [hw2]; exact (Below.refl _ _).alloc (Nat.le_refl _) _
  have hbs : w2.heap[w1.heap.size]? = some (.cells #[.slice A n c] 176 (0, 0)) := by rw [hw2]; exact heap_alloc_new _ _
  have hs2 : w2.heap.size = w1.heap.size + 1 := by rw [hw2]; simp
  have HBW2 := Lib.hid (hb1.trans (hb2.mono hb1.size))
  have HP2 := Lib.hid ((hb2.block _ (by omega)).trans hp1)
  have HD2 : Hid (Boxed w2 (w.heap.size + 1) 165 (.slice none 0 0)) := Lib.hid ((hb2.block _ (by omega)).trans hd1)
  have HX2 : Hid (Boxed w2 (w.heap.size + 1 + 1) 3 (.int .i64 0)) := Lib.hid ((hb2.block _ (by omega)).trans hx1)
  have HBS := Lib.hid hbs
  have HS1 := Lib.hid hs1
  have HS2 := Lib.hid hs2
  have HAL := Lib.hid hAl
  clear hw1 hw2 hb1 hb2 hp1 hd1 hx1 hbs hs1 hs2 hAl
  gi_wp2_with fail
  have hs1 := HS1.out
  have hs2 := HS2.out
  have hHn := HN.out
  refine wpIn_range (gf := 185) (lb := #[pb w1.heap.size]) rfl (enters_of Tryz.func185 (by kernel_rfl) rfl) (encs := encI (valS cs)) (fun _ => rfl) (xs := (List.range n).reverse) (K := Kb w1.heap.size A)
    (fun W' hb' => ?hseq)
    (T := fun i => i = w.heap.size + 1 ∨ i = w.heap.size + 1 + 1) (fun i hi => ⟨by rcases hi with rfl | rfl <;> omega, fun hK => ?hK1⟩) (fun i hi => ?hK2)
    (fun pre T' W' => pre <+: (List.range n).reverse ∧ ChIn w.heap.size (w.heap.size + 1) (w.heap.size + 1 + 1) cs r T' W' pre.length) (fun c pre T' W' => False)
    ?hI (fun c => ?hIx) ?h0 ?round ?done ?stop
  case hseq => exact backS_gives (cell_row ((hb'.block _ (by omega)).trans HBS.out) 0 _ rfl) (HA.out.below (HBW2.out.trans (hb'.mono HBW2.out.size))) hHn (by omega)
  case hK1 =>
    rcases hK with hK | ⟨ad, e, hK⟩
    · rcases hi with rfl | rfl <;> omega
    · have := HAL.out ad e
      rcases hi with rfl | rfl <;> omega
  case hK2 =>
    rcases hi with rfl | ⟨ad, e, rfl⟩
    · omega
    · have := HAL.out ad e
      omega
  case hI =>
    rintro s T A' B' ⟨j0, v, j⟩ q
    exact ⟨j0, v, j.abd q⟩
  case hIx => exact fun s T A B j q => j
  case h0 => exact ⟨List.nil_prefix, _, HD2.out, HX2.out, OwnL.nil_ _ _ _, fun i => by simp [Value.ownBlock]⟩
  case round =>
    rintro lo pre i T' W' hpre ⟨_, v, hch⟩ hst hnl hl hrl C hC
    have hdn : pre.length < n := by
      have := hpre.length_le
      simp at this
      omega
    have hin : i = n - 1 - pre.length := by
      have h1 := rev_at hdn
      obtain ⟨t, ht⟩ := hpre
      rw [← ht] at h1
      simpa using h1
    have HC := Lib.hid hC
    have HSr := Lib.hid hst
    have HNl := Lib.hid hnl
    have HLi := Lib.hid hl
    have HPr := Lib.hid hpre
    have HCH := Lib.hid hch
    have HIN := Lib.hid hin
    have HDN := Lib.hid hdn
    rw [show encI (valS cs) i = #[.int .i64 (i : Int), .string (cs[i]?.getD ByteArray.empty)] from rfl]
    clear hpre hch hst hnl hl hrl hC hs1 hs2 hin hdn hHn
    gi_wp2_with fail
    refine HC.out _ _ (Below.refl _ _) fun W'' hB => ?_
    have hlo : w2.heap.size ≤ lo := HLi.out
    have h21 := HS1.out
    have h22 := HS2.out
    have hbW2 : Below w.heap.size w W'' := (HBW2.out.trans (HSr.out.below (by omega) fun k hk => by rcases hk with rfl | rfl <;> omega)).trans (hB.below (by omega))
    have HCB := Lib.hid (HCH.out.abd (n := w2.heap.size) (hB.qt (by omega) HNl.out))
    have hpB : W''.heap[w.heap.size]? = some (.cells #[.slice B m d] 38 (0, 0)) := (hB.same _ (by omega)).trans ((HSr.out.same _ (by omega) fun hk => by rcases hk with hk | hk <;> omega).trans HP2.out)
    obtain ⟨k, hk⟩ : ∃ k, k = pre.length := ⟨_, rfl⟩
    have HKK := Lib.hid hk
    have hik : i = n - 1 - k := by rw [hk]; exact HIN.out
    have hkn : k < n := by rw [hk]; exact HDN.out
    rw [← hk] at HCB
    have hi : i < n := by omega
    obtain ⟨ad, x, rfl, hx, hlt, hc⟩ := (HB.out.below hbW2).atI (i := i) (by rw [HM.out]; omega)
    have hir : i < m := by omega
    have hgd : r.getD i 0 = x := by rw [List.getD_eq_getElem?_getD, hx]; rfl
    obtain ⟨s, hs⟩ : ∃ s, s = cs[i]?.getD ByteArray.empty := ⟨_, rfl⟩
    have hsd : cs.getD i ByteArray.empty = s := by rw [hs, List.getD_eq_getElem?_getD]
    rw [← hs]
    have HSS : Hid (chDR cs r (k + 1) = chDR cs r k ++ [⟨x, chP s (nextOf n r k), none, 0, none, 0⟩]) := Lib.hid (by rw [chDR_succ, HN.out, ← hik, hgd, hsd])
    have HNX : Hid (nextOf cs.length r (k + 1) = x) := Lib.hid (by
      rw [HN.out, nextOf, if_neg (by omega), show n - (k + 1) = i by omega]
      exact hgd)
    rw [HN.out] at HCB
    generalize nextOf n r k = nx at HSS HCB
    obtain ⟨W, hW⟩ : ∃ W, W = W''.drew := ⟨_, rfl⟩
    have hWb : ∀ j : Nat, W.heap[j]? = W''.heap[j]? := fun j => by rw [hW]; rfl
    have hCW : ChB w.heap.size (w.heap.size + 1) (w.heap.size + 1 + 1) T' W (chDR cs r k) v nx := HCB.out.keep fun j _ => hWb j
    have hbw : w.heap.size ≤ W.heap.size := by rw [hW]; exact hbW2.size
    obtain ⟨A', c', w4, T4, hrun, hg4, hd4, hs4, hc4⟩ := hCW.append ⟨x, chP s nx, none, 0, none, 0⟩ (by rw [chDR_len]; omega) hbw
    rw [chDR_len] at hrun hs4 hc4
    have hvd := hCW.vd
    have hob : ∀ j, (j = w.heap.size + 1 ∨ j = w.heap.size + 1 + 1 ∨ j < w.heap.size + 1) → j ∉ v.ownBlock.toList := fun j hj hm => by
      have hm' : v.ownBlock = some j := by simpa using hm
      rcases hj with rfl | rfl | hj
      · exact hvd.1 hm'
      · exact hvd.2 hm'
      · rcases Nat.lt_or_ge j w.heap.size with h | h
        · have := hCW.row.at_block j hm'
          omega
        · have hjw : j = w.heap.size := by omega
          subst hjw
          obtain ⟨cur, hcur⟩ := own_cells hCW.row _ hm'
          rw [hWb, hpB] at hcur
          cases hcur
    have hWs : W.heap.size = W''.heap.size := by rw [hW]; rfl
    have hpc : ∀ (q : Dc.Past v.ownBlock.toList W) (p : Addr) (u : Value), p.block < W.heap.size → (p.block = w.heap.size + 1 ∨ p.block = w.heap.size + 1 + 1 ∨ p.block < w.heap.size + 1) → W''.cell? p = some u → q.val.cell? p = some u := fun q p u hp hp2 hu => by
      refine (q.ok.cell hp (hob _ hp2)).trans ?_
      rw [hW]
      exact hu
    have q5 : ∀ q : Dc.Past v.ownBlock.toList W, q.val.cell? ⟨w.heap.size + 1, 0, none⟩ = some v := fun q => hpc q _ _ hCW.dbox.lt (.inl rfl) HCB.out.dbox.cell
    have q6 : ∀ q : Dc.Past v.ownBlock.toList W, q.val.cell? ⟨w.heap.size + 1 + 1, 0, none⟩ = some (.int .i64 nx) := fun q => hpc q _ _ hCW.nbox.lt (.inr (.inl rfl)) HCB.out.nbox.cell
    have q3 : ∀ q : Dc.Past v.ownBlock.toList W, q.val.cell? ⟨w.heap.size, 0, none⟩ = some (.slice (some ad) m d) := fun q => hpc q _ _ (by rw [hWs]; exact lt_of_block hpB) (.inr (.inr (Nat.lt_succ_self _))) (cell_at hpB 0 _ rfl)
    have hadw : ad.block < w.heap.size := by
      obtain ⟨ad', e, hl, _⟩ := HB.out (by rw [HM.out]; omega)
      cases e
      exact hl
    have q17 : ∀ q : Dc.Past v.ownBlock.toList W, q.val.cell? (ad.add i) = some (.int .i64 x) := fun q => hpc q _ _ (by rw [block_of_add, hWs]; exact hlt) (.inr (.inr (by rw [block_of_add]; omega))) hc
    have hkp : ∀ j, j < W.heap.size → v.ownBlock ≠ some j → w4.heap[j]? = W.heap[j]? := fun j hj hn => by
      have hbA : Below W.heap.size W (W.alloc (.cells (pcD ⟨x, chP s nx, none, 0, none, 0⟩).toArray 172)) := (Below.refl _ _).alloc (Nat.le_refl _) _
      exact (hg4.block j (Nat.lt_of_lt_of_le hj hbA.size) fun e => hn e.symm).trans (hbA.block j hj)
    have hrunX : (Builtin.append_ #[165, 165] 165 #[v, .slice (some ⟨W.heap.size, 0, none⟩) 1 1]).run Tryz.prog (W.alloc (.cells #[.int .i64 x, .int .i64 3, .slice none 0 0, .slice none 0 0, .string s, .int .i64 nx] 172)) = .ok (.slice A' (k + 1) c') w4 := hrun
    have hbA : Below W.heap.size W (W.alloc (.cells #[.int .i64 x, .int .i64 3, .slice none 0 0, .slice none 0 0, .string s, .int .i64 nx] 172)) := (Below.refl _ _).alloc (Nat.le_refl _) _
    have hg4' : (W.alloc (.cells #[.int .i64 x, .int .i64 3, .slice none 0 0, .slice none 0 0, .string s, .int .i64 nx] 172)).grownBy w4 v.ownBlock := hg4
    have cd4 := hd4.cell
    have fd4 := hd4.frozen
    have hw5s : ∀ j, j < W.heap.size → v.ownBlock ≠ some j → j ≠ w.heap.size + 1 → (w4.setCell ⟨w.heap.size + 1, 0, none⟩ (.slice A' (k + 1) c')).heap[j]? = W.heap[j]? := fun j hj hn h1 => (Below.heap_setCell _ _ _ j h1).trans (hkp j hj hn)
    have hpB5 := (hw5s w.heap.size (by rw [hWs]; exact lt_of_block hpB) (fun e => hob w.heap.size (.inr (.inr (Nat.lt_succ_self _))) (by simpa using e)) (by omega)).trans ((hWb _).trans hpB)
    have hc5 : (w4.setCell ⟨w.heap.size + 1, 0, none⟩ (.slice A' (k + 1) c')).cell? (ad.add i) = some (.int .i64 x) := by
      refine (World.cell?_of_block (w := W) (a := ad.add i) ?_).trans ?_
      · rw [block_of_add]
        exact hw5s _ (by rw [hWs]; exact hlt) (fun e => hob ad.block (.inr (.inr (by omega))) (by simpa using e)) (by omega)
      · rw [hW]
        exact hc
    obtain ⟨hs5, hc5n⟩ := hc4.next x
    have HFIN : Hid (Stp T' W'' T4 ((w4.setCell ⟨w.heap.size + 1, 0, none⟩ (.slice A' (k + 1) c')).setCell ⟨w.heap.size + 1 + 1, 0, none⟩ (.int .i64 x))) := Lib.hid (by
      have h1 : Stp T' W'' T' W := ⟨⟨by rw [hW]; rfl, by rw [hW]; rfl, by rw [hW]; rfl, by rw [hWs]; exact Nat.le_refl _⟩, fun _ _ h => h, hCW.lt, fun j _ _ => hWb j⟩
      exact (h1.trans hs4).trans hs5)
    have HCF : Hid (ChIn w.heap.size (w.heap.size + 1) (w.heap.size + 1 + 1) cs r T4 ((w4.setCell ⟨w.heap.size + 1, 0, none⟩ (.slice A' (k + 1) c')).setCell ⟨w.heap.size + 1 + 1, 0, none⟩ (.int .i64 x)) (k + 1)) := Lib.hid ⟨_, by rw [HSS.out, HNX.out]; exact hc5n⟩
    have p5 := cell_at hpB5 0 (.slice (some ad) m d) rfl
    have n5 := hc4.nbox.cell
    have g5 := hc4.nbox.frozen
    have HRX := Lib.hid hrunX
    have HWd := Lib.hid hW
    have hg4o := hg4'
    clear hbW2 hpB hk hik hx hlt hc hgd hs hsd hW hWb hCW hbw hrun hg4 hd4 hs4 hc4 hvd hob hWs hpc hkp hrunX hw5s hpB5 hs5 hc5n hB h21 h22 hlo hadw
    gi_wp2_with fail
    refine wpIn_region_segs 11 v.ownBlock.toList [([0, 1, 2, 3, 4, 5, 6, 7, 8], 9), ([], 10), ([], 11)] [] (by kernel_rfl) (by kernel_rfl) (by kernel_rfl) (by rintro ⟨a, w, h⟩; exact h) (by kernel_rfl) (by kernel_rfl) (by kernel_rfl) (by intro c a d v w h; exact h) ?_
    rw [← HWd.out]
    refine Dc.wpSegs_more ?_
    simp only [Dc.pick, List.getElem?_cons_zero, List.getElem?_cons_succ]
    repeat (first | go_big_quiet_step (fail) | quiet_step (fail))
    refine wpQuiet_nil ?_
    refine Dc.wpOp_heavy rfl (by rfl) (fun K hK => ?_)
    go_simp
    refine hK _ _ (fun _ => Dc.But.of_below hbA) ?_
    clear hK K q5 q6 q3 q17
    refine Dc.wpSegs_more ?_
    simp only [Dc.pick]
    refine wpQuiet_nil ?_
    refine Dc.wpOp_heavy rfl (by rfl) (fun K hK => ?_)
    refine oper_append_ran (.tmp 13) (.tmp 22) 165 rfl _ _ _ _ rfl rfl HRX.out ?_
    refine hK _ _ (fun _ => but_of_grown hg4o) ?_
    clear hK K
    refine Dc.wpSegs_more ?_
    simp only [Dc.pick]
    refine wpQuiet_nil ?_
    refine Dc.wpOp_heavy rfl (by rfl) (fun K hK => ?_)
    go_simp
    refine hK _ _ (fun h => absurd rfl h) ?_
    clear hK K
    refine Dc.wpSegs_last ?_
    simp only [Dc.pick]
    refine wpQuiet_nil ?_
    gi_wp2_with fail
    exact ⟨T4, HFIN.out, HPr.out, by rw [List.length_append, List.length_singleton, ← HKK.out]; exact HCF.out⟩
  case done =>
    rintro D T' W' ⟨_, v, hch⟩ hst hD hTD hh
    rw [List.length_reverse, List.length_range] at hch
    have HCH := Lib.hid hch
    have HBW := Lib.hid (HBW2.out.trans (hst.below (by omega) fun k hk => by rcases hk with rfl | rfl <;> omega))
    have HD : Hid (∀ E ∈ [D], w.heap.size ≤ E ∧ ¬ T' E) := Lib.hid fun E hE => by rw [List.mem_singleton] at hE; subst hE; exact ⟨by omega, hTD⟩
    have HH : Hid (∀ E ∈ [D], W'.heap[E]? = some (.deferred (some []))) := Lib.hid fun E hE => by rw [List.mem_singleton] at hE; subst hE; exact hh
    have hbx := hch.dbox.cell
    clear hch hst hD hTD hh hs1 hs2 hHn
    gi_wp2_with fail
    refine leaves_marks [D] W' (by simp) HH.out fun w' hs => ?_
    exact ⟨_, results_tmp rfl _ _ _, v, rfl, (HCH.out.abd (n := w.heap.size) (shut_qt hs HD.out)).row, HBW.out.trans (shut_low hs fun E hE => (HD.out E hE).1)⟩
  case stop =>
    rintro D c pre T' W' hne hpre hf
    exact hf.elim

end Go.Proofs.YtelenboncejdaaaGreatDoor
