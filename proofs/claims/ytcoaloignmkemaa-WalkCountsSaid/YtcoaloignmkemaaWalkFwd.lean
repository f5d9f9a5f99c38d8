/-
  The iterator over the leaves of a tree from a key on: it yields leaves one by one, whose entries from the key on are the tree's; conditions stand at each.
-/
import Derived.Test.YtcoaloignmkemaaWalkSeq
import Derived.Test.YtcoaloignmkemaaTreeItems
import Derived.Shelf.Abstract
import Derived.OwnWalkIn
import Derived.LoopIn
import Derived.OrdersIn
namespace Go.Proofs.Ytcoaloignmkemaa
open Go.RowKit Go.Sort Go.Shelf Rt
set_option linter.unusedVariables false
attribute [local go_sem] Oper.semAt_some

theorem wide_fn (f : FuncId) : Fence.wide.fn f = True := rfl
theorem wide_depth : Fence.wide.depth = none := rfl
attribute [local go_sem] wide_fn wide_depth

/-- A leaf, or none. -/
abbrev OS := Option ST
def encO (x : OS) : Array Value := #[ptr (x.map (·.b))]
def leafL (x : OS) : List Ent := x.elim [] (·.l)
def flatO (ls : List OS) : List Ent := ls.flatMap leafL
/-- Leaves whose entries, as far as p goes, are those of l. -/
structure Lvs (w0 : World) (p : Ent → Bool) (l : List Ent) (ls : List OS) : Prop where
  leaf : ∀ s, some s ∈ ls → Tr w0 0 s
  sub : (flatO ls).Sublist l
  filt : (flatO ls).filter p = l.filter p
/-- What such an iterator reads. -/
def Kf (n bn bk : Nat) : BS := fun k => k < n ∨ k = bn ∨ k = bk
def Fk (key : ByteArray) (f : ST → List OS) (k : ST) : List OS := if kl k.N.hi key then [] else f k

theorem cell_lt {w : World} {a : Addr} {v : Value} (h : w.cell? a = some v) : a.block < w.heap.size := by
  obtain ⟨o, ho, _⟩ := cells_of_cell h
  exact (Array.getElem?_eq_some_iff.1 ho).1
theorem Rt.Stp.cell {T T' : BS} {A B : World} (h : Stp T A T' B) {p : Addr} {v : Value} (hc : A.cell? p = some v) (hn : ¬ T p.block) : B.cell? p = some v := (World.cell?_of_block (w := A) (h.same _ (cell_lt hc) hn)).trans hc
theorem Rt.Stp.block {T T' : BS} {A B : World} (h : Stp T A T' B) {k : Nat} {o : Obj} (hc : A.heap[k]? = some o) (hn : ¬ T k) : B.heap[k]? = some o := (h.same _ (Array.getElem?_eq_some_iff.1 hc).1 hn).trans hc
theorem Rt.Bsy.cell {l : Nat} {A B : World} (h : Bsy l A B) {p : Addr} {v : Value} (hc : A.cell? p = some v) (hn : p.block ≠ l) : B.cell? p = some v := (World.cell?_of_block (w := A) (h.same _ hn)).trans hc
/-- Half-way through a loop whose rounds each hold a range over a function: the marks that they have left. -/
structure LoopAt {α : Type} (J : List α → BS → World → Prop) (w2 : World) (T : BS) (pre : List α) (T1 : BS) (Ds : List Nat) (wr : World) : Prop where
  st : Stp T w2 T1 wr
  j : J pre T1 wr
  nd : Ds.Nodup
  ds : ∀ D ∈ Ds, w2.heap.size ≤ D ∧ ¬ T1 D ∧ wr.heap[D]? = some (.deferred (some []))
theorem shut_qt {Ds : List Nat} {A B : World} {n : Nat} {T : BS} (h : Shut Ds A B) (hd : ∀ D ∈ Ds, n ≤ D ∧ ¬ T D) : Qt n T A B :=
  ⟨h.1, fun k hk h1 => h.2 k fun hm => by obtain ⟨a, b⟩ := hd k hm; rcases h1 with h1 | h1; omega; exact b h1⟩
theorem LoopAt.next {α : Type} {J : List α → BS → World → Prop} {w2 wr wr' : World} {T T1 T2 : BS} {pre pre' : List α} {Ds : List Nat} (h : LoopAt J w2 T pre T1 Ds wr) (hs : Stp T1 wr T2 wr') (hj : J pre' T2 wr') : LoopAt J w2 T pre' T2 Ds wr' :=
  ⟨h.st.trans hs, hj, h.nd, fun D hD => by
    obtain ⟨a, b, c⟩ := h.ds D hD
    have hl := (Array.getElem?_eq_some_iff.1 c).1
    exact ⟨a, fun h => b (hs.own D hl h), (hs.same D hl b).trans c⟩⟩
theorem LoopAt.mark {α : Type} {J : List α → BS → World → Prop} {w2 wr : World} {T T1 : BS} {pre : List α} {Ds : List Nat} (h : LoopAt J w2 T pre T1 Ds wr) {D n : Nat} (hn : n ≤ D) (hD : ∀ E ∈ Ds, E < n) (h2 : w2.heap.size ≤ n) (ht : ¬ T1 D) (hh : wr.heap[D]? = some (.deferred (some []))) : LoopAt J w2 T pre T1 (D :: Ds) wr :=
  ⟨h.st, h.j, List.nodup_cons.2 ⟨fun hm => by have := hD D hm; omega, h.nd⟩, fun E hE => by
    rcases List.mem_cons.1 hE with rfl | hE
    · exact ⟨by omega, ht, hh⟩
    · exact h.ds E hE⟩
theorem LoopAt.lt {α : Type} {J : List α → BS → World → Prop} {w2 wr : World} {T T1 : BS} {pre : List α} {Ds : List Nat} (h : LoopAt J w2 T pre T1 Ds wr) : ∀ E ∈ Ds, E < wr.heap.size := fun E hE => (Array.getElem?_eq_some_iff.1 (h.ds E hE).2.2).1
theorem flatMap_take_succ {α β : Type} {l : List α} {f : α → List β} {i : Nat} {x : α} (h : l[i]? = some x) : (l.take (i + 1)).flatMap f = (l.take i).flatMap f ++ f x := by
  obtain ⟨hi, rfl⟩ := List.getElem?_eq_some_iff.1 h
  rw [List.take_succ_eq_append_getElem hi, List.flatMap_append]
  simp
theorem flatMap_prefix {α β : Type} {l : List α} {f : α → List β} {i : Nat} {x : α} (h : l[i]? = some x) : (l.take i).flatMap f ++ f x <+: l.flatMap f := by
  rw [← flatMap_take_succ h]
  refine ⟨(l.drop (i + 1)).flatMap f, ?_⟩
  rw [← List.flatMap_append, List.take_append_drop]

set_option maxHeartbeats 4000000 in
set_option maxRecDepth 100000 in
theorem leaves_branch {w0 : World} {h : Nat} {s : ST} {ks : List ST} (hN : NodeAt w0 s.b s.N) (hk : KidsOf w0 h s ks) (key : ByteArray) (f : ST → List OS) {W : World} {bn bk : Nat} (hb : Below w0.heap.size w0 W)
    (hbn : W.cell? ⟨bn, 0, none⟩ = some (pn s.b)) (hbk : W.cell? ⟨bk, 0, none⟩ = some (.string key))
    (hf : ∀ k ∈ ks, ∀ W bn bk, Below w0.heap.size w0 W → W.cell? ⟨bn, 0, none⟩ = some (pn k.b) → W.cell? ⟨bk, 0, none⟩ = some (.string key) →
      Gives Try.prog 39 #[pb bn, pb bk] encO (f k) (Kf w0.heap.size bn bk) W) :
    Gives Try.prog 39 #[pb bn, pb bk] encO (ks.flatMap (Fk key f)) (Kf w0.heap.size bn bk) W := by
  intro l J Jx T hT hJ hJx hY h0
  have HT := Lib.hid hT
  have HJ := Lib.hid hJ
  have HJx := Lib.hid hJx
  have HY := Lib.hid hY
  have H0 := Lib.hid h0
  have HN := Lib.hid hN
  have HK := Lib.hid hk
  have HF := Lib.hid hf
  have HB := Lib.hid hb
  clear hT hJ hJx hY h0 hN hk hf hb
  refine callsIn_of_wp_marks Try.func39 rfl trivial ?_ rfl
  simp only [Try.ntmps39, List.size_toArray, List.length_cons, List.length_nil, Nat.reduceAdd, Nat.reduceSub, Array.replicate_succ, Array.replicate_zero, List.push_toArray, List.append_toArray, List.nil_append, List.cons_append]
  have hb1 : Below W.heap.size W (W.alloc (.cells #[.func (.yield l) #[] #[]] 74)) := (Below.refl _ _).alloc (Nat.le_refl _) _
  have HY1 : Hid ((W.alloc (.cells #[.func (.yield l) #[] #[]] 74)).heap[W.heap.size]? = some (.cells #[.func (.yield l) #[] #[]] 74 (0, 0))) := Lib.hid (heap_alloc_new W _)
  have q1 : (W.alloc (.cells #[.func (.yield l) #[] #[]] 74)).cell? ⟨bn, 0, none⟩ = some (pn s.b) := (hb1.cell (p := ⟨bn, 0, none⟩) (cell_lt hbn)).trans hbn
  have HBN := Lib.hid hbn
  have HBK := Lib.hid hbk
  have HB1 := Lib.hid hb1
  clear hb1 hbn hbk
  gi_wp2_with fail
  refine CallsIn.mono (callsIn_wide.2 (kids_any (HN.out.below (HB.out.trans (HB1.out.mono HB.out.size))) (HK.out.ls.below (HB.out.trans (HB1.out.mono HB.out.size))) (by rw [HK.out.br.kn, ptrS_len, nbs_len]) (by rw [HK.out.br.kn, nbs_len]; have := HK.out.six; omega))) ?_
  rintro r w2 ⟨v2, rfl, ho2, hb2⟩
  obtain ⟨A2, c2, rfl, hc2, hls2⟩ := ho2.form
  rw [ptrS_len] at hc2 ⊢
  have h2 := HK.out.two
  have HB2 := Lib.hid (bthen HB1.out hb2)
  have HY2 := Lib.hid ((hb2.block _ (Nat.lt_of_lt_of_le (Nat.lt_succ_self _) (by simp))).trans HY1.out)
  rw [ptrS_len] at ho2
  have HO2 := Lib.hid ho2
  have h6 := HK.out.six
  have h0n : ¬ ((ks.length : Int) = 0) := by omega
  clear ho2 hb2 hls2 q1 HB1 HY1
  gi_wp2_with fail
  have HTW : Hid (∀ k, T k → k < W.heap.size) := Lib.hid fun k hk => (HT.out k hk).1
  have HSW := Lib.hid HB2.out.size
  refine wpIn_loop (fun a wr => ∃ (j : Nat) (T1 : BS) (Ds : List Nat) (u6 u7 u8 u14 u20 u21 u22 u23 u24 u25 u26 u27 u28 u29 u30 u31 u32 u33 u34 u40 : Value), j ≤ ks.length ∧ u20 = .int .i64 (j : Int) ∧ Hid (LoopAt J w2 T ((ks.take j).flatMap (Fk key f)) T1 Ds wr) ∧
    a = { tmps := #[.func (.yield l) #[] #[], pb bn, pb bk, pb W.heap.size, .slice A2 ks.length c2, undef, u6, u7, u8, undef, pn s.b, .slice A2 ks.length c2, .slice A2 ks.length c2, .int .i64 (ks.length : Int), u14, undef, undef, undef,
      .slice A2 ks.length c2, .int .i64 (ks.length : Int), u20, u21, u22, u23, u24, u25, u26, u27, u28, u29, u30, u31, u32, u33, u34, undef, undef, undef, undef, undef, u40], defers := Ds.map mk })
    (fun a _ => ks.length - (intOf (a.tmps.getD 20 undef)).toNat) ?_ ?_
  · refine ⟨0, T, [], undef, undef, undef, _, .int .i64 0, undef, undef, undef, undef, undef, undef, undef, undef, undef, undef, undef, undef, undef, undef, undef, Nat.zero_le _, rfl, Lib.hid ⟨.refl fun k hk => Nat.lt_of_lt_of_le (HTW.out k hk) HSW.out, ?_, List.nodup_nil, fun D hD => by cases hD⟩, rfl⟩
    exact HJ.out _ _ _ _ H0.out (.of_below HB2.out)
  · rintro a wr ⟨j, T1, Ds, u6, u7, u8, u14, u20, u21, u22, u23, u24, u25, u26, u27, u28, u29, u30, u31, u32, u33, u34, u40, hj, rfl, HL, rfl⟩
    have HSt := Lib.hid ((Stp.of_below HB2.out HTW.out).trans HL.out.st)
    have HBR := Lib.hid (HB.out.trans (HSt.out.below HB.out.size fun k hk => Nat.le_of_not_lt fun h => (HT.out k hk).2 (.inl h)))
    by_cases hlt : j < ks.length
    · obtain ⟨k, hkj⟩ : ∃ k, ks[j]? = some k := ⟨_, List.getElem?_eq_getElem hlt⟩
      have hown : OwnP wr (W.alloc (.cells #[.func (.yield l) #[] #[]] 74)).heap.size (.slice A2 ks.length c2) (ptrS ks) := HO2.out.keep fun g hg hlt => HL.out.st.same g hlt fun ht => by
        have h1 := HTW.out g ht
        have h2 := HO2.out.at_block g hg
        simp at h2
        omega
      obtain ⟨ad, x, rfl, hx, hadl, hcx⟩ := Ls.node_at (ownP_ls hown) (i := j) (by rw [nbs_len]; exact hlt)
      rw [nbs_at hkj] at hx
      cases hx
      have HKJ := Lib.hid hkj
      have HTK := Lib.hid (HK.out.all k (List.mem_of_getElem? hkj)).1
      clear hown hkj
      gi_wp2_with fail
      refine CallsIn.mono (callsIn_wide.2 (ends_any (HTK.out.at_.keep (HBR.out.block _ HTK.out.lt)))) ?_
      rintro r w3 ⟨rfl, nq, rfl⟩
      have hbq : Below wr.heap.size wr (wr.drewN nq) := below_drewN (Below.refl _ _) _
      have HL3 := Lib.hid (HL.out.next (Stp.of_below hbq HL.out.st.lt) (HJ.out _ _ _ _ HL.out.j (.of_below hbq)))
      have HSt3 := Lib.hid (HSt.out.below_ hbq)
      have HBR3 := Lib.hid (HBR.out.trans (hbq.mono HBR.out.size))
      have HZ : Hid ((wr.drewN nq).heap.size = wr.heap.size) := Lib.hid rfl
      have q3 := HSt3.out.cell HBK.out (fun ht => (HT.out _ ht).2 (.inr (.inr rfl)))
      obtain ⟨w4, hw4⟩ : ∃ w4, wr.drewN nq = w4 := ⟨_, rfl⟩
      rw [hw4] at HL3 HSt3 HBR3 HZ q3 ⊢
      clear hbq hw4 hcx
      have hle := less_eq k.N.hi key
      by_cases hd : kl k.N.hi key
      · rw [decide_eq_true hd] at hle
        have HE : Hid ((ks.take (j + 1)).flatMap (Fk key f) = (ks.take j).flatMap (Fk key f)) := Lib.hid (by rw [flatMap_take_succ HKJ.out, Fk, if_pos hd, List.append_nil])
        gi_wp2_with fail
        exact ⟨⟨j + 1, T1, Ds, _, _, _, _, _, _, _, _, _, _, _, _, _, _, _, _, _, _, _, _, by omega, by go_num, Lib.hid (by rw [HE.out]; exact HL3.out), rfl⟩, by simp [intOf]; omega⟩
      · have HE : Hid (Fk key f k = f k) := Lib.hid (by rw [Fk, if_neg hd])
        rw [decide_eq_false hd] at hle
        gi_wp2_with fail
        refine CallsIn.mono (callsIn_wide.2 (leaves_made w4 _ key)) ?_
        rintro r w5 ⟨rfl, rfl⟩
        gi_wp2_with fail
        have hb5 := boxed2_below w4 (pn k.b) key
        have HS5 : Hid ((boxed2 w4 (pn k.b) key).heap.size = w4.heap.size + 2) := Lib.hid (boxed2_size _ _ _)
        have HBn := Lib.hid (boxed2_n w4 (pn k.b) key)
        have HBk := Lib.hid (boxed2_k w4 (pn k.b) key)
        have HL5 := Lib.hid (HL3.out.next (Stp.of_below hb5 HL3.out.st.lt) (HJ.out _ _ _ _ HL3.out.j (.of_below hb5)))
        have HSt5 := Lib.hid (HSt3.out.below_ hb5)
        have HBR5 := Lib.hid (HBR3.out.trans (hb5.mono HBR3.out.size))
        change Code.wpIn _ _ _ _ _ _ (boxed2 w4 (pn k.b) key)
        obtain ⟨w5, hw5⟩ : ∃ w5, boxed2 w4 (pn k.b) key = w5 := ⟨_, rfl⟩
        rw [hw5] at HS5 HBn HBk HL5 HSt5 HBR5 ⊢
        have HTl : Hid (∀ i, T1 i → i < w4.heap.size) := Lib.hid HL3.out.st.lt
        have HNo : Hid (∀ i, i < w2.heap.size → ¬ T i → ¬ T1 i) := Lib.hid fun i hi ht h1 => ht (HL.out.st.own i hi h1)
        clear HL3 HSt3 HBR3 q3 hb5 hw5 hle
        have HSI : Hid (W.heap.size < w2.heap.size ∧ w2.heap.size ≤ w4.heap.size ∧ w0.heap.size ≤ W.heap.size) := Lib.hid ⟨(Array.getElem?_eq_some_iff.1 HY2.out).1, by rw [HZ.out]; exact HL.out.st.fx.size, HB.out.size⟩
        have hsi := HSI.out
        have hs5 := HS5.out
        refine wpIn_range (gf := 39) (lb := #[pb w4.heap.size, pb (w4.heap.size + 1)]) rfl (enters_of Try.func39 (by kernel_rfl) rfl) (encs := encO) (fun _ => rfl)
          (fun W' hb' => HF.out k (List.mem_of_getElem? HKJ.out) W' _ _ (HBR5.out.trans (hb'.mono HBR5.out.size)) (cell_row ((hb'.block _ (by rw [HS5.out]; omega)).trans HBn.out) 0 _ rfl) (cell_row ((hb'.block _ (by rw [HS5.out]; omega)).trans HBk.out) 0 _ rfl))
          (T := T1) (fun i hi => ⟨HL5.out.st.lt i hi, fun hK => ?hK1⟩) (fun i hi => ?hK2)
          (fun pre T' W' => J ((ks.take j).flatMap (Fk key f) ++ pre) T' W') (fun c pre T' W' => c = .ret ∧ Jx ((ks.take j).flatMap (Fk key f) ++ pre) T' W')
          ?hI (fun c => ?hIx) ?h0 ?round ?done ?stop
        case hK1 =>
          have h1 := HTl.out i hi
          rcases hK with hK | rfl | rfl
          · rcases Nat.lt_or_ge i W.heap.size with h3 | h3
            · exact (HT.out i (HSt5.out.own i h3 hi)).2 (.inl hK)
            · omega
          · omega
          · omega
        case hK2 =>
          rcases hi with h1 | rfl | rfl <;> omega
        case hI => exact fun s T A B j q => HJ.out _ _ _ _ j (q.sub (by omega) fun _ h => h)
        case hIx => exact fun s T A B j q => ⟨j.1, HJx.out _ _ _ _ j.2 (q.sub (by omega) fun _ h => h)⟩
        case h0 => rw [List.append_nil]; exact HL5.out.j
        case round =>
          rintro i pre x T' W' hpre hj hst hnl hl hrl C hC
          obtain ⟨px, hpx⟩ : ∃ px, encO x = #[px] := ⟨_, rfl⟩
          have HPX := Lib.hid hpx
          rw [hpx]
          have HC := Lib.hid hC
          have HJr := Lib.hid hj
          have HSr := Lib.hid hst
          have HNl := Lib.hid hnl
          have HLi := Lib.hid hl
          have HPr := Lib.hid hpre
          clear hpx hC hj hst hnl hl hpre hrl hsi hs5
          gi_wp2_with fail
          refine HC.out _ _ (Below.refl _ _) fun W'' hB => ?_
          have hby := hB.cell (cell_row (HSr.out.block (HL5.out.st.block HY2.out fun h => Nat.lt_irrefl _ (HTW.out _ h)) (HNo.out _ HSI.out.1 fun h => Nat.lt_irrefl _ (HTW.out _ h))) 0 _ rfl) (by have h1 := HLi.out; have h2 := HS5.out; have h3 := HSI.out; show W.heap.size ≠ i; omega)
          obtain ⟨fn, tmps, assign, body, hy, hR⟩ := HY.out ((ks.take j).flatMap (Fk key f) ++ pre) x T' W'' (by
            have h1 := flatMap_prefix (f := Fk key f) HKJ.out
            rw [HE.out] at h1
            rw [List.append_assoc]
            exact ((List.prefix_append_right_inj _).2 HPr.out).trans h1) (HJ.out _ _ _ _ HJr.out (hB.qt (by have h1 := HLi.out; have h2 := HS5.out; have h3 := HSI.out; omega) HNl.out))
          rw [HPX.out] at hy
          gi_wp2_with fail
          refine hR.mono ?_
          rintro e W3 ⟨T3, hst3, ⟨rfl, hj3⟩ | ⟨rfl, hj3⟩⟩
          · have HS3 := Lib.hid hst3
            rw [List.append_assoc] at hj3
            have HJ3 := Lib.hid hj3
            clear hst3 hj3 hy hby
            gi_wp2_with fail
            exact ⟨T3, HS3.out, HJ3.out⟩
          · have HS3 := Lib.hid hst3
            rw [List.append_assoc] at hj3
            have HJ3 := Lib.hid hj3
            clear hst3 hj3 hy hby
            gi_wp2_with fail
            exact ⟨T3, HS3.out, rfl, HJ3.out⟩
        case done =>
          intro D T' W' hj hst hD hTD hh
          have HL6 : Hid (LoopAt J w2 T ((ks.take (j + 1)).flatMap (Fk key f)) T' (D :: Ds) W') := Lib.hid ((HL5.out.next hst (by rw [flatMap_take_succ HKJ.out, HE.out]; exact hj)).mark hD (fun E hE => by have := HL.out.lt E hE; have := HZ.out; omega) (by omega) hTD hh)
          clear hj hst hD hTD hh hsi hs5
          gi_wp2_with fail
          exact ⟨⟨j + 1, T', D :: Ds, _, _, _, _, _, _, _, _, _, _, _, _, _, _, _, _, _, _, _, _, by omega, by go_num, HL6, rfl⟩, by simp [intOf]; omega⟩
        case stop =>
          rintro D c pre T' W' hne hpre ⟨rfl, hj⟩ hst hD hTD hh
          have HS6 := Lib.hid (HSt5.out.trans hst)
          have HJ6 := Lib.hid hj
          have HM : Hid ((D :: Ds).Nodup ∧ ∀ E ∈ (D :: Ds), W.heap.size ≤ E ∧ ¬ T' E ∧ W'.heap[E]? = some (.deferred (some []))) := Lib.hid ⟨List.nodup_cons.2 ⟨fun hm => by have := HL.out.lt D hm; have := HZ.out; omega, HL.out.nd⟩, fun E hE => by
            rcases List.mem_cons.1 hE with rfl | hE
            · exact ⟨by omega, hTD, hh⟩
            · obtain ⟨a, b, c⟩ := HL5.out.ds E hE
              have hl := (Array.getElem?_eq_some_iff.1 c).1
              exact ⟨by omega, fun h => b (hst.own E hl h), (hst.same E hl b).trans c⟩⟩
          have HPre := Lib.hid hpre
          have HNe := Lib.hid hne
          clear hj hst hD hTD hh hsi hs5 hpre hne
          gi_wp2_with fail
          refine leaves_marks (D :: Ds) W' HM.out.1 (fun E hE => (HM.out.2 E hE).2.2) fun w' hs => ⟨_, results_none rfl _ _ _, ⟨_, rfl⟩, T', ?_, .inr ⟨_, ?_, ?_, HJx.out _ _ _ _ HJ6.out (shut_qt hs fun E hE => ⟨(HM.out.2 E hE).1, (HM.out.2 E hE).2.1⟩)⟩⟩
          · exact HS6.out.qt (shut_qt hs fun E hE => ⟨(HM.out.2 E hE).1, (HM.out.2 E hE).2.1⟩) (Nat.le_refl _)
          · intro h
            exact HNe.out (List.append_eq_nil_iff.1 h).2
          · have h1 := flatMap_prefix (f := Fk key f) HKJ.out
            rw [HE.out] at h1
            exact ((List.prefix_append_right_inj _).2 HPre.out).trans h1
    · have he : j = ks.length := by omega
      subst he
      have HJe := Lib.hid HL.out.j
      rw [List.take_length] at HJe
      gi_wp2_with fail
      refine leaves_marks Ds wr HL.out.nd (fun E hE => (HL.out.ds E hE).2.2) fun w' hs => ?_
      have hq := shut_qt (n := W.heap.size) (T := T1) hs fun E hE => ⟨by have := (HL.out.ds E hE).1; have := HSW.out; omega, (HL.out.ds E hE).2.1⟩
      exact ⟨_, results_none rfl _ _ _, ⟨_, rfl⟩, T1, HSt.out.qt hq (Nat.le_refl _), .inl (HJ.out _ _ _ _ HJe.out hq)⟩

end Go.Proofs.Ytcoaloignmkemaa
