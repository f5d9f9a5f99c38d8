/-
  The iterator of walk.BackFrom: it yields the entries of a tree up to a key, the last one first; conditions: the tree is valid and lies in memory, or is nil.
-/
import Derived.Test.YtcoaloignmkemaaWalkBwd
namespace Go.Proofs.Ytcoaloignmkemaa
open Go.RowKit Go.Sort Go.Shelf Rt
set_option linter.unusedVariables false
attribute [local go_sem] Oper.semAt_some wide_fn wide_depth

theorem rev_flat {α β : Type} (ks : List α) (F : α → List β) : (ks.reverse.flatMap F).reverse = ks.flatMap fun k => (F k).reverse := by
  rw [List.reverse_flatMap, List.reverse_reverse]
  rfl
theorem Tr.lo_ge {w : World} {h : Nat} {s : ST} (t : Tr w h s) {e : Ent} (he : e ∈ s.l) : ¬ kl e.k s.N.lo := t.lo_le he
theorem leavesBack_tr {w0 : World} (key : ByteArray) : ∀ (h : Nat) (s : ST), Tr w0 h s → ∃ ls, Lvs w0 (le key) s.l ls.reverse ∧ ∀ W bn bk, Below w0.heap.size w0 W → W.cell? ⟨bn, 0, none⟩ = some (pn s.b) → W.cell? ⟨bk, 0, none⟩ = some (.string key) →
    Gives Try.prog 42 #[pb bn, pb bk] encO ls (Kf w0.heap.size bn bk) W
  | 0, s, t => ⟨[some s], lvs_one t, fun W bn bk hb hn _ => leavesBack_one (noKids_leaf t) hb hn⟩
  | h + 1, s, t => by
    obtain ⟨ks, hk⟩ := t.kids
    obtain ⟨f, hf⟩ := ex_fun fun k hm => leavesBack_tr key h k (hk.all k hm).1
    refine ⟨ks.reverse.flatMap (Fb key f), ?_, fun W bn bk hb hn hbk => leavesBack_branch t.at_ hk key f hb hn hbk fun k hm => (hf k hm).2⟩
    rw [rev_flat]
    refine lvs_branch hk.l fun k hm => ?_
    unfold Fb
    by_cases hd : kl key k.N.lo
    · rw [if_pos hd]
      exact lvs_none fun e he => by
        have := (hk.all k hm).1.lo_le he
        simp only [le, decide_eq_false_iff_not, Decidable.not_not]
        exact kl_le_trans hd this
    · rw [if_neg hd]
      exact (hf k hm).1
theorem leavesBack_any {w0 : World} {T : TO} (ht : TreeIs w0 T) (key : ByteArray) : ∃ ls, Lvs w0 (le key) (tl T) ls.reverse ∧ ∀ W bn bk, Below w0.heap.size w0 W → W.cell? ⟨bn, 0, none⟩ = some (tb T) → W.cell? ⟨bk, 0, none⟩ = some (.string key) →
    Gives Try.prog 42 #[pb bn, pb bk] encO ls (Kf w0.heap.size bn bk) W := by
  cases T with
  | none => exact ⟨[none], ⟨fun s hs => by simp at hs, by simp [flatO, leafL], by simp [flatO, leafL, tl]⟩, fun W bn bk hb hn _ => leavesBack_one (noKids_none w0) hb hn⟩
  | some x => exact leavesBack_tr key x.1 x.2 (ht x rfl)

/-- A leaf's entries up to a key, the last one first. -/
def rvL (p : Ent → Bool) (x : OS) : List Ent := ((leafL x).filter p).reverse
theorem rvL_all (ls : List OS) (p : Ent → Bool) : ls.flatMap (rvL p) = ((flatO ls.reverse).filter p).reverse := by
  unfold flatO
  rw [List.filter_flatMap, rev_flat]
  rfl
def oneE (p : Ent → Bool) (l : List Ent) (i : Nat) : List Ent := if p (l[i]?.getD entD) then [l[i]?.getD entD] else []
theorem oneE_all (l : List Ent) (p : Ent → Bool) : (List.range l.length).reverse.flatMap (oneE p l) = (l.filter p).reverse := by
  rw [← rev_filter, ← rev_flatMap l entD]
  rfl
theorem leq_eq (a b : ByteArray) : (Op.bytesLess a.toList b.toList || a.toList == b.toList) = decide (¬ kl b a) := by
  rw [less_eq, same_eq]
  by_cases h : kl b a
  · rw [decide_eq_false (kl_asymm h), decide_eq_false (fun e : a = b => kl_irrefl b (by rw [e] at h; exact h)), decide_eq_false (fun h2 : ¬ kl b a => h2 h)]
    rfl
  · by_cases h2 : kl a b
    · rw [decide_eq_true h2, decide_eq_true h]
      rfl
    · rw [decide_eq_true (kl_tri h2 h), decide_eq_false h2, decide_eq_true h]
      rfl

set_option maxHeartbeats 8000000 in
set_option maxRecDepth 100000 in
theorem backFrom_gives {w0 : World} {T0 : TO} (ht : TreeIs w0 T0) (key : ByteArray) {W : World} {bn bk : Nat} (hb : Below w0.heap.size w0 W) (hbn : W.cell? ⟨bn, 0, none⟩ = some (tb T0)) (hbk : W.cell? ⟨bk, 0, none⟩ = some (.string key)) :
    Gives Try.prog 30 #[pb bn, pb bk] encE ((tl T0).filter (le key)).reverse (Kf w0.heap.size bn bk) W := by
  obtain ⟨ls, hl, hg⟩ := leavesBack_any ht key
  rw [← hl.filt, ← rvL_all]
  intro l J Jx T hT hJ hJx hY h0
  obtain ⟨pt, hpt⟩ : ∃ pt, tb T0 = .pointer pt := ⟨_, rfl⟩
  rw [hpt] at hbn hg
  have HT := Lib.hid hT
  have HJ := Lib.hid hJ
  have HJx := Lib.hid hJx
  have HY := Lib.hid hY
  have H0 := Lib.hid h0
  have HB := Lib.hid hb
  have HL := Lib.hid hl
  have HG := Lib.hid hg
  clear hT hJ hJx hY h0 hb hl hg hpt
  refine callsIn_of_wp_marks Try.func30 rfl trivial ?_ rfl
  simp only [Try.ntmps30, List.size_toArray, List.length_cons, List.length_nil, Nat.reduceAdd, Nat.reduceSub, Array.replicate_succ, Array.replicate_zero, List.push_toArray, List.append_toArray, List.nil_append, List.cons_append]
  obtain ⟨w1, hw1⟩ : ∃ w1, W.alloc (.cells #[.func (.yield l) #[] #[]] 55) = w1 := ⟨_, rfl⟩
  have hb1 : Below W.heap.size W w1 := by rw [← hw1]; exact (Below.refl _ _).alloc (Nat.le_refl _) _
  have hy1 : w1.heap[W.heap.size]? = some (.cells #[.func (.yield l) #[] #[]] 55 (0, 0)) := by rw [← hw1]; exact heap_alloc_new W _
  have hsz1 : w1.heap.size = W.heap.size + 1 := by rw [← hw1]; simp
  have q1 := (hb1.cell (p := ⟨bn, 0, none⟩) (cell_lt hbn)).trans hbn
  have q2 := (hb1.cell (p := ⟨bk, 0, none⟩) (cell_lt hbk)).trans hbk
  rw [← hw1] at q1 q2
  have HBK := Lib.hid hbk
  have HW1 := Lib.hid hw1
  have HB1 := Lib.hid hb1
  have HY1 := Lib.hid hy1
  have HS1 := Lib.hid hsz1
  clear hb1 hy1 hsz1 hbn hbk hw1
  gi_wp2_with fail
  rw [HW1.out]
  refine CallsIn.mono (callsIn_wide.2 (leavesBack_made w1 _ key)) ?_
  rintro r w2 ⟨rfl, rfl⟩
  have hb2 := boxed2_below w1 (.pointer pt) key
  have HBn := Lib.hid (boxed2_n w1 (.pointer pt) key)
  have HBk := Lib.hid (boxed2_k w1 (.pointer pt) key)
  have HS2 := Lib.hid (boxed2_size w1 (.pointer pt) key)
  obtain ⟨w2, hw2⟩ : ∃ w2, boxed2 w1 (.pointer pt) key = w2 := ⟨_, rfl⟩
  rw [hw2] at hb2 HBn HBk HS2 ⊢
  have HB2 := Lib.hid (bthen HB1.out hb2)
  have HY2 := Lib.hid ((hb2.block _ (by rw [HS1.out]; omega)).trans HY1.out)
  have HTW : Hid (∀ k, T k → k < W.heap.size) := Lib.hid fun k hk => (HT.out k hk).1
  have HST2 := Lib.hid (Stp.of_below HB2.out HTW.out)
  have HSZ : Hid (w2.heap.size = W.heap.size + 3) := Lib.hid (by rw [HS2.out, HS1.out])
  clear hb2 hw2 q1 q2
  gi_wp2_with fail
  have hs1 := HS1.out
  have hsz := HSZ.out
  have hb0 := HB.out.size
  refine wpIn_range (gf := 42) (lb := #[pb w1.heap.size, pb (w1.heap.size + 1)]) rfl (enters_of Try.func42 (by kernel_rfl) rfl) (encs := encO) (fun _ => rfl)
    (fun W' hb' => HG.out W' _ _ ((HB.out.trans (HB2.out.mono HB.out.size)).trans (hb'.mono (by omega))) (cell_row ((hb'.block _ (by omega)).trans HBn.out) 0 _ rfl) (cell_row ((hb'.block _ (by omega)).trans HBk.out) 0 _ rfl))
    (T := T) (fun i hi => ⟨by have := HTW.out i hi; omega, fun hK => ?hK1⟩) (fun i hi => ?hK2)
    (fun pre T' W' => J (pre.flatMap (rvL (le key))) T' W') (fun c pre T' W' => c = .ret ∧ ∃ q, q ≠ [] ∧ q <+: ls.flatMap (rvL (le key)) ∧ Jx q T' W')
    ?hI (fun c => ?hIx) ?h0 ?round ?done ?stop
  case hK1 =>
    have h1 := HTW.out i hi
    rcases hK with hK | rfl | rfl
    · exact (HT.out i hi).2 (.inl hK)
    · omega
    · omega
  case hK2 => rcases hi with h1 | rfl | rfl <;> omega
  case hI => exact fun s T A B j q => HJ.out _ _ _ _ j (q.sub (by omega) fun _ h => h)
  case hIx => exact fun s T A B ⟨j1, q1, j2, j3, j4⟩ q => ⟨j1, q1, j2, j3, HJx.out _ _ _ _ j4 (q.sub (by omega) fun _ h => h)⟩
  case h0 => exact HJ.out _ _ _ _ H0.out (.of_below HB2.out)
  case round =>
    rintro lo pre x T' W' hpre hj hst hnl hl hrl C hC
    obtain ⟨px, hpx⟩ : ∃ px, (x.map (·.b)).map (fun b => (⟨b, 0, none⟩ : Addr)) = px := ⟨_, rfl⟩
    have hpv : ptr (x.map (·.b)) = .pointer px := by rw [← hpx]; rfl
    rw [show encO x = #[.pointer px] by rw [← hpv]; rfl]
    have HPV := Lib.hid hpv
    have HC := Lib.hid hC
    have HJr := Lib.hid hj
    have HSr := Lib.hid (HST2.out.trans hst)
    have HS2r := Lib.hid hst
    have HNl := Lib.hid hnl
    have HLi : Hid (W.heap.size + 3 ≤ lo) := Lib.hid (by omega)
    have HPr := Lib.hid hpre
    have HLF : Hid (∀ s, x = some s → Tr w0 0 s) := Lib.hid fun s hs => HL.out.leaf s (by rw [List.mem_reverse]; exact hpre.subset (by rw [hs]; simp))
    clear hpx hpv hC hj hst hnl hl hpre hrl hs1 hsz hb0
    gi_wp2_with fail
    refine HC.out _ _ (Below.refl _ _) fun W'' hB => ?_
    have HBW : Hid (Below w0.heap.size w0 W'') := Lib.hid ((HB.out.trans (HSr.out.below HB.out.size fun k hk => Nat.le_of_not_lt fun h => (HT.out k hk).2 (.inl h))).trans (hB.below (by have := HLi.out; have := HB.out.size; omega)))
    have HNt : Hid (¬ T' W.heap.size ∧ ¬ T' bk) := Lib.hid ⟨fun h => Nat.lt_irrefl _ (HTW.out _ (HS2r.out.own _ (by have := HSZ.out; omega) h)), fun h => (HT.out _ (HSr.out.own _ (cell_lt HBK.out) h)).2 (.inr (.inr rfl))⟩
    have HTl : Hid (∀ k, T' k → k < W''.heap.size) := Lib.hid fun k hk => by rw [hB.size]; exact HS2r.out.lt k hk
    have HJ2 := Lib.hid (HJ.out _ _ _ _ HJr.out (hB.qt (n := W.heap.size) (by have h1 := HLi.out; omega) HNl.out))
    have HWs : Hid (W.heap.size + 3 ≤ W''.heap.size) := Lib.hid (by rw [hB.size]; have := HS2r.out.fx.size; have := HSZ.out; omega)
    have HBY := Lib.hid (hB.cell (cell_row (HS2r.out.block HY2.out (fun h => Nat.lt_irrefl _ (HTW.out _ h))) 0 _ rfl) (by have h1 := HLi.out; show W.heap.size ≠ lo; omega))
    have HBK2 := Lib.hid (hB.cell (HSr.out.cell HBK.out fun h => (HT.out _ h).2 (.inr (.inr rfl))) (by have h1 := HLi.out; have h2 := cell_lt HBK.out; show bk ≠ lo; simp only at h2; omega))
    have HLo := Lib.hid hB.loop
    clear hB HS2r HSr HJr
    gi_wp2_with fail
    refine CallsIn.inRound lo (CallsIn.mono (callsIn_wide.2 (by have := ents_os HLF.out HBW.out; rw [HPV.out] at this; exact this)) ?_)
    rintro r w6 ⟨v6, rfl, ho6, hb6⟩
    obtain ⟨A6, c6, rfl, hc6, _⟩ := ho6.form
    have h4 := leafL_len HLF.out
    obtain ⟨n, hn⟩ : ∃ n, (leafL x).length = n := ⟨_, rfl⟩
    have HA6 := Lib.hid ho6.addr_ge
    have HES6 := Lib.hid (own_es ho6)
    rw [hn] at hc6 h4 ⊢
    have Hn := Lib.hid hn
    have HB6 := Lib.hid hb6
    clear ho6 hb6 hn
    gi_wp2_with fail
    refine CallsIn.inRound lo (CallsIn.mono (callsIn_wide.2 (backE_made w6 A6 n c6)) ?_)
    rintro r w7 ⟨rfl, rfl⟩
    have hb7 : Below w6.heap.size w6 (w6.alloc (.cells #[.slice A6 n c6] 22)) := (Below.refl _ _).alloc (Nat.le_refl _) _
    have HBs := Lib.hid (heap_alloc_new w6 (.cells #[.slice A6 n c6] 22))
    have HS7 : Hid ((w6.alloc (.cells #[.slice A6 n c6] 22)).heap.size = w6.heap.size + 1) := Lib.hid (by simp)
    obtain ⟨w7, hw7⟩ : ∃ w7, w6.alloc (.cells #[.slice A6 n c6] 22) = w7 := ⟨_, rfl⟩
    rw [hw7] at hb7 HBs HS7 ⊢
    have HB7 := Lib.hid (bthen HB6.out hb7)
    have HES := Lib.hid (HES6.out.below hb7)
    have HSt7 := Lib.hid (Stp.of_below HB7.out HTl.out)
    have HLo7 : Hid (∃ r, w7.heap[lo]? = some (.loop r)) := Lib.hid (by obtain ⟨r, hr⟩ := HLo.out; exact ⟨r, (HB7.out.block _ (Array.getElem?_eq_some_iff.1 hr).1).trans hr⟩)
    have HSI : Hid (W''.heap.size ≤ w6.heap.size) := Lib.hid HB6.out.size
    have HBY7 := Lib.hid ((HB7.out.cell (p := ⟨W.heap.size, 0, none⟩) (cell_lt HBY.out)).trans HBY.out)
    have HBK7 := Lib.hid ((HB7.out.cell (p := ⟨bk, 0, none⟩) (cell_lt HBK2.out)).trans HBK2.out)
    have HOA : Hid ((List.range n).reverse.flatMap (oneE (le key) (leafL x)) = rvL (le key) x) := Lib.hid (by rw [← Hn.out, oneE_all]; rfl)
    clear hb7 hw7
    gi_wp2_with fail
    have hs7 := HS7.out
    have hsi := HSI.out
    have hws := HWs.out
    refine wpIn_rangeIn (l₀ := lo) HLo7.out (gf := 44) (lb := #[pb w6.heap.size]) rfl (enters_of Try.func44 (by kernel_rfl) rfl) (encs := encI (valE (leafL x))) (fun _ => rfl)
      (xs := (List.range n).reverse) (fun W' hb' => backE_gives (cell_row ((hb'.block _ (by omega)).trans HBs.out) 0 _ rfl) (HES.out.below hb') Hn.out (by omega))
      (T := T') (fun i hi => ⟨HSt7.out.lt i hi, fun hK => ?hK3⟩) (fun i hi => ?hK4)
      (fun pre' T1 W1 => J (pre.flatMap (rvL (le key)) ++ pre'.flatMap (oneE (le key) (leafL x))) T1 W1) (fun c pre' T1 W1 => c = .ret ∧ ∃ q, q ≠ [] ∧ q <+: ls.flatMap (rvL (le key)) ∧ Jx q T1 W1)
      ?hI2 (fun c => ?hIx2) ?h02 ?round2 ?done2 ?stop2
    case hK3 =>
      have h1 := HTl.out i hi
      rcases hK with rfl | ⟨ad, e, rfl⟩
      · omega
      · have := HA6.out ad e
        omega
    case hK4 =>
      rcases hi with rfl | ⟨ad, e, rfl⟩
      · omega
      · have := HA6.out ad e
        omega
    case hI2 => exact fun s T A B j q => HJ.out _ _ _ _ j (q.sub (by omega) fun _ h => h)
    case hIx2 => exact fun s T A B ⟨j1, q1, j2, j3, j4⟩ q => ⟨j1, q1, j2, j3, HJx.out _ _ _ _ j4 (q.sub (by omega) fun _ h => h)⟩
    case h02 =>
      rw [List.flatMap_nil, List.append_nil]
      exact HJ.out _ _ _ _ HJ2.out (.of_below HB7.out)
    case round2 =>
      rintro l2 pre' i T1 W1 hpre hj hst hnl hl hrl C2 hC2
      obtain ⟨e, hei⟩ : ∃ e, (leafL x)[i]? = some e := by
        have hm : i ∈ (List.range n).reverse := hpre.subset (by simp)
        simp at hm
        exact ⟨_, List.getElem?_eq_getElem (by rw [Hn.out]; exact hm)⟩
      have hv : encI (valE (leafL x)) i = #[.int .i64 (i : Int), .agg #[.string e.k, .string e.v]] := by
        unfold encI valE agE
        rw [hei]
        rfl
      rw [hv]
      have HONE : Hid (oneE (le key) (leafL x) i = if le key e then [e] else []) := Lib.hid (by unfold oneE; rw [hei]; rfl)
      have HC2 := Lib.hid hC2
      have HJr := Lib.hid hj
      have HSr := Lib.hid hst
      have HNl2 := Lib.hid hnl
      have HLi2 : Hid (w7.heap.size ≤ l2) := Lib.hid hl
      have HPr2 := Lib.hid hpre
      have HLt2 : Hid (l2 < W1.heap.size) := Lib.hid (by obtain ⟨r, hr⟩ := hrl; exact (Array.getElem?_eq_some_iff.1 hr).1)
      clear hv hei hC2 hj hst hnl hl hpre hrl hsi hws hs7
      gi_wp2_with fail
      have hba : Below W1.heap.size W1 (W1.alloc (.cells #[.string e.k, .string e.v] 31)) := (Below.refl _ _).alloc (Nat.le_refl _) _
      refine HC2.out _ _ hba fun W2 hB => ?_
      have hbx : W2.heap[W1.heap.size]? = some (.cells #[.string e.k, .string e.v] 31 (0, 0)) := (hB.same _ (by have := HLt2.out; omega)).trans (heap_alloc_new W1 _)
      have c0 : W2.cell? ⟨W1.heap.size, 0, none⟩ = some (.string e.k) := cell_row hbx 0 _ rfl
      have c1 : W2.cell? ⟨W1.heap.size, 1, none⟩ = some (.string e.v) := cell_row hbx 1 _ rfl
      have hy7 := HSr.out.cell HBY7.out HNt.out.1
      have hk7 := HSr.out.cell HBK7.out HNt.out.2
      have hby := hB.cell ((hba.cell (p := ⟨W.heap.size, 0, none⟩) (cell_lt hy7)).trans hy7) (by have h1 := HLi2.out; have := HS7.out; have := HSI.out; have := HWs.out; show W.heap.size ≠ l2; omega)
      have hbk := hB.cell ((hba.cell (p := ⟨bk, 0, none⟩) (cell_lt hk7)).trans hk7) (by have h1 := HLi2.out; have h2 := cell_lt HBK.out; have := HS7.out; have := HSI.out; have := HWs.out; show bk ≠ l2; simp only at h2; omega)
      have HJ3 := Lib.hid (HJ.out _ _ _ _ (HJ.out _ _ _ _ HJr.out (.of_below hba)) (hB.qt (n := W.heap.size) (by have h1 := HLi2.out; have := HS7.out; have := HSI.out; have := HWs.out; omega) HNl2.out))
      have HTl1 : Hid (∀ k, T1 k → k < W2.heap.size) := Lib.hid fun k hk => by
        have := HSr.out.lt k hk
        have h2 := hba.size
        rw [hB.size]
        omega
      have HPO : Hid (pre.flatMap (rvL (le key)) ++ (pre' ++ [i]).flatMap (oneE (le key) (leafL x)) <+: ls.flatMap (rvL (le key))) := Lib.hid (by
        have h1 := flatMap_pre (f := rvL (le key)) HPr.out
        have h2 := flatMap_pre (f := oneE (le key) (leafL x)) HPr2.out
        rw [flatMap_snoc, ← HOA.out] at h1
        exact ((List.prefix_append_right_inj _).2 h2).trans h1)
      clear hB hba hbx hy7 hk7 HJr HSr
      have hlq := leq_eq e.k key
      by_cases hd : kl key e.k
      · have HF : Hid ((pre' ++ [i]).flatMap (oneE (le key) (leafL x)) = pre'.flatMap (oneE (le key) (leafL x))) := Lib.hid (by rw [flatMap_snoc, HONE.out, if_neg (by simp [le, hd]), List.append_nil])
        rw [decide_eq_false (fun h : ¬ kl key e.k => h hd)] at hlq
        gi_wp2_with fail
        exact ⟨T1, .refl HTl1.out, by
          show J (pre.flatMap (rvL (le key)) ++ (pre' ++ [i]).flatMap (oneE (le key) (leafL x))) T1 W2
          rw [HF.out]
          exact HJ3.out⟩
      · have HF : Hid ((pre' ++ [i]).flatMap (oneE (le key) (leafL x)) = pre'.flatMap (oneE (le key) (leafL x)) ++ [e]) := Lib.hid (by rw [flatMap_snoc, HONE.out, if_pos (by simp [le, hd])])
        have HPx : Hid (pre.flatMap (rvL (le key)) ++ pre'.flatMap (oneE (le key) (leafL x)) ++ [e] <+: ls.flatMap (rvL (le key))) := Lib.hid (by
          rw [List.append_assoc, ← HF.out]
          exact HPO.out)
        rw [decide_eq_true hd] at hlq
        obtain ⟨fn, tmps, assign, body, hy, hR⟩ := HY.out _ e T1 W2 HPx.out HJ3.out
        simp only [encE] at hy
        have HRR := Lib.hid hR
        clear hR
        gi_wp2_with fail
        refine HRR.out.mono ?_
        rintro r W3 ⟨T3, hst3, ⟨rfl, hj3⟩ | ⟨rfl, hj3⟩⟩
        · have HS3 := Lib.hid hst3
          have HJ4 : Hid (J (pre.flatMap (rvL (le key)) ++ (pre' ++ [i]).flatMap (oneE (le key) (leafL x))) T3 W3) := Lib.hid (by rw [HF.out, ← List.append_assoc]; exact hj3)
          clear hst3 hj3 hy HRR hby hbk c0 c1
          gi_wp2_with fail
          exact ⟨T3, HS3.out, HJ4.out⟩
        · have HS3 := Lib.hid hst3
          have HJ4 := Lib.hid hj3
          clear hst3 hj3 hy HRR hby hbk c0 c1
          gi_wp2_with fail
          exact ⟨T3, HS3.out, rfl, _, by simp, HPx.out, HJ4.out⟩
    case done2 =>
      intro T1 W1 hj hst
      have HS6 := Lib.hid (HSt7.out.trans hst)
      have HJ6 : Hid (J ((pre ++ [x]).flatMap (rvL (le key))) T1 W1) := Lib.hid (by rw [flatMap_snoc, ← HOA.out]; exact hj)
      clear hj hst hsi hws hs7
      gi_wp2_with fail
      exact ⟨T1, HS6.out, HJ6.out⟩
    case stop2 =>
      rintro c pre' T1 W1 hne hpre ⟨rfl, q, hq1, hq2, hj⟩ hst
      have HS6 := Lib.hid (HSt7.out.trans hst)
      have HJ6 := Lib.hid hj
      have HQ := Lib.hid (And.intro hq1 hq2)
      clear hj hst hne hpre hsi hws hs7 hq1 hq2
      gi_wp2_with fail
      exact ⟨T1, HS6.out, rfl, q, HQ.out.1, HQ.out.2, HJ6.out⟩
  case done =>
    intro D T' W' hj hst hD hTD hh
    have HS3 := Lib.hid (HST2.out.trans hst)
    have HJ3 := Lib.hid hj
    have HD : Hid (∀ E ∈ [D], W.heap.size ≤ E ∧ ¬ T' E) := Lib.hid fun E hE => by rw [List.mem_singleton] at hE; subst hE; exact ⟨by omega, hTD⟩
    have HH : Hid (∀ E ∈ [D], W'.heap[E]? = some (.deferred (some []))) := Lib.hid fun E hE => by rw [List.mem_singleton] at hE; subst hE; exact hh
    clear hj hst hD hTD hh hs1 hsz hb0
    gi_wp2_with fail
    refine leaves_marks [D] W' (by simp) HH.out fun w' hs => ?_
    have hq := shut_qt hs HD.out
    exact ⟨_, results_none rfl _ _ _, ⟨_, rfl⟩, T', HS3.out.qt hq (Nat.le_refl _), .inl (HJ.out _ _ _ _ HJ3.out hq)⟩
  case stop =>
    rintro D c pre T' W' hne hpre ⟨rfl, q, hq1, hq2, hj⟩ hst hD hTD hh
    have HS3 := Lib.hid (HST2.out.trans hst)
    have HJ3 := Lib.hid hj
    have HD : Hid (∀ E ∈ [D], W.heap.size ≤ E ∧ ¬ T' E) := Lib.hid fun E hE => by rw [List.mem_singleton] at hE; subst hE; exact ⟨by omega, hTD⟩
    have HH : Hid (∀ E ∈ [D], W'.heap[E]? = some (.deferred (some []))) := Lib.hid fun E hE => by rw [List.mem_singleton] at hE; subst hE; exact hh
    have HQ := Lib.hid (And.intro hq1 hq2)
    clear hj hst hD hTD hh hs1 hsz hb0 hne hpre hq1 hq2
    gi_wp2_with fail
    refine leaves_marks [D] W' (by simp) HH.out fun w' hs => ?_
    have hq := shut_qt hs HD.out
    exact ⟨_, results_none rfl _ _ _, ⟨_, rfl⟩, T', HS3.out.qt hq (Nat.le_refl _), .inr ⟨q, HQ.out.1, HQ.out.2, HJx.out _ _ _ _ HJ3.out hq⟩⟩

end Go.Proofs.Ytcoaloignmkemaa
