/-
  WalkSplits: what stands up to a key, and what stands from it on, is all, the key itself twice; counts of two parts are that of both; for every list and keys; no condition beyond the row's.
-/
import Derived.Test.YtcoaloignmkemaaWalkHelp
import Derived.Test.YtcoaloignmkemaaTreeRefs
namespace Go.Proofs.Ytcoaloignmkemaa
open Go.RowKit Go.Sort Go.Shelf Go.ChangeShapes Go.WideShapes Rt
set_option linter.unusedVariables false
set_option linter.unusedSimpArgs false
attribute [local go_sem] Oper.semAt_some wide_fn wide_depth

theorem cnt_cons (a b : ByteArray) (e : Ent) (l : List Ent) : cnt a b (e :: l) = cnt a b [e] + cnt a b l := cnt_append a b [e] l
theorem cnt_split {lo mid hi : ByteArray} (h1 : ¬ kl mid lo) (h2 : ¬ kl hi mid) (l : List Ent) : cnt lo mid l + cnt mid hi l = cnt lo hi l := by
  induction l with
  | nil => rfl
  | cons e l ih =>
    rw [cnt_cons, cnt_cons mid, cnt_cons lo hi]
    have : cnt lo mid [e] + cnt mid hi [e] = cnt lo hi [e] := by
      by_cases a : kl e.k lo
      · have b : kl e.k mid := kl_le_trans a h1
        simp [cnt, ge, lt, a, b]
      · by_cases b : kl e.k mid
        · have c : kl e.k hi := kl_le_trans b h2
          simp [cnt, ge, lt, a, b, c]
        · by_cases c : kl e.k hi <;> simp [cnt, ge, lt, a, b, c]
    omega
theorem cnt_back {lo hi : ByteArray} (h : ¬ kl hi lo) (l : List Ent) : cnt hi lo l = 0 := by
  induction l with
  | nil => rfl
  | cons e l ih =>
    rw [cnt_cons, ih]
    by_cases a : kl e.k hi
    · simp [cnt, ge, lt, a]
    · have b : ¬ kl e.k lo := fun b => a (kl_le_trans b h)
      simp [cnt, ge, lt, a, b]
theorem both_len {l : List Ent} (hs : Sorted l) (a : ByteArray) : (l.filter (ge a)).length + (l.filter (le a)).length = l.length + (if (look l a).isSome then 1 else 0) := by
  induction l with
  | nil => rfl
  | cons e l ih =>
    obtain ⟨h1, h2⟩ := List.pairwise_cons.1 hs
    have ih := ih h2
    by_cases he : e.k = a
    · have hn : look l a = none := look_none fun x hx hk => by
        have := h1 x hx
        rw [hk, he] at this
        exact kl_irrefl _ this
      have hl : look (e :: l) a = some e.v := by
        rw [← he]
        exact look_some hs (List.mem_cons_self ..)
      rw [hn] at ih
      rw [hl]
      have g1 : ge a e = true := by simp [ge, he, kl_irrefl]
      have g2 : le a e = true := by simp [le, he, kl_irrefl]
      simp only [List.filter_cons, g1, g2, if_true, List.length_cons, Option.isSome_some]
      simp only [Option.isSome_none] at ih
      simp at ih
      omega
    · have hl : look (e :: l) a = look l a := by
        unfold look
        rw [List.find?_cons]
        simp [he]
      rw [hl]
      by_cases hk : kl e.k a
      · have g1 : ge a e = false := by simp [ge, hk]
        have g2 : le a e = true := by simp [le, kl_asymm hk]
        simp only [List.filter_cons, g1, g2, List.length_cons]
        simp only [if_true, List.length_cons]
        simp
        omega
      · have hk2 : kl a e.k := by
          rcases Decidable.em (kl a e.k) with h | h
          · exact h
          · exact absurd (kl_tri hk h) he
        have g1 : ge a e = true := by simp [ge, hk]
        have g2 : le a e = false := by simp [le, hk2]
        simp only [List.filter_cons, g1, g2, List.length_cons]
        simp only [if_true, List.length_cons]
        simp
        omega

/-- The lesser and the greater one of two keys. -/
def minS (x y : ByteArray) : ByteArray := if kl y x then y else x
def maxS (x y : ByteArray) : ByteArray := if kl x y then y else x
theorem le_tr {x y z : ByteArray} (h : ¬ kl y x) (k : ¬ kl z y) : ¬ kl z x := fun c => k (kl_le_trans c h)
theorem minS_l (x y : ByteArray) : ¬ kl x (minS x y) := by
  unfold minS
  by_cases h : kl y x
  · rw [if_pos h]; exact kl_asymm h
  · rw [if_neg h]; exact kl_irrefl _
theorem minS_r (x y : ByteArray) : ¬ kl y (minS x y) := by
  unfold minS
  by_cases h : kl y x
  · rw [if_pos h]; exact kl_irrefl _
  · rw [if_neg h]; exact h
theorem maxS_l (x y : ByteArray) : ¬ kl (maxS x y) x := by
  unfold maxS
  by_cases h : kl x y
  · rw [if_pos h]; exact kl_asymm h
  · rw [if_neg h]; exact kl_irrefl _
theorem maxS_r (x y : ByteArray) : ¬ kl (maxS x y) y := by
  unfold maxS
  by_cases h : kl x y
  · rw [if_pos h]; exact kl_irrefl _
  · rw [if_neg h]; exact h
theorem maxS_le {x y z : ByteArray} (h : ¬ kl z x) (k : ¬ kl z y) : ¬ kl z (maxS x y) := by
  unfold maxS
  by_cases c : kl x y
  · rw [if_pos c]; exact k
  · rw [if_neg c]; exact h
theorem run_min2 (x y : ByteArray) (w : World) : Sem.run Try.prog (Builtin.min2 (.string x) (.string y)) w = .ok (.string (minS x y)) w := by
  have h := leq_eq x y
  unfold minS
  by_cases hk : kl y x
  · rw [if_pos hk]
    rw [decide_eq_false (fun c : ¬ kl y x => c hk)] at h
    simp [Builtin.min2, Op.stringOp, go_sem, h]
  · rw [if_neg hk]
    rw [decide_eq_true hk] at h
    simp [Builtin.min2, Op.stringOp, go_sem, h]
theorem run_max2 (x y : ByteArray) (w : World) : Sem.run Try.prog (Builtin.max2 (.string x) (.string y)) w = .ok (.string (maxS x y)) w := by
  have h := less_eq x y
  unfold maxS
  by_cases hk : kl x y
  · rw [if_pos hk]
    rw [decide_eq_true hk] at h
    simp [Builtin.max2, Op.stringOp, go_sem, h]
  · rw [if_neg hk]
    rw [decide_eq_false hk] at h
    simp [Builtin.max2, Op.stringOp, go_sem, h]
theorem run_mins2 (x y : ByteArray) (ts : Array TypeId) (t : TypeId) (w : World) : Sem.run Try.prog (Builtin.min_ ts t #[.string x, .string y]) w = .ok (.string (minS x y)) w := by
  simp [Builtin.min_, run_min2]
theorem run_maxs2 (x y : ByteArray) (ts : Array TypeId) (t : TypeId) (w : World) : Sem.run Try.prog (Builtin.max_ ts t #[.string x, .string y]) w = .ok (.string (maxS x y)) w := by
  simp [Builtin.max_, run_max2]
theorem run_mins3 (x y z : ByteArray) (ts : Array TypeId) (t : TypeId) (w : World) : Sem.run Try.prog (Builtin.min_ ts t #[.string x, .string y, .string z]) w = .ok (.string (minS (minS x y) z)) w := by
  simp [Builtin.min_, run_min2, Sem.run_bind, Result.andThen]
theorem run_maxs3 (x y z : ByteArray) (ts : Array TypeId) (t : TypeId) (w : World) : Sem.run Try.prog (Builtin.max_ ts t #[.string x, .string y, .string z]) w = .ok (.string (maxS (maxS x y) z)) w := by
  simp [Builtin.max_, run_max2, Sem.run_bind, Result.andThen]

set_option maxRecDepth 100000 in
set_option maxHeartbeats 8000000 in
theorem walkSplits_walk (A : Option Addr) (n c : Nat) (l : List Ent) (a b d : ByteArray) (w : World) (ha : Arg w A n c l) (hka : a.size ≤ 140737488351232) (hkb : b.size ≤ 140737488351232) (hkd : d.size ≤ 140737488351232) :
    Calls Try.prog 8 #[.slice A n c, .string a, .string b, .string d] w fun r w' => r = .returned (.bool true) ∧ Below w.heap.size w w' := by
  have HA := Lib.hid ha
  clear ha
  refine callsIn_wide (n := 0).1 (callsIn_of_wp_marks Try.func8 rfl trivial ?_ rfl)
  simp only [Try.ntmps8, List.size_toArray, List.length_cons, List.length_nil, Nat.reduceAdd, Nat.reduceSub, Array.replicate_succ, Array.replicate_zero, List.push_toArray, List.append_toArray, List.nil_append, List.cons_append]
  gi_wp2_with fail
  refine CallsIn.mono (callsIn_wide.2 (wkAwake_any _)) ?_
  rintro r w1 ⟨rfl, hb1⟩
  have HA1 := Lib.hid (show Arg w1 A n c l from ⟨HA.out.len, HA.out.cap, HA.out.small, HA.out.es.below hb1, HA.out.strs⟩)
  have HB1 := Lib.hid hb1
  clear hb1
  by_cases hbig : 4000 < a.size + b.size + d.size
  · gi_wp2_with fail
    refine CallsIn.mono (callsIn_wide.2 (wkAwake_any _)) ?_
    rintro r w2 ⟨rfl, hb2⟩
    have HB2 := Lib.hid (bthen HB1.out hb2)
    clear hb2
    gi_wp2_with fail
    exact ⟨_, results_tmp rfl _ _ _, rfl, HB2.out⟩
  gi_wp2_with fail
  refine CallsIn.mono (callsIn_wide.2 (wkBuilt_any A n c l w1 HA1.out)) ?_
  rintro r w2 ⟨T, v, ⟨q, rfl⟩, ht, ho, hl, hb2⟩
  obtain ⟨A2, c2, rfl, hc2, hes⟩ := ho.form
  have HB2 := Lib.hid (bthen HB1.out hb2)
  have HT := Lib.hid ht
  have HES := Lib.hid hes
  obtain ⟨m, hmm⟩ : ∃ m, (tl T).length = m := ⟨_, rfl⟩
  rw [hmm] at hl hc2 ⊢
  have HM := Lib.hid hmm
  have HLm : Hid (m ≤ 150) := Lib.hid hl
  obtain ⟨pt, hpt⟩ : ∃ pt, tb T = .pointer pt := ⟨_, rfl⟩
  rw [hpt]
  have HP := Lib.hid hpt
  clear ht ho hes hb2 hmm hpt
  cases q with
  | false =>
    gi_wp2_with fail
    exact ⟨_, results_tmp rfl _ _ _, rfl, HB2.out⟩
  | true =>
    gi_wp2_with fail
    obtain ⟨w3, hw3⟩ : ∃ w3, w2.alloc (.cells #[.int .i64 0] 3) = w3 := ⟨_, rfl⟩
    have hb3 : Below w2.heap.size w2 w3 := by rw [← hw3]; exact (Below.refl _ _).alloc (Nat.le_refl _) _
    have hx3 : Boxed w3 w2.heap.size 3 (.int .i64 0) := by rw [← hw3]; exact Boxed.new w2 _ _
    have hs3 : w3.heap.size = w2.heap.size + 1 := by rw [← hw3]; simp
    rw [hw3]
    obtain ⟨z0, hz0⟩ : ∃ z : Nat, z = 0 := ⟨_, rfl⟩
    have HZ0 := Lib.hid hz0
    have HX3 : Hid (Boxed w3 w2.heap.size 3 (.int .i64 ((z0 : Nat) : Int))) := Lib.hid (by rw [hz0]; exact hx3)
    have HBL3 := Lib.hid hb3
    have HS3 := Lib.hid hs3
    clear hw3 hb3 hx3 hs3 hz0
    refine CallsIn.mono (callsIn_wide.2 (from_made w3 _ a)) ?_
    rintro r u1 ⟨rfl, rfl⟩
    have hb2 := boxed2_below w3 (.pointer pt) a
    have hs2 := boxed2_size w3 (.pointer pt) a
    have hBn := boxed2_n w3 (.pointer pt) a
    have hBk := boxed2_k w3 (.pointer pt) a
    obtain ⟨u1, hw2⟩ : ∃ u, boxed2 w3 (.pointer pt) a = u := ⟨_, rfl⟩
    rw [hw2] at hb2 hs2 hBn hBk ⊢
    have HU1 := Lib.hid hb2
    have HUS1 := Lib.hid hs2
    have HBn := Lib.hid hBn
    have HBk := Lib.hid hBk
    clear hw2 hb2 hs2 hBn hBk
    gi_wp2_with fail
    have hs2 := HUS1.out
    have hsz := HS3.out
    refine wpIn_range (gf := 27) (lb := #[pb w3.heap.size, pb (w3.heap.size + 1)]) rfl (enters_of Try.func27 (by kernel_rfl) rfl) (encs := encE) (fun _ => rfl) (xs := (tl T).filter (ge a))
      (fun W hb => from_gives HT.out a (((HBL3.out).trans (HU1.out.mono (by omega))).trans (hb.mono (by omega))) (by rw [HP.out]; exact cell_row ((hb.block _ (by omega)).trans HBn.out) 0 _ rfl) (cell_row ((hb.block _ (by omega)).trans HBk.out) 0 _ rfl))
      (T := fun i => i = w2.heap.size) (fun i hi => ⟨by omega, fun hK => by rcases hK with hK | hK | hK <;> omega⟩) (fun i hi => by rcases hi with h1 | rfl | rfl <;> omega)
      (fun pre T' W' => BoxInt 3 w2.heap.size T' W' ((z0 + pre.length : Nat) : Int)) (fun _ _ _ _ => False)
      (fun s T A B j q => BoxInt.abd _ _ _ _ _ j q) (fun c s T A B j q => j) ⟨(HU1.out.block _ (by have := HX3.out.lt; omega)).trans HX3.out, rfl⟩ ?round1 ?done1 (fun _ _ _ _ _ _ _ h => h.elim)
    case round1 =>
      rintro lo pre e T' W' hpre hj hst hnl hl hrl C hC
      have HC := Lib.hid hC
      have HJ := Lib.hid hj
      have HSr := Lib.hid hst
      have HNl := Lib.hid hnl
      have HLi := Lib.hid (show w2.heap.size + 3 ≤ lo by omega)
      have hpl : pre.length ≤ 150 := by
        have h1 := hpre.length_le
        have h2 : ((tl T).filter (ge a)).length ≤ 150 := Nat.le_trans (List.length_filter_le _ _) (by rw [HM.out]; exact HLm.out)
        simp only [List.length_append, List.length_singleton] at h1
        omega
      have hm0 : z0 ≤ 150 := by rw [HZ0.out]; omega
      rw [show encE e = #[.string e.k, .string e.v] from rfl]
      obtain ⟨M, hM⟩ : ∃ M : Nat, z0 + pre.length = M := ⟨_, rfl⟩
      have HM2 : Hid (z0 + (pre ++ [e]).length = M + 1) := Lib.hid (by rw [List.length_append, List.length_singleton, ← hM]; omega)
      have hMb : M ≤ 300 := by omega
      rw [hM] at HJ
      clear hpre hj hst hnl hl hrl hC hs2 hsz hpl hm0 hM
      gi_wp2_with fail
      refine HC.out _ _ (Below.refl _ _) fun W'' hB => ?_
      have HB3 := Lib.hid (BoxInt.abd w2.heap.size _ _ _ _ HJ.out (hB.qt (by have := HLi.out; omega) HNl.out))
      have HTl : Hid (∀ i, T' i → i < W''.heap.size) := Lib.hid fun i hi => by rw [hB.size]; exact HSr.out.lt i hi
      have HSet := Lib.hid (HB3.out.set HTl.out ((M : Int) + 1))
      have hcx := HB3.out.box.cell
      have hfx := HB3.out.box.frozen
      clear hB
      gi_wp2_with fail
      exact ⟨T', HSet.out.1, by
        show BoxInt _ _ T' _ ((z0 + (pre ++ [e]).length : Nat) : Int)
        rw [HM2.out]
        exact HSet.out.2⟩
    intro D1 T1 W1 hj hst hD hTD hh
    have HJ1 := Lib.hid hj.box
    have HST1 := Lib.hid hst
    have HD1 := Lib.hid (And.intro hD (And.intro hTD hh))
    have HBL1x := Lib.hid (((HBL3.out).trans (HU1.out.mono (by omega))).trans (hst.below (by omega) fun k hk => by omega))
    have HWS1 : Hid (w2.heap.size + 1 ≤ W1.heap.size) := Lib.hid (by have := hst.fx.size; omega)
    clear hj hst hD hTD hh hs2 hsz
    gi_wp2_with fail
    refine CallsIn.mono (callsIn_wide.2 (backFrom_made W1 _ a)) ?_
    rintro r u2 ⟨rfl, rfl⟩
    have hb2 := boxed2_below W1 (.pointer pt) a
    have hs2 := boxed2_size W1 (.pointer pt) a
    have hBn := boxed2_n W1 (.pointer pt) a
    have hBk := boxed2_k W1 (.pointer pt) a
    obtain ⟨u2, hw2⟩ : ∃ u, boxed2 W1 (.pointer pt) a = u := ⟨_, rfl⟩
    rw [hw2] at hb2 hs2 hBn hBk ⊢
    have HU2 := Lib.hid hb2
    have HUS2 := Lib.hid hs2
    have HBn := Lib.hid hBn
    have HBk := Lib.hid hBk
    clear hw2 hb2 hs2 hBn hBk
    gi_wp2_with fail
    have hs2 := HUS2.out
    have hsz := HWS1.out
    refine wpIn_range (gf := 30) (lb := #[pb W1.heap.size, pb (W1.heap.size + 1)]) rfl (enters_of Try.func30 (by kernel_rfl) rfl) (encs := encE) (fun _ => rfl) (xs := ((tl T).filter (le a)).reverse)
      (fun W hb => backFrom_gives HT.out a (((HBL1x.out).trans (HU2.out.mono (by omega))).trans (hb.mono (by omega))) (by rw [HP.out]; exact cell_row ((hb.block _ (by omega)).trans HBn.out) 0 _ rfl) (cell_row ((hb.block _ (by omega)).trans HBk.out) 0 _ rfl))
      (T := fun i => i = w2.heap.size) (fun i hi => ⟨by omega, fun hK => by rcases hK with hK | hK | hK <;> omega⟩) (fun i hi => by rcases hi with h1 | rfl | rfl <;> omega)
      (fun pre T' W' => BoxInt 3 w2.heap.size T' W' (((z0 + ((tl T).filter (ge a)).length) + pre.length : Nat) : Int)) (fun _ _ _ _ => False)
      (fun s T A B j q => BoxInt.abd _ _ _ _ _ j q) (fun c s T A B j q => j) ⟨(HU2.out.block _ (by have := HJ1.out.lt; omega)).trans HJ1.out, rfl⟩ ?round2 ?done2 (fun _ _ _ _ _ _ _ h => h.elim)
    case round2 =>
      rintro lo pre e T' W' hpre hj hst hnl hl hrl C hC
      have HC := Lib.hid hC
      have HJ := Lib.hid hj
      have HSr := Lib.hid hst
      have HNl := Lib.hid hnl
      have HLi := Lib.hid (show w2.heap.size + 3 ≤ lo by omega)
      have hpl : pre.length ≤ 150 := by
        have h1 := hpre.length_le
        have h2 : (((tl T).filter (le a)).reverse).length ≤ 150 := Nat.le_trans (by rw [List.length_reverse]; exact List.length_filter_le _ _) (show (tl T).length ≤ 150 by rw [HM.out]; exact HLm.out)
        simp only [List.length_append, List.length_singleton] at h1
        omega
      have hm0 : (z0 + ((tl T).filter (ge a)).length) ≤ 150 := by rw [HZ0.out, Nat.zero_add]; exact Nat.le_trans (List.length_filter_le _ _) (by rw [HM.out]; exact HLm.out)
      rw [show encE e = #[.string e.k, .string e.v] from rfl]
      obtain ⟨M, hM⟩ : ∃ M : Nat, (z0 + ((tl T).filter (ge a)).length) + pre.length = M := ⟨_, rfl⟩
      have HM2 : Hid ((z0 + ((tl T).filter (ge a)).length) + (pre ++ [e]).length = M + 1) := Lib.hid (by rw [List.length_append, List.length_singleton, ← hM]; omega)
      have hMb : M ≤ 300 := by omega
      rw [hM] at HJ
      clear hpre hj hst hnl hl hrl hC hs2 hsz hpl hm0 hM
      gi_wp2_with fail
      refine HC.out _ _ (Below.refl _ _) fun W'' hB => ?_
      have HB3 := Lib.hid (BoxInt.abd w2.heap.size _ _ _ _ HJ.out (hB.qt (by have := HLi.out; omega) HNl.out))
      have HTl : Hid (∀ i, T' i → i < W''.heap.size) := Lib.hid fun i hi => by rw [hB.size]; exact HSr.out.lt i hi
      have HSet := Lib.hid (HB3.out.set HTl.out ((M : Int) + 1))
      have hcx := HB3.out.box.cell
      have hfx := HB3.out.box.frozen
      clear hB
      gi_wp2_with fail
      exact ⟨T', HSet.out.1, by
        show BoxInt _ _ T' _ (((z0 + ((tl T).filter (ge a)).length) + (pre ++ [e]).length : Nat) : Int)
        rw [HM2.out]
        exact HSet.out.2⟩
    intro D2 T2 W2 hj hst hD hTD hh
    have HJ2 := Lib.hid hj.box
    have HST2 := Lib.hid hst
    have HD2 := Lib.hid (And.intro hD (And.intro hTD hh))
    have HBL2x := Lib.hid (((HBL1x.out).trans (HU2.out.mono (by omega))).trans (hst.below (by omega) fun k hk => by omega))
    have HWS2 : Hid (w2.heap.size + 1 ≤ W2.heap.size) := Lib.hid (by have := hst.fx.size; omega)
    clear hj hst hD hTD hh hs2 hsz
    gi_wp2_with fail
    refine CallsIn.mono (callsIn_wide.2 (refGet_any A2 m c2 (tl T) a W2 HT.out.sorted (HES.out.below HBL2x.out) HM.out (by have := HLm.out; omega))) ?_
    rintro r W3 ⟨rfl, hb3⟩
    have HT3 := Lib.hid (HT.out.below (bthen HBL2x.out hb3))
    have HB3 := Lib.hid (bthen (HB2.out.trans (HBL2x.out.mono HB2.out.size)) hb3)
    have HX3' : Hid (Boxed W3 w2.heap.size 3 (.int .i64 ((z0 + ((tl T).filter (ge a)).length + ((tl T).filter (le a)).reverse.length : Nat) : Int))) := Lib.hid ((hb3.block _ HJ2.out.lt).trans HJ2.out)
    have HDS : Hid ([D2, D1].Nodup ∧ ∀ E ∈ [D2, D1], w2.heap.size ≤ E ∧ W3.heap[E]? = some (.deferred (some []))) := Lib.hid (by
      obtain ⟨d1, d2, d3⟩ := HD1.out
      obtain ⟨e1, e2, e3⟩ := HD2.out
      have hl1 := (Array.getElem?_eq_some_iff.1 d3).1
      have hl2 := (Array.getElem?_eq_some_iff.1 e3).1
      have h1 := HUS1.out
      have h2 := HUS2.out
      have h3 := HS3.out
      have d4 : u2.heap[D1]? = some (.deferred (some [])) := (HU2.out.block _ hl1).trans d3
      have d5 : W2.heap[D1]? = some (.deferred (some [])) := (HST2.out.same D1 (by omega) (fun h => by omega)).trans d4
      refine ⟨by simp; omega, fun E hE => ?_⟩
      rcases List.mem_cons.1 hE with rfl | hE
      · exact ⟨by omega, (hb3.block _ hl2).trans e3⟩
      · rw [List.mem_singleton] at hE
        subst hE
        exact ⟨by omega, (hb3.block _ (Array.getElem?_eq_some_iff.1 d5).1).trans d5⟩)
    have HTot : Hid (z0 + ((tl T).filter (ge a)).length + ((tl T).filter (le a)).reverse.length = m + (if (look (tl T) a).isSome then 1 else 0)) := Lib.hid (by
      have := both_len HT.out.sorted a
      rw [HM.out] at this
      rw [HZ0.out, Nat.zero_add, List.length_reverse]
      exact this)
    rw [HTot.out] at HX3'
    obtain ⟨o, ho⟩ : ∃ o, look (tl T) a = o := ⟨_, rfl⟩
    rw [ho] at HX3' ⊢
    unfold lookV
    clear hb3 ho HJ1 HJ2 HST1 HST2 HTot
    cases o with
    | none =>
      have hcx := HX3'.out.cell
      simp only [Option.isSome_none, Bool.false_eq_true, if_false, Nat.add_zero] at hcx
      simp only [Option.isSome_none, Option.getD_none]
      have hm2 := run_mins2
      have hm3 := run_mins3
      have hx2 := run_maxs2
      have hx3 := run_maxs3
      gi_wp2_with fail
      obtain ⟨lo, hlo⟩ : ∃ lo, minS (minS a b) d = lo := ⟨_, rfl⟩
      obtain ⟨mid, hmid⟩ : ∃ mid, maxS (minS a b) (minS (maxS a b) d) = mid := ⟨_, rfl⟩
      obtain ⟨hi, hhi⟩ : ∃ hi, maxS (maxS a b) d = hi := ⟨_, rfl⟩
      rw [hlo, hmid, hhi]
      have h1 : ¬ kl mid lo := by
        rw [← hlo, ← hmid]
        exact le_tr (minS_l _ _) (maxS_l _ _)
      have h2 : ¬ kl hi mid := by
        rw [← hhi, ← hmid]
        exact maxS_le (le_tr (minS_l _ _) (le_tr (maxS_l _ _) (maxS_l _ _))) (le_tr (minS_l _ _) (maxS_l _ _))
      have H12 := Lib.hid (cnt_split h1 h2 (tl T))
      have H21 := Lib.hid (cnt_back (le_tr h1 h2) (tl T))
      have hlen3 : (tl T).length ≤ 80000 := by have := HM.out; have := HLm.out; omega
      have HLen3 := Lib.hid hlen3
      have hc1 := cnt_le lo mid (tl T)
      have hc2' := cnt_le mid hi (tl T)
      obtain ⟨c1, hc1e⟩ : ∃ c1, cnt lo mid (tl T) = c1 := ⟨_, rfl⟩
      obtain ⟨c2', hc2e⟩ : ∃ c2', cnt mid hi (tl T) = c2' := ⟨_, rfl⟩
      have HC1 := Lib.hid hc1e
      have HC2 := Lib.hid hc2e
      rw [hc1e] at hc1 H12
      rw [hc2e] at hc2' H12
      have hc1' : c1 ≤ 80000 := by omega
      have hc2'' : c2' ≤ 80000 := by omega
      clear hlo hmid hhi h1 h2 hlen3 hc1 hc2' hc1e hc2e hm2 hm3 hx2 hx3
      refine CallsIn.mono (callsIn_wide.2 (by have := count_any HT3.out lo mid HLen3.out; rw [HP.out, HC1.out] at this; exact this)) ?_
      rintro r x1 ⟨rfl, hbx1⟩
      have HX1 := Lib.hid hbx1
      clear hbx1 hcx
      gi_wp2_with fail
      refine CallsIn.mono (callsIn_wide.2 (by have := count_any (HT3.out.below HX1.out) mid hi HLen3.out; rw [HP.out, HC2.out] at this; exact this)) ?_
      rintro r x2 ⟨rfl, hbx2⟩
      have HX2 := Lib.hid (bthen HX1.out hbx2)
      clear hbx2
      gi_wp2_with fail
      refine CallsIn.mono (callsIn_wide.2 (by have := count_any (HT3.out.below HX2.out) lo hi HLen3.out; rw [HP.out, ← H12.out] at this; exact this)) ?_
      rintro r x3 ⟨rfl, hbx3⟩
      have HX3 := Lib.hid (bthen HX2.out hbx3)
      clear hbx3
      gi_wp2_with fail
      refine CallsIn.mono (callsIn_wide.2 (by have := count_any (HT3.out.below HX3.out) hi lo HLen3.out; rw [HP.out, H21.out] at this; exact this)) ?_
      rintro r x4 ⟨rfl, hbx4⟩
      have HX4 := Lib.hid (bthen HX3.out hbx4)
      clear hbx4
      gi_wp2_with fail
      refine leaves_marks [D2, D1] x4 HDS.out.1 (fun E hE => (HX4.out.block _ (Array.getElem?_eq_some_iff.1 (HDS.out.2 E hE).2).1).trans (HDS.out.2 E hE).2) fun w' hs => ?_
      exact ⟨_, results_tmp rfl _ _ _, rfl, (bthen HB3.out HX4.out).trans (shut_below hs fun E hE => Nat.le_trans HB2.out.size (HDS.out.2 E hE).1)⟩
    | some y =>
      have hcx := HX3'.out.cell
      simp only [Option.isSome_some, if_true] at hcx
      simp only [Option.isSome_some, Option.getD_some]
      have hm2 := run_mins2
      have hm3 := run_mins3
      have hx2 := run_maxs2
      have hx3 := run_maxs3
      have hmm := HLm.out
      gi_wp2_with fail
      obtain ⟨lo, hlo⟩ : ∃ lo, minS (minS a b) d = lo := ⟨_, rfl⟩
      obtain ⟨mid, hmid⟩ : ∃ mid, maxS (minS a b) (minS (maxS a b) d) = mid := ⟨_, rfl⟩
      obtain ⟨hi, hhi⟩ : ∃ hi, maxS (maxS a b) d = hi := ⟨_, rfl⟩
      rw [hlo, hmid, hhi]
      have h1 : ¬ kl mid lo := by
        rw [← hlo, ← hmid]
        exact le_tr (minS_l _ _) (maxS_l _ _)
      have h2 : ¬ kl hi mid := by
        rw [← hhi, ← hmid]
        exact maxS_le (le_tr (minS_l _ _) (le_tr (maxS_l _ _) (maxS_l _ _))) (le_tr (minS_l _ _) (maxS_l _ _))
      have H12 := Lib.hid (cnt_split h1 h2 (tl T))
      have H21 := Lib.hid (cnt_back (le_tr h1 h2) (tl T))
      have hlen3 : (tl T).length ≤ 80000 := by have := HM.out; have := HLm.out; omega
      have HLen3 := Lib.hid hlen3
      have hc1 := cnt_le lo mid (tl T)
      have hc2' := cnt_le mid hi (tl T)
      obtain ⟨c1, hc1e⟩ : ∃ c1, cnt lo mid (tl T) = c1 := ⟨_, rfl⟩
      obtain ⟨c2', hc2e⟩ : ∃ c2', cnt mid hi (tl T) = c2' := ⟨_, rfl⟩
      have HC1 := Lib.hid hc1e
      have HC2 := Lib.hid hc2e
      rw [hc1e] at hc1 H12
      rw [hc2e] at hc2' H12
      have hc1' : c1 ≤ 80000 := by omega
      have hc2'' : c2' ≤ 80000 := by omega
      clear hlo hmid hhi h1 h2 hlen3 hc1 hc2' hc1e hc2e hm2 hm3 hx2 hx3
      refine CallsIn.mono (callsIn_wide.2 (by have := count_any HT3.out lo mid HLen3.out; rw [HP.out, HC1.out] at this; exact this)) ?_
      rintro r x1 ⟨rfl, hbx1⟩
      have HX1 := Lib.hid hbx1
      clear hbx1 hcx
      gi_wp2_with fail
      refine CallsIn.mono (callsIn_wide.2 (by have := count_any (HT3.out.below HX1.out) mid hi HLen3.out; rw [HP.out, HC2.out] at this; exact this)) ?_
      rintro r x2 ⟨rfl, hbx2⟩
      have HX2 := Lib.hid (bthen HX1.out hbx2)
      clear hbx2
      gi_wp2_with fail
      refine CallsIn.mono (callsIn_wide.2 (by have := count_any (HT3.out.below HX2.out) lo hi HLen3.out; rw [HP.out, ← H12.out] at this; exact this)) ?_
      rintro r x3 ⟨rfl, hbx3⟩
      have HX3 := Lib.hid (bthen HX2.out hbx3)
      clear hbx3
      gi_wp2_with fail
      refine CallsIn.mono (callsIn_wide.2 (by have := count_any (HT3.out.below HX3.out) hi lo HLen3.out; rw [HP.out, H21.out] at this; exact this)) ?_
      rintro r x4 ⟨rfl, hbx4⟩
      have HX4 := Lib.hid (bthen HX3.out hbx4)
      clear hbx4
      gi_wp2_with fail
      refine leaves_marks [D2, D1] x4 HDS.out.1 (fun E hE => (HX4.out.block _ (Array.getElem?_eq_some_iff.1 (HDS.out.2 E hE).2).1).trans (HDS.out.2 E hE).2) fun w' hs => ?_
      exact ⟨_, results_tmp rfl _ _ _, rfl, (bthen HB3.out HX4.out).trans (shut_below hs fun E hE => Nat.le_trans HB2.out.size (HDS.out.2 E hE).1)⟩

end Go.Proofs.Ytcoaloignmkemaa

namespace Go.Proofs.Ytcoaloignmkemaa.walkSplits
open Go.ChangeShapes Go.WideShapes Go.ChangeAt Go.RowKit
open Go.ChangeMaps (open_string shut_string)
set_option linter.unusedVariables false

theorem own : ownKnob Try.prog.godebug = none := by kernel_rfl
theorem laidOut : laidOutB Try.prog = true := by kernel_rfl

set_option maxRecDepth 100000 in
theorem lifted (os : Os) (started : os.Started) (H : Type) (enc : TypeId × Value → H) :
    ReturnsInHanded {} Try.checked os 8 .any (Rows.walkSplitsSpec.pre6 enc Try.prog Try.f8 Rows.walkSplitsRow.domain false) (Rows.walkSplitsSpec.post enc Try.prog Try.f8 false true false false) := by
  refine returnsInHanded_of_change_sized (C := Try.checked) own started (by kernel_rfl) Try.func8
    (ChangeSpec.witness6 (enc := enc) (C := Try.checked) false ⟨#[], #[.slice none 0 0, .string ByteArray.empty, .string ByteArray.empty, .string ByteArray.empty], []⟩ 8 (by kernel_rfl) (by kernel_rfl) (by kernel_rfl) (by kernel_rfl)) ?_
  intro W base args ds gs before hval0 hW hcnd hsz0 _
  have hval : ∀ (j : Nat) t v, Try.f8.params[j]? = some t → args[j]? = some v → Value.okWide Try.prog W .any base t v := hval0
  have hsz : (DataW.weightsEach Try.prog (Try.f8.params.toList ++ Rows.walkSplitsSpec.plain.varTypes Try.prog) (ds ++ gs)).all (· ≤ reachBytes) = true := hsz0
  have hW' := hW
  obtain ⟨p, q, hA0, hV, rfl, hfz, hnd⟩ := hW
  have hA : DataW.TrodAll enc Try.prog W 0 (fun _ => true) true Try.f8.params.toList args.toList ds p := hA0
  rw [Try.params8] at hA hval hsz
  obtain ⟨v0, vs0, d0, ds0, p0, q0, hargs, rfl, rfl, h0, r0⟩ := trodAll_cons hA
  obtain ⟨v1, vs1, d1, ds1, p1, q1, rfl, rfl, rfl, h1, r1⟩ := trodAll_cons r0
  obtain ⟨v2, vs2, d2, ds2, p2, q2, rfl, rfl, rfl, h2, r2⟩ := trodAll_cons r1
  obtain ⟨v3, vs3, d3, ds3, p3, q3, rfl, rfl, rfl, h3, r3⟩ := trodAll_cons r2
  obtain ⟨rfl, rfl, rfl⟩ := trodAll_nil r3
  obtain rfl : args = #[v0, v1, v2, v3] := by cases args; simp_all
  obtain ⟨rfl, rfl⟩ := trodVars_none hV
  obtain ⟨A0, n0, c0, rfl⟩ := okWide_slice Try.underlying22 (hval 0 22 v0 rfl rfl)
  have k0 := h0
  have lt0 : ∀ x ∈ p0, x.block < W.heap.size := by obtain ⟨m, hm⟩ := k0; exact DataW.trod_lt m _ _ _ hm
  obtain ⟨l0, w0⟩ := open_ents h0 (fun m hm => of_decide_eq_true (List.all_eq_true.1 hsz _ (DataW.weights_mem_each (j := 0) (t := 22) rfl rfl m hm)))
  obtain ⟨a1, rfl, rfl, rfl, w1⟩ := open_string Try.underlying9 (hval 1 9 v1 rfl rfl) h1
  obtain ⟨a2, rfl, rfl, rfl, w2⟩ := open_string Try.underlying9 (hval 2 9 v2 rfl rfl) h2
  obtain ⟨a3, rfl, rfl, rfl, w3⟩ := open_string Try.underlying9 (hval 3 9 v3 rfl rfl) h3
  have z1 : a1.data.toList.length ≤ reachBytes := sized_string hsz (j := 1) (t := 9) rfl rfl
  have y1 : a1.size ≤ 140737488351232 := z1
  have z2 : a2.data.toList.length ≤ reachBytes := sized_string hsz (j := 2) (t := 9) rfl rfl
  have y2 : a2.size ≤ 140737488351232 := z2
  have z3 : a3.data.toList.length ≤ reachBytes := sized_string hsz (j := 3) (t := 9) rfl rfl
  have y3 : a3.size ≤ 140737488351232 := z3
  clear hA0 hval0 hsz hsz0
  refine (walkSplits_walk A0 n0 c0 l0 a1 a2 a3 W w0 y1 y2 y3).mono fun e W' ⟨he, bel⟩ => ?_
  subst he
  exact ⟨_, rfl, _, _, _, [], _, [], hW', trodAll_mk1 (shut_bool Try.underlying4 _), (trodAll_cons_mk (Below.trod laidOut (by kernel_rfl) (of_decide_eq_true (by kernel_rfl)) k0 bel lt0) (trodAll_cons_mk (shut_string Try.underlying9 w1) (trodAll_cons_mk (shut_string Try.underlying9 w2) (trodAll_cons_mk (shut_string Try.underlying9 w3) trodAll_mk0)))), rfl, bel.frame _, fun h => by cases h⟩

theorem over : Rows.walkSplitsRow.holds Try.pinned (OpenSpec.ofChange Rows.walkSplitsSpec) :=
  OpenClaim.holds_of_wide 8 Try.f8 rfl rfl rfl rfl rfl rfl rfl ⟨rfl, rfl, rfl, rfl, rfl⟩ rfl rfl rfl rfl rfl (by kernel_rfl) Try.func8 (by kernel_rfl)
    (of_decide_eq_true (by kernel_rfl)) (by unfold Func.isWrapper; first | (rw [if_pos (by decide +kernel)]; kernel_rfl) | (rw [if_neg (by decide +kernel)]; exact ⟨rfl, rfl⟩))
    (fun os started H enc _ => lifted os started H enc)

theorem proved : Rows.WalkSplitsSaid := over
#print axioms proved

end Go.Proofs.Ytcoaloignmkemaa.walkSplits
