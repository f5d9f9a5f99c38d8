/-
  The contract of walk.Count; conditions: the tree is valid and lies in memory, or is nil; few entries.
-/
import Derived.Test.YtcoaloignmkemaaWalkTake
import Derived.WalkMore
namespace Go.Proofs.Ytcoaloignmkemaa
open Go.RowKit Go.Sort Go.Shelf Rt
set_option linter.unusedVariables false
attribute [local go_sem] Oper.semAt_some wide_fn wide_depth

/-- Ahead of a key. -/
def lt (key : ByteArray) (e : Ent) : Bool := decide (kl e.k key)
/-- How many entries stand from a key on, ahead of another one. -/
def cnt (a b : ByteArray) (l : List Ent) : Nat := ((l.filter (ge a)).filter (lt b)).length
theorem cnt_append (a b : ByteArray) (l m : List Ent) : cnt a b (l ++ m) = cnt a b l + cnt a b m := by simp [cnt]
theorem cnt_le (a b : ByteArray) (l : List Ent) : cnt a b l ≤ l.length := Nat.le_trans (List.length_filter_le _ _) (List.length_filter_le _ _)
theorem cnt_succ {a b : ByteArray} {l : List Ent} {m : Nat} {e : Ent} (h : l[m]? = some e) : cnt a b (l.take (m + 1)) = cnt a b (l.take m) + cnt a b [e] := by
  obtain ⟨hi, rfl⟩ := List.getElem?_eq_some_iff.1 h
  rw [List.take_succ_eq_append_getElem hi, cnt_append]
theorem cnt_zero {a b : ByteArray} {l : List Ent} (h : ∀ e ∈ l, ¬ kl e.k b) : cnt a b l = 0 := by
  unfold cnt
  rw [filter_none (p := lt b) fun e he => decide_eq_false (h e (List.mem_filter.1 he).1)]
  rfl
/-- Where a key is reached that isn't ahead, all is counted. -/
theorem cnt_stop {a b : ByteArray} {ls pre : List OS} {x : OS} {m : Nat} {e : Ent} (hs : Sorted (flatO ls)) (hp : pre ++ [x] <+: ls) (he : (leafL x)[m]? = some e) (hk : ¬ kl e.k b) : cnt a b (flatO ls) = cnt a b (flatO pre) + cnt a b ((leafL x).take m) := by
  obtain ⟨r, rfl⟩ := hp
  obtain ⟨hi, hx⟩ := List.getElem?_eq_some_iff.1 he
  have h1 : flatO (pre ++ [x] ++ r) = (flatO pre ++ (leafL x).take m) ++ (e :: (leafL x).drop (m + 1) ++ flatO r) := by
    have h2 : leafL x = (leafL x).take m ++ e :: (leafL x).drop (m + 1) := by
      rw [← hx, ← List.drop_eq_getElem_cons hi, List.take_append_drop]
    conv => lhs; rw [show flatO (pre ++ [x] ++ r) = flatO pre ++ leafL x ++ flatO r by simp [flatO], h2]
    simp
  rw [h1] at hs ⊢
  have h3 := (List.pairwise_append.1 hs).2.1
  rw [cnt_append, cnt_append, cnt_zero (l := e :: (leafL x).drop (m + 1) ++ flatO r), Nat.add_zero]
  intro y hy
  rw [List.cons_append] at hy h3
  rcases List.mem_cons.1 hy with rfl | hy
  · exact hk
  · exact fun h => hk (kl_trans ((List.pairwise_cons.1 h3).1 y hy) h)

set_option maxHeartbeats 4000000 in
set_option maxRecDepth 100000 in
theorem count_any {w : World} {T0 : TO} (ht : TreeIs w T0) (a b : ByteArray) (hl : (tl T0).length ≤ 80000) :
    Calls Try.prog 21 #[tb T0, .string a, .string b] w fun e w' => e = .returned (.int .i64 (cnt a b (tl T0) : Int)) ∧ Below w.heap.size w w' := by
  obtain ⟨ls, hlv, hg⟩ := leaves_any ht a
  have hcn : cnt a b (tl T0) = cnt a b (flatO ls) := by unfold cnt; rw [hlv.filt]
  have hso : Sorted (flatO ls) := List.Pairwise.sublist hlv.sub ht.sorted
  have hll : (flatO ls).length ≤ 80000 := Nat.le_trans hlv.sub.length_le hl
  rw [hcn]
  obtain ⟨pt, hpt⟩ : ∃ pt, tb T0 = .pointer pt := ⟨_, rfl⟩
  rw [hpt] at hg ⊢
  have HG := Lib.hid hg
  have HLV := Lib.hid hlv
  have HSO := Lib.hid hso
  have HLL := Lib.hid hll
  clear hg hlv hcn hso hll hpt ht hl
  refine callsIn_wide (n := 0).1 (callsIn_of_wp_marks Try.func21 rfl trivial ?_ rfl)
  simp only [Try.ntmps21, List.size_toArray, List.length_cons, List.length_nil, Nat.reduceAdd, Nat.reduceSub, Array.replicate_succ, Array.replicate_zero, List.push_toArray, List.append_toArray, List.nil_append, List.cons_append]
  gi_wp2_with fail
  refine wpIn_wide.2 (wp_scope_straight ((wpIn_wide (n := 0)).1 ?_))
  obtain ⟨w0, hw0⟩ : ∃ w0, (w.alloc (.cells #[.string a] 9)).alloc (.cells #[.string b] 9) = w0 := ⟨_, rfl⟩
  have hb0 : Below w.heap.size w w0 := by rw [← hw0]; exact ((Below.refl _ _).alloc (Nat.le_refl _) _).alloc (by simp) _
  have ha0 : w0.heap[w.heap.size]? = some (.cells #[.string a] 9 (0, 0)) := by rw [← hw0]; exact (Below.heap_alloc _ _ _ (by simp)).trans (heap_alloc_new w _)
  have hbb0 : w0.heap[w.heap.size + 1]? = some (.cells #[.string b] 9 (0, 0)) := by
    rw [← hw0]
    have := heap_alloc_new (w.alloc (.cells #[.string a] 9)) (.cells #[.string b] 9)
    rwa [World.size_alloc] at this
  have hs0 : w0.heap.size = w.heap.size + 2 := by rw [← hw0]; simp
  rw [hw0]
  obtain ⟨w1, hw1⟩ : ∃ w1, w0.alloc (.cells #[.int .i64 0] 3) = w1 := ⟨_, rfl⟩
  have hb1 : Below w0.heap.size w0 w1 := by rw [← hw1]; exact (Below.refl _ _).alloc (Nat.le_refl _) _
  have hc1 : w1.heap[w.heap.size + 2]? = some (.cells #[.int .i64 0] 3 (0, 0)) := by rw [← hw1, ← hs0]; exact heap_alloc_new w0 _
  have hs1 : w1.heap.size = w.heap.size + 3 := by rw [← hw1]; simp [hs0]
  have qa : w1.cell? ⟨w.heap.size, 0, none⟩ = some (.string a) := cell_row ((hb1.block _ (by omega)).trans ha0) 0 _ rfl
  rw [← hw1] at qa
  have HW1 := Lib.hid hw1
  have HA1 := Lib.hid ((hb1.block _ (by omega)).trans ha0)
  have HBB1 := Lib.hid ((hb1.block _ (by omega)).trans hbb0)
  have HC1 := Lib.hid hc1
  have HB1 := Lib.hid (hb0.trans (hb1.mono hb0.size))
  have HS1 := Lib.hid hs1
  have HS0 := Lib.hid hs0
  clear hw0 hw1 hb0 ha0 hbb0 hb1 hc1 hs1 hs0
  gi_wp2_with fail
  refine wpIn_label ?_
  gi_wp2_with fail
  rw [HW1.out]
  refine CallsIn.mono (callsIn_wide.2 (leaves_made w1 _ a)) ?_
  rintro r w2 ⟨rfl, rfl⟩
  have hb2 := boxed2_below w1 (.pointer pt) a
  have hs2 := boxed2_size w1 (.pointer pt) a
  have hBn := boxed2_n w1 (.pointer pt) a
  have hBk := boxed2_k w1 (.pointer pt) a
  obtain ⟨w2, hw2⟩ : ∃ w2, boxed2 w1 (.pointer pt) a = w2 := ⟨_, rfl⟩
  rw [hw2] at hb2 hs2 hBn hBk ⊢
  have hs1 := HS1.out
  have HB2 := Lib.hid (HB1.out.trans (hb2.mono HB1.out.size))
  have HA2 := Lib.hid ((hb2.block _ (by omega)).trans HA1.out)
  have HBB2 := Lib.hid ((hb2.block _ (by omega)).trans HBB1.out)
  have HC2 : Hid (Boxed w2 (w.heap.size + 2) 3 (.int .i64 0)) := Lib.hid ((hb2.block _ (by omega)).trans HC1.out)
  have HBn := Lib.hid hBn
  have HBk := Lib.hid hBk
  have HS2 := Lib.hid hs2
  have HS0' := HS0.out
  have hB0 : (.pointer (some ⟨w0.heap.size, 0, none⟩) : Value) = pb (w.heap.size + 2) := by rw [HS0']
  try rw [hB0]
  clear hw2 hb2 hBn hBk hs2 qa hs1 HS0' hB0
  gi_wp2_with fail
  have hs1 := HS1.out
  have hs2 := HS2.out
  refine wpIn_range (gf := 39) (lb := #[pb w1.heap.size, pb (w1.heap.size + 1)]) rfl (enters_of Try.func39 (by kernel_rfl) rfl) (encs := encO) (fun _ => rfl)
    (fun W' hb' => HG.out W' _ _ (HB2.out.trans (hb'.mono (by omega))) (cell_row ((hb'.block _ (by omega)).trans HBn.out) 0 _ rfl) (cell_row ((hb'.block _ (by omega)).trans HBk.out) 0 _ rfl))
    (T := fun i => i = w.heap.size + 2) (fun i hi => ⟨by omega, fun hK => ?hK1⟩) (fun i hi => ?hK2)
    (fun pre T' W' => BoxInt 3 (w.heap.size + 2) T' W' (cnt a b (flatO pre) : Int)) (fun c pre T' W' => c = .exit 0 ∧ BoxInt 3 (w.heap.size + 2) T' W' (cnt a b (flatO ls) : Int))
    ?hI (fun c => ?hIx) ?h0 ?round ?done ?stop
  case hK1 => rcases hK with hK | hK | hK <;> omega
  case hK2 => rcases hi with h1 | rfl | rfl <;> omega
  case hI => exact fun s T A B j q => BoxInt.abd _ _ _ _ _ j q
  case hIx => exact fun s T A B j q => ⟨j.1, BoxInt.abd _ _ _ _ _ j.2 q⟩
  case h0 => exact ⟨HC2.out, rfl⟩
  case round =>
    rintro lo pre x T' W' hpre hj hst hnl hl hrl C hC
    obtain ⟨px, hpx⟩ : ∃ px, (x.map (·.b)).map (fun b => (⟨b, 0, none⟩ : Addr)) = px := ⟨_, rfl⟩
    have hpv : ptr (x.map (·.b)) = .pointer px := by rw [← hpx]; rfl
    rw [show encO x = #[.pointer px] by rw [← hpv]; rfl]
    have HPV := Lib.hid hpv
    have HC := Lib.hid hC
    have HSr := Lib.hid hst
    have HNl := Lib.hid hnl
    have HLi := Lib.hid hl
    have HPr := Lib.hid hpre
    have HBI := Lib.hid hj
    have HLF : Hid (∀ s, x = some s → Tr w 0 s) := Lib.hid fun s hs => HLV.out.leaf s (hpre.subset (by rw [hs]; simp))
    clear hpx hpv hC hj hst hnl hl hpre hrl hs1 hs2
    gi_wp2_with fail
    refine HC.out _ _ (Below.refl _ _) fun W'' hB => ?_
    have hlo : w.heap.size + 5 ≤ lo := by have := HLi.out; have := HS2.out; have := HS1.out; omega
    have HBW : Hid (Below w.heap.size w W'') := Lib.hid ((HB2.out.trans (HSr.out.below (by have := HS2.out; have := HS1.out; omega) fun k hk => by omega)).trans (hB.below (by omega)))
    have HA3 := Lib.hid (hB.cell (HSr.out.cell (cell_row HA2.out 0 _ rfl) (by simp)) (by show w.heap.size ≠ lo; omega))
    have HBB3 := Lib.hid (hB.cell (HSr.out.cell (cell_row HBB2.out 0 _ rfl) (by simp)) (by show w.heap.size + 1 ≠ lo; omega))
    have HNt : Hid (¬ T' w.heap.size ∧ ¬ T' (w.heap.size + 1)) := Lib.hid ⟨fun h => by have := HSr.out.own _ (by have := HS2.out; have := HS1.out; omega) h; omega, fun h => by have := HSr.out.own _ (by have := HS2.out; have := HS1.out; omega) h; omega⟩
    have HTl : Hid (∀ k, T' k → k < W''.heap.size) := Lib.hid fun k hk => by rw [hB.size]; exact HSr.out.lt k hk
    have HBI2 := Lib.hid (BoxInt.abd _ _ _ _ _ HBI.out (hB.qt (n := w.heap.size) (by omega) HNl.out))
    clear hB hlo HSr HBI
    gi_wp2_with fail
    refine CallsIn.inRound lo (CallsIn.mono (callsIn_wide.2 (by have := ents_os HLF.out HBW.out; rw [HPV.out] at this; exact this)) ?_)
    rintro r w6 ⟨v6, rfl, ho6, hb6⟩
    obtain ⟨A6, c6, rfl, hc6, _⟩ := ho6.form
    have HO6 := Lib.hid ho6
    have HB6 := Lib.hid hb6
    have h4 := leafL_len HLF.out
    have HPLn : Hid ((flatO pre).length + (leafL x).length ≤ 80000) := Lib.hid (by
      obtain ⟨r, hr⟩ := HPr.out
      have := HLL.out
      rw [← hr, show flatO (pre ++ [x] ++ r) = flatO pre ++ leafL x ++ flatO r by simp [flatO]] at this
      simp at this
      omega)
    obtain ⟨n, hn⟩ : ∃ n, (leafL x).length = n := ⟨_, rfl⟩
    rw [hn] at HO6 hc6 h4 ⊢
    have Hn := Lib.hid hn
    clear ho6 hb6 hn
    gi_wp2_with fail
    gi_loopw [18] (fun s18 wr => ∃ m : Nat, m ≤ n ∧ s18 = .int .i64 (m : Int) ∧ Hid (Stp T' w6 T' wr ∧ BoxInt 3 (w.heap.size + 2) T' wr ((cnt a b (flatO pre) + cnt a b ((leafL x).take m) : Nat) : Int))) (fun s18 _ => n - (intOf s18).toNat)
    case atStart => exact ⟨0, Nat.zero_le _, rfl, Lib.hid ⟨.refl fun k hk => Nat.lt_of_lt_of_le (HTl.out k hk) HB6.out.size, BoxInt.abd w.heap.size _ _ _ _ HBI2.out (.of_below HB6.out)⟩⟩
    case round =>
      obtain ⟨m, hm, rfl, HI⟩ := hrel
      by_cases hlt : m < n
      · have hown := HO6.out.keep fun g hg hlt => HI.out.1.same g hlt fun ht => by
          have h1 := HTl.out g ht
          have h2 := HO6.out.at_block g hg
          omega
        obtain ⟨ad, e, rfl, he, hadl, h1, h2⟩ := (own_es hown).at_ (i := m) (by rw [Hn.out]; exact hlt)
        have hka := HI.out.1.cell ((HB6.out.cell (p := ⟨w.heap.size, 0, none⟩) (cell_lt HA3.out)).trans HA3.out) HNt.out.1
        have hkb := HI.out.1.cell ((HB6.out.cell (p := ⟨w.heap.size + 1, 0, none⟩) (cell_lt HBB3.out)).trans HBB3.out) HNt.out.2
        have hba : Below wr.heap.size wr (wr.alloc (.cells #[.string e.k, .string e.v] 31)) := (Below.refl _ _).alloc (Nat.le_refl _) _
        have q1 := (hba.cell (p := ⟨w.heap.size, 0, none⟩) (cell_lt hka)).trans hka
        have q2 := (hba.cell (p := ⟨w.heap.size + 1, 0, none⟩) (cell_lt hkb)).trans hkb
        have HBI3 := Lib.hid (BoxInt.abd w.heap.size _ _ _ _ HI.out.2 (.of_below hba))
        have HST3 := Lib.hid (HI.out.1.below_ hba)
        have q3 := HBI3.out.box.cell
        have q4 := HBI3.out.box.frozen
        have HE := Lib.hid he
        have hM : cnt a b (flatO pre) + cnt a b ((leafL x).take m) ≤ 80000 := by
          have h1 := cnt_le a b (flatO pre)
          have h2 := cnt_le a b ((leafL x).take m)
          rw [List.length_take] at h2
          have := HPLn.out
          omega
        obtain ⟨M, HM⟩ : ∃ M, cnt a b (flatO pre) + cnt a b ((leafL x).take m) = M := ⟨_, rfl⟩
        rw [HM] at q3 HBI3 hM
        have HMM := Lib.hid HM
        clear hown he hba hka hkb HM
        have hle := less_eq e.k a
        have hlb := less_eq e.k b
        by_cases hdb : kl e.k b
        · rw [decide_eq_true hdb] at hlb
          by_cases hda : kl e.k a
          · have HF : Hid (cnt a b (flatO pre) + cnt a b ((leafL x).take (m + 1)) = M) := Lib.hid (by rw [cnt_succ HE.out, show cnt a b [e] = 0 by simp [cnt, ge, hda], Nat.add_zero]; exact HMM.out)
            rw [decide_eq_true hda] at hle
            gi_wp2_with fail
            exact ⟨⟨m + 1, by omega, by go_num, Lib.hid ⟨HST3.out, by rw [HF.out]; exact HBI3.out⟩⟩, by simp [intOf]; omega⟩
          · have HF : Hid (cnt a b (flatO pre) + cnt a b ((leafL x).take (m + 1)) = M + 1) := Lib.hid (by rw [cnt_succ HE.out, show cnt a b [e] = 1 by simp [cnt, ge, lt, hda, hdb], ← HMM.out, Nat.add_assoc])
            have HSet := Lib.hid (HBI3.out.set HST3.out.lt ((M : Int) + 1))
            rw [decide_eq_false hda] at hle
            gi_wp2_with fail
            exact ⟨⟨m + 1, by omega, by go_num, Lib.hid ⟨HST3.out.trans HSet.out.1, by rw [HF.out]; exact HSet.out.2⟩⟩, by simp [intOf]; omega⟩
        · have HF : Hid (cnt a b (flatO ls) = M) := Lib.hid ((cnt_stop HSO.out HPr.out HE.out hdb).trans HMM.out)
          rw [decide_eq_false hdb] at hlb
          gi_wp2_with fail
          exact ⟨T', (Stp.of_below HB6.out HTl.out).trans HST3.out, rfl, by rw [HF.out]; exact HBI3.out⟩
      · have he : m = n := by omega
        subst he
        have HF : Hid (cnt a b (flatO (pre ++ [x])) = cnt a b (flatO pre) + cnt a b ((leafL x).take m)) := Lib.hid (by rw [List.take_of_length_le (by rw [Hn.out]; exact Nat.le_refl _), flatO_snoc, cnt_append])
        gi_wp2_with fail
        exact ⟨T', (Stp.of_below HB6.out HTl.out).trans HI.out.1, by
          show BoxInt _ _ T' wr (cnt a b (flatO (pre ++ [x])) : Int)
          rw [HF.out]
          exact HI.out.2⟩
  case done =>
    rintro D T' W' hj hst hD hTD hh
    have HBW := Lib.hid (HB2.out.trans (hst.below (by omega) fun k hk => by omega))
    have HD : Hid (∀ E ∈ [D], w.heap.size ≤ E ∧ ¬ T' E) := Lib.hid fun E hE => by rw [List.mem_singleton] at hE; subst hE; exact ⟨by omega, hTD⟩
    have HH : Hid (∀ E ∈ [D], W'.heap[E]? = some (.deferred (some []))) := Lib.hid fun E hE => by rw [List.mem_singleton] at hE; subst hE; exact hh
    have hbx := hj.box.cell
    clear hj hst hD hTD hh hs1 hs2
    gi_wp2_with fail
    refine leaves_marks [D] W' (by simp) HH.out fun w' hs => ?_
    exact ⟨_, results_tmp rfl _ _ _, rfl, HBW.out.trans ((shut_below hs fun E hE => (HD.out E hE).1))⟩
  case stop =>
    rintro D c pre T' W' hne hpre ⟨rfl, hj⟩ hst hD hTD hh
    have HBW := Lib.hid (HB2.out.trans (hst.below (by omega) fun k hk => by omega))
    have HD : Hid (∀ E ∈ [D], w.heap.size ≤ E ∧ ¬ T' E) := Lib.hid fun E hE => by rw [List.mem_singleton] at hE; subst hE; exact ⟨by omega, hTD⟩
    have HH : Hid (∀ E ∈ [D], W'.heap[E]? = some (.deferred (some []))) := Lib.hid fun E hE => by rw [List.mem_singleton] at hE; subst hE; exact hh
    have hbx := hj.box.cell
    clear hj hne hpre hst hD hTD hh hs1 hs2
    gi_wp2_with fail
    refine leaves_marks [D] W' (by simp) HH.out fun w' hs => ?_
    exact ⟨_, results_tmp rfl _ _ _, rfl, HBW.out.trans ((shut_below hs fun E hE => (HD.out E hE).1))⟩

end Go.Proofs.Ytcoaloignmkemaa
