/-
  WalkAgain: a walk can be begun again, and left in the midst, and goes on as the first one did; one within another one goes its own way; for every list, key and number; no condition beyond the row's.
-/
import Derived.Test.YtcoaloignmkemaaWalkOut
namespace Go.Proofs.Ytcoaloignmkemaa
open Go.RowKit Go.Sort Go.Shelf Go.ChangeShapes Go.WideShapes Rt
set_option linter.unusedVariables false
set_option linter.unusedSimpArgs false
attribute [local go_sem] Oper.semAt_some wide_fn wide_depth

theorem run_store_fn {P : Program} {w : World} {a : Addr} {m : Mode} (f : Fn) (x y : Array Value) : (store a (.func f x y) m).run P w = stored P w a (.func f x y) m := run_store P w a _ m rfl
attribute [local go_sem] run_store_fn

set_option maxRecDepth 100000 in
set_option maxHeartbeats 16000000 in
theorem walkAgain_walk (A : Option Addr) (n c : Nat) (l : List Ent) (key : ByteArray) (most : Int) (w : World) (ha : Arg w A n c l) (hkk : key.size ≤ 140737488351232) (hm : (Lit.int .u8 most).wf = true) :
    Calls Try.prog 6 #[.slice A n c, .string key, .int .u8 most] w fun r w' => r = .returned (.bool true) ∧ Below w.heap.size w w' := by
  have HA := Lib.hid ha
  obtain ⟨Mo, hMo, rfl⟩ : ∃ B : Nat, B ≤ 255 ∧ most = (B : Int) := by
    have : 0 ≤ most ∧ most ≤ 255 := by simpa [Lit.wf, IntKind.min, IntKind.max, IntKind.signed, IntKind.bits] using hm
    exact ⟨most.toNat, by omega, by omega⟩
  clear ha hm
  refine callsIn_wide (n := 0).1 (callsIn_of_wp_marks Try.func6 rfl trivial ?_ rfl)
  simp only [Try.ntmps6, List.size_toArray, List.length_cons, List.length_nil, Nat.reduceAdd, Nat.reduceSub, Array.replicate_succ, Array.replicate_zero, List.push_toArray, List.append_toArray, List.nil_append, List.cons_append]
  gi_wp2_with fail
  obtain ⟨w0, hw0⟩ : ∃ w0, (w.alloc (.cells #[.int .u8 (Mo : Int)] 5)).alloc (.cells #[.bool false] 4) = w0 := ⟨_, rfl⟩
  have hb0 : Below w.heap.size w w0 := by rw [← hw0]; exact ((Below.refl _ _).alloc (Nat.le_refl _) _).alloc (by simp) _
  have hx0 : Boxed w0 w.heap.size 5 (.int .u8 (Mo : Int)) := by rw [← hw0]; exact (Boxed.new w _ _).alloc _
  have hr0 : Boxed w0 (w.heap.size + 1) 4 (.bool false) := by
    rw [← hw0]
    have := Boxed.new (w.alloc (.cells #[.int .u8 (Mo : Int)] 5)) 4 (.bool false)
    rwa [World.size_alloc] at this
  rw [hw0]
  refine CallsIn.mono (callsIn_wide.2 (wkAwake_any w0)) ?_
  rintro r w1 ⟨rfl, hb1⟩
  have HA1 := Lib.hid (show Arg w1 A n c l from ⟨HA.out.len, HA.out.cap, HA.out.small, HA.out.es.below (bthen hb0 hb1), HA.out.strs⟩)
  have HB1 := Lib.hid (bthen hb0 hb1)
  have HX1 : Hid (Boxed w1 w.heap.size 5 (.int .u8 (Mo : Int))) := Lib.hid ((hb1.block _ hx0.lt).trans hx0)
  have HR1 : Hid (Boxed w1 (w.heap.size + 1) 4 (.bool false)) := Lib.hid ((hb1.block _ hr0.lt).trans hr0)
  clear hb1 hw0 hb0 hx0 hr0
  gi_wp2_with fail
  refine CallsIn.mono (callsIn_wide.2 (wkBuilt_any A n c l w1 HA1.out)) ?_
  rintro r w2 ⟨T, v, ⟨q, rfl⟩, ht, ho, hl, hb2⟩
  obtain ⟨A2, c2, rfl, hc2, hes⟩ := ho.form
  have HB2 := Lib.hid (bthen HB1.out hb2)
  have HX2 : Hid (Boxed w2 w.heap.size 5 (.int .u8 (Mo : Int))) := Lib.hid ((hb2.block _ HX1.out.lt).trans HX1.out)
  have HR2 : Hid (Boxed w2 (w.heap.size + 1) 4 (.bool false)) := Lib.hid ((hb2.block _ HR1.out.lt).trans HR1.out)
  have HT := Lib.hid ht
  have HES := Lib.hid hes
  obtain ⟨m, hmm⟩ : ∃ m, (tl T).length = m := ⟨_, rfl⟩
  rw [hmm] at hl hc2 ⊢
  have HM := Lib.hid hmm
  obtain ⟨pt, hpt⟩ : ∃ pt, tb T = .pointer pt := ⟨_, rfl⟩
  rw [hpt]
  have HP := Lib.hid hpt
  have hrc := HR2.out.cell
  have hrf := HR2.out.frozen
  have HSet : Hid (∀ w' : World, w' = w2.setCell ⟨w.heap.size + 1, 0, none⟩ (.bool true) → w'.cell? ⟨w.heap.size + 1, 0, none⟩ = some (.bool true) ∧ Below w.heap.size w w') := Lib.hid fun w' e => by
    subst e
    exact ⟨(HR2.out.set (.bool true)).cell, HB2.out.setCell (p := ⟨w.heap.size + 1, 0, none⟩) (by simp) _⟩
  clear ht ho hes hb2 hmm hpt
  cases q with
  | false =>
    gi_wp2_with fail
    obtain ⟨h1, h2⟩ := HSet.out _ rfl
    refine ⟨.bool true, ?_, rfl, h2⟩
    simp [results, Try.f6, go_sem, h1]
  | true =>
    by_cases hbig : 2000 < key.size
    · gi_wp2_with fail
      obtain ⟨h1, h2⟩ := HSet.out _ rfl
      refine ⟨.bool true, ?_, rfl, h2⟩
      simp [results, Try.f6, go_sem, h1]
    by_cases h40 : 40 < m
    · gi_wp2_with fail
      obtain ⟨h1, h2⟩ := HSet.out _ rfl
      refine ⟨.bool true, ?_, rfl, h2⟩
      simp [results, Try.f6, go_sem, h1]
    gi_wp2_with fail
    refine CallsIn.mono (callsIn_wide.2 (from_made w2 _ key)) ?_
    rintro r w3 ⟨rfl, rfl⟩
    have hb3 := boxed2_below w2 (.pointer pt) key
    have hs3 := boxed2_size w2 (.pointer pt) key
    have hBn := boxed2_n w2 (.pointer pt) key
    have hBk := boxed2_k w2 (.pointer pt) key
    obtain ⟨w3, hw3⟩ : ∃ w3, boxed2 w2 (.pointer pt) key = w3 := ⟨_, rfl⟩
    rw [hw3] at hb3 hs3 hBn hBk ⊢
    have HB3 := Lib.hid hb3
    have HS3 := Lib.hid hs3
    have HBn := Lib.hid hBn
    have HBk := Lib.hid hBk
    obtain ⟨fv, hfv⟩ : ∃ fv : Value, fv = .func (.func 27) #[] #[pb w2.heap.size, pb (w2.heap.size + 1)] := ⟨_, rfl⟩
    obtain ⟨w5, hw5⟩ : ∃ w5, (w3.alloc (.cells #[.func (.func 27) #[] #[pb w2.heap.size, pb (w2.heap.size + 1)]] 28)).alloc (.cells #[.int .i64 0] 3) = w5 := ⟨_, rfl⟩
    have hb5 : Below w3.heap.size w3 w5 := by rw [← hw5]; exact ((Below.refl _ _).alloc (Nat.le_refl _) _).alloc (by simp) _
    have hf5 : Boxed w5 w3.heap.size 28 (.func (.func 27) #[] #[pb w2.heap.size, pb (w2.heap.size + 1)]) := by rw [← hw5]; exact (Boxed.new w3 _ _).alloc _
    have hk5 : Boxed w5 (w3.heap.size + 1) 3 (.int .i64 0) := by
      rw [← hw5]
      have := Boxed.new (w3.alloc (.cells #[.func (.func 27) #[] #[pb w2.heap.size, pb (w2.heap.size + 1)]] 28)) 3 (.int .i64 0)
      rwa [World.size_alloc] at this
    have hs5 : w5.heap.size = w3.heap.size + 2 := by rw [← hw5]; simp
    have q5 := hf5.cell
    rw [← hw5] at q5
    have HW5 := Lib.hid hw5
    have HB5 := Lib.hid hb5
    have HF5 := Lib.hid hf5
    have HK5 := Lib.hid hk5
    have HS5 := Lib.hid hs5
    clear HSet hrc hrf hb3 hs3 hBn hBk hw3 hw5 hb5 hf5 hk5 hs5 hfv
    gi_wp2_with fail
    rw [HW5.out]
    obtain ⟨xs, hxs⟩ : ∃ xs, (tl T).filter (ge key) = xs := ⟨_, rfl⟩
    have HXS := Lib.hid hxs
    have HXL : Hid (xs.length ≤ 40) := Lib.hid (by rw [← hxs]; exact Nat.le_trans (List.length_filter_le _ _) (by rw [HM.out]; omega))
    have HIT : Hid (∀ W, Below w3.heap.size w3 W → Gives Try.prog 27 #[pb w2.heap.size, pb (w2.heap.size + 1)] encE xs (Kf w2.heap.size w2.heap.size (w2.heap.size + 1)) W) := Lib.hid fun W hb => by
      have hs3 := HS3.out
      rw [← hxs]
      exact from_gives HT.out key (HB3.out.trans (hb.mono (by omega))) (by rw [HP.out]; exact cell_row ((hb.block _ (by omega)).trans HBn.out) 0 _ rfl) (cell_row ((hb.block _ (by omega)).trans HBk.out) 0 _ rfl)
    have HX5 : Hid (Boxed w5 w.heap.size 5 (.int .u8 (Mo : Int))) := Lib.hid ((HB5.out.block _ (by have := HX2.out.lt; have := HS3.out; omega)).trans ((HB3.out.block _ HX2.out.lt).trans HX2.out))
    have HR5 : Hid (Boxed w5 (w.heap.size + 1) 4 (.bool false)) := Lib.hid ((HB5.out.block _ (by have := HR2.out.lt; have := HS3.out; omega)).trans ((HB3.out.block _ HR2.out.lt).trans HR2.out))
    have HBW5 := Lib.hid (HB2.out.trans ((HB3.out.trans (HB5.out.mono (by have := HS3.out; omega))).mono HB2.out.size))
    have HE5 := Lib.hid (HB3.out.trans (HB5.out.mono (by have := HS3.out; omega)))
    clear hxs q5
    have hs3 := HS3.out
    have hs5 := HS5.out
    have hrl := HR2.out.lt
    refine wpIn_range_out (gf := 27) (lb := #[pb w2.heap.size, pb (w2.heap.size + 1)]) rfl (enters_of Try.func27 (by kernel_rfl) rfl) (encs := encE) (fun _ => rfl) (xs := xs)
      (fun W hb => HIT.out W (HB5.out.trans (hb.mono (by omega)))) (T := fun i => i = w3.heap.size + 1) (fun i hi => ⟨by omega, fun hK => by rcases hK with hK | hK | hK <;> omega⟩) (fun i hi => by rcases hi with h1 | rfl | rfl <;> omega)
      (fun pre T' W' => BoxInt 3 (w3.heap.size + 1) T' W' ((pre.length : Nat) : Int)) (fun T' W' => True) (fun s T A B j q => BoxInt.abd _ _ _ _ _ j q) (fun s T A B j q => trivial) ⟨HK5.out, rfl⟩ ?roundA (fun _ _ _ => trivial) ?doneA
    case roundA =>
      rintro lo pre e T' W' hpre hj hst hnl hl hrl C hC
      have HC := Lib.hid hC
      have HJ := Lib.hid hj
      have HSr := Lib.hid hst
      have HNl := Lib.hid hnl
      have HLi := Lib.hid (show w3.heap.size + 2 ≤ lo by omega)
      have hpl : pre.length ≤ 40 := by
        have h1 := hpre.length_le
        have h2 := HXL.out
        simp only [List.length_append, List.length_singleton] at h1
        omega
      rw [show encE e = #[.string e.k, .string e.v] from rfl]
      obtain ⟨M, hM⟩ : ∃ M : Nat, pre.length = M := ⟨_, rfl⟩
      have HM2 : Hid ((pre ++ [e]).length = M + 1) := Lib.hid (by rw [List.length_append, List.length_singleton, hM])
      rw [hM] at HJ hpl
      have HMo := Lib.hid (hst.block HX5.out (by show ¬ _ = _; omega))
      clear hpre hj hst hnl hl hrl hC hs3 hs5 hM
      gi_wp2_with fail
      refine HC.out _ _ (Below.refl _ _) fun W'' hB => ?_
      have HB3' := Lib.hid (BoxInt.abd w3.heap.size _ _ _ _ HJ.out (hB.qt (by have := HLi.out; omega) HNl.out))
      have HTl : Hid (∀ i, T' i → i < W''.heap.size) := Lib.hid fun i hi => by rw [hB.size]; exact HSr.out.lt i hi
      have HSet := Lib.hid (HB3'.out.set HTl.out ((M : Int) + 1))
      have hcx := HB3'.out.box.cell
      have hfx := HB3'.out.box.frozen
      have hmo := cell_row ((hB.same _ (by have := HLi.out; have := HX2.out.lt; have := HS3.out; omega)).trans HMo.out) 0 _ rfl
      have q6 : (W''.setCell ⟨w3.heap.size + 1, 0, none⟩ (.int .i64 ((M : Int) + 1))).cell? ⟨w.heap.size, 0, none⟩ = some (.int .u8 (Mo : Int)) := by
        refine (World.cell?_of_block (w := W'') (Below.heap_setCell _ _ _ _ ?_)).trans hmo
        have := HX2.out.lt
        have := HS3.out
        show w.heap.size ≠ w3.heap.size + 1
        omega
      have q7 := HSet.out.2.box.cell
      have hmod : ((Mo : Int)).tmod 5 = ((Mo % 5 : Nat) : Int) := rfl
      clear hB hmo
      by_cases hgt : Mo % 5 < M + 1
      · have hd : decide (((Mo % 5 : Nat) : Int) < (M : Int) + 1) = true := decide_eq_true (by omega)
        gi_wp2_with fail
        exact ⟨T', HSet.out.1, rfl⟩
      · have hd : decide (((Mo % 5 : Nat) : Int) < (M : Int) + 1) = false := decide_eq_false (by omega)
        gi_wp2_with fail
        exact ⟨T', HSet.out.1, by
          show BoxInt _ _ T' _ (((pre ++ [e]).length : Nat) : Int)
          rw [HM2.out]
          exact HSet.out.2⟩
    intro D1 T1 W1 _ hst hD hTD hh
    have HST1 := Lib.hid hst
    have HD1 := Lib.hid (And.intro hD (And.intro hTD hh))
    have HE1 := Lib.hid (HE5.out.trans (hst.below (by omega) fun k hk => by omega))
    have HR1' := Lib.hid (hst.block HR5.out (by show ¬ _ = _; omega))
    have HF1 : Hid (Boxed W1 w3.heap.size 28 (.func (.func 27) #[] #[pb w2.heap.size, pb (w2.heap.size + 1)])) := Lib.hid (hst.block HF5.out (by show ¬ _ = _; omega))
    have HI1 : Hid (Below w3.heap.size w3 W1) := Lib.hid (HB5.out.trans (hst.below (by omega) fun k hk => by omega))
    have HS1' : Hid (w3.heap.size + 2 ≤ W1.heap.size) := Lib.hid (by have := hst.fx.size; omega)
    clear hst hD hTD hh hs3 hs5 hrl
    gi_wp2_with fail
    refine CallsIn.mono (callsIn_wide.2 (refFrom_any A2 m c2 (tl T) key W1 (HES.out.below HE1.out) HM.out (by omega))) ?_
    rintro r w7 ⟨v7, rfl, ho7, hb7⟩
    rw [HXS.out] at ho7
    obtain ⟨A3, c3, rfl, hc3, hes7⟩ := ho7.form
    have HA3 := Lib.hid ho7.addr_ge
    obtain ⟨x, hx⟩ : ∃ x, xs.length = x := ⟨_, rfl⟩
    rw [hx] at hc3 ⊢
    have HX := Lib.hid hx
    have HXl : Hid (x ≤ 40) := Lib.hid (by rw [← hx]; exact HXL.out)
    obtain ⟨w8, hw8⟩ : ∃ w8, (w7.alloc (.cells #[.slice A3 x c3] 22)).alloc (.cells #[.int .i64 0] 3) = w8 := ⟨_, rfl⟩
    have hb8 : Below w7.heap.size w7 w8 := by rw [← hw8]; exact ((Below.refl _ _).alloc (Nat.le_refl _) _).alloc (by simp) _
    have hwt8 : Boxed w8 w7.heap.size 22 (.slice A3 x c3) := by rw [← hw8]; exact (Boxed.new w7 _ _).alloc _
    have hi8 : Boxed w8 (w7.heap.size + 1) 3 (.int .i64 0) := by
      rw [← hw8]
      have := Boxed.new (w7.alloc (.cells #[.slice A3 x c3] 22)) 3 (.int .i64 0)
      rwa [World.size_alloc] at this
    have hs8 : w8.heap.size = w7.heap.size + 2 := by rw [← hw8]; simp
    have hb18 := bthen hb7 hb8
    have hf8 : Boxed w8 w3.heap.size 28 (.func (.func 27) #[] #[pb w2.heap.size, pb (w2.heap.size + 1)]) := (hb18.block _ HF1.out.lt).trans HF1.out
    have q8 := hf8.cell
    rw [← hw8] at q8
    have HW8 := Lib.hid hw8
    have HB18 := Lib.hid hb18
    have HES8 := Lib.hid (hes7.below hb8)
    have HWT8 := Lib.hid hwt8
    have HI8 := Lib.hid hi8
    have HF8 := Lib.hid hf8
    have HS8 := Lib.hid hs8
    have HS7 : Hid (W1.heap.size ≤ w7.heap.size) := Lib.hid hb7.size
    have HR8 : Hid (Boxed w8 (w.heap.size + 1) 4 (.bool false)) := Lib.hid ((hb18.block _ (Array.getElem?_eq_some_iff.1 HR1'.out).1).trans HR1'.out)
    clear ho7 hes7 hx hw8 hb8 hwt8 hi8 hs8 hb18 hf8 hb7
    gi_wp2_with fail
    rw [HW8.out]
    have hs3 := HS3.out
    have hs8 := HS8.out
    have hs7 := HS7.out
    have hs1' := HS1'.out
    clear q8
    refine wpIn_range_out (gf := 27) (lb := #[pb w2.heap.size, pb (w2.heap.size + 1)]) rfl (enters_of Try.func27 (by kernel_rfl) rfl) (encs := encE) (fun _ => rfl) (xs := xs)
      (fun W hb => HIT.out W ((HI1.out.trans (HB18.out.mono (by omega))).trans (hb.mono (by omega)))) (T := fun i => i = w7.heap.size + 1) (fun i hi => ⟨by omega, fun hK => by rcases hK with hK | hK | hK <;> omega⟩) (fun i hi => by rcases hi with h1 | rfl | rfl <;> omega)
      (fun pre T' W' => BoxInt 3 (w7.heap.size + 1) T' W' ((pre.length : Nat) : Int)) (fun T' W' => BoxInt 3 (w7.heap.size + 1) T' W' ((x : Nat) : Int)) (fun s T A B j q => BoxInt.abd _ _ _ _ _ j q) (fun s T A B j q => BoxInt.abd _ _ _ _ _ j q) ⟨HI8.out, rfl⟩ ?roundB (fun T' W' h => by rw [HX.out] at h; exact h) ?doneB
    case roundB =>
      rintro lo pre e T' W' hpre hj hst hnl hl hrl C hC
      have HC := Lib.hid hC
      have HJ := Lib.hid hj
      have HSr := Lib.hid hst
      have HNl := Lib.hid hnl
      have HLi := Lib.hid (show w7.heap.size + 2 ≤ lo by omega)
      have HPr := Lib.hid hpre
      rw [show encE e = #[.string e.k, .string e.v] from rfl]
      obtain ⟨M, hM⟩ : ∃ M : Nat, pre.length = M := ⟨_, rfl⟩
      have HM2 : Hid ((pre ++ [e]).length = M + 1) := Lib.hid (by rw [List.length_append, List.length_singleton, hM])
      have hxe : xs[M]? = some e := by
        obtain ⟨r, hr⟩ := hpre
        rw [← hr, ← hM]
        simp
      have hMx : M < x := by rw [← HX.out]; exact (List.getElem?_eq_some_iff.1 hxe).1
      have hx40 : x ≤ 40 := HXl.out
      have HXE := Lib.hid hxe
      rw [hM] at HJ
      clear hpre hj hst hnl hl hrl hC hs3 hs8 hs7 hs1' hM hxe
      gi_wp2_with fail
      refine HC.out _ _ (Below.refl _ _) fun W'' hB => ?_
      have HB3' := Lib.hid (BoxInt.abd w7.heap.size _ _ _ _ HJ.out (hB.qt (by have := HLi.out; omega) HNl.out))
      have HTl : Hid (∀ i, T' i → i < W''.heap.size) := Lib.hid fun i hi => by rw [hB.size]; exact HSr.out.lt i hi
      have hkeep : ∀ k, k < w8.heap.size → k ≠ w7.heap.size + 1 → W''.heap[k]? = w8.heap[k]? := fun k hk hne => (hB.same k (by have := HLi.out; have := HS8.out; omega)).trans (HSr.out.same k hk hne)
      have HWT := Lib.hid ((hkeep _ HWT8.out.lt (by omega)).trans HWT8.out)
      have HFF : Hid (Boxed W'' w3.heap.size 28 (.func (.func 27) #[] #[pb w2.heap.size, pb (w2.heap.size + 1)])) := Lib.hid ((hkeep _ HF8.out.lt (by have := HS1'.out; have := HS7.out; omega)).trans HF8.out)
      have HEW := Lib.hid (HES8.out.keepB (fun ad h => hkeep _ (by have := (HA3.out ad h).2; have := HS8.out; omega) (by have := (HA3.out ad h).2; omega)) (by rw [hB.size]; exact HSr.out.fx.size))
      have HSZ : Hid (w7.heap.size + 2 ≤ W''.heap.size) := Lib.hid (by rw [hB.size]; have := HSr.out.fx.size; have := HS8.out; omega)
      have HLo := Lib.hid hB.loop
      have HBI : Hid (Below w3.heap.size w3 W'') := Lib.hid ((HI1.out.trans (HB18.out.mono (by have := HS1'.out; omega))).trans ⟨(hB.os.trans HSr.out.fx.os), (hB.tape.trans HSr.out.fx.tape), (hB.output.trans HSr.out.fx.output), by rw [hB.size]; exact HSr.out.fx.size, fun k hk => hkeep k (by have := HS1'.out; have := HS7.out; have := HS8.out; omega) (by have := HS1'.out; have := HS7.out; omega)⟩)
      have hic := HB3'.out.box.cell
      have hwc : W''.cell? ⟨w7.heap.size, 0, none⟩ = some (.slice A3 x c3) := cell_row HWT.out 0 _ rfl
      obtain ⟨ad, y, had, hy, hadl, h1, h2⟩ := HEW.out.at_ (i := M) (by rw [HX.out]; exact hMx)
      have hye : y = e := Option.some.inj (hy.symm.trans HXE.out)
      subst hye
      subst had
      have hneq := neq_same y.k y.v
      clear hB hkeep hy
      obtain ⟨w9, hw9⟩ : ∃ w9, W''.alloc (.cells #[.int .i64 0] 3) = w9 := ⟨_, rfl⟩
      have hb9 : Below W''.heap.size W'' w9 := by rw [← hw9]; exact (Below.refl _ _).alloc (Nat.le_refl _) _
      have hj9 : Boxed w9 W''.heap.size 3 (.int .i64 0) := by rw [← hw9]; exact Boxed.new W'' _ _
      have hs9 : w9.heap.size = W''.heap.size + 1 := by rw [← hw9]; simp
      have hf9 : Boxed w9 w3.heap.size 28 (.func (.func 27) #[] #[pb w2.heap.size, pb (w2.heap.size + 1)]) := (hb9.block _ HFF.out.lt).trans HFF.out
      have q9 := hf9.cell
      rw [← hw9] at q9
      have HW9 := Lib.hid hw9
      have HB9 := Lib.hid hb9
      have HJ9 := Lib.hid hj9
      have HS9 := Lib.hid hs9
      have HES9 := Lib.hid (HEW.out.below hb9)
      have HWT9 : Hid (Boxed w9 w7.heap.size 22 (.slice (some ad) x c3)) := Lib.hid ((hb9.block _ (Array.getElem?_eq_some_iff.1 HWT.out).1).trans HWT.out)
      have HLo9 : Hid (∃ r, w9.heap[lo]? = some (.loop r)) := Lib.hid (by obtain ⟨r, hr⟩ := HLo.out; exact ⟨r, (hb9.block _ (Array.getElem?_eq_some_iff.1 hr).1).trans hr⟩)
      clear hw9 hb9 hj9 hs9 hf9
      gi_wp2_with fail
      rw [HW9.out]
      have hs9 := HS9.out
      have hsz := HSZ.out
      have hs1' := HS1'.out
      have hs7 := HS7.out
      have hs3 := HS3.out
      refine wpIn_rangeIn (l₀ := lo) HLo9.out (gf := 27) (lb := #[pb w2.heap.size, pb (w2.heap.size + 1)]) rfl (enters_of Try.func27 (by kernel_rfl) rfl) (encs := encE) (fun _ => rfl) (xs := xs)
        (fun W hb => HIT.out W ((HBI.out.trans (HB9.out.mono (by omega))).trans (hb.mono (by omega)))) (T := fun i => i = W''.heap.size) (fun i hi => ⟨by omega, fun hK => by rcases hK with hK | hK | hK <;> omega⟩) (fun i hi => by rcases hi with h1 | rfl | rfl <;> omega)
        (fun pre T' W' => BoxInt 3 W''.heap.size T' W' ((pre.length : Nat) : Int)) (fun _ _ _ _ => False) (fun s T A B j q => BoxInt.abd _ _ _ _ _ j q) (fun c s T A B j q => j) ⟨HJ9.out, rfl⟩ ?roundC ?doneC (fun _ _ _ _ _ _ h => h.elim)
      case roundC =>
        rintro l2 pre2 e2 T2 W2 hpre hj hst hnl hl hrl C2 hC2
        have HC2 := Lib.hid hC2
        have HJ2 := Lib.hid hj
        have HSr2 := Lib.hid hst
        have HNl2 := Lib.hid hnl
        have HLi2 := Lib.hid (show W''.heap.size + 1 ≤ l2 by omega)
        rw [show encE e2 = #[.string e2.k, .string e2.v] from rfl]
        obtain ⟨M2, hM2⟩ : ∃ M : Nat, pre2.length = M := ⟨_, rfl⟩
        have HM22 : Hid ((pre2 ++ [e2]).length = M2 + 1) := Lib.hid (by rw [List.length_append, List.length_singleton, hM2])
        have hxe2 : xs[M2]? = some e2 := by
          obtain ⟨r, hr⟩ := hpre
          rw [← hr, ← hM2]
          simp
        have hMx2 : M2 < x := by rw [← HX.out]; exact (List.getElem?_eq_some_iff.1 hxe2).1
        have HXE2 := Lib.hid hxe2
        rw [hM2] at HJ2
        clear hpre hj hst hnl hl hrl hC2 hs9 hsz hs1' hs7 hs3 hM2 hxe2 q9 hic hwc h1 h2 hneq
        gi_wp2_with fail
        refine HC2.out _ _ (Below.refl _ _) fun W3 hB => ?_
        have HB4 := Lib.hid (BoxInt.abd w7.heap.size _ _ _ _ HJ2.out (hB.qt (by have := HLi2.out; have := HSZ.out; omega) HNl2.out))
        have HTl2 : Hid (∀ i, T2 i → i < W3.heap.size) := Lib.hid fun i hi => by rw [hB.size]; exact HSr2.out.lt i hi
        have hkeep : ∀ k, k < W''.heap.size → W3.heap[k]? = w9.heap[k]? := fun k hk => (hB.same k (by have := HLi2.out; omega)).trans (HSr2.out.same k (by have := HS9.out; omega) (by show ¬ _ = _; omega))
        have hwc := cell_row ((hkeep _ (Array.getElem?_eq_some_iff.1 HWT.out).1).trans HWT9.out) 0 _ rfl
        have hes3 := HES9.out.keepB (w' := W3) (fun ad2 h => by cases h; exact hkeep _ hadl) (by rw [hB.size]; exact HSr2.out.fx.size)
        obtain ⟨ad2, y2, had2, hy2, hadl2, g1, g2⟩ := hes3.at_ (i := M2) (by rw [HX.out]; exact hMx2)
        cases had2
        have hye2 : y2 = e2 := Option.some.inj (hy2.symm.trans HXE2.out)
        subst hye2
        have HSet := Lib.hid (HB4.out.set HTl2.out ((M2 : Int) + 1))
        have hjc := HB4.out.box.cell
        have hjf := HB4.out.box.frozen
        clear hB hkeep hes3 hy2
        gi_wp2_with fail
        exact ⟨T2, HSet.out.1, by
          show BoxInt _ _ T2 _ (((pre2 ++ [y2]).length : Nat) : Int)
          rw [HM22.out]
          exact HSet.out.2⟩
      case doneC =>
        intro T2 W4 hj hst
        rw [HX.out] at hj
        have hbC : Below W''.heap.size W'' W4 := HB9.out.trans (hst.below (by omega) fun k hk => by omega)
        have HBC := Lib.hid hbC
        have HB5' := Lib.hid (BoxInt.abd w7.heap.size _ _ _ _ HB3'.out (.of_below hbC))
        have HTl4 : Hid (∀ i, T' i → i < W4.heap.size) := Lib.hid fun i hi => Nat.lt_of_lt_of_le (HTl.out i hi) hbC.size
        have HSet := Lib.hid (HB5'.out.set HTl4.out ((M : Int) + 1))
        have hjc := hj.box.cell
        have hwc4 := cell_row ((hbC.block _ (Array.getElem?_eq_some_iff.1 HWT.out).1).trans HWT.out) 0 _ rfl
        have hic4 := HB5'.out.box.cell
        have hif4 := HB5'.out.box.frozen
        clear hj hst hbC hs9 hsz hs1' hs7 hs3 q9 hic hwc h1 h2 hneq
        gi_wp2_with fail
        exact ⟨T', (Stp.of_below HBC.out HTl.out).trans HSet.out.1, by
          show BoxInt _ _ T' _ (((pre ++ [y]).length : Nat) : Int)
          rw [HM2.out]
          exact HSet.out.2⟩
    intro D2 T2 W2 hj hst hD hTD hh
    have hic := hj.box.cell
    have hwb := hst.block HWT8.out (by show ¬ _ = _; omega)
    have hwc := cell_row hwb 0 _ rfl
    have hrb := hst.block HR8.out (by show ¬ _ = _; have := HR2.out.lt; omega)
    have hrbx : Boxed W2 (w.heap.size + 1) 4 (.bool false) := hrb
    have hrc := hrbx.cell
    have hrf := hrbx.frozen
    have HRB := Lib.hid hrbx
    have HBWf : Hid (Below w.heap.size w W2) := Lib.hid ((HB2.out.trans (HE1.out.mono HB2.out.size)).trans ((HB18.out.mono (by have := HB2.out.size; omega)).trans (hst.below (by have := HB2.out.size; omega) fun k hk => by have := HB2.out.size; omega)))
    have HDS : Hid ([D2, D1].Nodup ∧ ∀ E ∈ [D2, D1], w2.heap.size ≤ E ∧ W2.heap[E]? = some (.deferred (some []))) := Lib.hid (by
      obtain ⟨d1, d2, d3⟩ := HD1.out
      have h1 := (Array.getElem?_eq_some_iff.1 d3).1
      have h5 := HS5.out
      have d4 : W2.heap[D1]? = some (.deferred (some [])) := hst.block ((HB18.out.block _ h1).trans d3) (by show ¬ _ = _; omega)
      refine ⟨by simp; omega, fun E hE => ?_⟩
      rcases List.mem_cons.1 hE with rfl | hE
      · exact ⟨by omega, hh⟩
      · rw [List.mem_singleton] at hE
        subst hE
        exact ⟨by omega, d4⟩)
    clear hj hst hD hTD hh hwb hrb hs3 hs8 hs7 hs1' hrbx
    gi_wp2_with fail
    have hrl : w.heap.size + 1 < w2.heap.size := HR2.out.lt
    refine leaves_marks [D2, D1] _ HDS.out.1 (fun E hE => ?_) fun w' hs => ?_
    · rw [Below.heap_setCell _ _ _ E (by have := (HDS.out.2 E hE).1; show E ≠ w.heap.size + 1; omega)]
      exact (HDS.out.2 E hE).2
    · have hbx : Boxed w' (w.heap.size + 1) 4 (.bool true) := (hs.2 _ fun hm => by have := (HDS.out.2 _ hm).1; omega).trans (HRB.out.set _)
      have hcx := hbx.cell
      refine ⟨.bool true, ?_, rfl, (HBWf.out.setCell (p := ⟨w.heap.size + 1, 0, none⟩) (by simp) _).trans (shut_below hs fun E hE => by have := (HDS.out.2 E hE).1; omega)⟩
      simp [results, Try.f6, go_sem, hcx]

end Go.Proofs.Ytcoaloignmkemaa

namespace Go.Proofs.Ytcoaloignmkemaa.walkAgain
open Go.ChangeShapes Go.WideShapes Go.ChangeAt Go.RowKit
open Go.ChangeMaps (open_string shut_string)
set_option linter.unusedVariables false

theorem own : ownKnob Try.prog.godebug = none := by kernel_rfl
theorem laidOut : laidOutB Try.prog = true := by kernel_rfl

set_option maxRecDepth 100000 in
theorem lifted (os : Os) (started : os.Started) (H : Type) (enc : TypeId × Value → H) :
    ReturnsInHanded {} Try.checked os 6 .any (Rows.walkAgainSpec.pre6 enc Try.prog Try.f6 Rows.walkAgainRow.domain false) (Rows.walkAgainSpec.post enc Try.prog Try.f6 false true false false) := by
  refine returnsInHanded_of_change_sized (C := Try.checked) own started (by kernel_rfl) Try.func6
    (ChangeSpec.witness6 (enc := enc) (C := Try.checked) false ⟨#[], #[.slice none 0 0, .string ByteArray.empty, .int .u8 0], []⟩ 8 (by kernel_rfl) (by kernel_rfl) (by kernel_rfl) (by kernel_rfl)) ?_
  intro W base args ds gs before hval0 hW hcnd hsz0 _
  have hval : ∀ (j : Nat) t v, Try.f6.params[j]? = some t → args[j]? = some v → Value.okWide Try.prog W .any base t v := hval0
  have hsz : (DataW.weightsEach Try.prog (Try.f6.params.toList ++ Rows.walkAgainSpec.plain.varTypes Try.prog) (ds ++ gs)).all (· ≤ reachBytes) = true := hsz0
  have hW' := hW
  obtain ⟨p, q, hA0, hV, rfl, hfz, hnd⟩ := hW
  have hA : DataW.TrodAll enc Try.prog W 0 (fun _ => true) true Try.f6.params.toList args.toList ds p := hA0
  rw [Try.params6] at hA hval hsz
  obtain ⟨v0, vs0, d0, ds0, p0, q0, hargs, rfl, rfl, h0, r0⟩ := trodAll_cons hA
  obtain ⟨v1, vs1, d1, ds1, p1, q1, rfl, rfl, rfl, h1, r1⟩ := trodAll_cons r0
  obtain ⟨v2, vs2, d2, ds2, p2, q2, rfl, rfl, rfl, h2, r2⟩ := trodAll_cons r1
  obtain ⟨rfl, rfl, rfl⟩ := trodAll_nil r2
  obtain rfl : args = #[v0, v1, v2] := by cases args; simp_all
  obtain ⟨rfl, rfl⟩ := trodVars_none hV
  obtain ⟨A0, n0, c0, rfl⟩ := okWide_slice Try.underlying22 (hval 0 22 v0 rfl rfl)
  have k0 := h0
  have lt0 : ∀ x ∈ p0, x.block < W.heap.size := by obtain ⟨m, hm⟩ := k0; exact DataW.trod_lt m _ _ _ hm
  obtain ⟨l0, w0⟩ := open_ents h0 (fun m hm => of_decide_eq_true (List.all_eq_true.1 hsz _ (DataW.weights_mem_each (j := 0) (t := 22) rfl rfl m hm)))
  obtain ⟨a1, rfl, rfl, rfl, w1⟩ := open_string Try.underlying9 (hval 1 9 v1 rfl rfl) h1
  obtain ⟨a2, rfl, rfl, rfl, w2⟩ := open_int Try.underlying5 (hval 2 5 v2 rfl rfl) h2
  have z1 : a1.data.toList.length ≤ reachBytes := sized_string hsz (j := 1) (t := 9) rfl rfl
  have y1 : a1.size ≤ 140737488351232 := z1
  clear hA0 hval0 hsz hsz0
  refine (walkAgain_walk A0 n0 c0 l0 a1 a2 W w0 y1 w2).mono fun e W' ⟨he, bel⟩ => ?_
  subst he
  exact ⟨_, rfl, _, _, _, [], _, [], hW', trodAll_mk1 (shut_bool Try.underlying4 _), (trodAll_cons_mk (Below.trod laidOut (by kernel_rfl) (of_decide_eq_true (by kernel_rfl)) k0 bel lt0) (trodAll_cons_mk (shut_string Try.underlying9 w1) (trodAll_cons_mk (shut_int Try.underlying5 w2) trodAll_mk0))), rfl, bel.frame _, fun h => by cases h⟩

theorem over : Rows.walkAgainRow.holds Try.pinned (OpenSpec.ofChange Rows.walkAgainSpec) :=
  OpenClaim.holds_of_wide 6 Try.f6 rfl rfl rfl rfl rfl rfl rfl ⟨rfl, rfl, rfl, rfl, rfl⟩ rfl rfl rfl rfl rfl (by kernel_rfl) Try.func6 (by kernel_rfl)
    (of_decide_eq_true (by kernel_rfl)) (by unfold Func.isWrapper; first | (rw [if_pos (by decide +kernel)]; kernel_rfl) | (rw [if_neg (by decide +kernel)]; exact ⟨rfl, rfl⟩))
    (fun os started H enc _ => lifted os started H enc)

theorem proved : Rows.WalkAgainSaid := over
#print axioms proved

end Go.Proofs.Ytcoaloignmkemaa.walkAgain
