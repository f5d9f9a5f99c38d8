/-
  The contracts of the ledger's New, Take and Abort, of a ledger and of none; conditions stand at each.
-/
import Derived.Test.YtpchihgdcpbjiaaLedSmall
namespace Go.Proofs.Ytpchihgdcpbjiaa
open Go.RowKit Go.Sort
set_option linter.unusedVariables false
set_option linter.unusedSimpArgs false

/-- What Take leaves. -/
def TakePost (w : World) (b n : Nat) (o v t : Nat → Bool) (e : Ending) (w' : World) : Prop := match least (fr o v t) n with
  | some k => e = .returned (.tuple #[.int .i64 (k : Int), .int .i64 0]) ∧ Led w' b n o v (mark1 t k) ∧ Keep (fun i => i = b) w w'
  | none => e = .returned (.tuple #[.int .i64 0, .int .i64 8]) ∧ w' = w
theorem ldTake_nil (w : World) : Calls Try.prog 12 #[.pointer none] w fun e w' => e = .returned (.tuple #[.int .i64 0, .int .i64 8]) ∧ w' = w := by
  go_enter Try.func12, Try.ntmps12
  go_wp2_with fail
  refine (ldCount_nil w).mono ?_
  rintro e w1 ⟨rfl, rfl⟩
  go_wp2
  refine wp_loop_rounds 1 ?_
  rw [rounds_succ]
  go_wp2
  go_ret2
  exact ⟨rfl, by trivial⟩
set_option maxRecDepth 100000 in
set_option maxHeartbeats 1000000 in
theorem ldTake_any {w : World} {b n : Nat} {o v t : Nat → Bool} (hd : Led w b n o v t) : Calls Try.prog 12 #[.pointer (some ⟨b, 0, none⟩)] w (TakePost w b n o v t) := by
  have hs := hd.small
  have HD := Lib.hid hd
  clear hd
  go_enter Try.func12, Try.ntmps12
  go_wp2_with fail
  refine (ldCount_any HD.out).mono ?_
  rintro e w1 ⟨rfl, rfl⟩
  go_wp2
  go_loopw [7] (fun i wr => ∃ k : Nat, k ≤ n ∧ i = .int .i64 k ∧ Hid (∀ j, j < k → fr o v t j = false) ∧ wr = w1) (fun i _ => n - (intOf i).toNat)
  case atStart => exact ⟨0, Nat.zero_le _, rfl, Lib.hid fun j hj => absurd hj (by omega), rfl⟩
  case round =>
    obtain ⟨k, hk, rfl, HL, rfl⟩ := hrel
    by_cases hlt : k < n
    · have h5 : (k : Int) < 512 := by omega
      have hf := HD.out.free (1025 + k)
      have hc := HD.out.ct (i := k) (by omega)
      go_wp2_with fail
      refine (ldFree_any HD.out k hlt).mono ?_
      rintro e w1 ⟨rfl, rfl⟩
      cases hfr : fr o v t k
      · have HF := Lib.hid hfr
        clear hfr
        go_wp2
        exact ⟨⟨k + 1, by omega, by go_num, Lib.hid fun j hj => by
          rcases Nat.lt_or_ge j k with h | h
          · exact HL.out j h
          · have : j = k := by omega
            subst this
            exact HF.out, by trivial⟩, by simp [intOf]; omega⟩
      · have HF := Lib.hid hfr
        clear hfr
        go_wp2
        go_ret2
        unfold TakePost
        rw [least_some hlt HF.out HL.out]
        refine ⟨rfl, HD.out.take (by omega), (Keep.refl (fun i => i = b) _).set (p := ⟨b, 1025 + k, none⟩) (.inl rfl) _⟩
    · have he : k = n := by omega
      subst he
      go_wp2
      go_ret2
      unfold TakePost
      rw [least_none HL.out]
      exact ⟨rfl, by trivial⟩

theorem ldAbort_nil (w : World) : Calls Try.prog 16 #[.pointer none] w fun e w' => e = .returned (.tuple #[]) ∧ w' = w := by
  go_enter Try.func16, Try.ntmps16
  go_wp2
  refine bodyPost_ret (results_none rfl _ _ _) rfl ?_
  exact ⟨rfl, by trivial⟩
theorem mzero : (Try.prog.info? 48).map (fun i => (i.zero, i.size)) = some (some (.agg (ba noMark)), 512) := by kernel_rfl
set_option maxRecDepth 100000 in
theorem ldAbort_any {w : World} {b n : Nat} {o v t : Nat → Bool} (hd : Led w b n o v t) : Calls Try.prog 16 #[.pointer (some ⟨b, 0, none⟩)] w fun e w' => e = .returned (.tuple #[]) ∧ Led w' b n o v noMark ∧ Keep (fun i => i = b) w w' := by
  have hz := (zero_of_info mzero).1
  have hs := run_store_marks noMark (hd.there (q := 1025) (by omega) noMark)
  have HE := Lib.hid (show Led (w.setCells b 1025 (ba noMark).toList) b n o v noMark ∧ Keep (fun i => i = b) w (w.setCells b 1025 (ba noMark).toList) from ⟨hd.lay3 noMark, (Keep.refl (fun i => i = b) w).cells (.inl rfl)⟩)
  clear hd
  generalize w.setCells b 1025 (ba noMark).toList = w1 at hs HE
  have hzs := ba_size noMark
  generalize ba noMark = Z at hz hs hzs
  go_enter Try.func16, Try.ntmps16
  go_wp2
  go_end0
  exact ⟨rfl, HE.out⟩

/-- The zero ledger's cells. -/
def zled : Array Value := ([Value.int .i64 0] ++ (bl noMark ++ (bl noMark ++ bl noMark))).toArray
theorem zinfo : (Try.prog.info? 50).map (fun i => (i.zero, i.size)) = some (some (.agg zled), 1537) := by kernel_rfl
theorem zled_at {i : Nat} (hi : i < 512) : zled[1 + i]? = some (.bool false) ∧ zled[513 + i]? = some (.bool false) ∧ zled[1025 + i]? = some (.bool false) := by
  have h1 := bl_at noMark hi
  have e : noMark i = false := rfl
  rw [e] at h1
  unfold zled
  simp only [List.getElem?_toArray]
  refine ⟨?_, ?_, ?_⟩
  · rw [List.getElem?_append_right (by rw [List.length_singleton]; omega), List.getElem?_append_left (by simp only [bl_len, List.length_singleton]; omega)]
    simpa using h1
  · rw [List.getElem?_append_right (by rw [List.length_singleton]; omega), List.getElem?_append_right (by simp only [bl_len, List.length_singleton]; omega), List.getElem?_append_left (by simp only [bl_len, List.length_singleton]; omega)]
    simpa only [bl_len, List.length_singleton, show 513 + i - 1 - 512 = i by omega] using h1
  · rw [List.getElem?_append_right (by rw [List.length_singleton]; omega), List.getElem?_append_right (by simp only [bl_len, List.length_singleton]; omega), List.getElem?_append_right (by simp only [bl_len, List.length_singleton]; omega)]
    simpa only [bl_len, List.length_singleton, show 1025 + i - 1 - 512 - 512 = i by omega] using h1
theorem zled_size : zled.size = 1537 := by simp [zled, bl_len]
theorem box_new (n : Nat) : Box (zled.setIfInBounds 0 (.int .i64 (n : Int))) n noMark noMark noMark := by
  refine ⟨by rw [Array.size_setIfInBounds]; exact zled_size, Array.getElem?_setIfInBounds_self_of_lt (by rw [zled_size]; omega), fun i hi => ?_, fun i hi => ?_, fun i hi => ?_⟩
  · rw [Array.getElem?_setIfInBounds_ne (by omega)]
    exact (zled_at hi).1
  · rw [Array.getElem?_setIfInBounds_ne (by omega)]
    exact (zled_at hi).2.1
  · rw [Array.getElem?_setIfInBounds_ne (by omega)]
    exact (zled_at hi).2.2
theorem led_new {w : World} {n : Nat} {cs : Array Value} (hb : Box cs n noMark noMark noMark) (hn : n ≤ 512) : Led (w.alloc (.cells cs 50)) w.heap.size n noMark noMark noMark := ⟨⟨cs, heap_alloc_new w _, hb⟩, hn⟩
set_option maxRecDepth 100000 in
theorem ldNew_any (x : Int) (w : World) : Calls Try.prog 10 #[.int .i64 x] w fun e w' => ∃ b, e = .returned (.pointer (some ⟨b, 0, none⟩)) ∧ Led w' b (clampN x) noMark noMark noMark ∧ w.heap.size ≤ b ∧ Below w.heap.size w w' := by
  have hp := clampN_le x
  obtain ⟨m, hm⟩ : ∃ m, m = clampN x := ⟨_, rfl⟩
  have hm2 : (min (max x 0) 512 : Int) = (m : Int) := by rw [hm]; unfold clampN; omega
  rw [← hm] at hp ⊢
  have Hm := Lib.hid hm
  clear hm
  have hz := (zero_of_info zinfo).1
  have hne : ¬ zled = #[] := fun h => by
    have := zled_size
    rw [h] at this
    simp at this
  have HB := Lib.hid (box_new m)
  generalize zled = cs at hz hne HB
  go_enter Try.func10, Try.ntmps10
  go_wp2
  go_ret
  exact ⟨_, rfl, led_new HB.out hp, Nat.le_refl _, (Below.refl _ _).alloc (Nat.le_refl _) _⟩

end Go.Proofs.Ytpchihgdcpbjiaa
