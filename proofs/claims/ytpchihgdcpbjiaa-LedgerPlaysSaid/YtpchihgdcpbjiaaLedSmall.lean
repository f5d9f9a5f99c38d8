/-
  The contracts of the ledger's count, allocates, isFree, InUse, Free, of a ledger and of none; conditions stand at each.
-/
import Derived.Test.YtpchihgdcpbjiaaLedMem
namespace Go.Proofs.Ytpchihgdcpbjiaa
open Go.RowKit Go.Sort
set_option linter.unusedVariables false
set_option linter.unusedSimpArgs false

theorem ldCount_nil (w : World) : Calls Try.prog 23 #[.pointer none] w fun e w' => e = .returned (.int .i64 0) ∧ w' = w := by
  go_enter Try.func23, Try.ntmps23
  go_wp2
  go_ret
  exact ⟨rfl, rfl⟩
theorem ldCount_any {w : World} {b n : Nat} {o v t : Nat → Bool} (hd : Led w b n o v t) : Calls Try.prog 23 #[.pointer (some ⟨b, 0, none⟩)] w fun e w' => e = .returned (.int .i64 n) ∧ w' = w := by
  have h0 := hd.c0
  clear hd
  go_enter Try.func23, Try.ntmps23
  go_wp2
  go_ret
  exact ⟨rfl, by trivial⟩

theorem ldAlloc_any {w : World} {b n : Nat} {o v t : Nat → Bool} (hd : Led w b n o v t) (i : Int) : Calls Try.prog 28 #[.pointer (some ⟨b, 0, none⟩), .int .i64 i] w fun e w' => e = .returned (.bool (okPg n i)) ∧ w' = w := by
  by_cases h0 : 2 ≤ i
  · rw [show okPg n i = decide (i < n) by simp [okPg, h0]]
    go_enter Try.func28, Try.ntmps28
    go_wp2_with fail
    refine (ldCount_any hd).mono ?_
    rintro e w1 ⟨rfl, rfl⟩
    clear hd
    go_wp2
    go_ret
    exact ⟨rfl, by trivial⟩
  · rw [show okPg n i = false by simp [okPg, h0]]
    clear hd
    go_enter Try.func28, Try.ntmps28
    go_wp2
    go_ret
    exact ⟨rfl, by trivial⟩

theorem ldFree_no {w : World} {b n : Nat} {o v t : Nat → Bool} (hd : Led w b n o v t) (i : Int) (hi : okPg n i = false) : Calls Try.prog 24 #[.pointer (some ⟨b, 0, none⟩), .int .i64 i] w fun e w' => e = .returned (.bool false) ∧ w' = w := by
  go_enter Try.func24, Try.ntmps24
  go_wp2_with fail
  refine (ldAlloc_any hd i).mono ?_
  rw [hi]
  rintro e w1 ⟨rfl, rfl⟩
  clear hd hi
  go_wp2
  go_ret
  exact ⟨rfl, by trivial⟩
set_option maxRecDepth 100000 in
set_option maxHeartbeats 1000000 in
theorem ldFree_yes {w : World} {b n : Nat} {o v t : Nat → Bool} (hd : Led w b n o v t) (i : Nat) (h2 : 2 ≤ i) (hi : i < n) : Calls Try.prog 24 #[.pointer (some ⟨b, 0, none⟩), .int .i64 i] w fun e w' => e = .returned (.bool (fr o v t i)) ∧ w' = w := by
  have hs := hd.small
  have co := hd.co (i := i) (by omega)
  have cv := hd.cv (i := i) (by omega)
  have ct := hd.ct (i := i) (by omega)
  have ha := (ldAlloc_any hd i)
  rw [show okPg n i = true by simp [okPg]; omega] at ha
  have HA := Lib.hid ha
  clear ha hd
  have hi5 : (i : Int) < 512 := by omega
  cases ho : o i
  · cases hv : v i
    · have hfr : fr o v t i = !t i := by simp [fr, h2, ho, hv]
      rw [hfr]
      clear hfr
      rw [ho] at co
      rw [hv] at cv
      clear ho hv
      obtain ⟨x, hx⟩ : ∃ x, x = t i := ⟨_, rfl⟩
      rw [← hx] at ct ⊢
      clear hx
      go_enter Try.func24, Try.ntmps24
      go_wp2_with fail
      refine HA.out.mono ?_
      rintro e w1 ⟨rfl, rfl⟩
      go_wp2
      go_ret
      exact ⟨rfl, by trivial⟩
    · have hfr : fr o v t i = false := by simp [fr, h2, ho, hv]
      rw [hfr]
      clear hfr ct
      rw [ho] at co
      rw [hv] at cv
      clear ho hv
      go_enter Try.func24, Try.ntmps24
      go_wp2_with fail
      refine HA.out.mono ?_
      rintro e w1 ⟨rfl, rfl⟩
      go_wp2
      go_ret
      exact ⟨rfl, by trivial⟩
  · have hfr : fr o v t i = false := by simp [fr, h2, ho]
    rw [hfr]
    clear hfr ct cv
    rw [ho] at co
    clear ho
    go_enter Try.func24, Try.ntmps24
    go_wp2_with fail
    refine HA.out.mono ?_
    rintro e w1 ⟨rfl, rfl⟩
    go_wp2
    go_ret
    exact ⟨rfl, by trivial⟩
theorem ldFree_any {w : World} {b n : Nat} {o v t : Nat → Bool} (hd : Led w b n o v t) (i : Nat) (hi : i < n) : Calls Try.prog 24 #[.pointer (some ⟨b, 0, none⟩), .int .i64 i] w fun e w' => e = .returned (.bool (fr o v t i)) ∧ w' = w := by
  by_cases h2 : 2 ≤ i
  · exact ldFree_yes hd i h2 hi
  · rw [show fr o v t i = false by simp [fr, h2]]
    exact ldFree_no hd i (by simp [okPg]; omega)

/-- What InUse answers. -/
def inUse (n : Nat) (o v t : Nat → Bool) (i : Int) : Bool := decide (0 ≤ i) && decide (i < (n : Int)) && !fr o v t i.toNat
theorem ldIn_nil (i : Int) (w : World) : Calls Try.prog 22 #[.pointer none, .int .i64 i] w fun e w' => e = .returned (.bool false) ∧ w' = w := by
  by_cases h0 : 0 ≤ i
  · go_enter Try.func22, Try.ntmps22
    go_wp2_with fail
    refine (ldCount_nil w).mono ?_
    rintro e w1 ⟨rfl, rfl⟩
    have hn : ¬ i < 0 := by omega
    go_wp2
    go_ret
    exact ⟨rfl, by trivial⟩
  · go_enter Try.func22, Try.ntmps22
    go_wp2
    go_ret
    exact ⟨rfl, by trivial⟩
theorem ldIn_any {w : World} {b n : Nat} {o v t : Nat → Bool} (hd : Led w b n o v t) (i : Int) : Calls Try.prog 22 #[.pointer (some ⟨b, 0, none⟩), .int .i64 i] w fun e w' => e = .returned (.bool (inUse n o v t i)) ∧ w' = w := by
  have HD := Lib.hid hd
  clear hd
  by_cases h0 : 0 ≤ i
  · by_cases h1 : i < n
    · obtain ⟨k, rfl⟩ : ∃ k : Nat, i = k := ⟨i.toNat, by omega⟩
      have hk : k < n := by omega
      rw [show inUse n o v t k = !fr o v t k by simp [inUse, hk]]
      have HF := Lib.hid (ldFree_any HD.out k hk)
      obtain ⟨x, hx⟩ : ∃ x, x = fr o v t k := ⟨_, rfl⟩
      rw [← hx] at HF ⊢
      clear hx
      go_enter Try.func22, Try.ntmps22
      go_wp2_with fail
      refine (ldCount_any HD.out).mono ?_
      rintro e w1 ⟨rfl, rfl⟩
      go_wp2_with fail
      refine HF.out.mono ?_
      rintro e w1 ⟨rfl, rfl⟩
      go_wp2
      go_ret
      exact ⟨rfl, by trivial⟩
    · rw [show inUse n o v t i = false by simp [inUse, h1]]
      go_enter Try.func22, Try.ntmps22
      go_wp2_with fail
      refine (ldCount_any HD.out).mono ?_
      rintro e w1 ⟨rfl, rfl⟩
      go_wp2
      go_ret
      exact ⟨rfl, by trivial⟩
  · rw [show inUse n o v t i = false by simp [inUse, h0]]
    go_enter Try.func22, Try.ntmps22
    go_wp2
    go_ret
    exact ⟨rfl, by trivial⟩

theorem ldCnt_nil (w : World) : Calls Try.prog 19 #[.pointer none] w fun e w' => e = .returned (.int .i64 0) ∧ w' = w := by
  go_enter Try.func19, Try.ntmps19
  go_wp2_with fail
  refine (ldCount_nil w).mono ?_
  rintro e w1 ⟨rfl, rfl⟩
  go_wp2
  refine wp_loop_rounds 1 ?_
  rw [rounds_succ]
  go_wp2
  go_ret
  exact ⟨rfl, by trivial⟩
set_option maxHeartbeats 1000000 in
theorem ldCnt_any {w : World} {b n : Nat} {o v t : Nat → Bool} (hd : Led w b n o v t) : Calls Try.prog 19 #[.pointer (some ⟨b, 0, none⟩)] w fun e w' => e = .returned (.int .i64 (cnt (fr o v t) n : Nat)) ∧ w' = w := by
  have hs := hd.small
  have HD := Lib.hid hd
  clear hd
  go_enter Try.func19, Try.ntmps19
  go_wp2_with fail
  refine (ldCount_any HD.out).mono ?_
  rintro e w1 ⟨rfl, rfl⟩
  go_wp2
  go_loopw [3, 7] (fun c i wr => ∃ k : Nat, k ≤ n ∧ i = .int .i64 k ∧ c = .int .i64 (cnt (fr o v t) k : Nat) ∧ wr = w1) (fun _ i _ => n - (intOf i).toNat)
  case atStart => exact ⟨0, Nat.zero_le _, rfl, rfl, rfl⟩
  case round =>
    obtain ⟨k, hk, rfl, rfl, rfl⟩ := hrel
    by_cases hlt : k < n
    · have hc := cnt_le (fr o v t) k
      go_wp2_with fail
      refine (ldFree_any HD.out k hlt).mono ?_
      rintro e w1 ⟨rfl, rfl⟩
      cases hf : fr o v t k
      · have e1 := Lib.hid (cnt_no hf)
        generalize cnt (fr o v t) k = ck at e1 hc
        go_wp2
        exact ⟨⟨k + 1, by omega, by go_num, by rw [e1.out], by trivial⟩, by simp [intOf]; omega⟩
      · have e1 := Lib.hid (cnt_yes hf)
        generalize cnt (fr o v t) k = ck at e1 hc
        go_wp2
        exact ⟨⟨k + 1, by omega, by go_num, by rw [e1.out]; go_num, by trivial⟩, by simp [intOf]; omega⟩
    · have he : k = n := by omega
      subst he
      go_wp2
      go_ret
      exact ⟨rfl, by trivial⟩

end Go.Proofs.Ytpchihgdcpbjiaa
