/-
  The contracts of the device's New, Pages, Waiting and has, of a device and of none; conditions stand at each.
-/
import Derived.Test.YthjgcbpanfiacaaDevMem
namespace Go.Proofs.Ythjgcbpanfiacaa
open Go.RowKit Go.Sort
set_option linter.unusedVariables false

/-- How many pages New makes. -/
def pagesN (x : Int) : Nat := (min (max x 0) 512).toNat
theorem pagesN_le (x : Int) : pagesN x ≤ 512 := by unfold pagesN; omega
theorem pagesN_of (n : Nat) (h : n ≤ 512) : pagesN n = n := by unfold pagesN; omega
theorem bcells_zero (k : Nat) : bcells (List.replicate k 0) = List.replicate k (Value.int .u8 0) := by simp [bcells, u8]

set_option maxHeartbeats 400000 in
theorem new_any (x : Int) (w : World) : Calls Try.prog 11 #[.int .i64 x] w fun e w' =>
    ∃ b, e = .returned (.pointer (some ⟨b, 0, none⟩)) ∧ Dev w' b (pagesN x) (List.replicate (pagesN x * 256) 0) [] (fun i => w.heap.size ≤ i) ∧ Below w.heap.size w w' := by
  have hp := pagesN_le x
  obtain ⟨m, hm⟩ : ∃ m, m = pagesN x := ⟨_, rfl⟩
  have hm2 : (min (max x 0) 512 : Int) = (m : Int) := by rw [hm]; unfold pagesN; omega
  rw [← hm] at hp ⊢
  have hmake := run_make_bytes (m * 256) (m * 256) (Nat.le_refl _) (by omega) w
  rw [show ((m * 256 : Nat) : Int) = (m : Int) * 256 by omega, made_list, ← bcells_zero] at hmake
  obtain ⟨z, hz⟩ : ∃ z, z = bcells (List.replicate (m * 256) 0) := ⟨_, rfl⟩
  rw [← hz] at hmake
  have HZ := Lib.hid hz
  clear hz
  have Hm := Lib.hid hm
  clear hm
  go_enter Try.func11, Try.ntmps11
  go_wp2
  go_ret
  have e1 : (w.alloc (.cells z.toArray 5)).heap.size = w.heap.size + 1 := by simp
  refine ⟨w.heap.size + 1, ?_, ⟨w.heap.size, .slice none 0 0, ⟨?_, ?_, OwnL.nil_ _ _ _, by simp, hp, by simp, by omega, by simp [Value.ownBlock], by simp [Value.ownBlock]⟩, ?_⟩, ?_⟩
  · rfl
  · have := heap_alloc_new (w.alloc (.cells z.toArray 5)) (.cells #[.slice (some ⟨w.heap.size, 0, none⟩) (m * 256) (m * 256), .slice none 0 0] 61 (0, 0))
    rwa [e1] at this
  · rw [Below.heap_alloc _ _ _ (by simp), ← HZ.out]
    exact heap_alloc_new w _
  · rintro i (rfl | rfl | h)
    · simp
    · simp
      omega
    · simp [Value.ownBlock] at h
  · exact ((Below.refl _ _).alloc (Nat.le_refl _) _).alloc (by simp) _

theorem pages_nil (w : World) : Calls Try.prog 13 #[.pointer none] w fun e w' => e = .returned (.int .i64 0) ∧ w' = w := by
  go_enter Try.func13, Try.ntmps13
  go_wp2
  go_ret
  exact ⟨rfl, rfl⟩
theorem pages_any {w : World} {b n : Nat} {st : List UInt8} {pd : List WR} {F : Nat → Prop} (hd : Dev w b n st pd F) : Calls Try.prog 13 #[.pointer (some ⟨b, 0, none⟩)] w fun e w' => e = .returned (.int .i64 n) ∧ w' = w := by
  obtain ⟨g, v, hat, hF⟩ := hd
  have h0 := cell_at hat.box 0 (.slice (some ⟨g, 0, none⟩) (n * 256) (n * 256)) rfl
  have hn := hat.small
  clear hat hF
  go_enter Try.func13, Try.ntmps13
  go_wp2
  go_ret
  exact ⟨rfl, by trivial⟩
theorem waiting_nil (w : World) : Calls Try.prog 22 #[.pointer none] w fun e w' => e = .returned (.int .i64 0) ∧ w' = w := by
  go_enter Try.func22, Try.ntmps22
  go_wp2
  go_ret
  exact ⟨rfl, rfl⟩
theorem waiting_any {w : World} {b n : Nat} {st : List UInt8} {pd : List WR} {F : Nat → Prop} (hd : Dev w b n st pd F) : Calls Try.prog 22 #[.pointer (some ⟨b, 0, none⟩)] w fun e w' => e = .returned (.int .i64 pd.length) ∧ w' = w := by
  obtain ⟨g, v, hat, hF⟩ := hd
  obtain ⟨A, c, rfl⟩ := hat.form
  have h1 := cell_at hat.box 1 (.slice A pd.length c) rfl
  clear hat hF
  go_enter Try.func22, Try.ntmps22
  go_wp2
  go_ret
  exact ⟨rfl, by trivial⟩

theorem has_nil (i : Int) (w : World) : Calls Try.prog 28 #[.pointer none, .int .i64 i] w fun e w' => e = .returned (.bool false) ∧ w' = w := by
  by_cases h0 : 0 ≤ i
  · go_enter Try.func28, Try.ntmps28
    go_wp2_with fail
    refine (pages_nil w).mono ?_
    rintro e w1 ⟨rfl, rfl⟩
    go_wp2
    go_ret
    rw [decide_eq_false (by omega : ¬ i < 0)]
    exact ⟨rfl, by trivial⟩
  · go_enter Try.func28, Try.ntmps28
    go_wp2
    go_ret
    exact ⟨rfl, by trivial⟩
theorem has_any {w : World} {b n : Nat} {st : List UInt8} {pd : List WR} {F : Nat → Prop} (i : Int) (hd : Dev w b n st pd F) : Calls Try.prog 28 #[.pointer (some ⟨b, 0, none⟩), .int .i64 i] w fun e w' => e = .returned (.bool (decide (0 ≤ i ∧ i < n))) ∧ w' = w := by
  by_cases h0 : 0 ≤ i
  · go_enter Try.func28, Try.ntmps28
    go_wp2_with fail
    refine (pages_any hd).mono ?_
    rintro e w1 ⟨rfl, rfl⟩
    go_wp2
    go_ret
    rw [show decide (0 ≤ i ∧ i < n) = decide (i < n) by simp [h0]]
    exact ⟨rfl, by trivial⟩
  · rw [show decide (0 ≤ i ∧ i < n) = false by simp [h0]]
    go_enter Try.func28, Try.ntmps28
    go_wp2
    go_ret
    exact ⟨rfl, by trivial⟩

end Go.Proofs.Ythjgcbpanfiacaa
