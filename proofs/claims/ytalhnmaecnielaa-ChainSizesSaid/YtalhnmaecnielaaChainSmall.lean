/-
  The contracts of chain.isLong, chain.count, chain.Pages, awake and few: answers as the document says; conditions stand at each.
-/
import Derived.Test.YtalhnmaecnielaaChainPure
import Derived.Test.YtalhnmaecnielaaStrClone
namespace Go.Proofs.Ytalhnmaecnielaa
open Go.RowKit Go.Sort
set_option linter.unusedVariables false

set_option maxHeartbeats 400000 in
theorem chIsLong_any (n : Int) (w : World) : Calls Try.prog 15 #[.int .i64 n] w fun e w' => e = .returned (.bool (decide (Long n))) ∧ w = w' := by
  by_cases h1 : 24 < n
  · by_cases h2 : n ≤ 400
    · rw [show decide (Long n) = true from decide_eq_true ⟨h1, h2⟩]
      go_enter Try.func15, Try.ntmps15
      go_wp2
      go_ret
      exact ⟨rfl, rfl⟩
    · rw [show decide (Long n) = false from decide_eq_false fun h => h2 h.2]
      go_enter Try.func15, Try.ntmps15
      go_wp2
      go_ret
      exact ⟨rfl, rfl⟩
  · rw [show decide (Long n) = false from decide_eq_false fun h => h1 h.1]
    go_enter Try.func15, Try.ntmps15
    go_wp2
    go_ret
    exact ⟨rfl, rfl⟩

set_option maxHeartbeats 400000 in
theorem chCount_any (n : Nat) (w : World) (h : n ≤ 400) : Calls Try.prog 16 #[.int .i64 n] w fun e w' => e = .returned (.int .i64 (((n + 239) / 240 : Nat) : Int)) ∧ w = w' := by
  go_enter Try.func16, Try.ntmps16
  go_wp2
  go_ret
  refine ⟨congrArg (fun z : Int => Ending.returned (Value.int .i64 z)) ?_, rfl⟩
  omega

set_option maxHeartbeats 400000 in
theorem chPages_any (s : ByteArray) (w : World) (hs : s.size ≤ 140737488351232) : Calls Try.prog 14 #[.string s] w fun e w' => e = .returned (.int .i64 (pagesN s : Nat)) ∧ w = w' := by
  go_enter Try.func14, Try.ntmps14
  go_wp2_with fail
  refine (chIsLong_any (s.size : Nat) w).mono ?_
  rintro e w1 ⟨rfl, rfl⟩
  by_cases h : Long s.size
  · rw [decide_eq_true h]
    go_wp2_with fail
    refine (chCount_any s.size w (by have := h.2; omega)).mono ?_
    rintro e w1 ⟨rfl, rfl⟩
    go_wp2
    go_ret
    rw [show pagesN s = (s.size + 239) / 240 from if_pos h]
    exact ⟨rfl, rfl⟩
  · rw [decide_eq_false h]
    go_wp2
    go_ret
    rw [show pagesN s = 0 from if_neg h]
    exact ⟨rfl, rfl⟩

/-- Pieces of a size that is looked at. -/
def ChFew (l : List ByteArray) : Prop := l.length ≤ 20 ∧ ∀ s ∈ l, s.size ≤ 2000
instance (l : List ByteArray) : Decidable (ChFew l) := inferInstanceAs (Decidable (_ ∧ _))

set_option maxHeartbeats 400000 in
theorem chFew_any (A : Option Addr) (n c : Nat) (l : List ByteArray) (w : World) (hr : Ss w A l) (hn : l.length = n) (hb : n ≤ 140737488351232) (hs : ∀ s ∈ l, s.size ≤ 140737488351232) :
    Calls Try.prog 8 #[.slice A n c] w fun e w' => e = .returned (.bool (decide (ChFew l))) ∧ w = w' := by
  have Hn := Lib.hid hn
  have HS := Lib.hid hs
  clear hn hs
  by_cases h3 : 20 < n
  · rw [show decide (ChFew l) = false from decide_eq_false fun h => by have := h.1; rw [Hn.out] at this; omega]
    go_enter Try.func8, Try.ntmps8
    go_wp2
    go_ret
    exact ⟨rfl, rfl⟩
  · go_enter Try.func8, Try.ntmps8
    go_wp2
    go_loopw [9] (fun i wr => ∃ k : Nat, k ≤ n ∧ i = .int .i64 k ∧ wr = w ∧ ∀ j e, j < k → l[j]? = some e → e.size ≤ 2000) (fun i _ => n - (intOf i).toNat)
    case atStart => exact ⟨0, Nat.zero_le _, rfl, rfl, fun j _ hj => absurd hj (by omega)⟩
    case round =>
      obtain ⟨k, hk, rfl, rfl, hall⟩ := hrel
      have HA := Lib.hid hall
      clear hall
      by_cases hlt : k < n
      · obtain ⟨ad, x, rfl, hx, hl, h1⟩ := hr.at_ (i := k) (by rw [Hn.out]; exact hlt)
        have hs1 := HS.out x (List.mem_of_getElem? hx)
        have Hx := Lib.hid hx
        clear hx
        by_cases hd : 2000 < x.size
        · go_wp2
          go_ret
          rw [show decide (ChFew l) = false from decide_eq_false fun h => by have := h.2 x (List.mem_of_getElem? Hx.out); omega]
          exact ⟨rfl, rfl⟩
        · go_wp2
          refine ⟨⟨k + 1, by omega, by go_num, by trivial, fun j e hj he => ?_⟩, by simp [intOf]; omega⟩
          rcases Nat.lt_or_ge j k with h | h
          · exact HA.out j e h he
          · have : j = k := by omega
            subst this
            rw [Hx.out] at he
            cases he
            omega
      · have he : k = n := by omega
        subst he
        go_wp2
        go_ret
        rw [show decide (ChFew l) = true from decide_eq_true ⟨by rw [Hn.out]; omega, fun e he => by
          obtain ⟨j, hj⟩ := List.getElem?_of_mem he
          exact HA.out j e (by have := (List.getElem?_eq_some_iff.1 hj).1; rw [Hn.out] at this; exact this) hj⟩]
        exact ⟨rfl, rfl⟩

theorem pages_of {s : ByteArray} {n k : Nat} (hs : s.size = n) (hl : Long n) (hk : (n + 239) / 240 = k) : pagesN s = k := by
  unfold pagesN
  rw [hs, if_pos hl, hk]

/-- string(make([]byte, n)). -/
theorem zeros_conv (n : Nat) (w : World) (hn : n ≤ 281474976710656) : ∃ s : ByteArray, s.size = n ∧ (convert 36 9 (.slice (some ⟨w.heap.size, 0, none⟩) n n)).run Try.prog (w.alloc (.cells (madeCells #[.int .u8 0] n) 5)) = .ok (.string s) (w.alloc (.cells (madeCells #[.int .u8 0] n) 5)) := by
  refine ⟨⟨(List.replicate n (0 : UInt8)).toArray⟩, by show (List.replicate n (0 : UInt8)).toArray.size = n; simp, conv_rd (fun _ => ⟨_, rfl, by simp, fun j u hu => new_row w _ _ j u ?_⟩) (by simp)⟩
  rw [made_list]
  simpa [bcells, u8] using hu

set_option maxHeartbeats 400000 in
theorem chAwake_any (w : World) : Calls Try.prog 7 #[] w fun e w' => e = .returned (.bool true) ∧ Below w.heap.size w w' := by
  have hmk : ∀ W : World, (Instr.makeSlice 36 (.int .i64 241) (.int .i64 241)).run Try.prog W = .ok (.slice (some ⟨W.heap.size, 0, none⟩) 241 241) (W.alloc (.cells (madeCells #[.int .u8 0] 241) 5)) := run_make_bytes 241 241 (Nat.le_refl _) (by omega)
  obtain ⟨s, hs, hcv⟩ := zeros_conv 241 w (by omega)
  have hp : pagesN s = 2 := pages_of hs (by decide) rfl
  have hs' : s.size ≤ 140737488351232 := by omega
  have hb : Below w.heap.size w (w.alloc (.cells (madeCells #[.int .u8 0] 241) 5)) := (Below.refl _ _).alloc (Nat.le_refl _) _
  obtain ⟨M, hM⟩ : ∃ M, M = madeCells #[Value.int .u8 0] 241 := ⟨_, rfl⟩
  rw [← hM] at hmk hcv hb
  have HP := Lib.hid hp
  clear hp hs hM
  go_enter Try.func7, Try.ntmps7
  go_wp2_with fail
  refine (chPages_any s _ hs').mono ?_
  rintro e w1 ⟨rfl, rfl⟩
  rw [HP.out]
  clear hcv
  go_wp2_with fail
  refine (chPages_any ⟨#[97]⟩ _ (by decide)).mono ?_
  rintro e w1 ⟨rfl, rfl⟩
  rw [show pagesN ⟨#[97]⟩ = 0 by decide]
  go_wp2
  go_ret
  exact ⟨rfl, hb⟩

end Go.Proofs.Ytalhnmaecnielaa
