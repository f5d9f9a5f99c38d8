/-
  The contracts of chain.isLong, chain.count, chain.Pages, strings.Clone, awake and few: answers as the document says; conditions stand at each.
-/
import Derived.Test.YtalhnmaecnielaaChainPure
import Derived.Lib.UnsafeStr
import Derived.Lib.BufferWrite
namespace Go.Proofs.Ytalhnmaecnielaa
open Go.RowKit Go.Sort
set_option linter.unusedVariables false

set_option maxHeartbeats 400000 in
theorem chIsLong_any (n : Int) (w : World) : Calls Try.prog 15 #[.int .i64 n] w fun e w' => e = .returned (.bool (decide (Long n))) ∧ w = w' := by
  by_cases h1 : 24 < n
  · by_cases h2 : n ≤ 400
    · rw [show decide (Long n) = true from decide_eq_true ⟨h1, h2⟩]
      go_enter Try.func15, Try.ntmps15
      go_wp2
      go_ret
      exact ⟨rfl, rfl⟩
    · rw [show decide (Long n) = false from decide_eq_false fun h => h2 h.2]
      go_enter Try.func15, Try.ntmps15
      go_wp2
      go_ret
      exact ⟨rfl, rfl⟩
  · rw [show decide (Long n) = false from decide_eq_false fun h => h1 h.1]
    go_enter Try.func15, Try.ntmps15
    go_wp2
    go_ret
    exact ⟨rfl, rfl⟩

set_option maxHeartbeats 400000 in
theorem chCount_any (n : Nat) (w : World) (h : n ≤ 400) : Calls Try.prog 16 #[.int .i64 n] w fun e w' => e = .returned (.int .i64 (((n + 239) / 240 : Nat) : Int)) ∧ w = w' := by
  go_enter Try.func16, Try.ntmps16
  go_wp2
  go_ret
  refine ⟨congrArg (fun z : Int => Ending.returned (Value.int .i64 z)) ?_, rfl⟩
  omega

set_option maxHeartbeats 400000 in
theorem chPages_any (s : ByteArray) (w : World) (hs : s.size ≤ 140737488351232) : Calls Try.prog 14 #[.string s] w fun e w' => e = .returned (.int .i64 (pagesN s : Nat)) ∧ w = w' := by
  go_enter Try.func14, Try.ntmps14
  go_wp2_with fail
  refine (chIsLong_any (s.size : Nat) w).mono ?_
  rintro e w1 ⟨rfl, rfl⟩
  by_cases h : Long s.size
  · rw [decide_eq_true h]
    go_wp2_with fail
    refine (chCount_any s.size w (by have := h.2; omega)).mono ?_
    rintro e w1 ⟨rfl, rfl⟩
    go_wp2
    go_ret
    rw [show pagesN s = (s.size + 239) / 240 from if_pos h]
    exact ⟨rfl, rfl⟩
  · rw [decide_eq_false h]
    go_wp2
    go_ret
    rw [show pagesN s = 0 from if_neg h]
    exact ⟨rfl, rfl⟩

set_option maxHeartbeats 4000000 in
set_option maxRecDepth 100000 in
theorem liteClone_any (s : ByteArray) (w : World) (hlim : s.size ≤ 140737488351232) : Calls Try.prog 19 #[.string s] w fun e w' => e = .returned (.string s) ∧ Below w.heap.size w w' := by
  by_cases h0 : s.size = 0
  · have hs : s = ⟨#[]⟩ := by
      apply ByteArray.ext
      exact Array.eq_empty_of_size_eq_zero h0
    subst hs
    go_enter Try.func19, Try.ntmps19
    go_wp2
    go_ret
    exact ⟨rfl, Below.refl _ _⟩
  · obtain ⟨i0, hi, hz0, hz1, hz2⟩ := info_parts u8info
    have hinfo : (Try.prog.info? 5).map (·.size) = some 1 := by rw [hi]; simp [hz1]
    have hco : Try.prog.cellsOf 5 = 1 := by simp [Program.cellsOf, hi, hz1]
    obtain ⟨M, hM⟩ : ∃ M, M = madeCells #[Value.int .u8 0] s.size := ⟨_, rfl⟩
    have hMs : M.size = s.size := by rw [hM, size_madeCells]
    have hmk : ∀ W : World, (Instr.makeSlice 36 (.int .i64 (s.size : Int)) (.int .i64 (s.size : Int))).run Try.prog W = .ok (.slice (some ⟨W.heap.size, 0, none⟩) s.size s.size) (W.alloc (.cells M 5)) := fun W => by
      have h := run_make_bytes s.size s.size (Nat.le_refl _) (by omega) W
      rw [← hM] at h
      exact h
    clear hM
    have hcp := Lib.run_copy_row_string (P := Try.prog) (w.alloc (.cells M 5)) 36 9 3 5 w.heap.size 0 s.size s.size s M 5 Try.underlying36 hinfo (heap_alloc_new w _) (Nat.le_refl _) (by omega)
    obtain ⟨Y, hY⟩ : ∃ Y, Y = (M.toList.take 0 ++ Lib.byteCells s.data.toList ++ M.toList.drop (0 + s.size)).toArray := ⟨_, rfl⟩
    rw [← hY] at hcp
    have hYl : Y.toList = Lib.byteCells s.data.toList := by
      rw [hY, List.toList_toArray, List.take_zero, List.nil_append, List.drop_of_length_le (by rw [Array.length_toList]; omega), List.append_nil]
    have hYs : Y.size = s.size := by rw [← Array.length_toList, hYl, Lib.byteCells_length, ← Lib.size_eq]
    have hgY : ((w.alloc (.cells M 5)).setRow w.heap.size Y).heap[w.heap.size]? = some (.cells Y 5 (0, 0)) := setRow_heap _ _ M _ 5 (0, 0) (heap_alloc_new w _)
    have hne : s.data.toList ≠ [] := fun e => h0 (by rw [Lib.size_eq, e]; rfl)
    have hUS := Lib.run_unsafeString_row (P := Try.prog) ((w.alloc (.cells M 5)).setRow w.heap.size Y) 41 3 9 5 Try.underlying41 hco w.heap.size Y.size (by unfold World.shape?; rw [hgY]) s.data.toList hne (by rw [← Lib.size_eq]; omega) (by rw [← Lib.size_eq]; omega)
      (fun j x hx => Lib.cells_of_row hgY Y.size j _ (by rw [List.take_of_length_le (by rw [Array.length_toList]; exact Nat.le_refl _), hYl]; simp [Lib.byteCells, hx]))
    rw [← Lib.size_eq] at hUS
    clear hY
    go_enter Try.func19, Try.ntmps19
    go_wp2
    go_ret
    have hb1 : Below w.heap.size w (w.alloc (.cells M 5)) := (Below.refl _ w).alloc (Nat.le_refl _) _
    have hb2 : Below w.heap.size (w.alloc (.cells M 5)) ((w.alloc (.cells M 5)).setRow w.heap.size Y) := ⟨rfl, rfl, rfl, by simp, fun k hk => setRow_other _ _ _ _ (by omega)⟩
    exact ⟨rfl, Lib.below_freeze (hb1.trans hb2) (p := ⟨w.heap.size, 0, none⟩) (Nat.le_refl _) _⟩

set_option maxHeartbeats 400000 in
theorem strClone_any (s : ByteArray) (w : World) (hlim : s.size ≤ 140737488351232) : Calls Try.prog 18 #[.string s] w fun e w' => e = .returned (.string s) ∧ Below w.heap.size w w' := by
  go_enter Try.func18, Try.ntmps18
  go_wp2_with fail
  refine (liteClone_any s w hlim).mono ?_
  rintro e w1 ⟨rfl, hb⟩
  go_wp2
  go_ret
  exact ⟨rfl, hb⟩

/-- Pieces of a size that is looked at. -/
def ChFew (l : List ByteArray) : Prop := l.length ≤ 20 ∧ ∀ s ∈ l, s.size ≤ 2000
instance (l : List ByteArray) : Decidable (ChFew l) := inferInstanceAs (Decidable (_ ∧ _))

set_option maxHeartbeats 400000 in
theorem chFew_any (A : Option Addr) (n c : Nat) (l : List ByteArray) (w : World) (hr : Ss w A l) (hn : l.length = n) (hb : n ≤ 140737488351232) (hs : ∀ s ∈ l, s.size ≤ 140737488351232) :
    Calls Try.prog 8 #[.slice A n c] w fun e w' => e = .returned (.bool (decide (ChFew l))) ∧ w = w' := by
  have Hn := Lib.hid hn
  have HS := Lib.hid hs
  clear hn hs
  by_cases h3 : 20 < n
  · rw [show decide (ChFew l) = false from decide_eq_false fun h => by have := h.1; rw [Hn.out] at this; omega]
    go_enter Try.func8, Try.ntmps8
    go_wp2
    go_ret
    exact ⟨rfl, rfl⟩
  · go_enter Try.func8, Try.ntmps8
    go_wp2
    go_loopw [9] (fun i wr => ∃ k : Nat, k ≤ n ∧ i = .int .i64 k ∧ wr = w ∧ ∀ j e, j < k → l[j]? = some e → e.size ≤ 2000) (fun i _ => n - (intOf i).toNat)
    case atStart => exact ⟨0, Nat.zero_le _, rfl, rfl, fun j _ hj => absurd hj (by omega)⟩
    case round =>
      obtain ⟨k, hk, rfl, rfl, hall⟩ := hrel
      have HA := Lib.hid hall
      clear hall
      by_cases hlt : k < n
      · obtain ⟨ad, x, rfl, hx, hl, h1⟩ := hr.at_ (i := k) (by rw [Hn.out]; exact hlt)
        have hs1 := HS.out x (List.mem_of_getElem? hx)
        have Hx := Lib.hid hx
        clear hx
        by_cases hd : 2000 < x.size
        · go_wp2
          go_ret
          rw [show decide (ChFew l) = false from decide_eq_false fun h => by have := h.2 x (List.mem_of_getElem? Hx.out); omega]
          exact ⟨rfl, rfl⟩
        · go_wp2
          refine ⟨⟨k + 1, by omega, by go_num, by trivial, fun j e hj he => ?_⟩, by simp [intOf]; omega⟩
          rcases Nat.lt_or_ge j k with h | h
          · exact HA.out j e h he
          · have : j = k := by omega
            subst this
            rw [Hx.out] at he
            cases he
            omega
      · have he : k = n := by omega
        subst he
        go_wp2
        go_ret
        rw [show decide (ChFew l) = true from decide_eq_true ⟨by rw [Hn.out]; omega, fun e he => by
          obtain ⟨j, hj⟩ := List.getElem?_of_mem he
          exact HA.out j e (by have := (List.getElem?_eq_some_iff.1 hj).1; rw [Hn.out] at this; exact this) hj⟩]
        exact ⟨rfl, rfl⟩

theorem pages_of {s : ByteArray} {n k : Nat} (hs : s.size = n) (hl : Long n) (hk : (n + 239) / 240 = k) : pagesN s = k := by
  unfold pagesN
  rw [hs, if_pos hl, hk]

/-- string(make([]byte, n)). -/
theorem zeros_conv (n : Nat) (w : World) (hn : n ≤ 281474976710656) : ∃ s : ByteArray, s.size = n ∧ (convert 36 9 (.slice (some ⟨w.heap.size, 0, none⟩) n n)).run Try.prog (w.alloc (.cells (madeCells #[.int .u8 0] n) 5)) = .ok (.string s) (w.alloc (.cells (madeCells #[.int .u8 0] n) 5)) := by
  refine ⟨⟨(List.replicate n (0 : UInt8)).toArray⟩, by show (List.replicate n (0 : UInt8)).toArray.size = n; simp, conv_rd (fun _ => ⟨_, rfl, by simp, fun j u hu => new_row w _ _ j u ?_⟩) (by simp)⟩
  rw [made_list]
  simpa [bcells, u8] using hu

set_option maxHeartbeats 400000 in
theorem chAwake_any (w : World) : Calls Try.prog 7 #[] w fun e w' => e = .returned (.bool true) ∧ Below w.heap.size w w' := by
  have hmk : ∀ W : World, (Instr.makeSlice 36 (.int .i64 241) (.int .i64 241)).run Try.prog W = .ok (.slice (some ⟨W.heap.size, 0, none⟩) 241 241) (W.alloc (.cells (madeCells #[.int .u8 0] 241) 5)) := run_make_bytes 241 241 (Nat.le_refl _) (by omega)
  obtain ⟨s, hs, hcv⟩ := zeros_conv 241 w (by omega)
  have hp : pagesN s = 2 := pages_of hs (by decide) rfl
  have hs' : s.size ≤ 140737488351232 := by omega
  have hb : Below w.heap.size w (w.alloc (.cells (madeCells #[.int .u8 0] 241) 5)) := (Below.refl _ _).alloc (Nat.le_refl _) _
  obtain ⟨M, hM⟩ : ∃ M, M = madeCells #[Value.int .u8 0] 241 := ⟨_, rfl⟩
  rw [← hM] at hmk hcv hb
  have HP := Lib.hid hp
  clear hp hs hM
  go_enter Try.func7, Try.ntmps7
  go_wp2_with fail
  refine (chPages_any s _ hs').mono ?_
  rintro e w1 ⟨rfl, rfl⟩
  rw [HP.out]
  clear hcv
  go_wp2_with fail
  refine (chPages_any ⟨#[97]⟩ _ (by decide)).mono ?_
  rintro e w1 ⟨rfl, rfl⟩
  rw [show pagesN ⟨#[97]⟩ = 0 by decide]
  go_wp2
  go_ret
  exact ⟨rfl, hb⟩

end Go.Proofs.Ytalhnmaecnielaa
