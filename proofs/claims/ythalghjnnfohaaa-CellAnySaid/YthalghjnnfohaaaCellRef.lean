/-
  The contracts of the reference's memory: New, Load, Store, CAS, of words that there are and of those that there are not; conditions stand at each.
-/
import Derived.Test.YthalghjnnfohaaaCellMem
namespace Go.Proofs.Ythalghjnnfohaaa
open Go.RowKit Go.Sort
set_option linter.unusedVariables false
set_option linter.unusedSimpArgs false

/-- The reference's memory. -/
abbrev MemR := Mem 44 3

set_option maxHeartbeats 400000 in
theorem newR_any (x : Int) (w : World) : Calls Try.prog 10 #[.int .i64 x] w fun e w' =>
    ∃ b g, e = .returned (.pointer (some ⟨b, 0, none⟩)) ∧ MemR w' b g (List.replicate (wordsN x) (.int .i64 0)) 0 0 ∧ (∀ i, Of b g i → w.heap.size ≤ i) ∧ Below w.heap.size w w' := by
  have hp := wordsN_le x
  obtain ⟨m, hm⟩ : ∃ m, m = wordsN x := ⟨_, rfl⟩
  have hm2 : (max 0 (min x 65536) : Int) = (m : Int) := by rw [hm]; unfold wordsN; omega
  rw [← hm] at hp ⊢
  have hmake := run_make_ints m hp w
  have Hl := Lib.hid (show (List.replicate m (.int .i64 0 : Value)).length = m by simp)
  obtain ⟨z, hz⟩ : ∃ z, z = List.replicate m (.int .i64 0 : Value) := ⟨_, rfl⟩
  rw [← hz] at hmake Hl ⊢
  have Hm := Lib.hid hm
  clear hm hz
  go_enter Try.func10, Try.ntmps10
  go_wp2
  go_ret
  refine ⟨w.heap.size + 1, w.heap.size, rfl, mem_new _ _ w z (by rw [Hl.out]; exact hp) m Hl.out, ?_, ((Below.refl _ _).alloc (Nat.le_refl _) _).alloc (by simp) _⟩
  rintro i (rfl | rfl) <;> omega

theorem thereR_any {w : World} {b n c : Nat} {A : Option Addr} (i : Int) (h0 : w.cell? ⟨b, 0, none⟩ = some (.slice A n c)) :
    Calls Try.prog 26 #[.pointer (some ⟨b, 0, none⟩), .int .i64 i] w fun e w' => e = .returned (.bool (decide (0 ≤ i ∧ i < (n : Int)))) ∧ w' = w := by
  by_cases h1 : 0 ≤ i
  · rw [show decide (0 ≤ i ∧ i < (n : Int)) = decide (i < (n : Int)) by simp [h1]]
    go_enter Try.func26, Try.ntmps26
    go_wp2
    go_ret
    exact ⟨rfl, by trivial⟩
  · rw [show decide (0 ≤ i ∧ i < (n : Int)) = false by simp [h1]]
    go_enter Try.func26, Try.ntmps26
    go_wp2
    go_ret
    exact ⟨rfl, by trivial⟩
theorem thereR_yes {w : World} {b g k : Nat} {l : List Value} {s c : Nat} (h : MemR w b g l s c) (hk : k < l.length) :
    Calls Try.prog 26 #[.pointer (some ⟨b, 0, none⟩), .int .i64 (k : Int)] w fun e w' => e = .returned (.bool true) ∧ w' = w := by
  have := thereR_any (k : Int) h.c0
  rwa [decide_eq_true (by omega)] at this
theorem thereR_no {w : World} {b g : Nat} {i : Int} {l : List Value} {s c : Nat} (h : MemR w b g l s c) (hi : ¬ (0 ≤ i ∧ i < (l.length : Int))) :
    Calls Try.prog 26 #[.pointer (some ⟨b, 0, none⟩), .int .i64 i] w fun e w' => e = .returned (.bool false) ∧ w' = w := by
  have := thereR_any i h.c0
  rwa [decide_eq_false hi] at this

theorem loadR_no {w : World} {b g : Nat} {i : Int} {l : List Value} {s c : Nat} (h : MemR w b g l s c) (hi : ¬ (0 ≤ i ∧ i < (l.length : Int))) :
    Calls Try.prog 12 #[.pointer (some ⟨b, 0, none⟩), .int .i64 i] w fun e w' => e = .returned (.tuple #[.int .i64 0, .int .i64 1]) ∧ w' = w := by
  have H := Lib.hid (thereR_no h hi)
  clear h hi
  go_enter Try.func12, Try.ntmps12
  go_wp2_with fail
  refine H.out.mono ?_
  rintro e w1 ⟨rfl, rfl⟩
  go_wp2
  go_ret2
  exact ⟨rfl, by trivial⟩
theorem storeR_no {w : World} {b g : Nat} {i : Int} {l : List Value} {s c : Nat} (x : Int) (h : MemR w b g l s c) (hi : ¬ (0 ≤ i ∧ i < (l.length : Int))) :
    Calls Try.prog 14 #[.pointer (some ⟨b, 0, none⟩), .int .i64 i, .int .i64 x] w fun e w' => e = .returned (.int .i64 1) ∧ w' = w := by
  have H := Lib.hid (thereR_no h hi)
  clear h hi
  go_enter Try.func14, Try.ntmps14
  go_wp2_with fail
  refine H.out.mono ?_
  rintro e w1 ⟨rfl, rfl⟩
  go_wp2
  go_ret
  exact ⟨rfl, by trivial⟩
theorem casR_no {w : World} {b g : Nat} {i : Int} {l : List Value} {s c : Nat} (x y : Int) (h : MemR w b g l s c) (hi : ¬ (0 ≤ i ∧ i < (l.length : Int))) :
    Calls Try.prog 16 #[.pointer (some ⟨b, 0, none⟩), .int .i64 i, .int .i64 x, .int .i64 y] w fun e w' => e = .returned (.tuple #[.bool false, .int .i64 1]) ∧ w' = w := by
  have H := Lib.hid (thereR_no h hi)
  clear h hi
  go_enter Try.func16, Try.ntmps16
  go_wp2_with fail
  refine H.out.mono ?_
  rintro e w1 ⟨rfl, rfl⟩
  go_wp2
  go_ret2
  exact ⟨rfl, by trivial⟩

theorem loadR_any {w : World} {b g k : Nat} {l : List Value} {s c : Nat} (x : Int) (h : MemR w b g l s c) (hx : l[k]? = some (.int .i64 x)) (hs : s ≤ 1000000) :
    Calls Try.prog 12 #[.pointer (some ⟨b, 0, none⟩), .int .i64 (k : Int)] w fun e w' => e = .returned (.tuple #[.int .i64 x, .int .i64 0]) ∧ MemR w' b g l (s + 1) c ∧ Keep (Of b g) w w' := by
  have hk : k < l.length := (List.getElem?_eq_some_iff.1 hx).1
  have H := Lib.hid (thereR_yes h hk)
  have HM := Lib.hid h.step
  have HK := Lib.hid ((Keep.refl (Of b g) w).set (p := ⟨b, 1, none⟩) (.inl (.inl rfl)) (.int .i64 ((s + 1 : Nat) : Int)))
  have h1 := h.c1
  have hf := free_at h.box 1
  have h0 := HM.out.c0
  have hw := HM.out.cw hx
  have hl := h.len
  clear h hx
  have e1 : ((s + 1 : Nat) : Int) = (s : Int) + 1 := by omega
  rw [e1] at h0 hw HM HK
  clear e1
  generalize l.length = n at h0 hk hl
  go_enter Try.func12, Try.ntmps12
  go_wp2_with fail
  refine H.out.mono ?_
  rintro e w1 ⟨rfl, rfl⟩
  go_wp2
  go_ret2
  exact ⟨rfl, HM.out, HK.out⟩
theorem storeR_any {w : World} {b g k : Nat} {l : List Value} {s c : Nat} (x : Int) (h : MemR w b g l s c) (hk : k < l.length) (hs : s ≤ 1000000) :
    Calls Try.prog 14 #[.pointer (some ⟨b, 0, none⟩), .int .i64 (k : Int), .int .i64 x] w fun e w' => e = .returned (.int .i64 0) ∧ MemR w' b g (l.set k (.int .i64 x)) (s + 1) c ∧ Keep (Of b g) w w' := by
  have H := Lib.hid (thereR_yes h hk)
  have HM := Lib.hid h.step
  have HK := Lib.hid ((Keep.refl (Of b g) w).set (p := ⟨b, 1, none⟩) (.inl (.inl rfl)) (.int .i64 ((s + 1 : Nat) : Int)))
  have h1 := h.c1
  have hf := free_at h.box 1
  have h0 := HM.out.c0
  have hw := HM.out.cw (List.getElem?_eq_getElem hk)
  have hf2 := free_at HM.out.row k
  have hl := h.len
  clear h
  have e1 : ((s + 1 : Nat) : Int) = (s : Int) + 1 := by omega
  rw [e1] at h0 hw HM HK hf2
  clear e1
  generalize l[k] = u at hw
  generalize l.length = n at h0 hk hl
  go_enter Try.func14, Try.ntmps14
  go_wp2_with fail
  refine H.out.mono ?_
  rintro e w1 ⟨rfl, rfl⟩
  go_wp2
  go_ret
  exact ⟨rfl, HM.out.word k _, HK.out.set (.inl (.inr rfl)) _⟩
theorem casR_yes {w : World} {b g k : Nat} {l : List Value} {s c : Nat} (x y : Int) (h : MemR w b g l s c) (hx : l[k]? = some (.int .i64 x)) (hs : s ≤ 1000000) (hc : c ≤ 1000000) :
    Calls Try.prog 16 #[.pointer (some ⟨b, 0, none⟩), .int .i64 (k : Int), .int .i64 x, .int .i64 y] w fun e w' =>
      e = .returned (.tuple #[.bool true, .int .i64 0]) ∧ MemR w' b g (l.set k (.int .i64 y)) (s + 1) (c + 1) ∧ Keep (Of b g) w w' := by
  have hk : k < l.length := (List.getElem?_eq_some_iff.1 hx).1
  have H := Lib.hid (thereR_yes h hk)
  have HM := Lib.hid h.step
  have HK := Lib.hid ((Keep.refl (Of b g) w).set (p := ⟨b, 1, none⟩) (.inl (.inl rfl)) (.int .i64 ((s + 1 : Nat) : Int)))
  have h1 := h.c1
  have hf := free_at h.box 1
  have h0 := HM.out.c0
  have hw := HM.out.cw hx
  have hf2 := free_at HM.out.row k
  have HM3 := Lib.hid (HM.out.word k (.int .i64 y))
  have HK3 := Lib.hid (HK.out.set (p := ⟨g, k, none⟩) (.inl (.inr rfl)) (.int .i64 y))
  have h2 := HM3.out.c2
  have hf3 := free_at HM3.out.box 2
  have hl := h.len
  have HM4 := Lib.hid HM3.out.change
  clear h hx HM HK HM3
  have e1 : ((s + 1 : Nat) : Int) = (s : Int) + 1 := by omega
  have e2 : ((c + 1 : Nat) : Int) = (c : Int) + 1 := by omega
  rw [e1] at h0 hw HM4 HK3 hf2 h2 hf3
  rw [e2] at HM4
  clear e1 e2
  generalize l.length = n at h0 hk hl
  go_enter Try.func16, Try.ntmps16
  go_wp2_with fail
  refine H.out.mono ?_
  rintro e w1 ⟨rfl, rfl⟩
  go_wp2
  go_ret2
  exact ⟨rfl, HM4.out, HK3.out.set (.inl (.inl rfl)) _⟩
theorem casR_other {w : World} {b g k : Nat} {l : List Value} {s c : Nat} (x old y : Int) (h : MemR w b g l s c) (hx : l[k]? = some (.int .i64 x)) (hne : x ≠ old) (hs : s ≤ 1000000) :
    Calls Try.prog 16 #[.pointer (some ⟨b, 0, none⟩), .int .i64 (k : Int), .int .i64 old, .int .i64 y] w fun e w' =>
      e = .returned (.tuple #[.bool false, .int .i64 0]) ∧ MemR w' b g l (s + 1) c ∧ Keep (Of b g) w w' := by
  have hk : k < l.length := (List.getElem?_eq_some_iff.1 hx).1
  have H := Lib.hid (thereR_yes h hk)
  have HM := Lib.hid h.step
  have HK := Lib.hid ((Keep.refl (Of b g) w).set (p := ⟨b, 1, none⟩) (.inl (.inl rfl)) (.int .i64 ((s + 1 : Nat) : Int)))
  have h1 := h.c1
  have hf := free_at h.box 1
  have h0 := HM.out.c0
  have hw := HM.out.cw hx
  have hl := h.len
  clear h hx
  have e1 : ((s + 1 : Nat) : Int) = (s : Int) + 1 := by omega
  rw [e1] at h0 hw HM HK
  clear e1
  generalize l.length = n at h0 hk hl
  go_enter Try.func16, Try.ntmps16
  go_wp2_with fail
  refine H.out.mono ?_
  rintro e w1 ⟨rfl, rfl⟩
  go_wp2
  go_ret2
  exact ⟨rfl, HM.out, HK.out⟩
theorem casR_any {w : World} {b g k : Nat} {l : List Value} {s c : Nat} (x old y : Int) (h : MemR w b g l s c) (hx : l[k]? = some (.int .i64 x)) (hs : s ≤ 1000000) (hc : c ≤ 1000000) :
    Calls Try.prog 16 #[.pointer (some ⟨b, 0, none⟩), .int .i64 (k : Int), .int .i64 old, .int .i64 y] w fun e w' =>
      e = .returned (.tuple #[.bool (decide (x = old)), .int .i64 0]) ∧ MemR w' b g (if x = old then l.set k (.int .i64 y) else l) (s + 1) (if x = old then c + 1 else c) ∧ Keep (Of b g) w w' := by
  by_cases he : x = old
  · subst he
    rw [if_pos rfl, if_pos rfl, decide_eq_true (rfl : x = x)]
    exact casR_yes x y h hx hs hc
  · rw [if_neg he, if_neg he, decide_eq_false he]
    exact casR_other x old y h hx he hs

end Go.Proofs.Ythalghjnnfohaaa
