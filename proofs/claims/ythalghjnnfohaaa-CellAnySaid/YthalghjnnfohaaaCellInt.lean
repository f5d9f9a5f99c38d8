/-
  The contracts of a memory of numbers: New, step, Load, Store, CAS, Steps, Changes, of words that there are and of those that there are not; conditions stand at each.
-/
import Derived.Test.YthalghjnnfohaaaCellEq
namespace Go.Proofs.Ythalghjnnfohaaa
open Go.RowKit Go.Sort
set_option linter.unusedVariables false
set_option linter.unusedSimpArgs false

/-- A memory of numbers. -/
abbrev MemI := Mem 55 3

set_option maxHeartbeats 400000 in
theorem newI_any (x : Int) (w : World) : Calls Try.prog 9 #[.int .i64 x] w fun e w' =>
    ∃ b g, e = .returned (.pointer (some ⟨b, 0, none⟩)) ∧ MemI w' b g (List.replicate (wordsN x) (.int .i64 0)) 0 0 ∧ (∀ i, Of b g i → w.heap.size ≤ i) ∧ Below w.heap.size w w' := by
  have hp := wordsN_le x
  obtain ⟨m, hm⟩ : ∃ m, m = wordsN x := ⟨_, rfl⟩
  have hm2 : (min (max x 0) 65536 : Int) = (m : Int) := by rw [hm]; unfold wordsN; omega
  rw [← hm] at hp ⊢
  have hmake := run_make_ints m hp w
  have Hl := Lib.hid (show (List.replicate m (.int .i64 0 : Value)).length = m by simp)
  obtain ⟨z, hz⟩ : ∃ z, z = List.replicate m (.int .i64 0 : Value) := ⟨_, rfl⟩
  rw [← hz] at hmake Hl ⊢
  have Hm := Lib.hid hm
  clear hm hz
  go_enter Try.func9, Try.ntmps9
  go_wp2
  go_ret
  refine ⟨w.heap.size + 1, w.heap.size, rfl, mem_new _ _ w z (by rw [Hl.out]; exact hp) m Hl.out, ?_, ((Below.refl _ _).alloc (Nat.le_refl _) _).alloc (by simp) _⟩
  rintro i (rfl | rfl) <;> omega

theorem stepI_nil (i : Int) (w : World) : Calls Try.prog 25 #[.pointer none, .int .i64 i] w fun e w' => e = .returned (.bool false) ∧ w' = w := by
  go_enter Try.func25, Try.ntmps25
  go_wp2
  go_ret
  exact ⟨rfl, by trivial⟩
theorem stepI_out {w : World} {b n c : Nat} {A : Option Addr} (i : Int) (h0 : w.cell? ⟨b, 0, none⟩ = some (.slice A n c)) (hi : ¬ (0 ≤ i ∧ i < n)) :
    Calls Try.prog 25 #[.pointer (some ⟨b, 0, none⟩), .int .i64 i] w fun e w' => e = .returned (.bool false) ∧ w' = w := by
  by_cases h1 : i < 0
  · go_enter Try.func25, Try.ntmps25
    go_wp2
    go_ret
    exact ⟨rfl, by trivial⟩
  · have h2 : (n : Int) ≤ i := by omega
    clear hi
    go_enter Try.func25, Try.ntmps25
    go_wp2
    go_ret
    exact ⟨rfl, by trivial⟩
theorem stepI_no {w : World} {p : Value} {i : Int} (h : NoWord w p i) : Calls Try.prog 25 #[p, .int .i64 i] w fun e w' => e = .returned (.bool false) ∧ w' = w := by
  rcases h with rfl | ⟨b, A, n, c, rfl, h0, hi⟩
  · exact stepI_nil i w
  · exact stepI_out i h0 hi
theorem stepI_any {w : World} {b g k : Nat} {l : List Value} {s c : Nat} (h : MemI w b g l s c) (hk : k < l.length) (hs : s ≤ 1000000) :
    Calls Try.prog 25 #[.pointer (some ⟨b, 0, none⟩), .int .i64 (k : Int)] w fun e w' => e = .returned (.bool true) ∧ w' = w.setCell ⟨b, 1, none⟩ (.int .i64 ((s + 1 : Nat) : Int)) := by
  have h0 := h.c0
  have h1 := h.c1
  have hf := free_at h.box 1
  have hl := h.len
  generalize l.length = n at h0 hk hl
  clear h
  go_enter Try.func25, Try.ntmps25
  go_wp2
  go_ret
  refine ⟨rfl, ?_⟩
  first
  | trivial
  | (congr 2; omega)

theorem loadI_no {w : World} {p : Value} {i : Int} (h : NoWord w p i) : Calls Try.prog 11 #[p, .int .i64 i] w fun e w' => e = .returned (.tuple #[.int .i64 0, .int .i64 1]) ∧ w' = w := by
  have H := Lib.hid (stepI_no h)
  clear h
  go_enter Try.func11, Try.ntmps11
  go_wp2_with fail
  refine H.out.mono ?_
  rintro e w1 ⟨rfl, rfl⟩
  go_wp2
  go_ret2
  exact ⟨rfl, by trivial⟩
theorem storeI_no {w : World} {p : Value} {i : Int} (x : Int) (h : NoWord w p i) : Calls Try.prog 13 #[p, .int .i64 i, .int .i64 x] w fun e w' => e = .returned (.int .i64 1) ∧ w' = w := by
  have H := Lib.hid (stepI_no h)
  clear h
  go_enter Try.func13, Try.ntmps13
  go_wp2_with fail
  refine H.out.mono ?_
  rintro e w1 ⟨rfl, rfl⟩
  go_wp2
  go_ret
  exact ⟨rfl, by trivial⟩
theorem casI_no {w : World} {p : Value} {i : Int} (x y : Int) (h : NoWord w p i) : Calls Try.prog 15 #[p, .int .i64 i, .int .i64 x, .int .i64 y] w fun e w' => e = .returned (.tuple #[.bool false, .int .i64 1]) ∧ w' = w := by
  have H := Lib.hid (stepI_no h)
  clear h
  go_enter Try.func15, Try.ntmps15
  go_wp2_with fail
  refine H.out.mono ?_
  rintro e w1 ⟨rfl, rfl⟩
  go_wp2
  go_ret2
  exact ⟨rfl, by trivial⟩

theorem loadI_any {w : World} {b g k : Nat} {l : List Value} {s c : Nat} (x : Int) (h : MemI w b g l s c) (hx : l[k]? = some (.int .i64 x)) (hs : s ≤ 1000000) :
    Calls Try.prog 11 #[.pointer (some ⟨b, 0, none⟩), .int .i64 (k : Int)] w fun e w' => e = .returned (.tuple #[.int .i64 x, .int .i64 0]) ∧ MemI w' b g l (s + 1) c ∧ Keep (Of b g) w w' := by
  have hk : k < l.length := (List.getElem?_eq_some_iff.1 hx).1
  have H := Lib.hid (stepI_any h hk hs)
  have HM := Lib.hid h.step
  have HK := Lib.hid ((Keep.refl (Of b g) w).set (p := ⟨b, 1, none⟩) (.inl (.inl rfl)) (.int .i64 ((s + 1 : Nat) : Int)))
  have HX := Lib.hid hx
  have hl := h.len
  clear h hx
  go_enter Try.func11, Try.ntmps11
  go_wp2_with fail
  refine H.out.mono ?_
  rintro e w1 ⟨rfl, hw⟩
  rw [← hw] at HM HK
  clear hw H
  have h0 := HM.out.c0
  have h1 := HM.out.cw HX.out
  generalize l.length = n at h0 hk hl
  go_wp2
  go_ret2
  exact ⟨rfl, HM.out, HK.out⟩
theorem storeI_any {w : World} {b g k : Nat} {l : List Value} {s c : Nat} (x : Int) (h : MemI w b g l s c) (hk : k < l.length) (hs : s ≤ 1000000) :
    Calls Try.prog 13 #[.pointer (some ⟨b, 0, none⟩), .int .i64 (k : Int), .int .i64 x] w fun e w' => e = .returned (.int .i64 0) ∧ MemI w' b g (l.set k (.int .i64 x)) (s + 1) c ∧ Keep (Of b g) w w' := by
  have H := Lib.hid (stepI_any h hk hs)
  have HM := Lib.hid h.step
  have HK := Lib.hid ((Keep.refl (Of b g) w).set (p := ⟨b, 1, none⟩) (.inl (.inl rfl)) (.int .i64 ((s + 1 : Nat) : Int)))
  have HX := Lib.hid (List.getElem?_eq_getElem hk)
  have hl := h.len
  clear h
  go_enter Try.func13, Try.ntmps13
  go_wp2_with fail
  refine H.out.mono ?_
  rintro e w1 ⟨rfl, hw⟩
  rw [← hw] at HM HK
  clear hw H
  have h0 := HM.out.c0
  have h1 := HM.out.cw HX.out
  generalize l[k] = u at h1
  have hf := free_at HM.out.row k
  clear HX
  generalize l.length = n at h0 hk hl
  go_wp2
  go_ret
  exact ⟨rfl, HM.out.word k _, HK.out.set (.inl (.inr rfl)) _⟩
theorem casI_yes {w : World} {b g k : Nat} {l : List Value} {s c : Nat} (x y : Int) (h : MemI w b g l s c) (hx : l[k]? = some (.int .i64 x)) (hs : s ≤ 1000000) (hc : c ≤ 1000000) :
    Calls Try.prog 15 #[.pointer (some ⟨b, 0, none⟩), .int .i64 (k : Int), .int .i64 x, .int .i64 y] w fun e w' =>
      e = .returned (.tuple #[.bool true, .int .i64 0]) ∧ MemI w' b g (l.set k (.int .i64 y)) (s + 1) (c + 1) ∧ Keep (Of b g) w w' := by
  have hk : k < l.length := (List.getElem?_eq_some_iff.1 hx).1
  have H := Lib.hid (stepI_any h hk hs)
  have HM := Lib.hid h.step
  have HK := Lib.hid ((Keep.refl (Of b g) w).set (p := ⟨b, 1, none⟩) (.inl (.inl rfl)) (.int .i64 ((s + 1 : Nat) : Int)))
  have HX := Lib.hid hx
  have hl := h.len
  clear h hx
  go_enter Try.func15, Try.ntmps15
  go_wp2_with fail
  refine H.out.mono ?_
  rintro e w1 ⟨rfl, hw⟩
  rw [← hw] at HM HK
  clear hw H
  have h0 := HM.out.c0
  have h1 := HM.out.cw HX.out
  generalize l.length = n at h0 hk hl
  go_wp2_with fail
  refine (equalI x x w1).mono ?_
  rintro e w2 ⟨rfl, rfl⟩
  rw [decide_eq_true (rfl : x = x)]
  have hf := free_at HM.out.row k
  have HM3 := Lib.hid (HM.out.word k (.int .i64 y))
  have HK3 := Lib.hid (HK.out.set (p := ⟨g, k, none⟩) (.inl (.inr rfl)) (.int .i64 y))
  have h2 := HM3.out.c2
  have hf2 := free_at HM3.out.box 2
  go_wp2
  go_ret2
  refine ⟨rfl, ?_, HK3.out.set (.inl (.inl rfl)) _⟩
  have := HM3.out.change
  simpa using this
theorem casI_other {w : World} {b g k : Nat} {l : List Value} {s c : Nat} (x old y : Int) (h : MemI w b g l s c) (hx : l[k]? = some (.int .i64 x)) (hne : x ≠ old) (hs : s ≤ 1000000) :
    Calls Try.prog 15 #[.pointer (some ⟨b, 0, none⟩), .int .i64 (k : Int), .int .i64 old, .int .i64 y] w fun e w' =>
      e = .returned (.tuple #[.bool false, .int .i64 0]) ∧ MemI w' b g l (s + 1) c ∧ Keep (Of b g) w w' := by
  have hk : k < l.length := (List.getElem?_eq_some_iff.1 hx).1
  have H := Lib.hid (stepI_any h hk hs)
  have HM := Lib.hid h.step
  have HK := Lib.hid ((Keep.refl (Of b g) w).set (p := ⟨b, 1, none⟩) (.inl (.inl rfl)) (.int .i64 ((s + 1 : Nat) : Int)))
  have HX := Lib.hid hx
  have HN := Lib.hid hne
  have hl := h.len
  clear h hx hne
  go_enter Try.func15, Try.ntmps15
  go_wp2_with fail
  refine H.out.mono ?_
  rintro e w1 ⟨rfl, hw⟩
  rw [← hw] at HM HK
  clear hw H
  have h0 := HM.out.c0
  have h1 := HM.out.cw HX.out
  generalize l.length = n at h0 hk hl
  go_wp2_with fail
  refine (equalI x old w1).mono ?_
  rintro e w2 ⟨rfl, rfl⟩
  rw [decide_eq_false HN.out]
  go_wp2
  go_ret2
  exact ⟨rfl, HM.out, HK.out⟩
theorem casI_any {w : World} {b g k : Nat} {l : List Value} {s c : Nat} (x old y : Int) (h : MemI w b g l s c) (hx : l[k]? = some (.int .i64 x)) (hs : s ≤ 1000000) (hc : c ≤ 1000000) :
    Calls Try.prog 15 #[.pointer (some ⟨b, 0, none⟩), .int .i64 (k : Int), .int .i64 old, .int .i64 y] w fun e w' =>
      e = .returned (.tuple #[.bool (decide (x = old)), .int .i64 0]) ∧ MemI w' b g (if x = old then l.set k (.int .i64 y) else l) (s + 1) (if x = old then c + 1 else c) ∧ Keep (Of b g) w w' := by
  by_cases he : x = old
  · subst he
    rw [if_pos rfl, if_pos rfl, decide_eq_true (rfl : x = x)]
    exact casI_yes x y h hx hs hc
  · rw [if_neg he, if_neg he, decide_eq_false he]
    exact casI_other x old y h hx he hs

theorem stepsI_nil (w : World) : Calls Try.prog 17 #[.pointer none] w fun e w' => e = .returned (.int .i64 0) ∧ w' = w := by
  go_enter Try.func17, Try.ntmps17
  go_wp2
  go_ret
  exact ⟨rfl, by trivial⟩
theorem stepsI_any {w : World} {b : Nat} {s : Int} (h : w.cell? ⟨b, 1, none⟩ = some (.int .i64 s)) : Calls Try.prog 17 #[.pointer (some ⟨b, 0, none⟩)] w fun e w' => e = .returned (.int .i64 s) ∧ w' = w := by
  go_enter Try.func17, Try.ntmps17
  go_wp2
  go_ret
  exact ⟨rfl, by trivial⟩
theorem changesI_nil (w : World) : Calls Try.prog 18 #[.pointer none] w fun e w' => e = .returned (.int .i64 0) ∧ w' = w := by
  go_enter Try.func18, Try.ntmps18
  go_wp2
  go_ret
  exact ⟨rfl, by trivial⟩
theorem changesI_any {w : World} {b : Nat} {s : Int} (h : w.cell? ⟨b, 2, none⟩ = some (.int .i64 s)) : Calls Try.prog 18 #[.pointer (some ⟨b, 0, none⟩)] w fun e w' => e = .returned (.int .i64 s) ∧ w' = w := by
  go_enter Try.func18, Try.ntmps18
  go_wp2
  go_ret
  exact ⟨rfl, by trivial⟩

end Go.Proofs.Ythalghjnnfohaaa
