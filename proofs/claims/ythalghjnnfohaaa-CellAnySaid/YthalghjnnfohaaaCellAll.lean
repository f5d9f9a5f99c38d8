/-
  The contracts of a memory for every word, there or not, in the words of CellPure: of numbers, of texts, of the reference; conditions stand at each.
-/
import Derived.Test.YthalghjnnfohaaaCellPure
import Derived.Test.YthalghjnnfohaaaCellInt
import Derived.Test.YthalghjnnfohaaaCellStr
import Derived.Test.YthalghjnnfohaaaCellRef
namespace Go.Proofs.Ythalghjnnfohaaa
open Go.RowKit Go.Sort
set_option linter.unusedVariables false
set_option linter.unusedSimpArgs false

theorem in_nat {n : Nat} {i : Int} (h : inW n i) : ∃ k : Nat, i = (k : Int) ∧ k < n := ⟨i.toNat, by unfold inW at h; omega, by unfold inW at h; omega⟩
theorem in_of {n k : Nat} (h : k < n) : inW n (k : Int) := by unfold inW; omega

theorem loadI {w : World} {b g : Nat} {l : List Int} {s c : Nat} (h : MemI w b g (l.map (.int .i64)) s c) (i : Int) (hs : s ≤ 1000000) :
    Calls Try.prog 11 #[.pointer (some ⟨b, 0, none⟩), .int .i64 i] w fun e w' =>
      e = .returned (.tuple #[.int .i64 (getW 0 l i), .int .i64 (errW l.length i)]) ∧ MemI w' b g (l.map (.int .i64)) (stepW l.length i s) c ∧ Keep (Of b g) w w' := by
  by_cases hi : inW l.length i
  · obtain ⟨k, rfl, hk⟩ := in_nat hi
    have e1 : getW 0 l (k : Int) = l[k] := by unfold getW; rw [if_pos hi]; simp [hk]
    have e2 : errW l.length (k : Int) = 0 := by unfold errW; rw [if_pos hi]
    have e3 : stepW l.length (k : Int) s = s + 1 := by unfold stepW; rw [if_pos hi]
    rw [e1, e2, e3]
    exact loadI_any l[k] h (by simp [hk]) hs
  · have e1 : getW 0 l i = 0 := by unfold getW; rw [if_neg hi]
    have e2 : errW l.length i = 1 := by unfold errW; rw [if_neg hi]
    have e3 : stepW l.length i s = s := by unfold stepW; rw [if_neg hi]
    rw [e1, e2, e3]
    refine (loadI_no (h.no (by simpa [inW] using hi))).mono ?_
    rintro e w' ⟨rfl, rfl⟩
    exact ⟨rfl, h, Keep.refl _ _⟩
theorem storeI {w : World} {b g : Nat} {l : List Int} {s c : Nat} (h : MemI w b g (l.map (.int .i64)) s c) (i : Int) (x : Int) (hs : s ≤ 1000000) :
    Calls Try.prog 13 #[.pointer (some ⟨b, 0, none⟩), .int .i64 i, .int .i64 x] w fun e w' =>
      e = .returned (.int .i64 (errW l.length i)) ∧ MemI w' b g ((setW l i x).map (.int .i64)) (stepW l.length i s) c ∧ Keep (Of b g) w w' := by
  by_cases hi : inW l.length i
  · obtain ⟨k, rfl, hk⟩ := in_nat hi
    have e1 : setW l (k : Int) x = l.set k x := by unfold setW; rw [if_pos hi]; simp
    have e2 : errW l.length (k : Int) = 0 := by unfold errW; rw [if_pos hi]
    have e3 : stepW l.length (k : Int) s = s + 1 := by unfold stepW; rw [if_pos hi]
    rw [e1, e2, e3, List.map_set]
    exact storeI_any x h (by simpa using hk) hs
  · have e1 : setW l i x = l := by unfold setW; rw [if_neg hi]
    have e2 : errW l.length i = 1 := by unfold errW; rw [if_neg hi]
    have e3 : stepW l.length i s = s := by unfold stepW; rw [if_neg hi]
    rw [e1, e2, e3]
    refine (storeI_no x (h.no (by simpa [inW] using hi))).mono ?_
    rintro e w' ⟨rfl, rfl⟩
    exact ⟨rfl, h, Keep.refl _ _⟩
theorem casI {w : World} {b g : Nat} {l : List Int} {s c : Nat} (h : MemI w b g (l.map (.int .i64)) s c) (i : Int) (old x : Int) (hs : s ≤ 1000000) (hc : c ≤ 1000000) :
    Calls Try.prog 15 #[.pointer (some ⟨b, 0, none⟩), .int .i64 i, .int .i64 old, .int .i64 x] w fun e w' =>
      e = .returned (.tuple #[.bool (swapW l i old), .int .i64 (errW l.length i)]) ∧ MemI w' b g ((casW l i old x).map (.int .i64)) (stepW l.length i s) (changeW l i old c) ∧ Keep (Of b g) w w' := by
  unfold casW changeW
  by_cases hi : inW l.length i
  · obtain ⟨k, rfl, hk⟩ := in_nat hi
    have e1 : setW l (k : Int) x = l.set k x := by unfold setW; rw [if_pos hi]; simp
    have e2 : errW l.length (k : Int) = 0 := by unfold errW; rw [if_pos hi]
    have e3 : stepW l.length (k : Int) s = s + 1 := by unfold stepW; rw [if_pos hi]
    have e4 : swapW l (k : Int) old = decide (l[k] = old) := by
      unfold swapW
      simp [hi, hk]
    rw [e1, e2, e3, e4]
    have := casI_any l[k] old x h (k := k) (by simp [hk]) hs hc
    by_cases he : l[k] = old
    · rw [if_pos he, if_pos he, decide_eq_true he] at this
      rw [decide_eq_true he, if_pos rfl, if_pos rfl, List.map_set]
      exact this
    · rw [if_neg he, if_neg he, decide_eq_false he] at this
      rw [decide_eq_false he, if_neg Bool.false_ne_true, if_neg Bool.false_ne_true]
      exact this
  · have e2 : errW l.length i = 1 := by unfold errW; rw [if_neg hi]
    have e3 : stepW l.length i s = s := by unfold stepW; rw [if_neg hi]
    have e4 : swapW l i old = false := decide_eq_false fun h => hi h.1
    rw [e2, e3, e4, if_neg Bool.false_ne_true, if_neg Bool.false_ne_true]
    refine (casI_no old x (h.no (by simpa [inW] using hi))).mono ?_
    rintro e w' ⟨rfl, rfl⟩
    exact ⟨rfl, h, Keep.refl _ _⟩

theorem loadS {w : World} {b g : Nat} {l : List ByteArray} {s c : Nat} (h : MemS w b g (l.map (.string)) s c) (i : Int) (hs : s ≤ 1000000) :
    Calls Try.prog 20 #[.pointer (some ⟨b, 0, none⟩), .int .i64 i] w fun e w' =>
      e = .returned (.tuple #[.string (getW ByteArray.empty l i), .int .i64 (errW l.length i)]) ∧ MemS w' b g (l.map (.string)) (stepW l.length i s) c ∧ Keep (Of b g) w w' := by
  by_cases hi : inW l.length i
  · obtain ⟨k, rfl, hk⟩ := in_nat hi
    have e1 : getW ByteArray.empty l (k : Int) = l[k] := by unfold getW; rw [if_pos hi]; simp [hk]
    have e2 : errW l.length (k : Int) = 0 := by unfold errW; rw [if_pos hi]
    have e3 : stepW l.length (k : Int) s = s + 1 := by unfold stepW; rw [if_pos hi]
    rw [e1, e2, e3]
    exact loadS_any l[k] h (by simp [hk]) hs
  · have e1 : getW ByteArray.empty l i = ByteArray.empty := by unfold getW; rw [if_neg hi]
    have e2 : errW l.length i = 1 := by unfold errW; rw [if_neg hi]
    have e3 : stepW l.length i s = s := by unfold stepW; rw [if_neg hi]
    rw [e1, e2, e3]
    refine (loadS_no (h.no (by simpa [inW] using hi))).mono ?_
    rintro e w' ⟨rfl, rfl⟩
    exact ⟨rfl, h, Keep.refl _ _⟩
theorem storeS {w : World} {b g : Nat} {l : List ByteArray} {s c : Nat} (h : MemS w b g (l.map (.string)) s c) (i : Int) (x : ByteArray) (hs : s ≤ 1000000) :
    Calls Try.prog 21 #[.pointer (some ⟨b, 0, none⟩), .int .i64 i, .string x] w fun e w' =>
      e = .returned (.int .i64 (errW l.length i)) ∧ MemS w' b g ((setW l i x).map (.string)) (stepW l.length i s) c ∧ Keep (Of b g) w w' := by
  by_cases hi : inW l.length i
  · obtain ⟨k, rfl, hk⟩ := in_nat hi
    have e1 : setW l (k : Int) x = l.set k x := by unfold setW; rw [if_pos hi]; simp
    have e2 : errW l.length (k : Int) = 0 := by unfold errW; rw [if_pos hi]
    have e3 : stepW l.length (k : Int) s = s + 1 := by unfold stepW; rw [if_pos hi]
    rw [e1, e2, e3, List.map_set]
    exact storeS_any x h (by simpa using hk) hs
  · have e1 : setW l i x = l := by unfold setW; rw [if_neg hi]
    have e2 : errW l.length i = 1 := by unfold errW; rw [if_neg hi]
    have e3 : stepW l.length i s = s := by unfold stepW; rw [if_neg hi]
    rw [e1, e2, e3]
    refine (storeS_no x (h.no (by simpa [inW] using hi))).mono ?_
    rintro e w' ⟨rfl, rfl⟩
    exact ⟨rfl, h, Keep.refl _ _⟩
theorem casS {w : World} {b g : Nat} {l : List ByteArray} {s c : Nat} (h : MemS w b g (l.map (.string)) s c) (i : Int) (old x : ByteArray) (hs : s ≤ 1000000) (hc : c ≤ 1000000) :
    Calls Try.prog 22 #[.pointer (some ⟨b, 0, none⟩), .int .i64 i, .string old, .string x] w fun e w' =>
      e = .returned (.tuple #[.bool (swapW l i old), .int .i64 (errW l.length i)]) ∧ MemS w' b g ((casW l i old x).map (.string)) (stepW l.length i s) (changeW l i old c) ∧ Keep (Of b g) w w' := by
  unfold casW changeW
  by_cases hi : inW l.length i
  · obtain ⟨k, rfl, hk⟩ := in_nat hi
    have e1 : setW l (k : Int) x = l.set k x := by unfold setW; rw [if_pos hi]; simp
    have e2 : errW l.length (k : Int) = 0 := by unfold errW; rw [if_pos hi]
    have e3 : stepW l.length (k : Int) s = s + 1 := by unfold stepW; rw [if_pos hi]
    have e4 : swapW l (k : Int) old = decide (l[k] = old) := by
      unfold swapW
      simp [hi, hk]
    rw [e1, e2, e3, e4]
    have := casS_any l[k] old x h (k := k) (by simp [hk]) hs hc
    by_cases he : l[k] = old
    · rw [if_pos he, if_pos he, decide_eq_true he] at this
      rw [decide_eq_true he, if_pos rfl, if_pos rfl, List.map_set]
      exact this
    · rw [if_neg he, if_neg he, decide_eq_false he] at this
      rw [decide_eq_false he, if_neg Bool.false_ne_true, if_neg Bool.false_ne_true]
      exact this
  · have e2 : errW l.length i = 1 := by unfold errW; rw [if_neg hi]
    have e3 : stepW l.length i s = s := by unfold stepW; rw [if_neg hi]
    have e4 : swapW l i old = false := decide_eq_false fun h => hi h.1
    rw [e2, e3, e4, if_neg Bool.false_ne_true, if_neg Bool.false_ne_true]
    refine (casS_no old x (h.no (by simpa [inW] using hi))).mono ?_
    rintro e w' ⟨rfl, rfl⟩
    exact ⟨rfl, h, Keep.refl _ _⟩

theorem loadR {w : World} {b g : Nat} {l : List Int} {s c : Nat} (h : MemR w b g (l.map (.int .i64)) s c) (i : Int) (hs : s ≤ 1000000) :
    Calls Try.prog 12 #[.pointer (some ⟨b, 0, none⟩), .int .i64 i] w fun e w' =>
      e = .returned (.tuple #[.int .i64 (getW 0 l i), .int .i64 (errW l.length i)]) ∧ MemR w' b g (l.map (.int .i64)) (stepW l.length i s) c ∧ Keep (Of b g) w w' := by
  by_cases hi : inW l.length i
  · obtain ⟨k, rfl, hk⟩ := in_nat hi
    have e1 : getW 0 l (k : Int) = l[k] := by unfold getW; rw [if_pos hi]; simp [hk]
    have e2 : errW l.length (k : Int) = 0 := by unfold errW; rw [if_pos hi]
    have e3 : stepW l.length (k : Int) s = s + 1 := by unfold stepW; rw [if_pos hi]
    rw [e1, e2, e3]
    exact loadR_any l[k] h (by simp [hk]) hs
  · have e1 : getW 0 l i = 0 := by unfold getW; rw [if_neg hi]
    have e2 : errW l.length i = 1 := by unfold errW; rw [if_neg hi]
    have e3 : stepW l.length i s = s := by unfold stepW; rw [if_neg hi]
    rw [e1, e2, e3]
    refine (loadR_no h (by simpa [inW] using hi)).mono ?_
    rintro e w' ⟨rfl, rfl⟩
    exact ⟨rfl, h, Keep.refl _ _⟩
theorem storeR {w : World} {b g : Nat} {l : List Int} {s c : Nat} (h : MemR w b g (l.map (.int .i64)) s c) (i : Int) (x : Int) (hs : s ≤ 1000000) :
    Calls Try.prog 14 #[.pointer (some ⟨b, 0, none⟩), .int .i64 i, .int .i64 x] w fun e w' =>
      e = .returned (.int .i64 (errW l.length i)) ∧ MemR w' b g ((setW l i x).map (.int .i64)) (stepW l.length i s) c ∧ Keep (Of b g) w w' := by
  by_cases hi : inW l.length i
  · obtain ⟨k, rfl, hk⟩ := in_nat hi
    have e1 : setW l (k : Int) x = l.set k x := by unfold setW; rw [if_pos hi]; simp
    have e2 : errW l.length (k : Int) = 0 := by unfold errW; rw [if_pos hi]
    have e3 : stepW l.length (k : Int) s = s + 1 := by unfold stepW; rw [if_pos hi]
    rw [e1, e2, e3, List.map_set]
    exact storeR_any x h (by simpa using hk) hs
  · have e1 : setW l i x = l := by unfold setW; rw [if_neg hi]
    have e2 : errW l.length i = 1 := by unfold errW; rw [if_neg hi]
    have e3 : stepW l.length i s = s := by unfold stepW; rw [if_neg hi]
    rw [e1, e2, e3]
    refine (storeR_no x h (by simpa [inW] using hi)).mono ?_
    rintro e w' ⟨rfl, rfl⟩
    exact ⟨rfl, h, Keep.refl _ _⟩
theorem casR {w : World} {b g : Nat} {l : List Int} {s c : Nat} (h : MemR w b g (l.map (.int .i64)) s c) (i : Int) (old x : Int) (hs : s ≤ 1000000) (hc : c ≤ 1000000) :
    Calls Try.prog 16 #[.pointer (some ⟨b, 0, none⟩), .int .i64 i, .int .i64 old, .int .i64 x] w fun e w' =>
      e = .returned (.tuple #[.bool (swapW l i old), .int .i64 (errW l.length i)]) ∧ MemR w' b g ((casW l i old x).map (.int .i64)) (stepW l.length i s) (changeW l i old c) ∧ Keep (Of b g) w w' := by
  unfold casW changeW
  by_cases hi : inW l.length i
  · obtain ⟨k, rfl, hk⟩ := in_nat hi
    have e1 : setW l (k : Int) x = l.set k x := by unfold setW; rw [if_pos hi]; simp
    have e2 : errW l.length (k : Int) = 0 := by unfold errW; rw [if_pos hi]
    have e3 : stepW l.length (k : Int) s = s + 1 := by unfold stepW; rw [if_pos hi]
    have e4 : swapW l (k : Int) old = decide (l[k] = old) := by
      unfold swapW
      simp [hi, hk]
    rw [e1, e2, e3, e4]
    have := casR_any l[k] old x h (k := k) (by simp [hk]) hs hc
    by_cases he : l[k] = old
    · rw [if_pos he, if_pos he, decide_eq_true he] at this
      rw [decide_eq_true he, if_pos rfl, if_pos rfl, List.map_set]
      exact this
    · rw [if_neg he, if_neg he, decide_eq_false he] at this
      rw [decide_eq_false he, if_neg Bool.false_ne_true, if_neg Bool.false_ne_true]
      exact this
  · have e2 : errW l.length i = 1 := by unfold errW; rw [if_neg hi]
    have e3 : stepW l.length i s = s := by unfold stepW; rw [if_neg hi]
    have e4 : swapW l i old = false := decide_eq_false fun h => hi h.1
    rw [e2, e3, e4, if_neg Bool.false_ne_true, if_neg Bool.false_ne_true]
    refine (casR_no old x h (by simpa [inW] using hi)).mono ?_
    rintro e w' ⟨rfl, rfl⟩
    exact ⟨rfl, h, Keep.refl _ _⟩

end Go.Proofs.Ythalghjnnfohaaa
