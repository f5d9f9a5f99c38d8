/-
  What layer 5 says, in plain words: the pieces of a string, what pieces are joined to; no condition.
-/
import Derived.Test.YtalhnmaecnielaaStrs
namespace Go.Proofs.Ytalhnmaecnielaa
set_option linter.unusedVariables false

/-- A size of a long value. -/
def Long (n : Int) : Prop := 24 < n ∧ n ≤ 400
instance (n : Int) : Decidable (Long n) := inferInstanceAs (Decidable (_ ∧ _))
/-- The pieces of a string of at most 480 bytes, whatever its size. -/
def pcs (s : ByteArray) : List ByteArray := if s.size = 0 then [] else if s.size ≤ 240 then [s] else [s.extract 0 240, s.extract 240 s.size]
/-- Cut. -/
def cutL (s : ByteArray) : List ByteArray := if Long s.size then pcs s else []
/-- Pages. -/
def pagesN (s : ByteArray) : Nat := if Long s.size then (s.size + 239) / 240 else 0
theorem cutL_length (s : ByteArray) : (cutL s).length = pagesN s := by
  unfold cutL pagesN
  by_cases h : Long s.size
  · rw [if_pos h, if_pos h]
    unfold pcs
    obtain ⟨h1, h2⟩ := h
    rw [if_neg (by omega)]
    by_cases h3 : s.size ≤ 240
    · rw [if_pos h3]
      simp only [List.length_singleton]
      omega
    · rw [if_neg h3]
      simp only [List.length_cons, List.length_nil]
      omega
  · rw [if_neg h, if_neg h]
    rfl
theorem pages_le (s : ByteArray) : pagesN s ≤ 2 := by
  unfold pagesN
  split
  · rename_i h
    have := h.2
    omega
  · omega

/-- The bytes of the pieces, one behind the other. -/
def cat (l : List ByteArray) : ByteArray := ⟨(l.flatMap fun s => s.data.toList).toArray⟩
theorem cat_nil : cat [] = ByteArray.empty := rfl
theorem cat_one (s : ByteArray) : cat [s] = s := by
  cases s
  simp [cat]
theorem cat_two (s t : ByteArray) : cat [s, t] = ⟨(s.data.toList ++ t.data.toList).toArray⟩ := by simp [cat]
theorem cat_size_two (s t : ByteArray) : (cat [s, t]).size = s.size + t.size := by
  rw [cat_two]
  show (s.data.toList ++ t.data.toList).toArray.size = _
  rw [List.size_toArray, List.length_append]
  rfl

/-- Pieces that are those of a value of n bytes. -/
def Fits : List ByteArray → Int → Prop
  | [], n => n = 0
  | s :: l, n => (s.size : Int) = min n 240 ∧ Fits l (n - min n 240)
instance decFits : (l : List ByteArray) → (n : Int) → Decidable (Fits l n)
  | [], n => inferInstanceAs (Decidable (n = 0))
  | s :: l, n => @instDecidableAnd _ _ _ (decFits l _)
/-- So many pieces as a value of n bytes has, and each as long as its. -/
def Fit (l : List ByteArray) (n : Int) : Prop := (l.length : Int) = (n + 239) / 240 ∧ Fits l n
instance (l : List ByteArray) (n : Int) : Decidable (Fit l n) := inferInstanceAs (Decidable (_ ∧ _))
/-- Join. -/
def joinS (l : List ByteArray) (n : Int) : ByteArray := if Long n ∧ l.length ≤ 2 ∧ Fit l n then cat l else ByteArray.empty
def joinE (l : List ByteArray) (n : Int) : Int := if Long n ∧ l.length ≤ 2 then (if Fit l n then 0 else 3) else 4

theorem toNat_le (s : ByteArray) : s.data.toList.length = s.size := rfl

/-- What fits is one piece or two. -/
theorem fit_cases {l : List ByteArray} {n : Int} (hn : Long n) (h : Fit l n) : (∃ s, l = [s] ∧ (s.size : Int) = n ∧ n ≤ 240) ∨ ∃ s t, l = [s, t] ∧ s.size = 240 ∧ (t.size : Int) = n - 240 ∧ 240 < n := by
  obtain ⟨h1, h2⟩ := hn
  obtain ⟨h3, h4⟩ := h
  match l, h3, h4 with
  | [], h3, h4 => simp only [List.length_nil] at h3; omega
  | [s], h3, h4 =>
    simp only [List.length_singleton] at h3
    simp only [Fits] at h4
    exact .inl ⟨s, rfl, by omega, by omega⟩
  | [s, t], h3, h4 =>
    simp only [List.length_cons, List.length_nil] at h3
    simp only [Fits] at h4
    exact .inr ⟨s, t, rfl, by omega, by omega, by omega⟩
  | s :: t :: u :: l, h3, h4 => simp only [List.length_cons] at h3; omega

theorem ext_list {s t : ByteArray} (h : s.data.toList = t.data.toList) : s = t := by
  cases s; cases t
  simp only at h
  congr 1
  exact Array.toList_inj.1 h

theorem cut_cat {l : List ByteArray} {n : Int} (hn : Long n) (h : Fit l n) : cutL (cat l) = l ∧ ((cat l).size : Int) = n := by
  rcases fit_cases hn h with ⟨s, rfl, h1, h2⟩ | ⟨s, t, rfl, h1, h2, h3⟩
  · rw [cat_one]
    refine ⟨?_, h1⟩
    unfold cutL pcs
    have := hn.1
    rw [if_pos (by rw [h1]; exact hn), if_neg (by omega), if_pos (by omega)]
  · have hs := cat_size_two s t
    have hc : (cat [s, t]).data.toList = s.data.toList ++ t.data.toList := by rw [cat_two]
    refine ⟨?_, by omega⟩
    unfold cutL pcs
    rw [if_pos (by rw [show ((cat [s, t]).size : Int) = n by omega]; exact hn), if_neg (by omega), if_neg (by omega)]
    have l1 : s.data.toList.length = 240 := by rw [toNat_le]; exact h1
    have l2 : t.data.toList.length = t.size := toNat_le t
    have x1 : (cat [s, t]).extract 0 240 = s := ext_list (by rw [Lib.extract_data, hc, List.drop_zero, List.take_left' (by omega)])
    have x2 : (cat [s, t]).extract 240 (cat [s, t]).size = t := ext_list (by rw [Lib.extract_data, hc, List.drop_left' l1, List.take_of_length_le (by omega)])
    rw [x1, x2]

/-- What is cut fits, and makes the value. -/
theorem cut_fit {s : ByteArray} (hl : Long s.size) : Fit (cutL s) s.size ∧ cat (cutL s) = s := by
  obtain ⟨h1, h2⟩ := hl
  unfold cutL pcs
  rw [if_pos ⟨h1, h2⟩, if_neg (by omega)]
  by_cases h3 : s.size ≤ 240
  · rw [if_pos h3]
    refine ⟨⟨by simp only [List.length_singleton]; omega, ?_⟩, cat_one s⟩
    simp only [Fits]
    omega
  · rw [if_neg h3]
    have e1 : (s.extract 0 240).size = 240 := by simp only [ByteArray.size_extract]; omega
    have e2 : (s.extract 240 s.size).size = s.size - 240 := by simp only [ByteArray.size_extract]; omega
    refine ⟨⟨by simp only [List.length_cons, List.length_nil]; omega, ?_⟩, ?_⟩
    · simp only [Fits]
      omega
    · apply ext_list
      rw [cat_two, Lib.extract_data, Lib.extract_data]
      have l2 : s.data.toList.length = s.size := toNat_le s
      simp only [List.drop_zero, Nat.sub_zero]
      rw [List.take_of_length_le (l := s.data.toList.drop 240) (by rw [List.length_drop]; omega), List.take_append_drop]

/-- The reference's words: the bytes are as many as told, and cut are these pieces. -/
theorem ref_iff {l : List ByteArray} {n : Int} (hn : Long n) : Fit l n ↔ ((cat l).size : Int) = n ∧ cutL (cat l) = l := by
  constructor
  · intro h
    have := cut_cat hn h
    exact ⟨this.2, this.1⟩
  · rintro ⟨h1, h2⟩
    have hl : Long (cat l).size := by rw [h1]; exact hn
    have := (cut_fit hl).1
    rw [h2, h1] at this
    exact this

end Go.Proofs.Ytalhnmaecnielaa
