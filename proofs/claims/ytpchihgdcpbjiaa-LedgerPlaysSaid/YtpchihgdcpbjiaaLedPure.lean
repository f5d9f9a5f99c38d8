/-
  Pages as marks: which pages a list marks, which are free, how many, the least one; no condition but what stands at each.
-/
import Derived.Test.YtpchihgdcpbjiaaRows
namespace Go.Proofs.Ytpchihgdcpbjiaa
set_option linter.unusedVariables false

/-- No mark. -/
def noMark : Nat → Bool := fun _ => false
/-- One mark more. -/
def mark1 (f : Nat → Bool) (k : Nat) : Nat → Bool := fun i => f i || decide (i = k)
/-- Is it a page that is given at times? -/
def okPg (n : Nat) (x : Int) : Bool := decide (2 ≤ x) && decide (x < (n : Int))
/-- What a list marks. -/
def memB (n : Nat) (l : List Int) : Nat → Bool := fun i => decide (2 ≤ i) && decide (i < n) && decide ((i : Int) ∈ l)
theorem memB_nil (n : Nat) : memB n [] = noMark := by
  funext i
  simp [memB, noMark]
theorem memB_snoc_ok {n : Nat} {l : List Int} {x : Int} (h : okPg n x = true) : memB n (l ++ [x]) = mark1 (memB n l) x.toNat := by
  funext i
  simp only [okPg, Bool.and_eq_true, decide_eq_true_eq] at h
  rw [Bool.eq_iff_iff]
  simp only [memB, mark1, Bool.and_eq_true, Bool.or_eq_true, decide_eq_true_eq, List.mem_append, List.mem_singleton]
  constructor
  · rintro ⟨⟨h1, h2⟩, h3 | h3⟩
    · exact .inl ⟨⟨h1, h2⟩, h3⟩
    · exact .inr (by omega)
  · rintro (⟨⟨h1, h2⟩, h3⟩ | h3)
    · exact ⟨⟨h1, h2⟩, .inl h3⟩
    · exact ⟨⟨by omega, by omega⟩, .inr (by omega)⟩
theorem memB_snoc_no {n : Nat} {l : List Int} {x : Int} (h : okPg n x = false) : memB n (l ++ [x]) = memB n l := by
  funext i
  have h' : ¬ (2 ≤ x ∧ x < (n : Int)) := by
    intro h2
    simp [okPg, h2] at h
  rw [Bool.eq_iff_iff]
  simp only [memB, Bool.and_eq_true, decide_eq_true_eq, List.mem_append, List.mem_singleton]
  constructor
  · rintro ⟨⟨h1, h2⟩, h3 | h3⟩
    · exact ⟨⟨h1, h2⟩, h3⟩
    · exact absurd ⟨by omega, by omega⟩ h'
  · rintro ⟨⟨h1, h2⟩, h3⟩
    exact ⟨⟨h1, h2⟩, .inl h3⟩

/-- Is page i free? -/
def fr (o v t : Nat → Bool) : Nat → Bool := fun i => decide (2 ≤ i) && !o i && !v i && !t i
/-- How many of the first k. -/
def cnt (p : Nat → Bool) : Nat → Nat
  | 0 => 0
  | k + 1 => cnt p k + if p k then 1 else 0
theorem cnt_le (p : Nat → Bool) : ∀ k, cnt p k ≤ k
  | 0 => Nat.le_refl _
  | k + 1 => by
    have := cnt_le p k
    unfold cnt
    split <;> omega
theorem cnt_yes {p : Nat → Bool} {k : Nat} (h : p k = true) : cnt p (k + 1) = cnt p k + 1 := by simp [cnt, h]
theorem cnt_no {p : Nat → Bool} {k : Nat} (h : p k = false) : cnt p (k + 1) = cnt p k := by simp [cnt, h]
theorem cnt_congr {p q : Nat → Bool} : ∀ {k : Nat}, (∀ i, i < k → p i = q i) → cnt p k = cnt q k
  | 0, _ => rfl
  | k + 1, h => by
    unfold cnt
    rw [cnt_congr fun i hi => h i (by omega), h k (by omega)]
theorem cnt_zero {p : Nat → Bool} : ∀ {k : Nat}, (∀ i, i < k → p i = false) → cnt p k = 0
  | 0, _ => rfl
  | k + 1, h => by rw [cnt_no (h k (by omega)), cnt_zero fun i hi => h i (by omega)]
theorem cnt_pos {p : Nat → Bool} {i : Nat} : ∀ {k : Nat}, i < k → p i = true → 0 < cnt p k
  | 0, h, _ => by omega
  | k + 1, h, hp => by
    by_cases hk : i = k
    · subst hk
      rw [cnt_yes hp]
      omega
    · have := cnt_pos (k := k) (by omega) hp
      unfold cnt
      omega
/-- One fewer. -/
theorem cnt_drop {p q : Nat → Bool} {i : Nat} : ∀ {k : Nat}, i < k → p i = true → q i = false → (∀ j, j ≠ i → q j = p j) → cnt p k = cnt q k + 1
  | 0, h, _, _, _ => by omega
  | k + 1, h, hp, hq, ho => by
    by_cases hk : i = k
    · subst hk
      rw [cnt_yes hp, cnt_no hq, cnt_congr fun j hj => (ho j (by omega)).symm]
    · have := cnt_drop (k := k) (by omega) hp hq ho
      unfold cnt
      rw [ho k (by omega)]
      omega
theorem cnt_mono {p q : Nat → Bool} : ∀ {k : Nat}, (∀ j, p j = true → q j = true) → cnt p k ≤ cnt q k
  | 0, _ => Nat.le_refl _
  | k + 1, h => by
    have := cnt_mono (k := k) h
    unfold cnt
    cases hp : p k
    · simp; omega
    · rw [h k hp]; simp; omega
/-- What is free and what is not is all. -/
theorem cnt_not (p : Nat → Bool) : ∀ k, cnt p k + cnt (fun i => !p i) k = k
  | 0 => rfl
  | k + 1 => by
    have := cnt_not p k
    unfold cnt
    cases p k <;> simp <;> omega

/-- The least of the first k. -/
def least (p : Nat → Bool) : Nat → Option Nat
  | 0 => none
  | k + 1 => match least p k with
    | some i => some i
    | none => if p k then some k else none
theorem least_none {p : Nat → Bool} : ∀ {k : Nat}, (∀ i, i < k → p i = false) → least p k = none
  | 0, _ => rfl
  | k + 1, h => by
    unfold least
    rw [least_none fun i hi => h i (by omega), h k (by omega)]
    rfl
theorem least_some {p : Nat → Bool} {i : Nat} : ∀ {k : Nat}, i < k → p i = true → (∀ j, j < i → p j = false) → least p k = some i
  | 0, h, _, _ => by omega
  | k + 1, h, hp, hl => by
    by_cases hk : i = k
    · subst hk
      unfold least
      rw [least_none hl]
      simp [hp]
    · unfold least
      rw [least_some (k := k) (by omega) hp hl]
theorem least_is {p : Nat → Bool} {i : Nat} : ∀ {k : Nat}, least p k = some i → i < k ∧ p i = true ∧ ∀ j, j < i → p j = false
  | 0, h => by cases h
  | k + 1, h => by
    unfold least at h
    cases hl : least p k with
    | some j =>
      rw [hl] at h
      cases h
      obtain ⟨h1, h2⟩ := least_is hl
      exact ⟨by omega, h2⟩
    | none =>
      rw [hl] at h
      by_cases hp : p k = true
      · simp [hp] at h
        subst h
        refine ⟨by omega, hp, ?_⟩
        intro j hj
        have : ∀ {m : Nat}, least p m = none → ∀ j, j < m → p j = false := by
          intro m
          induction m with
          | zero => intro _ j hj; omega
          | succ m ih =>
            intro hm j hj
            unfold least at hm
            cases hlm : least p m with
            | some x => rw [hlm] at hm; cases hm
            | none =>
              rw [hlm] at hm
              by_cases hjm : j = m
              · subst hjm
                cases hpj : p j with
                | false => rfl
                | true => simp [hpj] at hm
              · exact ih hlm j (by omega)
        exact this hl j hj
      · simp [hp] at h
theorem least_no {p : Nat → Bool} : ∀ {k : Nat}, least p k = none → ∀ i, i < k → p i = false
  | 0, _ => fun i hi => by omega
  | k + 1, h => fun i hi => by
    cases hp : p i with
    | false => rfl
    | true =>
      exfalso
      unfold least at h
      cases hl : least p k with
      | some j => rw [hl] at h; cases h
      | none =>
        rw [hl] at h
        by_cases hik : i = k
        · subst hik
          simp [hp] at h
        · have := least_no hl i (by omega)
          rw [hp] at this
          cases this
theorem least_cnt {p : Nat → Bool} {k : Nat} (h : least p k = none) : cnt p k = 0 := cnt_zero (least_no h)
theorem least_cnt_pos {p : Nat → Bool} {k i : Nat} (h : least p k = some i) : 0 < cnt p k := cnt_pos (least_is h).1 (least_is h).2.1
theorem least_of_pos {p : Nat → Bool} {k : Nat} (h : 0 < cnt p k) : ∃ i, least p k = some i := by
  cases hl : least p k with
  | some i => exact ⟨i, rfl⟩
  | none => rw [least_cnt hl] at h; omega

/-- Taking the least. -/
theorem fr_mark_same (o v t : Nat → Bool) (k : Nat) : fr o v (mark1 t k) k = false := by simp [fr, mark1]
theorem fr_mark_other (o v t : Nat → Bool) {k j : Nat} (h : j ≠ k) : fr o v (mark1 t k) j = fr o v t j := by simp [fr, mark1, h]
theorem cnt_take {o v t : Nat → Bool} {n i : Nat} (h : least (fr o v t) n = some i) : cnt (fr o v t) n = cnt (fr o v (mark1 t i)) n + 1 :=
  cnt_drop (least_is h).1 (least_is h).2.1 (fr_mark_same o v t i) fun j hj => fr_mark_other o v t hj
theorem fr_two {o v t : Nat → Bool} {i : Nat} (h : fr o v t i = true) : 2 ≤ i := by
  simp only [fr, Bool.and_eq_true, decide_eq_true_eq] at h
  exact h.1.1.1

/-- How many pages New makes. -/
def clampN (x : Int) : Nat := (min (max x 0) 512).toNat
theorem clampN_le (x : Int) : clampN x ≤ 512 := by unfold clampN; omega
theorem clampN_of (n : Nat) (h : n ≤ 512) : clampN n = n := by unfold clampN; omega

end Go.Proofs.Ytpchihgdcpbjiaa
