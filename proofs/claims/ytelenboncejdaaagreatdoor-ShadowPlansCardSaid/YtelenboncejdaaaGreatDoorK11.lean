/-
  Several texts in one: LedPure, LedMem, LedSmall, LedTake, LedInts. Each says what it proves, and under which conditions.
-/
import Derived.Test.YtelenboncejdaaaGreatDoorK10
import Derived.Test.YtelenboncejdaaaGreatDoorRows
import Derived.Deep.MidRow
import Derived.Deep.WholeRow

/-
  Pages as marks: which pages a list marks, which are free, how many, the ldLeast one; no condition but what stands at each.
-/
namespace Go.Proofs.YtelenboncejdaaaGreatDoor
set_option linter.unusedVariables false

/-- No mark. -/
def noMark : Nat → Bool := fun _ => false
/-- One mark more. -/
def mark1 (f : Nat → Bool) (k : Nat) : Nat → Bool := fun i => f i || decide (i = k)
/-- Is it a page that is given at times? -/
def okPg (n : Nat) (x : Int) : Bool := decide (2 ≤ x) && decide (x < (n : Int))
/-- What a list marks. -/
def memB (n : Nat) (l : List Int) : Nat → Bool := fun i => decide (2 ≤ i) && decide (i < n) && decide ((i : Int) ∈ l)
theorem memB_nil (n : Nat) : memB n [] = noMark := by
  funext i
  simp [memB, noMark]
theorem memB_snoc_ok {n : Nat} {l : List Int} {x : Int} (h : okPg n x = true) : memB n (l ++ [x]) = mark1 (memB n l) x.toNat := by
  funext i
  simp only [okPg, Bool.and_eq_true, decide_eq_true_eq] at h
  rw [Bool.eq_iff_iff]
  simp only [memB, mark1, Bool.and_eq_true, Bool.or_eq_true, decide_eq_true_eq, List.mem_append, List.mem_singleton]
  constructor
  · rintro ⟨⟨h1, h2⟩, h3 | h3⟩
    · exact .inl ⟨⟨h1, h2⟩, h3⟩
    · exact .inr (by omega)
  · rintro (⟨⟨h1, h2⟩, h3⟩ | h3)
    · exact ⟨⟨h1, h2⟩, .inl h3⟩
    · exact ⟨⟨by omega, by omega⟩, .inr (by omega)⟩
theorem memB_snoc_no {n : Nat} {l : List Int} {x : Int} (h : okPg n x = false) : memB n (l ++ [x]) = memB n l := by
  funext i
  have h' : ¬ (2 ≤ x ∧ x < (n : Int)) := by
    intro h2
    simp [okPg, h2] at h
  rw [Bool.eq_iff_iff]
  simp only [memB, Bool.and_eq_true, decide_eq_true_eq, List.mem_append, List.mem_singleton]
  constructor
  · rintro ⟨⟨h1, h2⟩, h3 | h3⟩
    · exact ⟨⟨h1, h2⟩, h3⟩
    · exact absurd ⟨by omega, by omega⟩ h'
  · rintro ⟨⟨h1, h2⟩, h3⟩
    exact ⟨⟨h1, h2⟩, .inl h3⟩

/-- Is page i free? -/
def fr (o v t : Nat → Bool) : Nat → Bool := fun i => decide (2 ≤ i) && !o i && !v i && !t i
/-- How many of the first k. -/
def cnt (p : Nat → Bool) : Nat → Nat
  | 0 => 0
  | k + 1 => cnt p k + if p k then 1 else 0
theorem cnt_le (p : Nat → Bool) : ∀ k, cnt p k ≤ k
  | 0 => Nat.le_refl _
  | k + 1 => by
    have := cnt_le p k
    unfold cnt
    split <;> omega
theorem cnt_yes {p : Nat → Bool} {k : Nat} (h : p k = true) : cnt p (k + 1) = cnt p k + 1 := by simp [cnt, h]
theorem cnt_no {p : Nat → Bool} {k : Nat} (h : p k = false) : cnt p (k + 1) = cnt p k := by simp [cnt, h]
theorem cnt_congr {p q : Nat → Bool} : ∀ {k : Nat}, (∀ i, i < k → p i = q i) → cnt p k = cnt q k
  | 0, _ => rfl
  | k + 1, h => by
    unfold cnt
    rw [cnt_congr fun i hi => h i (by omega), h k (by omega)]
theorem cnt_zero {p : Nat → Bool} : ∀ {k : Nat}, (∀ i, i < k → p i = false) → cnt p k = 0
  | 0, _ => rfl
  | k + 1, h => by rw [cnt_no (h k (by omega)), cnt_zero fun i hi => h i (by omega)]
theorem cnt_pos {p : Nat → Bool} {i : Nat} : ∀ {k : Nat}, i < k → p i = true → 0 < cnt p k
  | 0, h, _ => by omega
  | k + 1, h, hp => by
    by_cases hk : i = k
    · subst hk
      rw [cnt_yes hp]
      omega
    · have := cnt_pos (k := k) (by omega) hp
      unfold cnt
      omega
/-- One fewer. -/
theorem cnt_drop {p q : Nat → Bool} {i : Nat} : ∀ {k : Nat}, i < k → p i = true → q i = false → (∀ j, j ≠ i → q j = p j) → cnt p k = cnt q k + 1
  | 0, h, _, _, _ => by omega
  | k + 1, h, hp, hq, ho => by
    by_cases hk : i = k
    · subst hk
      rw [cnt_yes hp, cnt_no hq, cnt_congr fun j hj => (ho j (by omega)).symm]
    · have := cnt_drop (k := k) (by omega) hp hq ho
      unfold cnt
      rw [ho k (by omega)]
      omega
theorem cnt_mono {p q : Nat → Bool} : ∀ {k : Nat}, (∀ j, p j = true → q j = true) → cnt p k ≤ cnt q k
  | 0, _ => Nat.le_refl _
  | k + 1, h => by
    have := cnt_mono (k := k) h
    unfold cnt
    cases hp : p k
    · simp; omega
    · rw [h k hp]; simp; omega
/-- What is free and what is not is all. -/
theorem cnt_not (p : Nat → Bool) : ∀ k, cnt p k + cnt (fun i => !p i) k = k
  | 0 => rfl
  | k + 1 => by
    have := cnt_not p k
    unfold cnt
    cases p k <;> simp <;> omega

/-- The ldLeast of the first k. -/
def ldLeast (p : Nat → Bool) : Nat → Option Nat
  | 0 => none
  | k + 1 => match ldLeast p k with
    | some i => some i
    | none => if p k then some k else none
theorem ldLeast_none {p : Nat → Bool} : ∀ {k : Nat}, (∀ i, i < k → p i = false) → ldLeast p k = none
  | 0, _ => rfl
  | k + 1, h => by
    unfold ldLeast
    rw [ldLeast_none fun i hi => h i (by omega), h k (by omega)]
    rfl
theorem ldLeast_some {p : Nat → Bool} {i : Nat} : ∀ {k : Nat}, i < k → p i = true → (∀ j, j < i → p j = false) → ldLeast p k = some i
  | 0, h, _, _ => by omega
  | k + 1, h, hp, hl => by
    by_cases hk : i = k
    · subst hk
      unfold ldLeast
      rw [ldLeast_none hl]
      simp [hp]
    · unfold ldLeast
      rw [ldLeast_some (k := k) (by omega) hp hl]
theorem ldLeast_is {p : Nat → Bool} {i : Nat} : ∀ {k : Nat}, ldLeast p k = some i → i < k ∧ p i = true ∧ ∀ j, j < i → p j = false
  | 0, h => by cases h
  | k + 1, h => by
    unfold ldLeast at h
    cases hl : ldLeast p k with
    | some j =>
      rw [hl] at h
      cases h
      obtain ⟨h1, h2⟩ := ldLeast_is hl
      exact ⟨by omega, h2⟩
    | none =>
      rw [hl] at h
      by_cases hp : p k = true
      · simp [hp] at h
        subst h
        refine ⟨by omega, hp, ?_⟩
        intro j hj
        have : ∀ {m : Nat}, ldLeast p m = none → ∀ j, j < m → p j = false := by
          intro m
          induction m with
          | zero => intro _ j hj; omega
          | succ m ih =>
            intro hm j hj
            unfold ldLeast at hm
            cases hlm : ldLeast p m with
            | some x => rw [hlm] at hm; cases hm
            | none =>
              rw [hlm] at hm
              by_cases hjm : j = m
              · subst hjm
                cases hpj : p j with
                | false => rfl
                | true => simp [hpj] at hm
              · exact ih hlm j (by omega)
        exact this hl j hj
      · simp [hp] at h
theorem ldLeast_no {p : Nat → Bool} : ∀ {k : Nat}, ldLeast p k = none → ∀ i, i < k → p i = false
  | 0, _ => fun i hi => by omega
  | k + 1, h => fun i hi => by
    cases hp : p i with
    | false => rfl
    | true =>
      exfalso
      unfold ldLeast at h
      cases hl : ldLeast p k with
      | some j => rw [hl] at h; cases h
      | none =>
        rw [hl] at h
        by_cases hik : i = k
        · subst hik
          simp [hp] at h
        · have := ldLeast_no hl i (by omega)
          rw [hp] at this
          cases this
theorem ldLeast_cnt {p : Nat → Bool} {k : Nat} (h : ldLeast p k = none) : cnt p k = 0 := cnt_zero (ldLeast_no h)
theorem ldLeast_cnt_pos {p : Nat → Bool} {k i : Nat} (h : ldLeast p k = some i) : 0 < cnt p k := cnt_pos (ldLeast_is h).1 (ldLeast_is h).2.1
theorem ldLeast_of_pos {p : Nat → Bool} {k : Nat} (h : 0 < cnt p k) : ∃ i, ldLeast p k = some i := by
  cases hl : ldLeast p k with
  | some i => exact ⟨i, rfl⟩
  | none => rw [ldLeast_cnt hl] at h; omega

/-- Taking the ldLeast. -/
theorem fr_mark_same (o v t : Nat → Bool) (k : Nat) : fr o v (mark1 t k) k = false := by simp [fr, mark1]
theorem fr_mark_other (o v t : Nat → Bool) {k j : Nat} (h : j ≠ k) : fr o v (mark1 t k) j = fr o v t j := by simp [fr, mark1, h]
theorem cnt_take {o v t : Nat → Bool} {n i : Nat} (h : ldLeast (fr o v t) n = some i) : cnt (fr o v t) n = cnt (fr o v (mark1 t i)) n + 1 :=
  cnt_drop (ldLeast_is h).1 (ldLeast_is h).2.1 (fr_mark_same o v t i) fun j hj => fr_mark_other o v t hj
theorem fr_two {o v t : Nat → Bool} {i : Nat} (h : fr o v t i = true) : 2 ≤ i := by
  simp only [fr, Bool.and_eq_true, decide_eq_true_eq] at h
  exact h.1.1.1

/-- How many pages New makes. -/
def clampN (x : Int) : Nat := (min (max x 0) 512).toNat
theorem clampN_le (x : Int) : clampN x ≤ 512 := by unfold clampN; omega
theorem clampN_of (n : Nat) (h : n ≤ 512) : clampN n = n := by unfold clampN; omega

end Go.Proofs.YtelenboncejdaaaGreatDoor

/-
  A ledger in memory: its box of one number and three arrays of marks; which blocks a call may turn; conditions stand at each.
-/
namespace Go.Proofs.YtelenboncejdaaaGreatDoor
open Go.RowKit Go.Sort
set_option linter.unusedVariables false

/-- Only blocks of F have turned; there may be new ones. -/
structure Keep (F : Nat → Prop) (w w' : World) : Prop where
  os : w'.os = w.os
  tape : w'.tape = w.tape
  output : w'.output = w.output
  size : w.heap.size ≤ w'.heap.size
  block : ∀ k, k < w.heap.size → ¬ F k → w'.heap[k]? = w.heap[k]?
theorem Keep.of_below {F : Nat → Prop} {w w' : World} (h : Below w.heap.size w w') : Keep F w w' := ⟨h.os, h.tape, h.output, h.size, fun k hk _ => h.block k hk⟩
theorem Keep.refl (F : Nat → Prop) (w : World) : Keep F w w := .of_below (Below.refl _ _)
theorem Keep.trans {F : Nat → Prop} {a b c : World} (h : Keep F a b) (k : Keep F b c) : Keep F a c :=
  ⟨k.os.trans h.os, k.tape.trans h.tape, k.output.trans h.output, Nat.le_trans h.size k.size, fun i hi hn => (k.block i (Nat.lt_of_lt_of_le hi h.size) hn).trans (h.block i hi hn)⟩
theorem Keep.mono {F G : Nat → Prop} {a b : World} (h : Keep F a b) (hs : ∀ i, i < a.heap.size → F i → G i) : Keep G a b := ⟨h.os, h.tape, h.output, h.size, fun i hi hn => h.block i hi fun hf => hn (hs i hi hf)⟩
theorem Keep.below {F : Nat → Prop} {B : Nat} {a b : World} (h : Keep F a b) (hB : B ≤ a.heap.size) (hF : ∀ i, F i → B ≤ i) : Below B a b := ⟨h.os, h.tape, h.output, h.size, fun i hi => h.block i (by omega) fun hf => by have := hF i hf; omega⟩
/-- With a base: all below it stays. -/
theorem Keep.base {B : Nat} {a w w' : World} (h : Below B a w) (hB : B ≤ w.heap.size) (hk : Keep (fun i => B ≤ i) w w') : Below B a w' := h.trans (hk.below hB fun _ h => h)
theorem Keep.set {F : Nat → Prop} {a b : World} (h : Keep F a b) {p : Addr} (hp : F p.block ∨ a.heap.size ≤ p.block) (u : Value) : Keep F a (b.setCell p u) :=
  ⟨h.os, h.tape, h.output, by simpa [World.setCell] using h.size, fun i hi hn => (Below.heap_setCell b p u i (by
    rintro rfl
    rcases hp with hp | hp
    · exact hn hp
    · omega)).trans (h.block i hi hn)⟩
theorem Keep.drewN {F : Nat → Prop} {a b : World} (h : Keep F a b) (n : Nat) : Keep F a (b.drewN n) := ⟨h.os, h.tape, h.output, h.size, h.block⟩
theorem Keep.cell {F : Nat → Prop} {w w' : World} (h : Keep F w w') {p : Addr} {u : Value} (hp : p.block < w.heap.size) (hn : ¬ F p.block) (hu : w.cell? p = some u) : w'.cell? p = some u := (World.cell?_of_block (w := w) (h.block _ hp hn)).trans hu
/-- Marks as cells. -/
def bl (f : Nat → Bool) : List Value := (List.range 512).map fun i => .bool (f i)
theorem bl_len (f : Nat → Bool) : (bl f).length = 512 := by simp [bl]
theorem bl_at (f : Nat → Bool) {i : Nat} (h : i < 512) : (bl f)[i]? = some (.bool (f i)) := by simp [bl, h]
theorem bl_one (f : Nat → Bool) : ∀ u ∈ bl f, u.oneCell' = true := by
  intro u hu
  simp only [bl, List.mem_map] at hu
  obtain ⟨i, _, rfl⟩ := hu
  rfl
theorem bl_mark (f : Nat → Bool) {k : Nat} (hk : k < 512) : (bl f).set k (.bool true) = bl (mark1 f k) := by
  apply List.ext_getElem?
  intro i
  by_cases hi : i < 512
  · rw [bl_at _ hi]
    by_cases h : k = i
    · subst h
      rw [List.getElem?_set_self (by rw [bl_len]; exact hk)]
      simp [mark1]
    · rw [List.getElem?_set_ne h, bl_at _ hi]
      have h' : ¬ i = k := fun e => h e.symm
      simp [mark1, h']
  · rw [List.getElem?_eq_none (by rw [List.length_set, bl_len]; omega), List.getElem?_eq_none (by rw [bl_len]; omega)]
/-- Marks as an array. -/
def ba (f : Nat → Bool) : Array Value := (bl f).toArray

theorem minfo : (Tryz.prog.info? 131).map (·.size) = some 512 := by kernel_rfl
theorem minfo_bl (f : Nat → Bool) : (Tryz.prog.info? 131).map (·.size) = some (bl f).length := by rw [bl_len]; exact minfo
theorem ba_list (f : Nat → Bool) : (ba f).toList = bl f := List.toList_toArray
theorem ba_size (f : Nat → Bool) : (ba f).size = 512 := by unfold ba; rw [List.size_toArray, bl_len]
theorem minfo_arr (f : Nat → Bool) : (Tryz.prog.info? 131).map (·.size) = some (ba f).size := by rw [ba_size]; exact minfo
theorem mund : ∃ d, Tryz.prog.underlying 131 = some d ∧ d.isRow = true := ⟨_, Tryz.underlying131, rfl⟩

/-- The box's cells. -/
structure LdBox (cs : Array Value) (n : Nat) (o v t : Nat → Bool) : Prop where
  size : cs.size = 1537
  num : cs[0]? = some (.int .i64 (n : Int))
  older : ∀ i, i < 512 → cs[1 + i]? = some (.bool (o i))
  newer : ∀ i, i < 512 → cs[513 + i]? = some (.bool (v i))
  taken : ∀ i, i < 512 → cs[1025 + i]? = some (.bool (t i))
/-- A ledger of n pages: what the older and the newer tree hold, what is taken. -/
structure Led (w : World) (b n : Nat) (o v t : Nat → Bool) : Prop where
  box : ∃ cs, w.heap[b]? = some (.cells cs 133 (0, 0)) ∧ LdBox cs n o v t
  small : n ≤ 512
section
variable {w w' : World} {b n : Nat} {o v t : Nat → Bool}
theorem Led.lt (h : Led w b n o v t) : b < w.heap.size := by
  obtain ⟨cs, hb, _⟩ := h.box
  exact lt_of_block hb
theorem Led.block (h : Led w b n o v t) (hb : w'.heap[b]? = w.heap[b]?) : Led w' b n o v t := by
  obtain ⟨cs, h1, h2⟩ := h.box
  exact ⟨⟨cs, hb.trans h1, h2⟩, h.small⟩
theorem Led.keep (h : Led w b n o v t) {F : Nat → Prop} (hk : Keep F w w') (hd : ¬ F b) : Led w' b n o v t := h.block (hk.block b h.lt hd)
theorem Led.below (h : Led w b n o v t) (hb : Below w.heap.size w w') : Led w' b n o v t := h.block (hb.block b h.lt)
theorem Led.drewN (h : Led w b n o v t) (m : Nat) : Led (w.drewN m) b n o v t := h.block rfl
theorem Led.c0 (h : Led w b n o v t) : w.cell? ⟨b, 0, none⟩ = some (.int .i64 (n : Int)) := by
  obtain ⟨cs, h1, h2⟩ := h.box
  exact cell_at h1 0 _ h2.num
theorem Led.co (h : Led w b n o v t) {i : Nat} (hi : i < 512) : w.cell? ⟨b, 1 + i, none⟩ = some (.bool (o i)) := by
  obtain ⟨cs, h1, h2⟩ := h.box
  exact cell_at h1 _ _ (h2.older i hi)
theorem Led.cv (h : Led w b n o v t) {i : Nat} (hi : i < 512) : w.cell? ⟨b, 513 + i, none⟩ = some (.bool (v i)) := by
  obtain ⟨cs, h1, h2⟩ := h.box
  exact cell_at h1 _ _ (h2.newer i hi)
theorem Led.ct (h : Led w b n o v t) {i : Nat} (hi : i < 512) : w.cell? ⟨b, 1025 + i, none⟩ = some (.bool (t i)) := by
  obtain ⟨cs, h1, h2⟩ := h.box
  exact cell_at h1 _ _ (h2.taken i hi)
theorem Led.free (h : Led w b n o v t) (i : Nat) : w.frozen? ⟨b, i, none⟩ = false := by
  obtain ⟨cs, h1, h2⟩ := h.box
  exact free_at h1 i
theorem Led.congr {o' v' t' : Nat → Bool} (h : Led w b n o v t) (h1 : ∀ i, i < 512 → o i = o' i) (h2 : ∀ i, i < 512 → v i = v' i) (h3 : ∀ i, i < 512 → t i = t' i) : Led w b n o' v' t' := by
  obtain ⟨cs, h0, hc⟩ := h.box
  exact ⟨⟨cs, h0, hc.size, hc.num, fun i hi => by rw [← h1 i hi]; exact hc.older i hi, fun i hi => by rw [← h2 i hi]; exact hc.newer i hi, fun i hi => by rw [← h3 i hi]; exact hc.taken i hi⟩, h.small⟩
/-- One page more is taken. -/
theorem Led.take (h : Led w b n o v t) {k : Nat} (hk : k < 512) : Led (w.setCell ⟨b, 1025 + k, none⟩ (.bool true)) b n o v (mark1 t k) := by
  obtain ⟨cs, h0, hc⟩ := h.box
  refine ⟨⟨_, blk_set h0 (1025 + k) _, by rw [Array.size_setIfInBounds]; exact hc.size, ?_, fun i hi => ?_, fun i hi => ?_, fun i hi => ?_⟩, h.small⟩
  · rw [Array.getElem?_setIfInBounds_ne (by omega)]
    exact hc.num
  · rw [Array.getElem?_setIfInBounds_ne (by omega)]
    exact hc.older i hi
  · rw [Array.getElem?_setIfInBounds_ne (by omega)]
    exact hc.newer i hi
  · by_cases hik : i = k
    · subst hik
      rw [Array.getElem?_setIfInBounds_self_of_lt (by rw [hc.size]; omega)]
      simp [mark1]
    · rw [Array.getElem?_setIfInBounds_ne (by omega), hc.taken i hi]
      simp [mark1, hik]
/-- A whole array of marks is laid at o. -/
theorem Led.there (h : Led w b n o v t) {q : Nat} (hq : q ≤ 1025) (f : Nat → Bool) : w.there b q (ba f).size := fun j hj => by
  rw [ba_size] at hj
  obtain ⟨cs, h0, hc⟩ := h.box
  refine ⟨?_, free_at h0 _⟩
  rw [cell_of_block h0, Array.getElem?_eq_getElem (by rw [hc.size]; omega)]
  rfl
end

theorem heap_setCells (b : Nat) : ∀ (vs : List Value) (o : Nat) (w : World) (i : Nat), i ≠ b → (w.setCells b o vs).heap[i]? = w.heap[i]?
  | [], _, _, _, _ => rfl
  | v :: r, o, w, i, h => by
    rw [World.setCells, heap_setCells b r (o + 1) _ i h]
    exact Below.heap_setCell _ _ _ _ h
theorem setCells_same (b : Nat) : ∀ (vs : List Value) (o : Nat) (w : World), (w.setCells b o vs).os = w.os ∧ (w.setCells b o vs).tape = w.tape ∧ (w.setCells b o vs).output = w.output ∧ (w.setCells b o vs).heap.size = w.heap.size
  | [], _, _ => ⟨rfl, rfl, rfl, rfl⟩
  | v :: r, o, w => by
    rw [World.setCells]
    obtain ⟨h1, h2, h3, h4⟩ := setCells_same b r (o + 1) (w.setCell ⟨b, o, none⟩ v)
    exact ⟨h1, h2, h3, h4.trans (by simp [World.setCell])⟩
theorem setCells_block (b : Nat) (t : TypeId) : ∀ (vs : List Value) (o : Nat) (w : World) (cs : Array Value), w.heap[b]? = some (.cells cs t (0, 0)) → ∃ ds, (w.setCells b o vs).heap[b]? = some (.cells ds t (0, 0)) ∧ ds.size = cs.size ∧ ∀ j, ds[j]? = if o ≤ j ∧ j < o + vs.length ∧ j < cs.size then vs[j - o]? else cs[j]?
  | [], o, w, cs, h => ⟨cs, h, rfl, fun j => by rw [if_neg (by simp; omega)]⟩
  | v :: r, o, w, cs, h => by
    rw [World.setCells]
    obtain ⟨ds, h1, h2, h3⟩ := setCells_block b t r (o + 1) (w.setCell ⟨b, o, none⟩ v) _ (blk_set h o v)
    rw [Array.size_setIfInBounds] at h2
    refine ⟨ds, h1, h2, fun j => ?_⟩
    rw [h3 j, Array.size_setIfInBounds]
    by_cases hj : o + 1 ≤ j ∧ j < o + 1 + r.length ∧ j < cs.size
    · rw [if_pos hj, if_pos (by rw [List.length_cons]; omega), show j - o = (j - (o + 1)) + 1 by omega, List.getElem?_cons_succ]
    · rw [if_neg hj]
      by_cases hjo : j = o
      · subst hjo
        by_cases hs : j < cs.size
        · rw [Array.getElem?_setIfInBounds_self_of_lt hs, if_pos (by rw [List.length_cons]; omega), Nat.sub_self, List.getElem?_cons_zero]
        · rw [if_neg (by omega), Array.getElem?_eq_none (by rw [Array.size_setIfInBounds]; omega), Array.getElem?_eq_none (by omega)]
      · rw [Array.getElem?_setIfInBounds_ne (Ne.symm hjo), if_neg (by rw [List.length_cons]; omega)]
theorem Keep.cells {F : Nat → Prop} {a w : World} (h : Keep F a w) {b o : Nat} {vs : List Value} (hb : F b ∨ a.heap.size ≤ b) : Keep F a (w.setCells b o vs) := by
  obtain ⟨h1, h2, h3, h4⟩ := setCells_same b vs o w
  refine ⟨h1.trans h.os, h2.trans h.tape, h3.trans h.output, by rw [h4]; exact h.size, fun i hi hn => (heap_setCells b vs o w i ?_).trans (h.block i hi hn)⟩
  rintro rfl
  rcases hb with hb | hb
  · exact hn hb
  · omega
section
variable {w w' : World} {b n : Nat} {o v t : Nat → Bool}
theorem Led.lay (h : Led w b n o v t) {q : Nat} (f : Nat → Bool) (hq : q = 1 ∨ q = 513 ∨ q = 1025) : Led (w.setCells b q (ba f).toList) b n (if q = 1 then f else o) (if q = 513 then f else v) (if q = 1025 then f else t) := by
  obtain ⟨cs, h0, hc⟩ := h.box
  obtain ⟨ds, h1, h2, h3⟩ := setCells_block b _ (ba f).toList q w cs h0
  rw [ba_list] at h1 h3 ⊢
  rw [bl_len] at h3
  have hsz := hc.size
  rw [hsz] at h3
  have inn : ∀ i, i < 512 → ds[q + i]? = some (.bool (f i)) := fun i hi => by
    rw [h3, if_pos (by omega), Nat.add_sub_cancel_left, bl_at f hi]
  have out : ∀ j, (j < q ∨ q + 512 ≤ j) → ds[j]? = cs[j]? := fun j hj => by rw [h3, if_neg (by omega)]
  refine ⟨⟨ds, h1, by rw [h2, hsz], by rw [out 0 (by omega)]; exact hc.num, fun i hi => ?_, fun i hi => ?_, fun i hi => ?_⟩, h.small⟩
  · by_cases hq1 : q = 1
    · subst hq1
      simpa using inn i hi
    · rw [if_neg hq1, out _ (by omega)]
      exact hc.older i hi
  · by_cases hq1 : q = 513
    · subst hq1
      simpa using inn i hi
    · rw [if_neg hq1, out _ (by omega)]
      exact hc.newer i hi
  · by_cases hq1 : q = 1025
    · subst hq1
      simpa using inn i hi
    · rw [if_neg hq1, out _ (by omega)]
      exact hc.taken i hi
theorem Led.lay1 (h : Led w b n o v t) (f : Nat → Bool) : Led (w.setCells b 1 (ba f).toList) b n f v t := by simpa using h.lay (q := 1) f (.inl rfl)
theorem Led.lay2 (h : Led w b n o v t) (f : Nat → Bool) : Led (w.setCells b 513 (ba f).toList) b n o f t := by simpa using h.lay (q := 513) f (.inr (.inl rfl))
theorem Led.lay3 (h : Led w b n o v t) (f : Nat → Bool) : Led (w.setCells b 1025 (ba f).toList) b n o v f := by simpa using h.lay (q := 1025) f (.inr (.inr rfl))
/-- The array at q, whole. -/
theorem Led.range (h : Led w b n o v t) {q : Nat} {f : Nat → Bool} (hf : ∀ i, i < 512 → w.cell? ⟨b, q + i, none⟩ = some (.bool (f i))) : w.rangeAt b q (bl f) := fun j u hu => by
  have hj : j < 512 := by
    have := (List.getElem?_eq_some_iff.1 hu).1
    rwa [bl_len] at this
  rw [bl_at f hj] at hu
  cases hu
  exact hf j hj
end
/-- The load and the store of an array, as the walk asks them. -/
theorem run_load_marks {w : World} {b q : Nat} {f : Nat → Bool} (h : w.rangeAt b q (bl f)) : (loadCellsFrom ⟨b, q, none⟩ 0 512 #[]).run Tryz.prog w = .ok (ba f) w := by
  have := run_loadCells_list (P := Tryz.prog) w ⟨b, q, none⟩ (bl f) (fun j v hv => by rw [Addr.add_mid]; exact h j v hv)
  rw [bl_len] at this
  exact this
theorem run_store_marks {w : World} {b q : Nat} (f : Nat → Bool) (h : w.there b q (ba f).size) : (storeCells ⟨b, q, none⟩ (ba f).toList).run Tryz.prog w = .ok () (w.setCells b q (ba f).toList) := by
  have := run_storeCells_cells (P := Tryz.prog) b q (ba f).toList 0 w (fun j hj => by simpa using (h j (by simpa using hj)).1) (fun j hj => by simpa using (h j (by simpa using hj)).2)
    (fun v hv => by rw [ba_list] at hv; exact bl_one f v hv)
  simpa using this

end Go.Proofs.YtelenboncejdaaaGreatDoor

/-
  The contracts of the ledger's count, allocates, isFree, InUse, Free, of a ledger and of none; conditions stand at each.
-/
namespace Go.Proofs.YtelenboncejdaaaGreatDoor
open Go.RowKit Go.Sort
set_option linter.unusedVariables false
set_option linter.unusedSimpArgs false

theorem ldCount_nil (w : World) : Calls Tryz.prog 57 #[.pointer none] w fun e w' => e = .returned (.int .i64 0) ∧ w' = w := by
  go_enter Tryz.func57, Tryz.ntmps57
  go_wp2
  go_ret
  exact ⟨rfl, rfl⟩
theorem ldCount_any {w : World} {b n : Nat} {o v t : Nat → Bool} (hd : Led w b n o v t) : Calls Tryz.prog 57 #[.pointer (some ⟨b, 0, none⟩)] w fun e w' => e = .returned (.int .i64 n) ∧ w' = w := by
  have h0 := hd.c0
  clear hd
  go_enter Tryz.func57, Tryz.ntmps57
  go_wp2
  go_ret
  exact ⟨rfl, by trivial⟩

theorem ldAlloc_any {w : World} {b n : Nat} {o v t : Nat → Bool} (hd : Led w b n o v t) (i : Int) : Calls Tryz.prog 83 #[.pointer (some ⟨b, 0, none⟩), .int .i64 i] w fun e w' => e = .returned (.bool (okPg n i)) ∧ w' = w := by
  by_cases h0 : 2 ≤ i
  · rw [show okPg n i = decide (i < n) by simp [okPg, h0]]
    go_enter Tryz.func83, Tryz.ntmps83
    go_wp2_with fail
    refine (ldCount_any hd).mono ?_
    rintro e w1 ⟨rfl, rfl⟩
    clear hd
    go_wp2
    go_ret
    exact ⟨rfl, by trivial⟩
  · rw [show okPg n i = false by simp [okPg, h0]]
    clear hd
    go_enter Tryz.func83, Tryz.ntmps83
    go_wp2
    go_ret
    exact ⟨rfl, by trivial⟩

theorem ldFree_no {w : World} {b n : Nat} {o v t : Nat → Bool} (hd : Led w b n o v t) (i : Int) (hi : okPg n i = false) : Calls Tryz.prog 58 #[.pointer (some ⟨b, 0, none⟩), .int .i64 i] w fun e w' => e = .returned (.bool false) ∧ w' = w := by
  go_enter Tryz.func58, Tryz.ntmps58
  go_wp2_with fail
  refine (ldAlloc_any hd i).mono ?_
  rw [hi]
  rintro e w1 ⟨rfl, rfl⟩
  clear hd hi
  go_wp2
  go_ret
  exact ⟨rfl, by trivial⟩
set_option maxRecDepth 100000 in
set_option maxHeartbeats 1000000 in
theorem ldFree_yes {w : World} {b n : Nat} {o v t : Nat → Bool} (hd : Led w b n o v t) (i : Nat) (h2 : 2 ≤ i) (hi : i < n) : Calls Tryz.prog 58 #[.pointer (some ⟨b, 0, none⟩), .int .i64 i] w fun e w' => e = .returned (.bool (fr o v t i)) ∧ w' = w := by
  have hs := hd.small
  have co := hd.co (i := i) (by omega)
  have cv := hd.cv (i := i) (by omega)
  have ct := hd.ct (i := i) (by omega)
  have ha := (ldAlloc_any hd i)
  rw [show okPg n i = true by simp [okPg]; omega] at ha
  have HA := Lib.hid ha
  clear ha hd
  have hi5 : (i : Int) < 512 := by omega
  cases ho : o i
  · cases hv : v i
    · have hfr : fr o v t i = !t i := by simp [fr, h2, ho, hv]
      rw [hfr]
      clear hfr
      rw [ho] at co
      rw [hv] at cv
      clear ho hv
      obtain ⟨x, hx⟩ : ∃ x, x = t i := ⟨_, rfl⟩
      rw [← hx] at ct ⊢
      clear hx
      go_enter Tryz.func58, Tryz.ntmps58
      go_wp2_with fail
      refine HA.out.mono ?_
      rintro e w1 ⟨rfl, rfl⟩
      go_wp2
      go_ret
      exact ⟨rfl, by trivial⟩
    · have hfr : fr o v t i = false := by simp [fr, h2, ho, hv]
      rw [hfr]
      clear hfr ct
      rw [ho] at co
      rw [hv] at cv
      clear ho hv
      go_enter Tryz.func58, Tryz.ntmps58
      go_wp2_with fail
      refine HA.out.mono ?_
      rintro e w1 ⟨rfl, rfl⟩
      go_wp2
      go_ret
      exact ⟨rfl, by trivial⟩
  · have hfr : fr o v t i = false := by simp [fr, h2, ho]
    rw [hfr]
    clear hfr ct cv
    rw [ho] at co
    clear ho
    go_enter Tryz.func58, Tryz.ntmps58
    go_wp2_with fail
    refine HA.out.mono ?_
    rintro e w1 ⟨rfl, rfl⟩
    go_wp2
    go_ret
    exact ⟨rfl, by trivial⟩
theorem ldFree_any {w : World} {b n : Nat} {o v t : Nat → Bool} (hd : Led w b n o v t) (i : Nat) (hi : i < n) : Calls Tryz.prog 58 #[.pointer (some ⟨b, 0, none⟩), .int .i64 i] w fun e w' => e = .returned (.bool (fr o v t i)) ∧ w' = w := by
  by_cases h2 : 2 ≤ i
  · exact ldFree_yes hd i h2 hi
  · rw [show fr o v t i = false by simp [fr, h2]]
    exact ldFree_no hd i (by simp [okPg]; omega)

/-- What InUse answers. -/
def inUse (n : Nat) (o v t : Nat → Bool) (i : Int) : Bool := decide (0 ≤ i) && decide (i < (n : Int)) && !fr o v t i.toNat
end Go.Proofs.YtelenboncejdaaaGreatDoor

/-
  The contracts of the ledger's New, Take and Abort, of a ledger and of none; conditions stand at each.
-/
namespace Go.Proofs.YtelenboncejdaaaGreatDoor
open Go.RowKit Go.Sort
set_option linter.unusedVariables false
set_option linter.unusedSimpArgs false

/-- What Take leaves. -/
def LdTakePost (w : World) (b n : Nat) (o v t : Nat → Bool) (e : Ending) (w' : World) : Prop := match ldLeast (fr o v t) n with
  | some k => e = .returned (.tuple #[.int .i64 (k : Int), .int .i64 0]) ∧ Led w' b n o v (mark1 t k) ∧ Keep (fun i => i = b) w w'
  | none => e = .returned (.tuple #[.int .i64 0, .int .i64 8]) ∧ w' = w
theorem ldTake_nil (w : World) : Calls Tryz.prog 30 #[.pointer none] w fun e w' => e = .returned (.tuple #[.int .i64 0, .int .i64 8]) ∧ w' = w := by
  go_enter Tryz.func30, Tryz.ntmps30
  go_wp2_with fail
  refine (ldCount_nil w).mono ?_
  rintro e w1 ⟨rfl, rfl⟩
  go_wp2
  refine wp_loop_rounds 1 ?_
  rw [rounds_succ]
  go_wp2
  go_ret2
  exact ⟨rfl, by trivial⟩
set_option maxRecDepth 100000 in
set_option maxHeartbeats 1000000 in
theorem ldTake_any {w : World} {b n : Nat} {o v t : Nat → Bool} (hd : Led w b n o v t) : Calls Tryz.prog 30 #[.pointer (some ⟨b, 0, none⟩)] w (LdTakePost w b n o v t) := by
  have hs := hd.small
  have HD := Lib.hid hd
  clear hd
  go_enter Tryz.func30, Tryz.ntmps30
  go_wp2_with fail
  refine (ldCount_any HD.out).mono ?_
  rintro e w1 ⟨rfl, rfl⟩
  go_wp2
  go_loopw [7] (fun i wr => ∃ k : Nat, k ≤ n ∧ i = .int .i64 k ∧ Hid (∀ j, j < k → fr o v t j = false) ∧ wr = w1) (fun i _ => n - (intOf i).toNat)
  case atStart => exact ⟨0, Nat.zero_le _, rfl, Lib.hid fun j hj => absurd hj (by omega), rfl⟩
  case round =>
    obtain ⟨k, hk, rfl, HL, rfl⟩ := hrel
    by_cases hlt : k < n
    · have h5 : (k : Int) < 512 := by omega
      have hf := HD.out.free (1025 + k)
      have hc := HD.out.ct (i := k) (by omega)
      go_wp2_with fail
      refine (ldFree_any HD.out k hlt).mono ?_
      rintro e w1 ⟨rfl, rfl⟩
      cases hfr : fr o v t k
      · have HF := Lib.hid hfr
        clear hfr
        go_wp2
        exact ⟨⟨k + 1, by omega, by go_num, Lib.hid fun j hj => by
          rcases Nat.lt_or_ge j k with h | h
          · exact HL.out j h
          · have : j = k := by omega
            subst this
            exact HF.out, by trivial⟩, by simp [intOf]; omega⟩
      · have HF := Lib.hid hfr
        clear hfr
        go_wp2
        go_ret2
        unfold LdTakePost
        rw [ldLeast_some hlt HF.out HL.out]
        refine ⟨rfl, HD.out.take (by omega), (Keep.refl (fun i => i = b) _).set (p := ⟨b, 1025 + k, none⟩) (.inl rfl) _⟩
    · have he : k = n := by omega
      subst he
      go_wp2
      go_ret2
      unfold LdTakePost
      rw [ldLeast_none HL.out]
      exact ⟨rfl, by trivial⟩

theorem mzero : (Tryz.prog.info? 131).map (fun i => (i.zero, i.size)) = some (some (.agg (ba noMark)), 512) := by kernel_rfl
/-- The zero ledger's cells. -/
def zled : Array Value := ([Value.int .i64 0] ++ (bl noMark ++ (bl noMark ++ bl noMark))).toArray
theorem zinfo : (Tryz.prog.info? 133).map (fun i => (i.zero, i.size)) = some (some (.agg zled), 1537) := by kernel_rfl
theorem zled_at {i : Nat} (hi : i < 512) : zled[1 + i]? = some (.bool false) ∧ zled[513 + i]? = some (.bool false) ∧ zled[1025 + i]? = some (.bool false) := by
  have h1 := bl_at noMark hi
  have e : noMark i = false := rfl
  rw [e] at h1
  unfold zled
  simp only [List.getElem?_toArray]
  refine ⟨?_, ?_, ?_⟩
  · rw [List.getElem?_append_right (by rw [List.length_singleton]; omega), List.getElem?_append_left (by simp only [bl_len, List.length_singleton]; omega)]
    simpa using h1
  · rw [List.getElem?_append_right (by rw [List.length_singleton]; omega), List.getElem?_append_right (by simp only [bl_len, List.length_singleton]; omega), List.getElem?_append_left (by simp only [bl_len, List.length_singleton]; omega)]
    simpa only [bl_len, List.length_singleton, show 513 + i - 1 - 512 = i by omega] using h1
  · rw [List.getElem?_append_right (by rw [List.length_singleton]; omega), List.getElem?_append_right (by simp only [bl_len, List.length_singleton]; omega), List.getElem?_append_right (by simp only [bl_len, List.length_singleton]; omega)]
    simpa only [bl_len, List.length_singleton, show 1025 + i - 1 - 512 - 512 = i by omega] using h1
theorem zled_size : zled.size = 1537 := by simp [zled, bl_len]
theorem ldBox_new (n : Nat) : LdBox (zled.setIfInBounds 0 (.int .i64 (n : Int))) n noMark noMark noMark := by
  refine ⟨by rw [Array.size_setIfInBounds]; exact zled_size, Array.getElem?_setIfInBounds_self_of_lt (by rw [zled_size]; omega), fun i hi => ?_, fun i hi => ?_, fun i hi => ?_⟩
  · rw [Array.getElem?_setIfInBounds_ne (by omega)]
    exact (zled_at hi).1
  · rw [Array.getElem?_setIfInBounds_ne (by omega)]
    exact (zled_at hi).2.1
  · rw [Array.getElem?_setIfInBounds_ne (by omega)]
    exact (zled_at hi).2.2
theorem led_new {w : World} {n : Nat} {cs : Array Value} (hb : LdBox cs n noMark noMark noMark) (hn : n ≤ 512) : Led (w.alloc (.cells cs 133)) w.heap.size n noMark noMark noMark := ⟨⟨cs, heap_alloc_new w _, hb⟩, hn⟩
set_option maxRecDepth 100000 in
theorem ldNew_any (x : Int) (w : World) : Calls Tryz.prog 28 #[.int .i64 x] w fun e w' => ∃ b, e = .returned (.pointer (some ⟨b, 0, none⟩)) ∧ Led w' b (clampN x) noMark noMark noMark ∧ w.heap.size ≤ b ∧ Below w.heap.size w w' := by
  have hp := clampN_le x
  obtain ⟨m, hm⟩ : ∃ m, m = clampN x := ⟨_, rfl⟩
  have hm2 : (min (max x 0) 512 : Int) = (m : Int) := by rw [hm]; unfold clampN; omega
  rw [← hm] at hp ⊢
  have Hm := Lib.hid hm
  clear hm
  have hz := (zero_of_info zinfo).1
  have hne : ¬ zled = #[] := fun h => by
    have := zled_size
    rw [h] at this
    simp at this
  have HB := Lib.hid (ldBox_new m)
  generalize zled = cs at hz hne HB
  go_enter Tryz.func28, Tryz.ntmps28
  go_wp2
  go_ret
  exact ⟨_, rfl, led_new HB.out hp, Nat.le_refl _, (Below.refl _ _).alloc (Nat.le_refl _) _⟩

end Go.Proofs.YtelenboncejdaaaGreatDoor

/-
  Slices of numbers: as an argument, opened out of a row; conditions stand at each.
-/
namespace Go.Proofs.YtelenboncejdaaaGreatDoor
open Go.RowKit Go.Sort Go.ChangeShapes Go.WideShapes Go.Joins Go.Deep
set_option linter.unusedVariables false
set_option linter.unusedSimpArgs false

theorem wf_i64 {n : Int} (h : (Lit.int .i64 n).wf = true) : I64 n := by
  have : -9223372036854775808 ≤ n ∧ n ≤ 9223372036854775807 := by simpa [Lit.wf, IntKind.min, IntKind.max, IntKind.signed, IntKind.bits] using h
  exact this
/-- A number as a cell. -/
def icell (x : Int) : List Value := [.int .i64 x]
theorem ienc : Enc icell 1 := ⟨fun _ => rfl, fun x u hu => by rw [List.mem_singleton.1 hu]; rfl⟩
theorem icell_flat (l : List Int) : l.flatMap icell = l.map (.int .i64) := by
  induction l with
  | nil => rfl
  | cons x l ih => rw [List.flatMap_cons, ih]; rfl
/-- A slice of numbers as an argument. -/
structure ArgI (w : World) (A : Option Addr) (n c : Nat) (l : List Int) : Prop where
  len : l.length = n
  cap : n ≤ c
  bd : n ≤ 140737488351232
  ls : Ls icell w A l
  ok : ∀ z ∈ l, I64 z
theorem ArgI.below {w w' : World} {A : Option Addr} {n c : Nat} {l : List Int} (h : ArgI w A n c l) (hb : Below w.heap.size w w') : ArgI w' A n c l := ⟨h.len, h.cap, h.bd, h.ls.below hb, h.ok⟩
theorem ArgI.nil (w : World) : ArgI w none 0 0 [] := ⟨rfl, Nat.le_refl _, by omega, Ls.nil _ _, by simp⟩
theorem elemI {H : Type} {enc : TypeId × Value → H} {W : World} (fuel : Nat) (cs : List Value) (y : DataW H × List MemPlace) (h : DataW.trod enc Tryz.prog W 0 (fun _ => true) true fuel 3 cs = some y)
    (hsz : ∀ m ∈ y.1.weights Tryz.prog 3, m ≤ reachBytes) : ∃ z : Int, cs = icell z ∧ I64 z := by
  obtain ⟨i, hi, hd, wi⟩ := DataW.trod_int Tryz.underlying3 h
  exact ⟨i, by simpa [icell] using hi, wf_i64 wi⟩
theorem open_ints {H : Type} {enc : TypeId × Value → H} {W : World} {A : Option Addr} {n c : Nat} {d : DataW H} {p : List MemPlace}
    (h : DataW.Trod enc Tryz.prog W 0 (fun _ => true) true 38 (.slice A n c) d p) (hsz : ∀ m ∈ d.weights Tryz.prog 38, m ≤ reachBytes) : ∃ l, ArgI W A n c l := by
  obtain ⟨fuel, hf⟩ := h
  obtain ⟨l, h1, h2, h3, h4, h5⟩ := open_list (f := icell) (k := 1) (ok := I64) ienc (by omega) Tryz.underlying38 (by kernel_rfl) (by_ := 8) (by kernel_rfl) (by omega) elemI hf hsz
  exact ⟨l, h1, h2, h3, h4, h5⟩
theorem Ls.atI {w : World} {A : Option Addr} {l : List Int} (h : Ls icell w A l) {i : Nat} (hi : i < l.length) :
    ∃ ad x, A = some ad ∧ l[i]? = some x ∧ ad.block < w.heap.size ∧ w.cell? (ad.add i) = some (.int .i64 x) := by
  obtain ⟨ad, x, rfl, hx, hlt, hc⟩ := h.at_ ienc hi
  have := hc 0 _ (by omega) rfl
  rw [Nat.mul_one] at this
  refine ⟨ad, x, rfl, hx, hlt, ?_⟩
  exact this

end Go.Proofs.YtelenboncejdaaaGreatDoor
