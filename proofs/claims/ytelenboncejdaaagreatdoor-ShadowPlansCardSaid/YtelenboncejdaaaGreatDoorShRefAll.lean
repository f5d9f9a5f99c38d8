/-
  The contract of the reference's All: all numbers, rising, each once; conditions: what is known can be read, few numbers.
-/
import Derived.Test.YtelenboncejdaaaGreatDoorShKnown
namespace Go.Proofs.YtelenboncejdaaaGreatDoor
open Go.RowKit Go.Sort
open Go.Proofs.YtelenboncejdaaaGreatDoor (icell)
set_option linter.unusedVariables false
set_option linter.unusedSimpArgs false

/-- A node that is known, as the reference has it: its pointer, its slice, the slice's numbers. -/
structure KN where
  p : Option Nat
  A : Option Addr
  c : Nat
  l : List Int
def pcKn (x : KN) : List Value := [.pointer (x.p.map fun b => ⟨b, 0, none⟩), .slice x.A x.l.length x.c]
theorem encKn : Enc pcKn 2 := ⟨fun _ => rfl, fun x u hu => by
  simp only [pcKn, List.mem_cons, List.not_mem_nil, or_false] at hu
  rcases hu with rfl | rfl <;> rfl⟩
/-- What is known can be read. -/
structure ArgK (W : World) (A : Option Addr) (n : Nat) (l : List KN) : Prop where
  len : l.length = n
  ls : Ls pcKn W A l
  rows : ∀ x ∈ l, Ls icell W x.A x.l
theorem ArgK.below {W W' : World} {A : Option Addr} {n : Nat} {l : List KN} (h : ArgK W A n l) (hb : Below W.heap.size W W') : ArgK W' A n l := ⟨h.len, h.ls.below hb, fun x hx => (h.rows x hx).below hb⟩

/-- A number more, in its place. -/
def lowN (out : List Int) (x : Int) : Nat := (out.takeWhile fun y => decide (y < x)).length
def insN (out : List Int) (x : Int) : List Int := if out[lowN out x]? = some x then out else out.take (lowN out x) ++ [x] ++ out.drop (lowN out x)
theorem lowN_le (out : List Int) (x : Int) : lowN out x ≤ out.length := by
  unfold lowN
  exact (List.takeWhile_prefix _).length_le
theorem lowN_lt {out : List Int} {x : Int} : ∀ {i : Nat} {y : Int}, i < lowN out x → out[i]? = some y → y < x := fun {i y} hi hy => by
  unfold lowN at hi
  have h1 : (out.takeWhile fun y => decide (y < x))[i]? = some y := by
    rw [← hy]
    obtain ⟨t, ht⟩ := List.takeWhile_prefix (l := out) (fun y => decide (y < x))
    conv => rhs; rw [← ht]
    rw [List.getElem?_append_left hi]
  have := List.mem_of_getElem? h1
  have h2 := List.all_takeWhile (p := fun y => decide (y < x)) (l := out)
  simpa using List.all_eq_true.1 h2 y this
theorem lowN_stop : ∀ {out : List Int} {x y : Int}, out[lowN out x]? = some y → ¬ y < x
  | [], x, y, h => by simp at h
  | a :: out, x, y, h => by
    by_cases ha : a < x
    · have : lowN (a :: out) x = lowN out x + 1 := by simp [lowN, ha]
      rw [this, List.getElem?_cons_succ] at h
      exact lowN_stop h
    · have : lowN (a :: out) x = 0 := by simp [lowN, ha]
      rw [this] at h
      simp at h
      omega
theorem lowN_of {out : List Int} {x : Int} {k : Nat} (h1 : ∀ i y, i < k → out[i]? = some y → y < x) (hk : k ≤ out.length) (h2 : ∀ y, out[k]? = some y → ¬ y < x) : lowN out x = k := by
  rcases Nat.lt_trichotomy (lowN out x) k with h | h | h
  · have hl : lowN out x < out.length := by omega
    have h3 := h1 _ _ h (List.getElem?_eq_getElem hl)
    exact absurd h3 (lowN_stop (List.getElem?_eq_getElem hl))
  · exact h
  · have hl : k < out.length := Nat.lt_of_lt_of_le h (lowN_le _ _)
    exact absurd (lowN_lt h (List.getElem?_eq_getElem hl)) (h2 _ (List.getElem?_eq_getElem hl))
theorem insN_mem (out : List Int) (x z : Int) : z ∈ insN out x ↔ z ∈ out ∨ z = x := by
  unfold insN
  split
  · rename_i h
    constructor
    · exact .inl
    · rintro (h1 | rfl)
      · exact h1
      · exact List.mem_of_getElem? h
  · conv => rhs; rw [← List.take_append_drop (lowN out x) out]
    simp only [List.mem_append, List.mem_singleton]
    constructor
    · rintro ((h | h) | h)
      · exact .inl (.inl h)
      · exact .inr h
      · exact .inl (.inr h)
    · rintro ((h | h) | h)
      · exact .inl (.inl h)
      · exact .inr h
      · exact .inl (.inr h)
theorem insN_rising {out : List Int} (h : Rising out) (x : Int) : Rising (insN out x) := by
  unfold insN
  split
  · exact h
  · rename_i hne
    have hlt : ∀ y ∈ out.take (lowN out x), y < x := fun y hy => by
      obtain ⟨i, hi⟩ := List.getElem?_of_mem hy
      have hil : i < lowN out x := by
        have := (List.getElem?_eq_some_iff.1 hi).1
        rw [List.length_take] at this
        omega
      rw [List.getElem?_take_of_lt hil] at hi
      exact lowN_lt hil hi
    have hgt : ∀ y ∈ out.drop (lowN out x), x < y := fun y hy => by
      have hr : Rising (out.drop (lowN out x)) := h.sublist (List.drop_sublist _ _)
      cases hd : out.drop (lowN out x) with
      | nil =>
        rw [hd] at hy
        cases hy
      | cons a t =>
        have ha : out[lowN out x]? = some a := by
          have := congrArg (·[0]?) hd
          simpa using this
        have h1 := lowN_stop ha
        have h2 : a ≠ x := fun e => hne (by rw [ha, e])
        rw [hd] at hy hr
        have hax : x < a := by omega
        rcases List.mem_cons.1 hy with rfl | hy
        · exact hax
        · have := (List.pairwise_cons.1 hr).1 y hy
          omega
    refine List.pairwise_append.2 ⟨List.pairwise_append.2 ⟨h.sublist (List.take_sublist _ _), List.pairwise_singleton _ _, fun a ha b hb => ?_⟩, h.sublist (List.drop_sublist _ _), fun a ha b hb => ?_⟩
    · rw [List.mem_singleton.1 hb]
      exact hlt a ha
    · rcases List.mem_append.1 ha with ha | ha
      · have := hlt a ha
        have := hgt b hb
        omega
      · rw [List.mem_singleton.1 ha]
        exact hgt b hb
theorem insN_len (out : List Int) (x : Int) : (insN out x).length ≤ out.length + 1 := by
  unfold insN
  split
  · omega
  · simp
    omega
def insA (out : List Int) (l : List Int) : List Int := l.foldl insN out
theorem insA_snoc {l : List Int} {k : Nat} {x : Int} (out : List Int) (h : l[k]? = some x) : insA out (l.take (k + 1)) = insN (insA out (l.take k)) x := by
  rw [List.take_add_one, h]
  simp [insA]
theorem insA_mem : ∀ (l out : List Int) (z : Int), z ∈ insA out l ↔ z ∈ out ∨ z ∈ l
  | [], out, z => by simp [insA]
  | x :: l, out, z => by
    rw [show insA out (x :: l) = insA (insN out x) l from rfl, insA_mem l, insN_mem, List.mem_cons]
    constructor
    · rintro ((h | h) | h)
      · exact .inl h
      · exact .inr (.inl h)
      · exact .inr (.inr h)
    · rintro (h | h | h)
      · exact .inl (.inl h)
      · exact .inl (.inr h)
      · exact .inr h
theorem insA_rising : ∀ (l out : List Int), Rising out → Rising (insA out l)
  | [], _, h => h
  | x :: l, out, h => insA_rising l _ (insN_rising h x)
theorem insA_len : ∀ (l out : List Int), (insA out l).length ≤ out.length + l.length
  | [], _ => Nat.le_refl _
  | x :: l, out => by
    have h1 := insA_len l (insN out x)
    have h2 := insN_len out x
    rw [show insA out (x :: l) = insA (insN out x) l from rfl, List.length_cons]
    omega
/-- All of what is known. -/
def allK (l : List KN) : List Int := l.foldl (fun o x => insA o x.l) []
theorem allK_snoc {l : List KN} {k : Nat} {x : KN} (h : l[k]? = some x) : allK (l.take (k + 1)) = insA (allK (l.take k)) x.l := by
  rw [List.take_add_one, h]
  simp [allK]

end Go.Proofs.YtelenboncejdaaaGreatDoor
