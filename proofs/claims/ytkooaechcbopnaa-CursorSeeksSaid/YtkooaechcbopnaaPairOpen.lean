/-
  Arguments of the rows of layer 3: a slice of entries, an entry by value: what the walk is told of each; conditions: the row's own.
-/
import Derived.Test.YtkooaechcbopnaaPairSmall
import Derived.Deep.SlicePairs
import Derived.SizedLaws
import Derived.ProofKit
import Derived.Lib.SmallJoins
namespace Go.Proofs.Ytkooaechcbopnaa
open Go.RowKit Go.Sort Go.ChangeShapes Go.WideShapes Go.Joins Go.Deep
set_option linter.unusedVariables false

/-- What is known of a slice of entries that comes in. -/
structure Arg (W : World) (A : Option Addr) (n c : Nat) (l : List Ent) : Prop where
  len : l.length = n
  cap : n ≤ c
  small : n ≤ 140737488351232
  es : Es W A l
  strs : ∀ e ∈ l, e.k.size ≤ 140737488351232 ∧ e.v.size ≤ 140737488351232

def strOf : Value → ByteArray
  | .string s => s
  | _ => ByteArray.empty

theorem weigh_all {H : Type} {P : Program} {e : TypeId} {m : Nat} {d : DataW H} (hm : m ∈ d.weights P e) (l : List (DataW H)) (hd : d ∈ l) : m ∈ DataW.weightsAll P e l := by
  induction l with
  | nil => cases hd
  | cons x l ih =>
    rw [DataW.weightsAll, List.mem_append]
    cases hd with
    | head => exact .inl hm
    | tail _ h => exact .inr (ih h)

theorem fields_ent : ∃ f0 f1, Try.prog.underlying 39 = some (.struct #[f0, f1]) ∧ f0.offset = 0 ∧ f1.offset = 1 ∧ f0.type = 9 ∧ f1.type = 9 := ⟨_, _, Try.underlying39, rfl, rfl, rfl, rfl⟩

theorem open_ents {H : Type} {enc : TypeId × Value → H} {W : World} {A : Option Addr} {n c : Nat} {d : DataW H} {p : List MemPlace}
    (h : DataW.Trod enc Try.prog W 0 (fun _ => true) true 22 (.slice A n c) d p) (hsz : ∀ m ∈ d.weights Try.prog 22, m ≤ reachBytes) : ∃ l, Arg W A n c l := by
  obtain ⟨fuel, hf⟩ := h
  obtain ⟨f0, f1, he, o0, o1, t0, t1⟩ := fields_ent
  have c9 : Try.prog.cellsOf 9 = 1 := by kernel_rfl
  rcases open_slice_pairs Try.underlying22 he (by kernel_rfl) o0 o1 (by rw [t0]; exact c9) (by rw [t1]; exact c9) hf with ⟨hc, hx⟩ | ⟨a, len, cap, m, k, V0, V1, D0, D1, P0, P1, hc, hb, hl, hm, hmm, hx, hi⟩
  · simp only [Value.cells, List.cons.injEq, Value.slice.injEq, and_true] at hc
    obtain ⟨rfl, rfl, rfl⟩ := hc
    exact ⟨[], rfl, Nat.le_refl _, by omega, Es.nil _ _, fun e he => by cases he⟩
  · simp only [Value.cells, List.cons.injEq, Value.slice.injEq, and_true] at hc
    obtain ⟨rfl, rfl, rfl⟩ := hc
    simp only [if_true] at hmm
    subst hmm
    have hd : d = _ := congrArg Prod.fst hx
    have hw1 : (n + (m - n)) * 32 ≤ reachBytes := by
      have hb32 : Try.prog.bytesOf 39 = 32 := by kernel_rfl
      refine hsz _ ?_
      rw [hd]
      simp [DataW.weights, Try.underlying22, hb32]
    have hreach : reachBytes = 140737488351232 := rfl
    have hstr : ∀ i, i < m → (∃ s, V0 i = .string s ∧ D0 i = .lit (.string s.data.toList)) ∧ ∃ s, V1 i = .string s ∧ D1 i = .lit (.string s.data.toList) := by
      intro i him
      obtain ⟨_, _, h0, h1⟩ := hi i him
      rw [t0] at h0
      rw [t1] at h1
      obtain ⟨s, hs, hd, _⟩ := DataW.trod_string Try.underlying9 h0
      obtain ⟨s', hs', hd', _⟩ := DataW.trod_string Try.underlying9 h1
      exact ⟨⟨s, by simpa using hs, congrArg Prod.fst hd⟩, ⟨s', by simpa using hs', congrArg Prod.fst hd'⟩⟩
    refine ⟨(List.range n).map fun i => ⟨strOf (V0 i), strOf (V1 i)⟩, by simp, hl, by omega, fun h0 => ⟨a, rfl, ?_, fun j u hu => ?_⟩, fun e he => ?_⟩
    · have := World.block_lt_of_cell? W _ (hi 0 (by simp at h0; omega)).1
      rwa [block_of_add] at this
    · have hlen := (List.getElem?_eq_some_iff.1 hu).1
      rw [ecells_length] at hlen
      simp only [List.length_map, List.length_range] at hlen
      have hat := ecells_at ((List.range n).map fun i => (⟨strOf (V0 i), strOf (V1 i)⟩ : Ent)) (j / 2)
      rw [List.getElem?_map, List.getElem?_range (by omega)] at hat
      obtain ⟨h0, h1, _⟩ := hi (j / 2) (by omega)
      obtain ⟨⟨s, hs, _⟩, ⟨s', hs', _⟩⟩ := hstr (j / 2) (by omega)
      rcases Nat.mod_two_eq_zero_or_one j with hj | hj
      · rw [show j = j / 2 * 2 by omega] at hu ⊢
        rw [hat.1] at hu
        rw [h0, ← hu, hs]
        simp [hs, strOf]
      · rw [show j = j / 2 * 2 + 1 by omega] at hu ⊢
        rw [hat.2] at hu
        rw [h1, ← hu, hs']
        simp [hs', strOf]
    · simp only [List.mem_map, List.mem_range] at he
      obtain ⟨i, hin, rfl⟩ := he
      obtain ⟨⟨s, hs, hd0⟩, ⟨s', hs', hd1⟩⟩ := hstr i (by omega)
      have hmem : DataW.agg [D0 i, D1 i] ∈ (List.range n).map fun i => DataW.agg [D0 i, D1 i] := List.mem_map.2 ⟨i, List.mem_range.2 hin, rfl⟩
      have hall : ∀ q ∈ (DataW.agg [D0 i, D1 i]).weights Try.prog 39, q ≤ reachBytes := fun q hq => hsz q (by
        rw [hd]
        simp only [DataW.weights, Try.underlying22, List.mem_cons, List.mem_append]
        exact .inr (.inl (weigh_all hq _ hmem)))
      rw [hd0, hd1] at hall
      simp only [DataW.weights, he, List.map_cons, List.map_nil, DataW.weightsEach, List.append_nil, List.mem_append, List.mem_cons, List.not_mem_nil, or_false] at hall
      rw [hs, hs']
      exact ⟨hall _ (.inl rfl), hall _ (.inr rfl)⟩

/-- What is known of an entry that comes in. -/
structure ArgE (x : Ent) : Prop where
  key : x.k.size ≤ 140737488351232
  val : x.v.size ≤ 140737488351232

set_option maxRecDepth 100000 in
theorem open_ent {H : Type} {enc : TypeId × Value → H} {W : World} {base : Nat} {v : Value} {d : DataW H} {p : List MemPlace} (hv : Value.okWide Try.prog W .any base 39 v)
    (h : DataW.Trod enc Try.prog W 0 (fun _ => true) true 39 v d p) (hsz : ∀ m ∈ d.weights Try.prog 39, m ≤ reachBytes) : ∃ x : Ent, v = .agg #[.string x.k, .string x.v] ∧ ArgE x := by
  have c30 : Try.prog.cellsOf 39 = 2 := by kernel_rfl
  obtain ⟨c0, c1, y0, y1, m, rfl, rfl, rfl, hy0, hy1⟩ := open_agg2 Try.underlying39 (by kernel_rfl) c30 hv h
  obtain ⟨s, hs, hd, _⟩ := DataW.trod_string Try.underlying9 hy0
  obtain ⟨s', hs', hd', _⟩ := DataW.trod_string Try.underlying9 hy1
  simp only [List.cons.injEq, and_true] at hs hs'
  subst hs hs' hd hd'
  simp only [DataW.weights, Try.underlying39, List.map_cons, List.map_nil, DataW.weightsEach, List.append_nil, List.mem_append, List.mem_cons, List.not_mem_nil, or_false] at hsz
  exact ⟨⟨s, s'⟩, rfl, hsz _ (.inl rfl), hsz _ (.inr rfl)⟩

end Go.Proofs.Ytkooaechcbopnaa
