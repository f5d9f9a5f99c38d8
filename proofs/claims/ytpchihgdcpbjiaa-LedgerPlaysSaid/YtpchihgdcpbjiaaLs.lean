/-
  Lists of structs in memory, whatever the struct: elements as cells (a function gives the cells of one), a slice that reads as such a list, a row of the call's own, append; conditions stand at each.
-/
import Derived.Test.YtpchihgdcpbjiaaBytes
import Derived.Test.YtpchihgdcpbjiaaEnts
namespace Go.Proofs.Ytpchihgdcpbjiaa
open Go.RowKit Go.Sort
set_option linter.unusedVariables false

/-- What the cells of an element must be: k of them, each one cell. -/
structure Enc {α : Type} (f : α → List Value) (k : Nat) : Prop where
  len : ∀ x, (f x).length = k
  one : ∀ x, ∀ u ∈ f x, u.oneCell' = true

section
variable {α : Type} {f : α → List Value} {k : Nat}
theorem Enc.flen (h : Enc f k) (l : List α) : (l.flatMap f).length = l.length * k := by
  induction l with
  | nil => simp
  | cons x l ih => rw [List.flatMap_cons, List.length_append, h.len, ih, List.length_cons, Nat.add_mul]; omega
theorem Enc.fone (h : Enc f k) (l : List α) : ∀ u ∈ l.flatMap f, u.oneCell' = true := by
  intro u hu
  obtain ⟨x, _, hx⟩ := List.mem_flatMap.1 hu
  exact h.one x u hx
theorem Enc.at_ (h : Enc f k) (l : List α) (i j : Nat) (x : α) (hx : l[i]? = some x) (hj : j < k) : (l.flatMap f)[i * k + j]? = (f x)[j]? := by
  induction l generalizing i with
  | nil => simp at hx
  | cons y l ih =>
    rw [List.flatMap_cons]
    cases i with
    | zero =>
      simp only [List.getElem?_cons_zero, Option.some.injEq] at hx
      subst hx
      rw [Nat.zero_mul, Nat.zero_add, List.getElem?_append_left (by rw [h.len]; exact hj)]
    | succ i =>
      rw [List.getElem?_append_right (by rw [h.len, Nat.add_mul]; omega), h.len, show (i + 1) * k + j - k = i * k + j by rw [Nat.add_mul]; omega]
      exact ih i (by simpa using hx)

/-- The slice at A reads as the elements l. -/
def Ls (f : α → List Value) (w : World) (A : Option Addr) (l : List α) : Prop :=
  0 < l.length → ∃ ad, A = some ad ∧ ad.block < w.heap.size ∧ ∀ j u, (l.flatMap f)[j]? = some u → w.cell? (ad.add j) = some u
theorem Ls.nil (w : World) (A : Option Addr) : Ls f w A [] := fun h => absurd h (by simp)
theorem Ls.below {w w' : World} {A : Option Addr} {l : List α} (h : Ls f w A l) (hb : Below w.heap.size w w') : Ls f w' A l := fun h0 => by
  obtain ⟨ad, e, hlt, hc⟩ := h h0
  exact ⟨ad, e, Nat.lt_of_lt_of_le hlt hb.size, fun j u hu => (hb.cell (by rw [block_of_add]; exact hlt)).trans (hc j u hu)⟩
theorem Ls.at_ {w : World} {A : Option Addr} {l : List α} (he : Enc f k) (h : Ls f w A l) {i : Nat} (hi : i < l.length) :
    ∃ ad x, A = some ad ∧ l[i]? = some x ∧ ad.block < w.heap.size ∧ ∀ j u, j < k → (f x)[j]? = some u → w.cell? ((ad.add (i * k)).add j) = some u := by
  obtain ⟨ad, e, hlt, hc⟩ := h (by omega)
  refine ⟨ad, l[i], e, List.getElem?_eq_getElem hi, hlt, fun j u hj hu => ?_⟩
  rw [add_of_add]
  exact hc _ _ ((he.at_ l i j _ (List.getElem?_eq_getElem hi) hj).trans hu)

/-- A list in a row of the call's own. -/
def OwnL (f : α → List Value) (t : TypeId) (k : Nat) (w : World) (base : Nat) (v : Value) (l : List α) : Prop := w.ownsRow base t k v l.length (l.flatMap f)
theorem OwnL.form {t : TypeId} {w : World} {base : Nat} {v : Value} {l : List α} (h : OwnL f t k w base v l) : ∃ A c, v = .slice A l.length c ∧ l.length ≤ c ∧ Ls f w A l := by
  rcases h.2 with ⟨rfl, h0⟩ | ⟨g, cap, cur, rfl, hg, hh, hc, _⟩
  · exact ⟨none, 0, by rw [h0], by omega, fun hl => by omega⟩
  · exact ⟨_, _, rfl, hc, fun _ => ⟨_, rfl, lt_of_block hh, h.cells (g := g) rfl⟩⟩
theorem OwnL.at_block {t : TypeId} {w : World} {base : Nat} {v : Value} {l : List α} (h : OwnL f t k w base v l) : ∀ g, v.ownBlock = some g → base ≤ g := by
  intro g hg
  rcases h.2 with ⟨rfl, h0⟩ | ⟨g', cap, cur, rfl, hb, _⟩
  · simp [Value.ownBlock] at hg
  · have : g' = g := by simpa [Value.ownBlock] using hg
    omega
theorem OwnL.keep {t : TypeId} {w w' : World} {base : Nat} {v : Value} {l : List α} (h : OwnL f t k w base v l) (hb : ∀ g, v.ownBlock = some g → g < w.heap.size → w'.heap[g]? = w.heap[g]?) : OwnL f t k w' base v l := by
  refine ⟨h.1, ?_⟩
  rcases h.2 with hv | ⟨g, cap, cur, h1, h2, h3, h4⟩
  · exact .inl hv
  · refine .inr ⟨g, cap, cur, h1, h2, (hb g ?_ (lt_of_block h3)).trans h3, h4⟩
    rw [h1]
    rfl
theorem OwnL.below {t : TypeId} {w w' : World} {base : Nat} {v : Value} {l : List α} (h : OwnL f t k w base v l) (hb : Below w.heap.size w w') : OwnL f t k w' base v l := h.keep fun g _ hg => hb.block g hg
theorem OwnL.mono {t : TypeId} {w : World} {b b' : Nat} {v : Value} {l : List α} (h : OwnL f t k w b v l) (hb : b' ≤ b) : OwnL f t k w b' v l := by
  refine ⟨h.1, ?_⟩
  rcases h.2 with hv | ⟨g, cap, cur, h1, h2, h3⟩
  · exact .inl hv
  · exact .inr ⟨g, cap, cur, h1, Nat.le_trans hb h2, h3⟩
theorem OwnL.nil_ (t : TypeId) (w : World) (base : Nat) : OwnL f t k w base (.slice none 0 0) ([] : List α) := ⟨by simp, .inl ⟨rfl, rfl⟩⟩
theorem OwnL.lt {t : TypeId} {w : World} {base : Nat} {v : Value} {l : List α} (h : OwnL f t k w base v l) : ∀ g, v.ownBlock = some g → g < w.heap.size := by
  intro g hg
  rcases h.2 with ⟨rfl, h0⟩ | ⟨g', cap, cur, rfl, hb, hh, _⟩
  · simp [Value.ownBlock] at hg
  · have : g' = g := by simpa [Value.ownBlock] using hg
    subst this
    exact lt_of_block hh
theorem OwnL.grow_below {t : TypeId} {a w w' : World} {base : Nat} {v : Value} {l : List α} (h : OwnL f t k w base v l) (hb : Below base a w) (hs : base ≤ w.heap.size) (hg : w.grownBy w' v.ownBlock) : Below base a w' :=
  hb.grown hg hs (fun k hk => h.at_block k hk)

/-- append(v, x): onto a row of the call's own. -/
theorem run_append_one (he : Enc f k) (ts t ty : TypeId) (z : Value) (by_ : Nat) (hu : ∃ d, Try.prog.underlying ts = some d ∧ d = .slice t) (hi : (Try.prog.info? t).map (fun i => (i.zero, i.size, i.bytes)) = some (some z, k, by_)) (hz : z.cells.size = k) (hk : 0 < k) (hk8 : k ≤ 8) (hby : by_ ≤ 1000)
    {w : World} {base : Nat} {v : Value} {xs : List α} (hown : OwnL f t k w base v xs) (x : α) (hb : xs.length ≤ 1000000) (hbase : base ≤ w.heap.size) :
    ∃ v' w', (Builtin.append_ #[ts, ts] ty #[v, .slice (some ⟨w.heap.size, 0, none⟩) 1 1]).run Try.prog (w.alloc (.cells (f x).toArray t)) = .ok v' w' ∧ OwnL f t k w' base v' (xs ++ [x]) ∧ (w.alloc (.cells (f x).toArray t)).grownBy w' v.ownBlock := by
  obtain ⟨i0, hi0, hz0, hz1, hz2⟩ := info_parts hi
  obtain ⟨d, hu, rfl⟩ := hu
  have hbz : Below w.heap.size w (w.alloc (.cells (f x).toArray t)) := (Below.refl _ _).alloc (Nat.le_refl _) _
  have hcells : ∀ j u, (f x)[j]? = some u → (w.alloc (.cells (f x).toArray t)).cell? ((⟨w.heap.size, 0, none⟩ : Addr).add j) = some u := fun j u h => new_row w (f x).toArray t j u (by simpa using h)
  obtain ⟨v', w', h1, h2, h3, _⟩ := run_append_own (P := Try.prog) (w.alloc (.cells (f x).toArray t)) base ts ty t i0 z k by_ hu hi0 hz0 hz1 hz2 hz hk v xs.length (xs.flatMap f) (hown.below hbz) ⟨w.heap.size, 0, none⟩ 1 1 (f x) (by rw [he.len]; omega) hcells (he.one x) (by simp only [maxLen]; omega) (by
    have : (xs.length + 1) * by_ ≤ 1000001 * 1000 := Nat.mul_le_mul (by omega) hby
    omega) (Nat.le_trans hbase hbz.size)
  refine ⟨v', w', h1, ?_, h3⟩
  unfold OwnL
  rw [List.flatMap_append, List.length_append]
  simpa using h2
end

/-- What a box was made with stays there. -/
theorem box_at {w w' : World} {cs : Array Value} {t : TypeId} (hb : Below (w.alloc (.cells cs t)).heap.size (w.alloc (.cells cs t)) w') (j : Nat) (u : Value) (h : cs[j]? = some u) : w'.cell? ⟨w.heap.size, j, none⟩ = some u := by
  refine (hb.cell (by simp)).trans ?_
  rw [World.cell?_alloc_mark]
  exact h
theorem box_lt {w w' : World} {x : Obj} (hb : Below (w.alloc x).heap.size (w.alloc x) w') : w.heap.size < w'.heap.size := by
  have := hb.size
  simp at this
  omega

end Go.Proofs.Ytpchihgdcpbjiaa
