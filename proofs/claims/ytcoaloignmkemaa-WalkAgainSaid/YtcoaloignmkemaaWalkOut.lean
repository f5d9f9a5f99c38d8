/-
  A loop over an iterator that may be left by a break, with one continuation; entries that are collected in a box; conditions stand at each.
-/
import Derived.Test.YtcoaloignmkemaaWalkHelp
namespace Go.Proofs.Ytcoaloignmkemaa
open Go.RowKit Go.Sort Go.Shelf Rt
set_option linter.unusedVariables false
attribute [local go_sem] Oper.semAt_some wide_fn wide_depth

/-- A loop that runs out, or is left by a break: what holds then. -/
theorem wpIn_range_out {α : Type} {P : Program} {ps : Array Tmp} {assign body : Code} {w : World} {T : BS} {encs : α → Array Value} {xs : List α} {g : Operand} {id : Nat} {Q : Exit → Act → World → Prop} {a : Act} {gf : Nat} {lb : Array Value} {K : BS} (hg : a.eval g = .func (.func gf) #[] lb) (eg : ∀ args w, (callFunc gf args).run P w = .ok (.enter gf args) w)
    (hps : ∀ x, (encs x).size = ps.size) (hseq : ∀ W, Below w.heap.size w W → Gives P gf lb encs xs K W) (hT : ∀ k, T k → k < w.heap.size ∧ ¬ K k) (hK : ∀ k, K k → k < w.heap.size)
    (I : List α → BS → World → Prop) (Z : BS → World → Prop) (hI : Abd w.heap.size I) (hZ : Abd w.heap.size (fun (_ : Unit) T W => Z T W)) (h0 : I [] T w)
    (hround : RoundT P ps assign body a.tmps w T encs xs I (fun c _ T' W' => c = .exit id ∧ Z T' W'))
    (hfin : ∀ T' W', I xs T' W' → Z T' W')
    (hdone : ∀ D T' W', Z T' W' → Stp T w T' W' → w.heap.size ≤ D → ¬ T' D → W'.heap[D]? = some (.deferred (some [])) → Q .normal { a with defers := mk D :: a.defers } W') :
    (Code.rangeFunc g ps assign body).wpIn Fence.wide 0 P (Exit.inBlock id Q) a w :=
  wpIn_range hg eg hps hseq hT hK I (fun c _ T' W' => c = .exit id ∧ Z T' W') hI (fun c s T A B j q => ⟨j.1, hZ () T A B j.2 q⟩) h0 hround
    (fun D T' W' h hst hD hTD hh => hdone D T' W' (hfin T' W' h) hst hD hTD hh)
    (fun D c pre T' W' _ _ h hst hD hTD hh => by
      obtain ⟨rfl, h⟩ := h
      refine wpIn_exit ?_
      simp only [Exit.inBlock, if_true]
      exact hdone D T' W' h hst hD hTD hh)

/-- A code that does not panic. -/
def noPanic (Q : Exit → Act → World → Prop) : Exit → Act → World → Prop
  | .panic _, _, _ => False
  | e, a, w => Q e a w
theorem wp_noPanic {P : Program} {c : Code} {Q : Exit → Act → World → Prop} {a : Act} {w : World} (h : c.wp P (noPanic Q) a w) : c.wpIn Fence.wide 0 P Q a w :=
  wpIn_mono (wpIn_wide.2 h) fun e a w q => by cases e <;> first | exact q | exact q.elim
theorem noPanic_put {Q : Exit → Act → World → Prop} : ∀ c (a : Act) d v w, noPanic Q (.panic c) (a.put d v) w → noPanic Q (.panic c) a w := fun _ _ _ _ _ h => h
theorem cell_lat {w : World} {p : Addr} {u : Value} (h : w.cell? p = some u) (d : Nat) (os : Array Obj) : (Go.Sort.grow (redrawn w d) os).cell? p = some u :=
  ((below_regrown w d os).cell (cell_lt h)).trans h
/-- The entries that have come stand in the box. -/
def EntsIn (base B : Nat) (T : BS) (W : World) (l : List Ent) : Prop := ∃ v, BoxRow pcE 31 22 2 base B T W l v
theorem EntsIn.abd {base B n : Nat} {T : BS} {A A' : World} {l : List Ent} (h : EntsIn base B T A l) (q : Qt n T A A') : EntsIn base B T A' l := by
  obtain ⟨v, h⟩ := h
  exact ⟨v, BoxRow.abd n (l, v) _ _ _ h q⟩
theorem ge_empty (l : List Ent) : l.filter (ge ByteArray.empty) = l := filter_all fun e he => by
  simp only [ge, decide_eq_true_eq]
  exact List.not_lt_nil _
theorem le_hi {w : World} {T : TO} (ht : TreeIs w T) : (tl T).filter (le (hiOf T)) = tl T := filter_all fun e he => by
  cases T with
  | none => cases he
  | some x =>
    simp only [le, decide_eq_true_eq]
    exact (ht x rfl).le_hi he

end Go.Proofs.Ytcoaloignmkemaa
