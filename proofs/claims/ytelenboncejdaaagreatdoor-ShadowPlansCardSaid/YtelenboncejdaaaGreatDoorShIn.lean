/-
  A statement that draws its order, in a round of a range over a function: what serves it in a plain body serves it there; condition: it defers nothing.
-/
import Derived.Test.YtelenboncejdaaaGreatDoorShBack
namespace Go.Proofs.YtelenboncejdaaaGreatDoor
open Go.RowKit Go.Sort Go.Shelf Rt
set_option linter.unusedVariables false

theorem rowsIn_wide {P : Program} {row : String} {args : Array Value} {w : World} {R : Value → World → Prop} {n l : Nat} (h : Rows P row args w R) : _root_.Go.RowsIn (Fence.wide.inRound l) n P row args w R := fun c cs _ => by
  obtain ⟨v, w', r, s⟩ := h c cs
  exact ⟨v, w', r, stepsIn_wide.2 s⟩
theorem operIn_of {P : Program} {o : Oper} {a : Act} {w : World} {K : Act → World → Prop} {Q : Exit → Act → World → Prop} {l : Nat} (hd : ∀ c, o.op ≠ .defer c) (h : o.wp P a w K Q) : o.wpIn (Fence.wide.inRound l) 0 P a w K Q := by
  refine ⟨fun f _ => trivial, ?_⟩
  rw [show o.semAt (Fence.wide.inRound l).round a.eval = execOp a.eval o from Oper.semAt_some l _ _ hd]
  unfold Oper.wp at h
  generalize (execOp a.eval o).run P w = r at h
  match r, h with
  | .ok (.value v) w', h => exact h
  | .ok .skip w', h => exact h
  | .ok (.defer d) w', h => exact h
  | .ok (.enter f args) w', h => exact ⟨fun h => (by cases h), CallsIn.inRound l (callsIn_wide.2 h)⟩
  | .ok (.row row args) w', h => exact ⟨fun h => (by cases h), rowsIn_wide h⟩
  | .halt (.panic v) w', h => exact h
theorem anyIn_of {P : Program} {md : Region.Mode} {ops : Array Oper} {Q : Exit → Act → World → Prop} {l : Nat} (hd : ∀ (i : Nat) o, ops[i]? = some o → ∀ c, o.op ≠ .defer c) (hL : ¬ LetsOut Q) : ∀ (fuel : Nat) (listed : Array Bool) (a : Act) (w : World),
    wpAny P md ops Q fuel listed a w → wpAnyIn (Fence.wide.inRound l) 0 P md ops Q fuel listed a w
  | 0, _, _, _, h => h
  | fuel + 1, listed, a, w, ⟨h1, h2⟩ => ⟨h1, fun i hi => by
    have h := h2 i hi
    unfold wpOp at h
    unfold wpOpIn
    cases ho : ops[i]? with
    | none =>
      simp only [ho] at h ⊢
      exact anyIn_of hd hL fuel _ a w h
    | some o =>
      simp only [ho] at h ⊢
      by_cases hw : Region.wanted o (yielded ops a.tmps) = true
      · rw [if_pos hw] at h ⊢
        rcases h with h | ⟨_, h⟩
        · exact Oper.wpIn_mono (fun a w => anyIn_of hd hL fuel _ a w) (operIn_of (hd i o ho) h)
        · exact absurd h hL
      · rw [if_neg hw] at h ⊢
        exact ⟨fun _ _ => trivial, anyIn_of hd hL fuel _ _ w h⟩⟩
/-- Nothing of it defers. -/
def noDefer (l : List Oper) : Bool := l.all fun o => match o.op with
  | .defer _ => false
  | _ => true
theorem noDefer_at {l : List Oper} (h : noDefer l = true) : ∀ (i : Nat) o, l.toArray[i]? = some o → ∀ c, o.op ≠ .defer c := fun i o ho c e => by
  have := List.all_eq_true.1 h o (List.mem_of_getElem? (i := i) (by simpa using ho))
  rw [e] at this
  cases this
/-- The law of regions by segments, in a round. -/
theorem wpIn_region_segs {P : Program} {Q : Exit → Act → World → Prop} {id r : Nat} {l : List Oper} {a : Act} {w : World} (z : Nat) (bs : List Nat) (sg : List (List Nat × Nat)) (last : List Nat) (hm : P.follows .mixedOrders = true) (hs : Region.noSelect l.toArray = true) (hd : noDefer l = true) (hL : ¬ LetsOut Q)
    (hB : Dc.segsB .any l.toArray last sg (Array.replicate l.length false) = true) (hLn : Dc.segsLen last sg = l.length) (hz : Dc.lastB .any l.toArray z = true)
    (hQ : ∀ c (a : Act) d v w, Q (.panic c) (a.put d v) w → Q (.panic c) a w) (h : Dc.wpSegs z bs P l Q last sg a w.drew) : (Code.region id l.toArray true).wpIn (Fence.wide.inRound r) 0 P Q a w := by
  refine wpIn_region_any hm (anyIn_of (noDefer_at hd) hL _ _ _ _ (Dc.wpAny_of_G (z := z) (bs := bs) _ _ _ _ ?_))
  have := Dc.segs_sound (z := z) (bs := bs) hs hQ hz last sg (Array.replicate l.length false) a w.drew (Dc.Closed.start _) hB h
  rw [hLn] at this
  simpa using this

end Go.Proofs.YtelenboncejdaaaGreatDoor
