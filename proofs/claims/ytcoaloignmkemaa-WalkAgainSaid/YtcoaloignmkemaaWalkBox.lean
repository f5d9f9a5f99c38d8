/-
  A variable's box that holds a slice in a row of its own: append in a round of a range over a function; a box that holds a number; conditions stand at each.
-/
import Derived.Test.YtcoaloignmkemaaWalkDown
import Derived.Test.YtcoaloignmkemaaGrow
import Derived.Test.YtcoaloignmkemaaStrs
import Derived.RangeFuncBox
namespace Go.Proofs.Ytcoaloignmkemaa
open Go.RowKit Go.Sort Go.Shelf Rt
set_option linter.unusedVariables false
attribute [local go_sem] Oper.semAt_some wide_fn wide_depth

theorem wpListIn_append_ran {F : Fence} {n : Nat} {ops : Array Oper} {rest : List Oper} {o : Oper} {a : Act} {w : World} {Q : Exit → Act → World → Prop} (hgd : o.guard = none) (s x : Operand) (t : TypeId)
    (ho : o.op = .call { callee := .builtin .append, args := #[s, x], argTypes := #[t, t] }) (v u v' : Value) (w' : World) (hs : a.eval s = v) (hx : a.eval x = u)
    (hrun : (Builtin.append_ #[t, t] o.type #[v, u]).run Try.prog w = .ok v' w') (h : wpListIn F n Try.prog ops Q rest (a.put o.dst v') w') : wpListIn F n Try.prog ops Q (o :: rest) a w := by
  refine wpListIn_plain hgd fun K hK => ?_
  unfold Oper.wpIn
  refine ⟨?_, ?_⟩
  · simp [Oper.about, ho, resolve, Target.leads, Sem.run_pure]
  · rw [Oper.semAt_plain F _ _ (by rw [ho]; intro c hc'; cases hc')]
    simp [execOp, ho, resolve, invoke, builtin, hs, hx, hrun, Result.andThen]
    exact hK _ _ h

/-- A box B that holds a slice, whose row is the call's own; T: both. -/
structure BoxRow {α : Type} (f : α → List Value) (te ts : TypeId) (k base B : Nat) (T : BS) (W : World) (l : List α) (v : Value) : Prop where
  box : Boxed W B ts v
  row : OwnL f te k W base v l
  own : ∀ i, T i ↔ (i = B ∨ v.ownBlock = some i)
section
variable {α : Type} {f : α → List Value} {te ts : TypeId} {k base B : Nat} {T : BS} {W : World} {l : List α} {v : Value}
theorem BoxRow.abd (n : Nat) : Abd n (fun (s : List α × Value) T W => BoxRow f te ts k base B T W s.1 s.2) := fun s T A A' h q => by
  have hB : A'.heap[B]? = A.heap[B]? := q.same B h.box.lt (.inr ((h.own B).2 (.inl rfl)))
  exact ⟨hB.trans h.box, h.row.keep fun g hg hlt => q.same g hlt (.inr ((h.own g).2 (.inr hg))), h.own⟩
theorem BoxRow.lt (h : BoxRow f te ts k base B T W l v) : ∀ i, T i → i < W.heap.size := fun i hi => by
  rcases (h.own i).1 hi with rfl | hi
  · exact h.box.lt
  · exact h.row.lt i hi
theorem BoxRow.start (hb : Boxed W B ts (.slice none 0 0)) : BoxRow f te ts k base B (fun i => i = B) W ([] : List α) (.slice none 0 0) :=
  ⟨hb, OwnL.nil_ _ _ _, fun i => by simp [Value.ownBlock]⟩
theorem setCell_size (W : World) (a : Addr) (u : Value) : (W.setCell a u).heap.size = W.heap.size := by
  show (W.heap.modify _ _).size = _
  rw [Array.size_modify]
theorem BoxRow.append (h : BoxRow f te ts k base B T W l v) (he : Enc f k) (z : Value) (by_ : Nat) (hu : ∃ d, Try.prog.underlying ts = some d ∧ d = .slice te) (hi : (Try.prog.info? te).map (fun i => (i.zero, i.size, i.bytes)) = some (some z, k, by_)) (hz : z.cells.size = k) (hk : 0 < k) (hby : by_ ≤ 1000)
    (hne : ts ≠ te) (x : α) (hl : l.length ≤ 100000) (hbase : base ≤ W.heap.size) :
    ∃ A' c' w4 T', (Builtin.append_ #[ts, ts] ts #[v, .slice (some ⟨W.heap.size, 0, none⟩) 1 1]).run Try.prog (W.alloc (.cells (f x).toArray te)) = .ok (.slice A' (l.length + 1) c') w4 ∧ Boxed w4 B ts v ∧
      Stp T W T' (w4.setCell ⟨B, 0, none⟩ (.slice A' (l.length + 1) c')) ∧ BoxRow f te ts k base B T' (w4.setCell ⟨B, 0, none⟩ (.slice A' (l.length + 1) c')) (l ++ [x]) (.slice A' (l.length + 1) c') := by
  have hb0 : Below W.heap.size W (W.alloc (.cells (f x).toArray te)) := (Below.refl _ _).alloc (Nat.le_refl _) _
  obtain ⟨v', w4, h1, h2, h3, h5⟩ := run_append_at he ts te ts z by_ hu hi hz hk hby (h.row.below hb0) x (heap_alloc_new W _) (by omega) (Nat.le_trans hbase hb0.size)
  obtain ⟨A', c', rfl, _, _⟩ := h2.form
  rw [List.length_append, List.length_singleton] at h1 h2 h5
  have hvB : v.ownBlock ≠ some B := fun e => by
    rcases h.row.2 with ⟨rfl, _⟩ | ⟨g, cap, cur, rfl, _, hh, _⟩
    · simp [Value.ownBlock] at e
    · have e1 : g = B := by simpa [Value.ownBlock] using e
      subst e1
      have := hh.symm.trans h.box
      simp at this
      exact hne this.2.symm
  have hB4 : Boxed w4 B ts v := (h3.block B (by simp; have := h.box.lt; omega) (fun e => hvB e.symm)).trans ((hb0.block B h.box.lt).trans h.box)
  have hv4 : (Value.slice A' (l.length + 1) c').ownBlock ≠ some B := fun e => by
    rcases h5 with h5 | h5
    · exact hvB (h5.symm.trans e)
    · rw [h5] at e
      have := h.box.lt
      simp at e
      omega
  refine ⟨A', c', w4, fun i => i = B ∨ (Value.slice A' (l.length + 1) c').ownBlock = some i, h1, hB4, ⟨⟨h3.os.trans hb0.os, h3.tape.trans hb0.tape, h3.output.trans hb0.output, ?_⟩, fun i hi ht => ?_, fun i ht => ?_, fun i hi ht => ?_⟩, hB4.set _, ?_, fun i => Iff.rfl⟩
  · rw [setCell_size]
    exact Nat.le_trans hb0.size h3.size
  · rcases ht with rfl | ht
    · exact (h.own i).2 (.inl rfl)
    · rcases h5 with h5 | h5
      · exact (h.own i).2 (.inr (h5.symm.trans ht))
      · rw [h5] at ht
        simp at ht
        omega
  · rw [setCell_size]
    rcases ht with rfl | ht
    · exact hB4.lt
    · exact h2.lt i ht
  · have h6 : i ≠ B := fun e => ht ((h.own i).2 (.inl e))
    have h7 : v.ownBlock ≠ some i := fun e => ht ((h.own i).2 (.inr e))
    rw [Below.heap_setCell _ _ _ i h6]
    exact (h3.block i (by simp; omega) (fun e => h7 e.symm)).trans (hb0.block i hi)
  · exact h2.keep fun g hg hlt => Below.heap_setCell _ _ _ g fun e => hv4 (by rw [hg]; exact congrArg some e)
end

/-- A box that holds a number. -/
structure BoxInt (ti B : Nat) (T : BS) (W : World) (m : Int) : Prop where
  box : Boxed W B ti (.int .i64 m)
  own : T B
theorem BoxInt.abd {ti B : Nat} (n : Nat) : Abd n (fun (m : Int) T W => BoxInt ti B T W m) := fun s T A A' h q => ⟨(q.same B h.box.lt (.inr h.own)).trans h.box, h.own⟩
theorem BoxInt.set {ti B : Nat} {T : BS} {W : World} {m : Int} (h : BoxInt ti B T W m) (hT : ∀ i, T i → i < W.heap.size) (m' : Int) : Stp T W T (W.setCell ⟨B, 0, none⟩ (.int .i64 m')) ∧ BoxInt ti B T (W.setCell ⟨B, 0, none⟩ (.int .i64 m')) m' :=
  ⟨⟨⟨rfl, rfl, rfl, by rw [setCell_size]; exact Nat.le_refl _⟩, fun _ _ h => h, fun i hi => by rw [setCell_size]; exact hT i hi, fun i hi ht => Below.heap_setCell _ _ _ i fun e => ht (by rw [e]; exact h.own)⟩, h.box.set _, h.own⟩

/-- Entries as cells, one by one. -/
def pcE (e : Ent) : List Value := [.string e.k, .string e.v]
theorem pcE_enc : Enc pcE 2 := ⟨fun _ => rfl, fun x u hu => by
  simp only [pcE, List.mem_cons, List.not_mem_nil, or_false] at hu
  rcases hu with rfl | rfl <;> rfl⟩
theorem pcE_flat (l : List Ent) : l.flatMap pcE = ecells l := by
  induction l with
  | nil => rfl
  | cons e l ih => rw [List.flatMap_cons, ih]; rfl
theorem own_of_l {w : World} {base : Nat} {v : Value} {l : List Ent} (h : OwnL pcE 31 2 w base v l) : Own w base v l := by
  unfold OwnL at h
  rw [pcE_flat] at h
  exact h

end Go.Proofs.Ytcoaloignmkemaa
