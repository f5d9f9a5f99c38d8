/-
  Sets of nodes (map[*node.Node]struct{}): what stands in the map's block, a store, a look-up; conditions: the keys are nodes in memory.
-/
import Derived.Test.YtobkldjomplhgaaTreeRows
import Derived.Maps.RangeWalk
import Derived.Maps.OwnSet
namespace Go.Proofs.Ytobkldjomplhgaa
open Go.RowKit Go.Sort
open Go.ChangeMaps (setBlock)
set_option linter.unusedVariables false
set_option linter.unusedSimpArgs false

/-- The entries of a set, in the order in which they came. -/
def ents (bs : List Nat) : List MapEntry := bs.zipIdx.map fun p => ⟨pn p.1, .agg #[], p.2⟩
def SetAt (w : World) (m : Nat) (bs : List Nat) : Prop := w.heap[m]? = some (.map (ents bs).toArray bs.length)
def Nodes' (w : World) (bs : List Nat) : Prop := ∀ x ∈ bs, ∃ N, NodeAt w x N
theorem ents_len (bs : List Nat) : (ents bs).length = bs.length := by simp [ents]
theorem ents_at (bs : List Nat) (i : Nat) : (ents bs)[i]? = (bs[i]?).map fun b => ⟨pn b, .agg #[], i⟩ := by
  simp [ents, List.getElem?_zipIdx]
  cases bs[i]? <;> rfl
theorem ents_snoc (bs : List Nat) (b : Nat) : ents (bs ++ [b]) = ents bs ++ [⟨pn b, .agg #[], bs.length⟩] := by
  simp [ents, List.zipIdx_append]
theorem equal_pn {a b : Nat} {w : World} {M N : NR} (ha : NodeAt w a M) (hb : NodeAt w b N) : (Op.equal 25 (pn a) (pn b)).run Try.prog w = .ok (decide (a = b)) w := by
  have hi : (Try.prog.info? 83).map (·.size) = some 6 := by kernel_rfl
  obtain ⟨j, hj, hj6⟩ := Option.map_eq_some_iff.1 hi
  by_cases hne : a = b
  · subst hne
    have hs := run_sameAddr_same (P := Try.prog) (w := w) ⟨a, 0, none⟩
    have h : ∀ d : Nat, (Op.equalIn (d + 1) 25 (pn a) (pn a)).run Try.prog w = .ok true w := fun d => by
      simp [Op.equalIn, run_underlying Try.underlying25, sizeOf, typeInfo, hj, hj6, hs]
    simp [Op.equal, Op.maxDepth, h 9999]
  · have hab : (⟨a, 0, none⟩ : Addr) ≠ ⟨b, 0, none⟩ := fun e => hne (by cases e; rfl)
    have hs := run_sameAddr_other (P := Try.prog) (w := w) hab ha hb
    have h : ∀ d : Nat, (Op.equalIn (d + 1) 25 (pn a) (pn b)).run Try.prog w = .ok false w := fun d => by
      simp [Op.equalIn, run_underlying Try.underlying25, sizeOf, typeInfo, hj, hj6, hs]
    simp [Op.equal, Op.maxDepth, h 9999, hne]
theorem asking (b : Nat) (w : World) {M : NR} (hb : NodeAt w b M) : ∀ (l : List Nat) (k i : Nat), Nodes' w l →
    (b ∉ l ∧ (Instr.findAsking 25 (pn b) ((l.zipIdx k).map fun p => ⟨pn p.1, .agg #[], p.2⟩) i).run Try.prog w = .ok none w) ∨
    ∃ j, l[j]? = some b ∧ (Instr.findAsking 25 (pn b) ((l.zipIdx k).map fun p => ⟨pn p.1, .agg #[], p.2⟩) i).run Try.prog w = .ok (some (i + j, .agg #[])) w
  | [], k, i, _ => .inl ⟨by simp, by simp [Instr.findAsking]⟩
  | x :: l, k, i, h => by
    obtain ⟨N, hN⟩ := h x (List.mem_cons_self ..)
    have he := equal_pn hb hN
    by_cases hx : b = x
    · refine .inr ⟨0, by rw [hx]; rfl, ?_⟩
      rw [decide_eq_true hx] at he
      simp [Instr.findAsking, he]
    · rw [decide_eq_false hx] at he
      rcases asking b w hb l (k + 1) (i + 1) fun y hy => h y (List.mem_cons_of_mem _ hy) with ⟨h1, h2⟩ | ⟨j, h1, h2⟩
      · refine .inl ⟨by simp [hx, h1], ?_⟩
        simp only [List.zipIdx_cons, List.map_cons, Instr.findAsking, Sem.run_bind, he, Result.andThen_ok, Bool.false_eq_true, if_false]
        exact h2
      · refine .inr ⟨j + 1, by simpa using h1, ?_⟩
        simp only [List.zipIdx_cons, List.map_cons, Instr.findAsking, Sem.run_bind, he, Result.andThen_ok, Bool.false_eq_true, if_false]
        rw [h2]
        simp
        omega
theorem find_set {w : World} {bs : List Nat} {b : Nat} {M : NR} (hb : NodeAt w b M) (h : Nodes' w bs) :
    (b ∉ bs ∧ (Instr.findKey 25 (pn b) (ents bs)).run Try.prog w = .ok none w) ∨ ∃ j, bs[j]? = some b ∧ (Instr.findKey 25 (pn b) (ents bs)).run Try.prog w = .ok (some (j, .agg #[])) w := by
  cases bs with
  | nil =>
    refine .inl ⟨by simp, ?_⟩
    simp [Instr.findKey, run_underlying Try.underlying25, ents, Instr.findNow]
  | cons x l =>
    have hnow : ∀ d, Instr.findNow (.pointer d) (pn b) (ents (x :: l)) 0 = none := fun d => by
      simp [ents, Instr.findNow, Instr.sameNow]
    have := asking b w hb (x :: l) 0 0 h
    simp only [Nat.zero_add] at this
    rcases this with ⟨h1, h2⟩ | ⟨j, h1, h2⟩
    · refine .inl ⟨h1, ?_⟩
      simp only [Instr.findKey, Sem.run_bind, run_underlying Try.underlying25, Result.andThen_ok, hnow]
      exact h2
    · refine .inr ⟨j, h1, ?_⟩
      simp only [Instr.findKey, Sem.run_bind, run_underlying Try.underlying25, Result.andThen_ok, hnow]
      exact h2

/-- A set with one more. -/
def ins (bs : List Nat) (b : Nat) : List Nat := if b ∈ bs then bs else bs ++ [b]
theorem mem_ins {bs : List Nat} {b x : Nat} : x ∈ ins bs b ↔ x ∈ bs ∨ x = b := by
  unfold ins
  split
  · rename_i h
    exact ⟨.inl, fun hx => hx.elim id fun e => e ▸ h⟩
  · simp
theorem ins_nodup {bs : List Nat} {b : Nat} (h : bs.Nodup) : (ins bs b).Nodup := by
  unfold ins
  split
  · exact h
  · rename_i hb
    refine List.nodup_append.2 ⟨h, by simp, fun x hx y hy => ?_⟩
    rw [List.mem_singleton.1 hy]
    exact fun e => hb (e ▸ hx)
theorem setBlock_at {w : World} {m : Nat} {o o' : Obj} (h : w.heap[m]? = some o) : (setBlock w m o').heap[m]? = some o' := by
  have hlt : m < w.heap.size := (Array.getElem?_eq_some_iff.1 h).1
  simp [setBlock, hlt]
theorem setBlock_other (w : World) (m k : Nat) (o : Obj) (h : k ≠ m) : (setBlock w m o).heap[k]? = w.heap[k]? := by
  simp [setBlock, Array.getElem?_setIfInBounds_ne (Ne.symm h)]
theorem grown_setBlock (w : World) (m : Nat) (o : Obj) : w.grownBy (setBlock w m o) (some m) := ⟨rfl, rfl, rfl, by simp [setBlock], fun k _ hne => setBlock_other w m k o fun e => hne (by rw [e])⟩
theorem run_setObj_map {P : Program} {w : World} {r : Nat} {es : Array MapEntry} {c : Nat} (hr : w.heap[r]? = some (.map es c)) (o' : Obj) (ho : ∃ es' c', o' = .map es' c') : (setObj r o').run P w = .ok () (setBlock w r o') := by
  obtain ⟨es', c', rfl⟩ := ho
  simp [setObj, Sem.run, hr, setBlock]
theorem check_pn' (em : Bool) (v : Value) (w : World) (n : Nat) : (Instr.checkKey em (n + 1) 25 v).run Try.prog w = .ok () w := by
  simp [Instr.checkKey, run_underlying Try.underlying25]
theorem check_pn (em : Bool) (v : Value) (w : World) : (Instr.checkKey em 10000 25 v).run Try.prog w = .ok () w := check_pn' em v w 9999
theorem same_pn (a : Option Addr) : ∀ n : Nat, Instr.sameBits n (.pointer a) (.pointer a) = true := fun n => by cases n <;> simp [Instr.sameBits]
theorem stays_pn (b : Nat) (w : World) : (Instr.keyThatStays (pn b) (pn b)).run Try.prog w = .ok (pn b) w := by
  have h : Instr.keyThatStays (pn b) (pn b) = (pure (pn b) : Sem Value) := by
    unfold Instr.keyThatStays pn
    rw [if_pos (same_pn _ 10000)]
  rw [h, Sem.run_pure]
theorem modify_same (bs : List Nat) (b j : Nat) (h : bs[j]? = some b) : (ents bs).toArray.modify j (fun e => { e with key := pn b, val := .agg #[] }) = (ents bs).toArray := by
  apply Array.ext_getElem?
  intro i
  rw [Array.getElem?_modify]
  split
  · rename_i e
    subst e
    simp [ents_at, h]
  · rfl
/-- s[b] = struct{}{}. -/
theorem put_set {w : World} {m b : Nat} {bs : List Nat} {M : NR} (hs : SetAt w m bs) (hb : NodeAt w b M) (h : Nodes' w bs) :
    ∃ w', (Instr.mapUpdate 78 (.map (some m)) (pn b) (.agg #[])).run Try.prog w = .ok () w' ∧ SetAt w' m (ins bs b) ∧ w.grownBy w' (some m) := by
  have hs' : w.heap[m]? = some (.map (ents bs).toArray bs.length) := hs
  rcases find_set hb h with ⟨h1, h2⟩ | ⟨j, h1, h2⟩
  · refine ⟨setBlock w m (.map (ents (bs ++ [b])).toArray (bs ++ [b]).length), ?_, ?_, grown_setBlock w m _⟩
    · have ho := run_setObj_map (P := Try.prog) hs' (.map (ents (bs ++ [b])).toArray (bs ++ [b]).length) ⟨_, _, rfl⟩
      have e1 : (ents bs).toArray.push ⟨pn b, .agg #[], bs.length⟩ = (ents (bs ++ [b])).toArray := by rw [ents_snoc]; simp
      have e2 : bs.length + 1 = (bs ++ [b]).length := by simp
      simp only [Instr.mapUpdate, Sem.run_bind, run_underlying Try.underlying78, Result.andThen_ok, MapKept.run_getObj_map hs', check_pn, h2]
      rw [e1, e2]
      exact ho
    · unfold ins
      rw [if_neg h1]
      exact setBlock_at hs'
  · refine ⟨setBlock w m (.map (ents bs).toArray bs.length), ?_, ?_, grown_setBlock w m _⟩
    · have ho := run_setObj_map (P := Try.prog) hs' (.map (ents bs).toArray bs.length) ⟨_, _, rfl⟩
      have hk : (((ents bs).toArray[j]?).map (·.key)).getD (pn b) = pn b := by simp [ents_at, h1]
      simp only [Instr.mapUpdate, Sem.run_bind, run_underlying Try.underlying78, Result.andThen_ok, MapKept.run_getObj_map hs', check_pn, h2]
      rw [hk, stays_pn]
      simp only [Result.andThen_ok]
      rw [modify_same bs b j h1]
      exact ho
    · unfold ins
      rw [if_pos (List.mem_of_getElem? h1)]
      exact setBlock_at hs'

/-- _, found := s[b]. -/
theorem has_set {w : World} {m b : Nat} {bs : List Nat} {M : NR} (hs : SetAt w m bs) (hb : NodeAt w b M) (h : Nodes' w bs) :
    (Instr.lookup 78 (.map (some m)) (pn b) true).run Try.prog w = .ok (.tuple #[.agg #[], .bool (decide (b ∈ bs))]) w := by
  have hs' : w.heap[m]? = some (.map (ents bs).toArray bs.length) := hs
  have hz : ∀ w : World, (zeroValue 80).run Try.prog w = .ok (.agg #[]) w := fun w => by kernel_rfl
  rcases find_set hb h with ⟨h1, h2⟩ | ⟨j, h1, h2⟩
  · simp only [Instr.lookup, Sem.run_bind, run_underlying Try.underlying78, Result.andThen_ok, MapKept.run_getObj_map hs', check_pn, h2, hz, Sem.run_pure, decide_eq_false h1, if_true]
  · simp only [Instr.lookup, Sem.run_bind, run_underlying Try.underlying78, Result.andThen_ok, MapKept.run_getObj_map hs', check_pn, h2, Sem.run_pure, decide_eq_true (List.mem_of_getElem? h1), if_true]
section
variable {P : Program} {w : World} {ops : Array Oper} {rest : List Oper} {o : Oper} {a : Act} {Q : Exit → Act → World → Prop}
theorem wpList_mapUpdate_ran (hg : o.guard = none) (m x v : Operand) (t : TypeId) (hop : o.op = Op.mapUpdate t m x v) (vm key val : Value) (hm : a.eval m = vm) (hx : a.eval x = key) (hv : a.eval v = val)
    {w' : World} (hrun : (Instr.mapUpdate t vm key val).run P w = .ok () w') (hK : wpList P ops Q rest (a.put o.dst undef) w') : wpList P ops Q (o :: rest) a w := by
  refine wpList_plain hg fun K' hK' => ?_
  unfold Oper.wp
  simp [execOp, hop, hm, hx, hv, hrun, Result.andThen]
  exact hK' _ _ hK
theorem wpList_lookup_ran (hg : o.guard = none) (m x : Operand) (t : TypeId) (c : Bool) (hop : o.op = Op.lookup t m x c) (vm key : Value) (hm : a.eval m = vm) (hx : a.eval x = key)
    {v : Value} (hrun : (Instr.lookup t vm key c).run P w = .ok v w) (hK : wpList P ops Q rest (a.put o.dst v) w) : wpList P ops Q (o :: rest) a w := by
  refine wpList_plain hg fun K' hK' => ?_
  unfold Oper.wp
  simp [execOp, hop, hm, hx, hrun, Result.andThen]
  exact hK' _ _ hK
theorem wpList_range_ran (hg : o.guard = none) (m : Operand) (t : TypeId) (hop : o.op = Op.range t m) (vm : Value) (hm : a.eval m = vm)
    {v : Value} {w' : World} (hrun : (Instr.range t vm).run P w = .ok v w') (hK : wpList P ops Q rest (a.put o.dst v) w') : wpList P ops Q (o :: rest) a w := by
  refine wpList_plain hg fun K' hK' => ?_
  unfold Oper.wp
  simp [execOp, hop, hm, hrun, Result.andThen]
  exact hK' _ _ hK
theorem wpList_next_ran (hg : o.guard = none) (it : Operand) (hop : o.op = Op.next it false) (vm : Value) (hm : a.eval it = vm)
    {v : Value} {w' : World} (hrun : ∀ ty, (Instr.next vm false ty).run P w = .ok v w') (hK : wpList P ops Q rest (a.put o.dst v) w') : wpList P ops Q (o :: rest) a w := by
  refine wpList_plain hg fun K' hK' => ?_
  unfold Oper.wp
  simp [execOp, hop, hm, hrun, Result.andThen]
  exact hK' _ _ hK
theorem wpList_entry_ran (hg : o.guard = none) (it : Operand) (hop : o.op = Op.entry it) (vm : Value) (hm : a.eval it = vm)
    {v : Value} (hrun : (Instr.entry vm).run P w = .ok v w) (hK : wpList P ops Q rest (a.put o.dst v) w) : wpList P ops Q (o :: rest) a w := by
  refine wpList_plain hg fun K' hK' => ?_
  unfold Oper.wp
  simp [execOp, hop, hm, hrun, Result.andThen]
  exact hK' _ _ hK
end

end Go.Proofs.Ytobkldjomplhgaa
