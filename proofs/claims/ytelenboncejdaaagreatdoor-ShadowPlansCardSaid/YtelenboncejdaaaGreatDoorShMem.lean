/-
  Pages in memory (shadow.Pages): a map from nodes to lists of numbers; a look-up, a store; conditions: the keys are nodes in memory.
-/
import Derived.Test.YtelenboncejdaaaGreatDoorShPure
namespace Go.Proofs.YtelenboncejdaaaGreatDoor
open Go.RowKit Go.Sort
open Go.ChangeMaps (setBlock)
set_option linter.unusedVariables false
set_option linter.unusedSimpArgs false

/-- An entry: the node's block, its slice, the slice's numbers. -/
structure PR where
  b : Nat
  v : Value
  l : List Int
def Mof (R : List PR) : PM := R.map fun r => (r.b, r.l)
def pents (R : List PR) : List MapEntry := R.zipIdx.map fun p => ⟨pn p.1.b, p.1.v, p.2⟩
def MapIs (w : World) (m : Nat) (R : List PR) : Prop := w.heap[m]? = some (.map (pents R).toArray R.length)
/-- The entries' slices are rows that nobody else writes; the keys are nodes. -/
def RowsIn (w : World) (R : List PR) : Prop := ∀ r ∈ R, OwnI w 0 r.v r.l ∧ ∃ N, NodeAt w r.b N
theorem pents_len (R : List PR) : (pents R).length = R.length := by simp [pents]
theorem pents_at (R : List PR) (i : Nat) : (pents R)[i]? = (R[i]?).map fun r => ⟨pn r.b, r.v, i⟩ := by
  simp [pents, List.getElem?_zipIdx]
  cases R[i]? <;> rfl
theorem pents_snoc (R : List PR) (r : PR) : pents (R ++ [r]) = pents R ++ [⟨pn r.b, r.v, R.length⟩] := by
  simp [pents, List.zipIdx_append]
theorem RowsIn.below {w w' : World} {R : List PR} (h : RowsIn w R) (hb : Below w.heap.size w w') : RowsIn w' R := fun r hr => by
  obtain ⟨h1, N, h2⟩ := h r hr
  exact ⟨h1.below hb, N, h2.below hb⟩
/-- With an entry more, or another one's place. -/
def addR : List PR → Nat → Value → List Int → List PR
  | [], b, v, l => [⟨b, v, l⟩]
  | r :: R, b, v, l => if r.b = b then ⟨b, v, l⟩ :: R else r :: addR R b v l
theorem addR_new {R : List PR} {b : Nat} (h : ∀ r ∈ R, r.b ≠ b) (v : Value) (l : List Int) : addR R b v l = R ++ [⟨b, v, l⟩] := by
  induction R with
  | nil => rfl
  | cons r R ih => rw [addR, if_neg (h r (List.mem_cons_self ..)), ih fun x hx => h x (List.mem_cons_of_mem _ hx)]; rfl
theorem addR_mem {R : List PR} {b : Nat} {v : Value} {l : List Int} {r : PR} (h : r ∈ addR R b v l) : r ∈ R ∨ r = ⟨b, v, l⟩ := by
  induction R with
  | nil => exact .inr (List.mem_singleton.1 h)
  | cons x R ih =>
    rw [addR] at h
    split at h
    · rcases List.mem_cons.1 h with h | h
      · exact .inr h
      · exact .inl (List.mem_cons_of_mem _ h)
    · rcases List.mem_cons.1 h with h | h
      · exact .inl (by rw [h]; exact List.mem_cons_self ..)
      · rcases ih h with h | h
        · exact .inl (List.mem_cons_of_mem _ h)
        · exact .inr h
theorem pgs_cons (x : Nat × List Int) (M : PM) (b : Nat) : pgs (x :: M) b = if x.1 = b then x.2 else pgs M b := by
  unfold pgs
  rw [List.find?_cons]
  by_cases h : x.1 = b
  · simp [h]
  · rw [show (x.1 == b) = false by simpa using h, if_neg h]
theorem pgs_addR (R : List PR) (b c : Nat) (v : Value) (l : List Int) : pgs (Mof (addR R b v l)) c = if b = c then l else pgs (Mof R) c := by
  induction R with
  | nil =>
    rw [addR]
    show pgs [(b, l)] c = _
    rw [pgs_cons]
    rfl
  | cons r R ih =>
    rw [addR]
    by_cases h : r.b = b
    · rw [if_pos h]
      show pgs ((b, l) :: Mof R) c = if b = c then l else pgs ((r.b, r.l) :: Mof R) c
      rw [pgs_cons, pgs_cons, h]
      by_cases hc : b = c
      · simp [hc]
      · simp [hc]
    · rw [if_neg h]
      show pgs ((r.b, r.l) :: Mof (addR R b v l)) c = if b = c then l else pgs ((r.b, r.l) :: Mof R) c
      rw [pgs_cons, pgs_cons, ih]
      by_cases hc : b = c
      · subst hc
        simp [h]
      · simp [hc]
theorem Mof_new {R : List PR} {b : Nat} (h : ∀ x ∈ Mof R, x.1 ≠ b) (v : Value) (l : List Int) : Mof (addR R b v l) = Mof R ++ [(b, l)] := by
  rw [addR_new fun r hr => h (r.b, r.l) (List.mem_map.2 ⟨r, hr, rfl⟩)]
  simp [Mof]

theorem askP (b : Nat) (w : World) {M : NR} (hb : NodeAt w b M) (v0 : Value) (l0 : List Int) : ∀ (R : List PR) (k i : Nat), (∀ r ∈ R, ∃ N, NodeAt w r.b N) →
    ((∀ r ∈ R, r.b ≠ b) ∧ (Instr.findAsking 25 (pn b) ((R.zipIdx k).map fun p => ⟨pn p.1.b, p.1.v, p.2⟩) i).run Tryz.prog w = .ok none w) ∨
    ∃ j r, R[j]? = some r ∧ r.b = b ∧ pgs (Mof R) b = r.l ∧ addR R b v0 l0 = R.set j ⟨b, v0, l0⟩ ∧ (Instr.findAsking 25 (pn b) ((R.zipIdx k).map fun p => ⟨pn p.1.b, p.1.v, p.2⟩) i).run Tryz.prog w = .ok (some (i + j, r.v)) w
  | [], k, i, _ => .inl ⟨by simp, by simp [Instr.findAsking]⟩
  | x :: R, k, i, h => by
    obtain ⟨N, hN⟩ := h x (List.mem_cons_self ..)
    have he := equal_pn hb hN
    by_cases hx : b = x.b
    · refine .inr ⟨0, x, rfl, hx.symm, ?_, ?_, ?_⟩
      · show pgs ((x.b, x.l) :: Mof R) b = x.l
        rw [pgs_cons, if_pos hx.symm]
      · rw [addR, if_pos hx.symm]
        rfl
      · rw [decide_eq_true hx] at he
        simp [Instr.findAsking, he]
    · rw [decide_eq_false hx] at he
      rcases askP b w hb v0 l0 R (k + 1) (i + 1) fun y hy => h y (List.mem_cons_of_mem _ hy) with ⟨h1, h2⟩ | ⟨j, r, h1, h2, h3, h4, h5⟩
      · refine .inl ⟨?_, ?_⟩
        · intro r hr
          rcases List.mem_cons.1 hr with rfl | hr
          · exact fun e => hx e.symm
          · exact h1 r hr
        · simp only [List.zipIdx_cons, List.map_cons, Instr.findAsking, Sem.run_bind, he, Result.andThen_ok, Bool.false_eq_true, if_false]
          exact h2
      · refine .inr ⟨j + 1, r, by simpa using h1, h2, ?_, ?_, ?_⟩
        · show pgs ((x.b, x.l) :: Mof R) b = r.l
          rw [pgs_cons, if_neg fun e => hx e.symm, h3]
        · rw [addR, if_neg fun e => hx e.symm, h4]
          rfl
        · simp only [List.zipIdx_cons, List.map_cons, Instr.findAsking, Sem.run_bind, he, Result.andThen_ok, Bool.false_eq_true, if_false]
          rw [h5]
          simp
          omega
theorem findP {w : World} {R : List PR} {b : Nat} {M : NR} (hb : NodeAt w b M) (h : ∀ r ∈ R, ∃ N, NodeAt w r.b N) (v0 : Value) (l0 : List Int) :
    ((∀ r ∈ R, r.b ≠ b) ∧ (Instr.findKey 25 (pn b) (pents R)).run Tryz.prog w = .ok none w) ∨
    ∃ j r, R[j]? = some r ∧ r.b = b ∧ pgs (Mof R) b = r.l ∧ addR R b v0 l0 = R.set j ⟨b, v0, l0⟩ ∧ (Instr.findKey 25 (pn b) (pents R)).run Tryz.prog w = .ok (some (j, r.v)) w := by
  cases R with
  | nil =>
    refine .inl ⟨by simp, ?_⟩
    simp [Instr.findKey, run_underlying Tryz.underlying25, pents, Instr.findNow]
  | cons x l =>
    have hnow : ∀ d, Instr.findNow (.pointer d) (pn b) (pents (x :: l)) 0 = none := fun d => by
      simp [pents, Instr.findNow, Instr.sameNow]
    have := askP b w hb v0 l0 (x :: l) 0 0 h
    simp only [Nat.zero_add] at this
    rcases this with ⟨h1, h2⟩ | ⟨j, r, h1, h3, h4, h5, h2⟩
    · refine .inl ⟨h1, ?_⟩
      simp only [Instr.findKey, Sem.run_bind, run_underlying Tryz.underlying25, Result.andThen_ok, hnow]
      exact h2
    · refine .inr ⟨j, r, h1, h3, h4, h5, ?_⟩
      simp only [Instr.findKey, Sem.run_bind, run_underlying Tryz.underlying25, Result.andThen_ok, hnow]
      exact h2

theorem modifyP (R : List PR) (b j : Nat) (v : Value) (l : List Int) {r : PR} (h : R[j]? = some r) (hr : r.b = b) : (pents R).toArray.modify j (fun e => { e with key := pn b, val := v }) = (pents (R.set j ⟨b, v, l⟩)).toArray := by
  apply Array.ext_getElem?
  intro i
  rw [Array.getElem?_modify]
  have hj : j < R.length := (List.getElem?_eq_some_iff.1 h).1
  split
  · rename_i e
    subst e
    simp only [List.getElem?_toArray, pents_at, h, List.getElem?_set_self hj, Option.map_some]
  · rename_i e
    simp only [List.getElem?_toArray, pents_at]
    rw [List.getElem?_set_ne e]
/-- m[b] = v. -/
theorem put_map {w : World} {m b : Nat} {R : List PR} {M : NR} (hs : MapIs w m R) (hb : NodeAt w b M) (h : ∀ r ∈ R, ∃ N, NodeAt w r.b N) (v : Value) (l : List Int) :
    ∃ w', (Instr.mapUpdate 80 (.map (some m)) (pn b) v).run Tryz.prog w = .ok () w' ∧ MapIs w' m (addR R b v l) ∧ w.grownBy w' (some m) := by
  have hs' : w.heap[m]? = some (.map (pents R).toArray R.length) := hs
  rcases findP hb h v l with ⟨h1, h2⟩ | ⟨j, r, h1, h3, _, h5, h2⟩
  · refine ⟨setBlock w m (.map (pents (addR R b v l)).toArray (addR R b v l).length), ?_, ?_, grown_setBlock w m _⟩
    · have ho := run_setObj_map (P := Tryz.prog) hs' (.map (pents (addR R b v l)).toArray (addR R b v l).length) ⟨_, _, rfl⟩
      rw [addR_new h1] at ho ⊢
      have e1 : (pents R).toArray.push ⟨pn b, v, R.length⟩ = (pents (R ++ [⟨b, v, l⟩])).toArray := by rw [pents_snoc]; simp
      have e2 : R.length + 1 = (R ++ [(⟨b, v, l⟩ : PR)]).length := by simp
      simp only [Instr.mapUpdate, Sem.run_bind, run_underlying Tryz.underlying80, Result.andThen_ok, MapKept.run_getObj_map hs', check_pn, h2]
      rw [e1, e2]
      exact ho
    · exact setBlock_at hs'
  · refine ⟨setBlock w m (.map (pents (addR R b v l)).toArray (addR R b v l).length), ?_, ?_, grown_setBlock w m _⟩
    · have ho := run_setObj_map (P := Tryz.prog) hs' (.map (pents (addR R b v l)).toArray (addR R b v l).length) ⟨_, _, rfl⟩
      rw [h5] at ho ⊢
      have hk : (((pents R).toArray[j]?).map (·.key)).getD (pn b) = pn b := by simp [pents_at, h1, h3]
      simp only [Instr.mapUpdate, Sem.run_bind, run_underlying Tryz.underlying80, Result.andThen_ok, MapKept.run_getObj_map hs', check_pn, h2]
      rw [hk, stays_pn]
      simp only [Result.andThen_ok]
      rw [modifyP R b j v l h1 h3]
      rw [List.length_set] at ho ⊢
      exact ho
    · exact setBlock_at hs'
/-- m[b]. -/
theorem look_map {w : World} {m b : Nat} {R : List PR} {M : NR} (hs : MapIs w m R) (hb : NodeAt w b M) (h : RowsIn w R) :
    ∃ v, (Instr.lookup 80 (.map (some m)) (pn b) false).run Tryz.prog w = .ok v w ∧ OwnI w 0 v (pgs (Mof R) b) := by
  have hs' : w.heap[m]? = some (.map (pents R).toArray R.length) := hs
  have hz : ∀ w : World, (zeroValue 38).run Tryz.prog w = .ok (.slice none 0 0) w := fun w => by kernel_rfl
  rcases findP hb (fun r hr => (h r hr).2) (.pointer none) [] with ⟨h1, h2⟩ | ⟨j, r, h1, h3, h4, _, h2⟩
  · refine ⟨.slice none 0 0, ?_, ?_⟩
    · simp only [Instr.lookup, Sem.run_bind, run_underlying Tryz.underlying80, Result.andThen_ok, MapKept.run_getObj_map hs', check_pn, h2, hz, Sem.run_pure, Bool.false_eq_true, if_false]
    · rw [pgs_none fun x hx => ?_]
      · exact OwnL.nil_ _ _ _
      · obtain ⟨r, hr, rfl⟩ := List.mem_map.1 hx
        exact h1 r hr
  · refine ⟨r.v, ?_, ?_⟩
    · simp only [Instr.lookup, Sem.run_bind, run_underlying Tryz.underlying80, Result.andThen_ok, MapKept.run_getObj_map hs', check_pn, h2, Sem.run_pure, Bool.false_eq_true, if_false]
    · rw [h4]
      exact (h r (List.mem_of_getElem? h1)).1
theorem look_nilmap (w : World) (v : Value) : (Instr.lookup 80 (.map none) v false).run Tryz.prog w = .ok (.slice none 0 0) w := by
  have hz : ∀ w : World, (zeroValue 38).run Tryz.prog w = .ok (.slice none 0 0) w := fun w => by kernel_rfl
  have hf : (Instr.findKey 25 v []).run Tryz.prog w = .ok none w := by simp [Instr.findKey, run_underlying Tryz.underlying25, Instr.findNow]
  simp only [Instr.lookup, Sem.run_bind, run_underlying Tryz.underlying80, Result.andThen_ok, check_pn, hf, hz, Sem.run_pure, Bool.false_eq_true, if_false]

/-- A set of pages: the box, the map if there is one, its entries. -/
structure PB (w : World) (g : Nat) (o : Option Nat) (R : List PR) : Prop where
  box : w.heap[g]? = some (.cells #[.map o] 82 (0, 0))
  none_ : o = none → R = []
  map : ∀ m, o = some m → MapIs w m R
  rows : RowsIn w R
theorem PB.below {w w' : World} {g : Nat} {o : Option Nat} {R : List PR} (h : PB w g o R) (hb : Below w.heap.size w w') : PB w' g o R :=
  ⟨(hb.block _ (lt_of_block h.box)).trans h.box, h.none_, fun m hm => (hb.block _ (at_lt' (h.map m hm))).trans (h.map m hm), h.rows.below hb⟩
  where at_lt' {w : World} {m : Nat} {x : Obj} (h : w.heap[m]? = some x) : m < w.heap.size := (Array.getElem?_eq_some_iff.1 h).1
/-- A set of pages, or none, as a pointer. -/
def PgIs (w : World) (v : Value) (M : PM) : Prop := (v = .pointer none ∧ M = []) ∨ ∃ g o R, v = .pointer (some ⟨g, 0, none⟩) ∧ PB w g o R ∧ M = Mof R
theorem PgIs.below {w w' : World} {v : Value} {M : PM} (h : PgIs w v M) (hb : Below w.heap.size w w') : PgIs w' v M := by
  rcases h with h | ⟨g, o, R, h1, h2, h3⟩
  · exact .inl h
  · exact .inr ⟨g, o, R, h1, h2.below hb, h3⟩

end Go.Proofs.YtelenboncejdaaaGreatDoor
