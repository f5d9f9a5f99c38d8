/-
  Several texts in one: RangeT, WalkUp, WalkDown, WalkBox. Each says what it proves, and under which conditions.
-/
import Derived.Test.YtelenboncejdaaaGreatDoorK11
import Derived.RangeFuncNested
import Derived.RangeFuncBound
import Derived.RangeFuncCalls
import Derived.RangeFuncLeaves
import Derived.TacticsInMore
import Derived.Shelf.Abstract
import Derived.OwnWalkIn
import Derived.LoopIn
import Derived.OrdersIn
import Derived.RangeFuncBox

/-
  A range over a function, where the loop's body owns a set of blocks that moves: what the body does not own lies as it lay; what the iterator turns lies above its call and is not the body's; conditions stand at each.
-/
namespace Go.Proofs.YtelenboncejdaaaGreatDoor.Rt
open Go Go.RowKit
set_option linter.unusedSimpArgs false
set_option linter.unusedVariables false

/-- A set of blocks. -/
abbrev BS := Nat → Prop
structure Fx (A B : World) : Prop where
  os : B.os = A.os
  tape : B.tape = A.tape
  output : B.output = A.output
  size : A.heap.size ≤ B.heap.size
/-- A step from A, where the body owns T, to B, where it owns T': what is not of T lies as it lay. -/
structure Stp (T : BS) (A : World) (T' : BS) (B : World) : Prop where
  fx : Fx A B
  own : ∀ k, k < A.heap.size → T' k → T k
  lt : ∀ k, T' k → k < B.heap.size
  same : ∀ k, k < A.heap.size → ¬ T k → B.heap[k]? = A.heap[k]?
/-- The iterator's step: what the body owns, and what lay below n, lies as it lay. -/
structure Qt (n : Nat) (T : BS) (A B : World) : Prop where
  fx : Fx A B
  same : ∀ k, k < A.heap.size → (k < n ∨ T k) → B.heap[k]? = A.heap[k]?
/-- What abides such a step. -/
def Abd {β : Type} (n : Nat) (J : β → BS → World → Prop) : Prop := ∀ s T A B, J s T A → Qt n T A B → J s T B

section
variable {A B C W W' W1 w : World} {T T' T1 T2 : BS} {n m : Nat}
theorem Fx.refl (A : World) : Fx A A := ⟨rfl, rfl, rfl, Nat.le_refl _⟩
theorem Fx.trans (h : Fx A B) (k : Fx B C) : Fx A C := ⟨k.os.trans h.os, k.tape.trans h.tape, k.output.trans h.output, Nat.le_trans h.size k.size⟩
theorem Fx.below (h : Below n A B) : Fx A B := ⟨h.os, h.tape, h.output, h.size⟩
theorem Fx.put (l : Nat) (o : Obj) : Fx A (A.putObj l o) := ⟨rfl, rfl, rfl, by simp⟩
theorem Stp.refl (h : ∀ k, T k → k < A.heap.size) : Stp T A T A := ⟨.refl _, fun _ _ h => h, h, fun _ _ _ => rfl⟩
theorem Stp.trans (h : Stp T A T1 B) (k : Stp T1 B T2 C) : Stp T A T2 C :=
  ⟨h.fx.trans k.fx, fun i hi h2 => h.own i hi (k.own i (Nat.lt_of_lt_of_le hi h.fx.size) h2), k.lt,
   fun i hi ht => (k.same i (Nat.lt_of_lt_of_le hi h.fx.size) fun h1 => ht (h.own i hi h1)).trans (h.same i hi ht)⟩
theorem Stp.of_below (h : Below A.heap.size A B) (hT : ∀ k, T k → k < A.heap.size) : Stp T A T B :=
  ⟨.below h, fun _ _ h => h, fun k hk => Nat.lt_of_lt_of_le (hT k hk) h.size, fun k hk _ => h.block k hk⟩
theorem Stp.below_ (h : Stp T A T1 B) (k : Below B.heap.size B C) : Stp T A T1 C := h.trans (.of_below k h.lt)
theorem Stp.below (h : Stp T A T' B) (hn : n ≤ A.heap.size) (hT : ∀ k, T k → n ≤ k) : Below n A B :=
  ⟨h.fx.os, h.fx.tape, h.fx.output, h.fx.size, fun k hk => h.same k (by omega) fun ht => by have := hT k ht; omega⟩
theorem Qt.of_below (h : Below A.heap.size A B) : Qt n T A B := ⟨.below h, fun k hk _ => h.block k hk⟩
theorem Qt.put {l : Nat} (o : Obj) (hl : n ≤ l) (hT : ¬ T l) : Qt n T A (A.putObj l o) :=
  ⟨.put l o, fun k _ h => World.putObj_heap_other fun e => by subst e; rcases h with h | h; omega; exact hT h⟩
theorem Qt.sub (h : Qt n T A B) (hm : m ≤ n) (hT : ∀ k, T1 k → T k) : Qt m T1 A B :=
  ⟨h.fx, fun k hk h1 => h.same k hk (h1.elim (fun h1 => .inl (by omega)) fun h1 => .inr (hT k h1))⟩
theorem Stp.qt (h : Stp T w T1 A) (hq : Qt n T1 A B) (hn : w.heap.size ≤ n) : Stp T w T1 B :=
  ⟨h.fx.trans hq.fx, h.own, fun k hk => Nat.lt_of_lt_of_le (h.lt k hk) hq.fx.size, fun k hk ht => (hq.same k (Nat.lt_of_lt_of_le hk h.fx.size) (.inl (by omega))).trans (h.same k hk ht)⟩
theorem Abd.and {β : Type} {J J' : β → BS → World → Prop} (h : Abd n J) (h' : Abd n J') : Abd n (fun s T W => J s T W ∧ J' s T W) := fun s T A B ⟨a, b⟩ q => ⟨h s T A B a q, h' s T A B b q⟩
theorem Abd.stp {β : Type} (hn : w.heap.size ≤ n) : Abd (β := β) n (fun _ T1 W => Stp T w T1 W) := fun _ _ _ _ h q => h.qt q hn
theorem Abd.false {β : Type} : Abd (β := β) n (fun _ _ _ => False) := fun _ _ _ _ h _ => h
theorem Abd.mono {β : Type} {J : β → BS → World → Prop} (h : Abd n J) (hm : n ≤ m) : Abd m J := fun s T A B j q => h s T A B j (q.sub hm fun _ h => h)
end

/-- A function that is ranged over: it yields xs, one by one, as long as it is asked to; what it reads lies in K, which the body does not own. -/
def Gives {α : Type} (P : Program) (g : Nat) (lb : Array Value) (encs : α → Array Value) (xs : List α) (K : BS) (W : World) : Prop :=
  ∀ (l : Nat) (J Jx : List α → BS → World → Prop) (T : BS), (∀ k, T k → k < W.heap.size ∧ ¬ K k) → Abd W.heap.size J → Abd W.heap.size Jx →
    (∀ pre x T1 W1, pre ++ [x] <+: xs → J pre T1 W1 → YieldAt Fence.wide 0 P l (encs x) W1 fun e W' =>
      ∃ T', Stp T1 W1 T' W' ∧ ((e = .returned (.bool true) ∧ J (pre ++ [x]) T' W') ∨ (e = .returned (.bool false) ∧ Jx (pre ++ [x]) T' W'))) →
    J [] T W →
    CallsIn Fence.wide 0 P g (#[.func (.yield l) #[] #[]] ++ lb) W fun e W' => (∃ v, e = .returned v) ∧ ∃ T', Stp T W T' W' ∧ (J xs T' W' ∨ ∃ pre, pre ≠ [] ∧ pre <+: xs ∧ Jx pre T' W')

/-- How a round may be left. -/
def rPost {α : Type} (I : List α → BS → World → Prop) (Ix : Code → List α → BS → World → Prop) (xs : List α) (T : BS) (W : World) : Exit → Act → World → Prop
  | .normal, _, W' => ∃ T', Stp T W T' W' ∧ I xs T' W'
  | .ret, _, W' => ∃ T', Stp T W T' W' ∧ Ix .ret xs T' W'
  | .exit id, _, W' => ∃ T', Stp T W T' W' ∧ Ix (.exit id) xs T' W'
  | .goto t, _, W' => ∃ T', Stp T W T' W' ∧ Ix (.goto t) xs T' W'
  | .panic _, _, _ => False
  | .outgrown, _, _ => False

/-- The record l is busy now; nothing else has turned. -/
structure Bsy (l : Nat) (A B : World) : Prop where
  os : B.os = A.os
  tape : B.tape = A.tape
  output : B.output = A.output
  size : B.heap.size = A.heap.size
  same : ∀ k, k ≠ l → B.heap[k]? = A.heap[k]?
  loop : ∃ r, B.heap[l]? = some (.loop r)
theorem Bsy.fx {l : Nat} {A B : World} (h : Bsy l A B) : Fx A B := ⟨h.os, h.tape, h.output, Nat.le_of_eq h.size.symm⟩
theorem Bsy.below {l n : Nat} {A B : World} (h : Bsy l A B) (hn : n ≤ l) : Below n A B := ⟨h.os, h.tape, h.output, Nat.le_of_eq h.size.symm, fun k hk => h.same k (by omega)⟩
theorem Bsy.qt {l n : Nat} {T : BS} {A B : World} (h : Bsy l A B) (hn : n ≤ l) (hT : ¬ T l) : Qt n T A B :=
  ⟨h.fx, fun k _ h1 => h.same k fun e => by subst e; rcases h1 with h1 | h1; omega; exact hT h1⟩

/-- What a round is asked for: the assign code lays blocks only; then the body. -/
def RoundT {α : Type} (P : Program) (ps : Array Tmp) (assign body : Code) (tm : Array Value) (w : World) (T : BS) (encs : α → Array Value) (xs : List α) (I : List α → BS → World → Prop) (Ix : Code → List α → BS → World → Prop) : Prop :=
  ∀ (l : Nat) (pre : List α) (x : α) (T1 : BS) (W : World), pre ++ [x] <+: xs → I pre T1 W → Stp T w T1 W → ¬ T1 l → w.heap.size ≤ l → (∃ r, W.heap[l]? = some (.loop r)) →
    ∀ C : Act → World → Prop, (∀ a' W', Below W.heap.size W W' → (∀ W'', Bsy l W' W'' → body.wpIn (Fence.wide.inRound l) 0 P (rPost I Ix (pre ++ [x]) T1 W'') a' W'') → C a' W') →
      assign.wpIn (Fence.wide.inRound l) 0 P (Exit.then C (fun _ _ _ => False)) { tmps := (ps.zip (encs x)).foldl (fun t (p, v) => t.setIfInBounds p v) tm, defers := [] } W

section
variable {α : Type} {P : Program} {ps : Array Tmp} {assign body : Code} {tm : Array Value} {w : World} {T : BS} {encs : α → Array Value} {xs : List α} {I : List α → BS → World → Prop} {Ix : Code → List α → BS → World → Prop}

/-- The loop's record, in a state. -/
abbrev recOf (fn : FuncId) (tm : Array Value) (ps : Array Tmp) (assign body : Code) (dfs : Nat) (st : LoopState) (pe : Option Code) : Loop := ⟨st, pe, fn, tm, ps, assign, body, dfs⟩
/-- The invariant with the book-keeping beside it. -/
def JJ (w : World) (T : BS) (r : Loop) (l : Nat) (X : Option Nat) (I : List α → BS → World → Prop) (pre : List α) (T' : BS) (W : World) : Prop :=
  ∃ T1, (∀ k, T' k ↔ T1 k ∨ k = l) ∧ I pre T1 W ∧ Stp T w T1 W ∧ ¬ T1 l ∧ W.heap[l]? = some (.loop r) ∧ ∀ D, X = some D → w.heap.size ≤ D ∧ D ≠ l ∧ ¬ T1 D ∧ W.heap[D]? = some (.deferred (some []))
theorem at_lt {A : World} {l : Nat} {o : Obj} (h : A.heap[l]? = some o) : l < A.heap.size := (Array.getElem?_eq_some_iff.1 h).1
theorem jj_abd {r : Loop} {l n : Nat} {X : Option Nat} (hI : Abd w.heap.size I) (hw : w.heap.size ≤ n) (hl : l < n) (hX : ∀ D, X = some D → D < n) : Abd n (JJ w T r l X I) := by
  rintro pre T' A B ⟨T1, h1, h2, h3, h4, h5, h6⟩ q
  have q1 : Qt n T1 A B := q.sub (Nat.le_refl _) fun k hk => (h1 k).2 (.inl hk)
  refine ⟨T1, h1, hI _ _ _ _ h2 (q1.sub hw fun _ h => h), h3.qt q1 hw, h4, (q.same l (at_lt h5) (.inl hl)).trans h5, fun D hD => ?_⟩
  obtain ⟨a, b, c, d⟩ := h6 D hD
  exact ⟨a, b, c, (q.same D (at_lt d) (.inl (hX D hD))).trans d⟩

/-- What a round comes to, seen from the iterator: the record turned to busy ahead of the body, and to another state behind it. -/
theorem round_step {l : Nat} {X : Option Nat} {pre : List α} {T' T1 T2 : BS} {W Wa W3 : World} {r r1 r2 : Loop} (hlw : w.heap.size ≤ l) (hT : ∀ k, T' k ↔ T1 k ∨ k = l) (hst : Stp T w T1 W) (hnl : ¬ T1 l) (hl : W.heap[l]? = some (.loop r))
    (hX : ∀ D, X = some D → w.heap.size ≤ D ∧ D ≠ l ∧ ¬ T1 D ∧ W.heap[D]? = some (.deferred (some []))) (hba : Below W.heap.size W Wa) (hs : Stp T1 (Wa.putObj l (.loop r1)) T2 W3) :
    Stp T' W (fun k => T2 k ∨ k = l) (W3.putObj l (.loop r2)) ∧ Stp T w T2 (W3.putObj l (.loop r2)) ∧ ¬ T2 l ∧ W3.heap[l]? = some (.loop r1) ∧ (W3.putObj l (.loop r2)).heap[l]? = some (.loop r2) ∧
      ∀ D, X = some D → w.heap.size ≤ D ∧ D ≠ l ∧ ¬ T2 D ∧ (W3.putObj l (.loop r2)).heap[D]? = some (.deferred (some [])) := by
  have hz : (Wa.putObj l (.loop r1)).heap.size = Wa.heap.size := World.putObj_size
  have hlW := at_lt hl
  have up : ∀ k, k < W.heap.size → k < (Wa.putObj l (.loop r1)).heap.size := fun k hk => by rw [hz]; exact Nat.lt_of_lt_of_le hk hba.size
  have hl3 : W3.heap[l]? = some (.loop r1) := (hs.same l (up l hlW) hnl).trans (World.putObj_heap_same (Nat.lt_of_lt_of_le hlW hba.size))
  have own : ∀ k, k < W.heap.size → T2 k → T1 k := fun k hk => hs.own k (up k hk)
  have same : ∀ k, k < W.heap.size → ¬ T1 k → k ≠ l → (W3.putObj l (.loop r2)).heap[k]? = W.heap[k]? := fun k hk hn hne =>
    (World.putObj_heap_other hne).trans ((hs.same k (up k hk) hn).trans ((World.putObj_heap_other hne).trans (hba.block k hk)))
  have fx : Fx W (W3.putObj l (.loop r2)) := (Fx.below hba).trans ((Fx.put l _).trans (hs.fx.trans (.put l _)))
  have hlt : ∀ k, T2 k → k < (W3.putObj l (.loop r2)).heap.size := fun k h => by rw [World.putObj_size]; exact hs.lt k h
  refine ⟨⟨fx, fun k hk h => (hT k).2 (h.imp (own k hk) id), fun k h => h.elim (hlt k) fun e => by rw [e, World.putObj_size]; exact at_lt hl3, fun k hk h => same k hk (fun h1 => h ((hT k).2 (.inl h1))) fun h1 => h ((hT k).2 (.inr h1))⟩,
    ⟨hst.fx.trans fx, fun k hk h => hst.own k hk (own k (Nat.lt_of_lt_of_le hk hst.fx.size) h), hlt, fun k hk h => ?_⟩, fun h => hnl (own l hlW h), hl3, World.putObj_heap_same (at_lt hl3), fun D hD => ?_⟩
  · exact (same k (Nat.lt_of_lt_of_le hk hst.fx.size) (fun h1 => h (hst.own k hk h1)) (by omega)).trans (hst.same k hk h)
  · obtain ⟨a, b, c, d⟩ := hX D hD
    exact ⟨a, b, fun h => c (own D (at_lt d) h), (same D (at_lt d) c b).trans d⟩

/-- One round. -/
theorem round_yield {fn : FuncId} {dfs l : Nat} {X : Option Nat} (hps : ∀ x, (encs x).size = ps.size) (hI : Abd w.heap.size I) (hIx : ∀ c, Abd w.heap.size (Ix c)) (hlw : w.heap.size ≤ l)
    (hr : RoundT P ps assign body tm w T encs xs I Ix) (pre : List α) (x : α) (T' : BS) (W : World) (hx : pre ++ [x] <+: xs) (hJ : JJ w T (recOf fn tm ps assign body dfs .ready none) l X I pre T' W) :
    YieldAt Fence.wide 0 P l (encs x) W fun e W' => ∃ T'', Stp T' W T'' W' ∧
      ((e = .returned (.bool true) ∧ JJ w T (recOf fn tm ps assign body dfs .ready none) l X I (pre ++ [x]) T'' W') ∨ (e = .returned (.bool false) ∧ ∃ c, JJ w T (recOf fn tm ps assign body dfs .done (some c)) l X (Ix c) (pre ++ [x]) T'' W')) := by
  obtain ⟨T1, hT, hi, hst, hnl, hl, hX⟩ := hJ
  refine ⟨fn, _, assign, body, run_yield hl (hps x), roundIn_of_wpIn trivial (hr l pre x T1 W hx hi hst hnl hlw ⟨_, hl⟩ _ fun a' Wa hba hbody => ?_)⟩
  have hla : Wa.heap[l]? = some (.loop (recOf fn tm ps assign body dfs .ready none)) := (hba.block l (at_lt hl)).trans hl
  refine ⟨_, run_beginRound hla rfl, wpIn_mono (hbody (Wa.putObj l (.loop (recOf fn tm ps assign body dfs .busy none))) ⟨rfl, rfl, rfl, World.putObj_size, fun k hk => World.putObj_heap_other hk, _, World.putObj_heap_same (at_lt hla)⟩) ?_⟩
  -- a round that has left by a jump
  have out : ∀ (c : Code) (W3 : World), (∃ T2, Stp T1 (Wa.putObj l (.loop (recOf fn tm ps assign body dfs .busy none))) T2 W3 ∧ Ix c (pre ++ [x]) T2 W3) → ∃ v w', (Instr.endRound l (some c)).run P W3 = .ok v w' ∧ ∃ T'', Stp T' W T'' w' ∧
      ((Ending.returned v = .returned (.bool true) ∧ JJ w T (recOf fn tm ps assign body dfs .ready none) l X I (pre ++ [x]) T'' w') ∨ (Ending.returned v = .returned (.bool false) ∧ ∃ c, JJ w T (recOf fn tm ps assign body dfs .done (some c)) l X (Ix c) (pre ++ [x]) T'' w')) := by
    rintro c W3 ⟨T2, hs, hi3⟩
    obtain ⟨q1, q2, q3, q4, q5, q6⟩ := round_step (r2 := recOf fn tm ps assign body dfs .done (some c)) (pre := pre) hlw hT hst hnl hl hX hba hs
    exact ⟨_, _, run_endRound (some c) q4, _, q1, .inr ⟨rfl, c, T2, fun _ => Iff.rfl, hIx c _ _ _ _ hi3 (.put _ hlw q3), q2, q3, q5, q6⟩⟩
  intro e a3 W3 hp
  match e, hp with
  | .normal, ⟨T2, hs, hi3⟩ =>
    obtain ⟨q1, q2, q3, q4, q5, q6⟩ := round_step (r2 := recOf fn tm ps assign body dfs .ready none) (pre := pre) hlw hT hst hnl hl hX hba hs
    exact ⟨_, _, run_endRound none q4, _, q1, .inl ⟨rfl, T2, fun _ => Iff.rfl, hI _ _ _ _ hi3 (.put _ hlw q3), q2, q3, q5, q6⟩⟩
  | .ret, hp => exact out _ _ hp
  | .exit _, hp => exact out _ _ hp
  | .goto _, hp => exact out _ _ hp

/-- The mark on an activation's deferred calls. -/
abbrev mk (D : Nat) : Deferred := { target := .collected D, args := #[] }
/-- What entering a loop lays: its record l; X: the block for the rounds' deferred calls, if it is an outermost one. -/
def Entered (P : Program) (ps : Array Tmp) (assign body : Code) (tm : Array Value) (w : World) (rd : Option Nat) (l : Nat) (mark : List Deferred) (X : Option Nat) : Prop :=
  w.heap.size ≤ l ∧ (∀ D, X = some D → w.heap.size ≤ D ∧ D ≠ l) ∧ ∀ fn, ∃ dfs W1, (Instr.enterLoop fn tm ps assign body rd).run P w = .ok (l, mark) W1 ∧ Below w.heap.size w W1 ∧ W1.heap[l]? = some (.loop (recOf fn tm ps assign body dfs .ready none)) ∧
    ∀ D, X = some D → W1.heap[D]? = some (.deferred (some []))
theorem entered_out : Entered P ps assign body tm w none (w.heap.size + 1) [mk w.heap.size] (some w.heap.size) :=
  ⟨by omega, fun D hD => by cases hD; omega, fun fn => ⟨w.heap.size, _, run_enterLoop_outer fn tm ps assign body, ((Below.refl _ w).alloc (Nat.le_refl _) _).alloc (by simp) _,
    by have := World.alloc_heap_new (w.alloc (.deferred (some []))) (.loop (recOf fn tm ps assign body w.heap.size .ready none)); rwa [World.size_alloc] at this,
    fun D hD => by cases hD; exact (Below.heap_alloc _ _ _ (by simp)).trans (World.alloc_heap_new w _)⟩⟩
theorem entered_in {l₀ : Nat} {r₀ : Loop} (h : w.heap[l₀]? = some (.loop r₀)) : Entered P ps assign body tm w (some l₀) w.heap.size [] none :=
  ⟨Nat.le_refl _, fun D hD => (by cases hD), fun fn => ⟨r₀.defers, _, run_enterLoop_inner h fn tm ps assign body, (Below.refl _ w).alloc (Nat.le_refl _) _, World.alloc_heap_new w _, fun D hD => by cases hD⟩⟩

/-- The statement, wherever it stands. -/
theorem range_core {rd : Option Nat} {l : Nat} {mark : List Deferred} {X : Option Nat} {g : Operand} {Q : Exit → Act → World → Prop} {a : Act} {gf : Nat} {lb : Array Value} (hen : Entered P ps assign body a.tmps w rd l mark X)
    (hg : a.eval g = .func (.func gf) #[] lb) (eg : ∀ args w, (callFunc gf args).run P w = .ok (.enter gf args) w) {K : BS} (hps : ∀ x, (encs x).size = ps.size) (hseq : ∀ W, Below w.heap.size w W → Gives P gf lb encs xs K W)
    (hT : ∀ k, T k → k < w.heap.size ∧ ¬ K k) (hK : ∀ k, K k → k < w.heap.size) (hI : Abd w.heap.size I) (hIx : ∀ c, Abd w.heap.size (Ix c)) (h0 : I [] T w) (hround : RoundT P ps assign body a.tmps w T encs xs I Ix)
    (hdone : ∀ T' W', I xs T' W' → Stp T w T' W' → (∀ D, X = some D → ¬ T' D ∧ W'.heap[D]? = some (.deferred (some []))) → Q .normal { a with defers := mark ++ a.defers } W')
    (hstop : ∀ c pre T' W', pre ≠ [] → pre <+: xs → Ix c pre T' W' → Stp T w T' W' → (∀ D, X = some D → ¬ T' D ∧ W'.heap[D]? = some (.deferred (some []))) → c.wpIn { Fence.wide with round := rd } 0 P Q { a with defers := mark ++ a.defers } W') :
    (Code.rangeFunc g ps assign body).wpIn { Fence.wide with round := rd } 0 P Q a w := by
  obtain ⟨hlw, hXw, hen⟩ := hen
  have hTw : ∀ k, T k → k < w.heap.size := fun k hk => (hT k hk).1
  refine wpIn_rangeFunc fun fn _ => ?_
  obtain ⟨dfs, W1, hrun, hb1, hl1, hX1⟩ := hen fn
  have hres : (resolve a.eval (rangeCall g l) 0).run P W1 = .ok { target := .fn (.func gf) lb, args := #[.func (.yield l) #[] #[]] } W1 := by
    simp only [resolve, hg]
    simp [go_sem]
  have hinv : (invoke (.fn (.func gf) lb) #[.func (.yield l) #[] #[]]).run P W1 = .ok (.enter gf (#[.func (.yield l) #[] #[]] ++ lb)) W1 := by
    simp [invoke, go_sem, eg]
  refine ⟨l, mark, W1, _, W1, gf, _, W1, hrun, hres, fun _ _ => trivial, hinv, fun h => (by cases h), ?_⟩
  have hit := hseq W1 hb1 l (JJ w T (recOf fn a.tmps ps assign body dfs .ready none) l X I) (fun pre T' W => ∃ c, JJ w T (recOf fn a.tmps ps assign body dfs .done (some c)) l X (Ix c) pre T' W) (fun k => T k ∨ k = l)
    (fun k hk => hk.elim (fun h => ⟨Nat.lt_of_lt_of_le (hTw k h) hb1.size, (hT k h).2⟩) fun h => ⟨by rw [h]; exact at_lt hl1, fun h2 => by have := hK k h2; omega⟩)
    (jj_abd hI hb1.size (at_lt hl1) fun D hD => at_lt (hX1 D hD)) (fun pre T' A B h q => by
      obtain ⟨c, h⟩ := h
      exact ⟨c, jj_abd (hIx c) hb1.size (at_lt hl1) (fun D hD => at_lt (hX1 D hD)) _ _ _ _ h q⟩)
    (fun pre x T1 W hx hJ => round_yield hps hI hIx hlw hround pre x T1 W hx hJ)
    ⟨T, fun _ => Iff.rfl, hI _ _ _ _ h0 (.of_below hb1), .of_below hb1 hTw, fun h => by have := hTw l h; omega, hl1, fun D hD => ⟨(hXw D hD).1, (hXw D hD).2, fun h => by have := hTw D h; have := (hXw D hD).1; omega, hX1 D hD⟩⟩
  refine CallsIn.mono (F := Fence.wide) hit fun e W2 h => ?_
  -- behind the iterator: the record is shut, and a jump that waits is carried out
  have shut : ∀ {st : LoopState} {pe : Option Code} {T1 : BS}, st ≠ .busy → ¬ T1 l → Stp T w T1 W2 → W2.heap[l]? = some (.loop (recOf fn a.tmps ps assign body dfs st pe)) → (∀ D, X = some D → w.heap.size ≤ D ∧ D ≠ l ∧ ¬ T1 D ∧ W2.heap[D]? = some (.deferred (some []))) →
      ∃ W3, (Instr.endLoop l).run P W2 = .ok pe W3 ∧ Qt w.heap.size T1 W2 W3 ∧ Stp T w T1 W3 ∧ ∀ D, X = some D → ¬ T1 D ∧ W3.heap[D]? = some (.deferred (some [])) := fun hb hn hs hl hX =>
    ⟨_, run_endLoop hl hb, .put _ hlw hn, hs.qt (.put _ hlw hn) (Nat.le_refl _), fun D hD => by
      obtain ⟨_, b, c, d⟩ := hX D hD
      exact ⟨c, (World.putObj_heap_other b).trans d⟩⟩
  obtain ⟨⟨v, rfl⟩, T', _, h | ⟨pre, hne, hpre, c, h⟩⟩ := h
  · obtain ⟨T1, _, h2, h3, h4, h5, h6⟩ := h
    obtain ⟨W3, e1, e2, e3, e4⟩ := shut (by simp) h4 h3 h5 h6
    exact ⟨none, W3, e1, hdone T1 W3 (hI _ _ _ _ h2 e2) e3 e4⟩
  · obtain ⟨T1, _, h2, h3, h4, h5, h6⟩ := h
    obtain ⟨W3, e1, e2, e3, e4⟩ := shut (by simp) h4 h3 h5 h6
    exact ⟨some c, W3, e1, hstop c pre T1 W3 hne hpre (hIx c _ _ _ _ h2 e2) e3 e4⟩

/-- **The statement, outermost.** -/
theorem wpIn_range {g : Operand} {Q : Exit → Act → World → Prop} {a : Act} {gf : Nat} {lb : Array Value} (hg : a.eval g = .func (.func gf) #[] lb) (eg : ∀ args w, (callFunc gf args).run P w = .ok (.enter gf args) w)
    {K : BS} (hps : ∀ x, (encs x).size = ps.size) (hseq : ∀ W, Below w.heap.size w W → Gives P gf lb encs xs K W) (hT : ∀ k, T k → k < w.heap.size ∧ ¬ K k) (hK : ∀ k, K k → k < w.heap.size)
    (I : List α → BS → World → Prop) (Ix : Code → List α → BS → World → Prop) (hI : Abd w.heap.size I) (hIx : ∀ c, Abd w.heap.size (Ix c)) (h0 : I [] T w)
    (hround : RoundT P ps assign body a.tmps w T encs xs I Ix)
    (hdone : ∀ D T' W', I xs T' W' → Stp T w T' W' → w.heap.size ≤ D → ¬ T' D → W'.heap[D]? = some (.deferred (some [])) → Q .normal { a with defers := mk D :: a.defers } W')
    (hstop : ∀ D c pre T' W', pre ≠ [] → pre <+: xs → Ix c pre T' W' → Stp T w T' W' → w.heap.size ≤ D → ¬ T' D → W'.heap[D]? = some (.deferred (some [])) → c.wpIn Fence.wide 0 P Q { a with defers := mk D :: a.defers } W') :
    (Code.rangeFunc g ps assign body).wpIn Fence.wide 0 P Q a w :=
  range_core (rd := none) entered_out hg eg hps hseq hT hK hI hIx h0 hround (fun T' W' h1 h2 h3 => hdone _ T' W' h1 h2 (Nat.le_refl _) (h3 _ rfl).1 (h3 _ rfl).2)
    (fun c pre T' W' h1 h2 h3 h4 h5 => hstop _ c pre T' W' h1 h2 h3 h4 (Nat.le_refl _) (h5 _ rfl).1 (h5 _ rfl).2)

/-- **The statement, in a round of loop l₀.** -/
theorem wpIn_rangeIn {l₀ : Nat} {g : Operand} {Q : Exit → Act → World → Prop} {a : Act} {gf : Nat} {lb : Array Value} (hl₀ : ∃ r₀, w.heap[l₀]? = some (.loop r₀)) (hg : a.eval g = .func (.func gf) #[] lb) (eg : ∀ args w, (callFunc gf args).run P w = .ok (.enter gf args) w)
    {K : BS} (hps : ∀ x, (encs x).size = ps.size) (hseq : ∀ W, Below w.heap.size w W → Gives P gf lb encs xs K W) (hT : ∀ k, T k → k < w.heap.size ∧ ¬ K k) (hK : ∀ k, K k → k < w.heap.size)
    (I : List α → BS → World → Prop) (Ix : Code → List α → BS → World → Prop) (hI : Abd w.heap.size I) (hIx : ∀ c, Abd w.heap.size (Ix c)) (h0 : I [] T w)
    (hround : RoundT P ps assign body a.tmps w T encs xs I Ix)
    (hdone : ∀ T' W', I xs T' W' → Stp T w T' W' → Q .normal a W')
    (hstop : ∀ c pre T' W', pre ≠ [] → pre <+: xs → Ix c pre T' W' → Stp T w T' W' → c.wpIn (Fence.wide.inRound l₀) 0 P Q a W') :
    (Code.rangeFunc g ps assign body).wpIn (Fence.wide.inRound l₀) 0 P Q a w := by
  obtain ⟨r₀, hl₀⟩ := hl₀
  exact range_core (rd := some l₀) (entered_in hl₀) hg eg hps hseq hT hK hI hIx h0 hround (fun T' W' h1 h2 _ => hdone T' W' h1 h2) (fun c pre T' W' h1 h2 h3 h4 _ => hstop c pre T' W' h1 h2 h3 h4)
end

/-- The blocks for the rounds' deferred calls are shut, one by one. -/
def Shut (Ds : List Nat) (A B : World) : Prop := Fx A B ∧ ∀ k, k ∉ Ds → B.heap[k]? = A.heap[k]?
theorem leaves_marks {P : Program} {fn : Func} {tmps : Array Value} {R : Ending → World → Prop} : ∀ (Ds : List Nat) (w : World), Ds.Nodup → (∀ D ∈ Ds, w.heap[D]? = some (.deferred (some []))) →
    (∀ w', Shut Ds w w' → ∃ v, (results fn tmps).run P w' = .ok v w' ∧ R (.returned v) w') → LeavesInM Fence.wide 0 P fn tmps R (Ds.map mk) .returning w
  | [], w, _, _, h => h w ⟨.refl _, fun _ _ => rfl⟩
  | D :: Ds, w, hn, hD, h => by
    have h0 := hD D (List.mem_cons_self ..)
    refine ⟨by simp, .inl ⟨D, _, rfl, run_takeDeferred h0, leaves_marks Ds _ (List.nodup_cons.1 hn).2 (fun E hE => ?_) fun w' hw' => h w' ⟨(Fx.put _ _).trans hw'.1, fun k hk => ?_⟩⟩⟩
    · exact (World.putObj_heap_other fun e => (List.nodup_cons.1 hn).1 (by rw [← e]; exact hE)).trans (hD E (List.mem_cons_of_mem _ hE))
    · rw [hw'.2 k fun h => hk (List.mem_cons_of_mem _ h), World.putObj_heap_other fun e => hk (by rw [e]; exact List.mem_cons_self ..)]

end Go.Proofs.YtelenboncejdaaaGreatDoor.Rt

/-
  The makers of iterators; the iterators over the leaves of a tree from a key on, and of walk.From: they yield the entries of a tree from a key on; conditions: the tree is valid and lies in memory, or is nil.
-/
namespace Go.Proofs.YtelenboncejdaaaGreatDoor
open Go.RowKit Go.Sort Go.Shelf Rt
set_option linter.unusedVariables false
attribute [local go_sem] Oper.semAt_some

theorem wide_fn (f : FuncId) : Fence.wide.fn f = True := rfl
theorem wide_depth : Fence.wide.depth = none := rfl
attribute [local go_sem] wide_fn wide_depth

abbrev pb (b : Nat) : Value := .pointer (some ⟨b, 0, none⟩)
/-- Two boxes: a node and a key. -/
def boxed2 (w : World) (n : Value) (key : ByteArray) : World := (w.alloc (.cells #[n] 25)).alloc (.cells #[.string key] 9)
theorem boxed2_size (w : World) (n : Value) (key : ByteArray) : (boxed2 w n key).heap.size = w.heap.size + 2 := by simp [boxed2]
theorem boxed2_below (w : World) (n : Value) (key : ByteArray) : Below w.heap.size w (boxed2 w n key) := ((Below.refl _ w).alloc (Nat.le_refl _) _).alloc (by simp) _
theorem boxed2_n (w : World) (n : Value) (key : ByteArray) : (boxed2 w n key).heap[w.heap.size]? = some (.cells #[n] 25 (0, 0)) :=
  (Below.heap_alloc _ _ _ (by simp)).trans (heap_alloc_new w _)
theorem boxed2_k (w : World) (n : Value) (key : ByteArray) : (boxed2 w n key).heap[w.heap.size + 1]? = some (.cells #[.string key] 9 (0, 0)) := by
  have := heap_alloc_new (w.alloc (.cells #[n] 25)) (.cells #[.string key] 9)
  rwa [World.size_alloc] at this
/-- What such a maker answers. -/
def Mk2 (f : Nat) (n : Value) (key : ByteArray) (w : World) (e : Ending) (w' : World) : Prop := e = .returned (.func (.func f) #[] #[pb w.heap.size, pb (w.heap.size + 1)]) ∧ w' = boxed2 w n key

/-- The greatest key, or the empty one. -/
def hiOf : TO → ByteArray
  | none => ByteArray.empty
  | some x => x.2.N.hi
theorem mk2_drewn {f : Nat} {n : Value} {key : ByteArray} {w w' : World} {e : Ending} {q : Nat} (h : Mk2 f n key (w.drewN q) e w') : e = .returned (.func (.func f) #[] #[pb w.heap.size, pb (w.heap.size + 1)]) ∧ w' = boxed2 (w.drewN q) n key := h
/-- A leaf, or none. -/
abbrev OS := Option ST
def encO (x : OS) : Array Value := #[ptr (x.map (·.b))]
def leafL (x : OS) : List Ent := x.elim [] (·.l)
def flatO (ls : List OS) : List Ent := ls.flatMap leafL
/-- Leaves whose entries, as far as p goes, are those of l. -/
structure Lvs (w0 : World) (p : Ent → Bool) (l : List Ent) (ls : List OS) : Prop where
  leaf : ∀ s, some s ∈ ls → Tr w0 0 s
  sub : (flatO ls).Sublist l
  filt : (flatO ls).filter p = l.filter p
/-- What such an iterator reads. -/
def Kf (n bn bk : Nat) : BS := fun k => k < n ∨ k = bn ∨ k = bk
def Fk (key : ByteArray) (f : ST → List OS) (k : ST) : List OS := if kl k.N.hi key then [] else f k

theorem cell_lt {w : World} {a : Addr} {v : Value} (h : w.cell? a = some v) : a.block < w.heap.size := by
  obtain ⟨o, ho, _⟩ := cells_of_cell h
  exact (Array.getElem?_eq_some_iff.1 ho).1
theorem Rt.Stp.cell {T T' : BS} {A B : World} (h : Stp T A T' B) {p : Addr} {v : Value} (hc : A.cell? p = some v) (hn : ¬ T p.block) : B.cell? p = some v := (World.cell?_of_block (w := A) (h.same _ (cell_lt hc) hn)).trans hc
theorem Rt.Stp.block {T T' : BS} {A B : World} (h : Stp T A T' B) {k : Nat} {o : Obj} (hc : A.heap[k]? = some o) (hn : ¬ T k) : B.heap[k]? = some o := (h.same _ (Array.getElem?_eq_some_iff.1 hc).1 hn).trans hc
theorem Rt.Bsy.cell {l : Nat} {A B : World} (h : Bsy l A B) {p : Addr} {v : Value} (hc : A.cell? p = some v) (hn : p.block ≠ l) : B.cell? p = some v := (World.cell?_of_block (w := A) (h.same _ hn)).trans hc
/-- Half-way through a loop whose rounds each hold a range over a function: the marks that they have left. -/
structure LoopAt {α : Type} (J : List α → BS → World → Prop) (w2 : World) (T : BS) (pre : List α) (T1 : BS) (Ds : List Nat) (wr : World) : Prop where
  st : Stp T w2 T1 wr
  j : J pre T1 wr
  nd : Ds.Nodup
  ds : ∀ D ∈ Ds, w2.heap.size ≤ D ∧ ¬ T1 D ∧ wr.heap[D]? = some (.deferred (some []))
theorem shut_qt {Ds : List Nat} {A B : World} {n : Nat} {T : BS} (h : Shut Ds A B) (hd : ∀ D ∈ Ds, n ≤ D ∧ ¬ T D) : Qt n T A B :=
  ⟨h.1, fun k hk h1 => h.2 k fun hm => by obtain ⟨a, b⟩ := hd k hm; rcases h1 with h1 | h1; omega; exact b h1⟩
theorem LoopAt.next {α : Type} {J : List α → BS → World → Prop} {w2 wr wr' : World} {T T1 T2 : BS} {pre pre' : List α} {Ds : List Nat} (h : LoopAt J w2 T pre T1 Ds wr) (hs : Stp T1 wr T2 wr') (hj : J pre' T2 wr') : LoopAt J w2 T pre' T2 Ds wr' :=
  ⟨h.st.trans hs, hj, h.nd, fun D hD => by
    obtain ⟨a, b, c⟩ := h.ds D hD
    have hl := (Array.getElem?_eq_some_iff.1 c).1
    exact ⟨a, fun h => b (hs.own D hl h), (hs.same D hl b).trans c⟩⟩
theorem LoopAt.mark {α : Type} {J : List α → BS → World → Prop} {w2 wr : World} {T T1 : BS} {pre : List α} {Ds : List Nat} (h : LoopAt J w2 T pre T1 Ds wr) {D n : Nat} (hn : n ≤ D) (hD : ∀ E ∈ Ds, E < n) (h2 : w2.heap.size ≤ n) (ht : ¬ T1 D) (hh : wr.heap[D]? = some (.deferred (some []))) : LoopAt J w2 T pre T1 (D :: Ds) wr :=
  ⟨h.st, h.j, List.nodup_cons.2 ⟨fun hm => by have := hD D hm; omega, h.nd⟩, fun E hE => by
    rcases List.mem_cons.1 hE with rfl | hE
    · exact ⟨by omega, ht, hh⟩
    · exact h.ds E hE⟩
theorem LoopAt.lt {α : Type} {J : List α → BS → World → Prop} {w2 wr : World} {T T1 : BS} {pre : List α} {Ds : List Nat} (h : LoopAt J w2 T pre T1 Ds wr) : ∀ E ∈ Ds, E < wr.heap.size := fun E hE => (Array.getElem?_eq_some_iff.1 (h.ds E hE).2.2).1
theorem flatMap_take_succ {α β : Type} {l : List α} {f : α → List β} {i : Nat} {x : α} (h : l[i]? = some x) : (l.take (i + 1)).flatMap f = (l.take i).flatMap f ++ f x := by
  obtain ⟨hi, rfl⟩ := List.getElem?_eq_some_iff.1 h
  rw [List.take_succ_eq_append_getElem hi, List.flatMap_append]
  simp
theorem flatMap_prefix {α β : Type} {l : List α} {f : α → List β} {i : Nat} {x : α} (h : l[i]? = some x) : (l.take i).flatMap f ++ f x <+: l.flatMap f := by
  rw [← flatMap_take_succ h]
  refine ⟨(l.drop (i + 1)).flatMap f, ?_⟩
  rw [← List.flatMap_append, List.take_append_drop]

/-- What a node without kids answers to Kids. -/
def NoKids (w0 : World) (x : OS) : Prop := ∀ W, Below w0.heap.size w0 W → Calls Tryz.prog 45 #[ptr (x.map (·.b))] W fun e w' => ∃ A c, e = .returned (.slice A 0 c) ∧ Below W.heap.size W w'

/-- From a key on. -/
def ge (key : ByteArray) (e : Ent) : Bool := decide (¬ kl e.k key)
/-- Up to a key. -/
def le (key : ByteArray) (e : Ent) : Bool := decide (¬ kl key e.k)
theorem Tr.le_hi {w : World} {h : Nat} {s : ST} (t : Tr w h s) {e : Ent} (he : e ∈ s.l) : ¬ kl s.N.hi e.k := by
  obtain ⟨r, x, hl, hx⟩ := t.last
  have hs := t.sorted
  rw [hl] at he hs
  rw [hx]
  rcases List.mem_append.1 he with he | he
  · exact kl_asymm ((List.pairwise_append.1 hs).2.2 e he x (by simp))
  · rw [List.mem_singleton.1 he]
    exact kl_irrefl _
theorem flatO_flatMap (ks : List ST) (F : ST → List OS) : flatO (ks.flatMap F) = ks.flatMap fun k => flatO (F k) := by
  unfold flatO
  rw [List.flatMap_assoc]
theorem flat_sub {ks : List ST} {G : ST → List Ent} (h : ∀ k ∈ ks, (G k).Sublist k.l) : (ks.flatMap G).Sublist (flat ks) := by
  induction ks with
  | nil => exact List.Sublist.slnil
  | cons k ks ih => exact (h k (List.mem_cons_self ..)).append (ih fun x hx => h x (List.mem_cons_of_mem _ hx))
theorem flat_filter {ks : List ST} {G : ST → List Ent} {p : Ent → Bool} (h : ∀ k ∈ ks, (G k).filter p = k.l.filter p) : (ks.flatMap G).filter p = (flat ks).filter p := by
  induction ks with
  | nil => rfl
  | cons k ks ih =>
    rw [List.flatMap_cons, show flat (k :: ks) = k.l ++ flat ks from rfl, List.filter_append, List.filter_append, h k (List.mem_cons_self ..), ih fun x hx => h x (List.mem_cons_of_mem _ hx)]
theorem ex_fun {α β : Type} {l : List α} {P : α → List β → Prop} (h : ∀ x ∈ l, ∃ y, P x y) : ∃ f : α → List β, ∀ x ∈ l, P x (f x) := by
  classical
  exact ⟨fun x => if hx : ∃ y, P x y then Classical.choose hx else [], fun x hx => by show P x (if hx : ∃ y, P x y then Classical.choose hx else []); rw [dif_pos (h x hx)]; exact Classical.choose_spec (h x hx)⟩
/-- What of the kids' leaves is the branch's. -/
theorem lvs_branch {w0 : World} {p : Ent → Bool} {ks : List ST} {F : ST → List OS} {l : List Ent} (hl : l = flat ks) (h : ∀ k ∈ ks, Lvs w0 p k.l (F k)) : Lvs w0 p l (ks.flatMap F) := by
  subst hl
  refine ⟨fun s hs => ?_, ?_, ?_⟩
  · obtain ⟨k, hk, hs⟩ := List.mem_flatMap.1 hs
    exact (h k hk).leaf s hs
  · rw [flatO_flatMap]
    exact flat_sub fun k hk => (h k hk).sub
  · rw [flatO_flatMap]
    exact flat_filter fun k hk => (h k hk).filt
theorem lvs_none {w0 : World} {p : Ent → Bool} {l : List Ent} (h : ∀ e ∈ l, p e = false) : Lvs w0 p l [] :=
  ⟨fun s hs => (by cases hs), List.nil_sublist _, by rw [filter_none h]; rfl⟩
theorem lvs_one {w0 : World} {p : Ent → Bool} {s : ST} (h : Tr w0 0 s) : Lvs w0 p s.l [some s] :=
  ⟨fun x hx => by rw [List.mem_singleton] at hx; cases hx; exact h, by simp [flatO, leafL], by simp [flatO, leafL]⟩
theorem noKids_leaf {w0 : World} {s : ST} (h : Tr w0 0 s) : NoKids w0 (some s) := fun W hb => by
  refine (kids_any (h.at_.below hb) (Ls.nil (f := pcP) _ _) (by rw [h.2.1.kn]; rfl) (by rw [h.2.1.kn]; omega)).mono ?_
  rintro e w' ⟨v, rfl, ho, hb'⟩
  obtain ⟨A, c, rfl, _, _⟩ := ho.form
  exact ⟨A, c, rfl, hb'⟩
theorem noKids_none (w0 : World) : NoKids w0 none := fun W hb => by
  refine (kids_nil W).mono ?_
  rintro e w' ⟨rfl, rfl⟩
  exact ⟨none, 0, rfl, Below.refl _ _⟩

def encE (e : Ent) : Array Value := #[.string e.k, .string e.v]
theorem Own.keep {w w' : World} {base : Nat} {v : Value} {l : List Ent} (h : Own w base v l) (hb : ∀ g, v.ownBlock = some g → g < w.heap.size → w'.heap[g]? = w.heap[g]?) : Own w' base v l := by
  refine ⟨h.1, ?_⟩
  rcases h.2 with hv | ⟨g, cap, cur, h1, h2, h3, h4⟩
  · exact .inl hv
  · refine .inr ⟨g, cap, cur, h1, h2, (hb g ?_ (Array.getElem?_eq_some_iff.1 h3).1).trans h3, h4⟩
    rw [h1]
    rfl
theorem own_es {w : World} {base n c : Nat} {A : Option Addr} {l : List Ent} (h : Own w base (.slice A n c) l) : Es w A l := by
  obtain ⟨A', c', e, _, hl⟩ := h.form
  cases e
  exact hl
/-- What a leaf, or nil, answers to Entries. -/
theorem ents_os {w0 : World} {x : OS} (hx : ∀ s, x = some s → Tr w0 0 s) {W : World} (hb : Below w0.heap.size w0 W) :
    Calls Tryz.prog 44 #[ptr (x.map (·.b))] W fun e w' => ∃ v, e = .returned v ∧ Own w' W.heap.size v (leafL x) ∧ Below W.heap.size W w' := by
  cases x with
  | none =>
    refine (entries_nil W).mono ?_
    rintro e w' ⟨rfl, rfl⟩
    exact ⟨_, rfl, Own.nil_ _ _, Below.refl _ _⟩
  | some s =>
    have h := hx s rfl
    have := okLeaf_len h.2.2.2.1
    exact entries_any (h.at_.below hb) (h.2.2.1.below hb) h.2.1.en.symm (by rw [h.2.1.en]; omega)
theorem leafL_len {w0 : World} {x : OS} (hx : ∀ s, x = some s → Tr w0 0 s) : (leafL x).length ≤ 4 := by
  cases x with
  | none => exact Nat.zero_le _
  | some s =>
    have := okLeaf_len (hx s rfl).2.2.2.1
    show s.l.length ≤ 4
    omega
theorem filter_take_yes {l : List Ent} {p : Ent → Bool} {m : Nat} {e : Ent} (h : l[m]? = some e) (hp : p e = true) : (l.take (m + 1)).filter p = (l.take m).filter p ++ [e] := by
  obtain ⟨hi, rfl⟩ := List.getElem?_eq_some_iff.1 h
  rw [List.take_succ_eq_append_getElem hi, List.filter_append]
  simp [hp]
theorem filter_take_no {l : List Ent} {p : Ent → Bool} {m : Nat} {e : Ent} (h : l[m]? = some e) (hp : p e = false) : (l.take (m + 1)).filter p = (l.take m).filter p := by
  obtain ⟨hi, rfl⟩ := List.getElem?_eq_some_iff.1 h
  rw [List.take_succ_eq_append_getElem hi, List.filter_append]
  simp [hp]
theorem flatO_snoc (pre : List OS) (x : OS) : flatO (pre ++ [x]) = flatO pre ++ leafL x := by simp [flatO]
/-- What has been yielded is the beginning of what is to be. -/
theorem yield_prefix {ls pre : List OS} {x : OS} {p : Ent → Bool} (h : pre ++ [x] <+: ls) {m : Nat} : (flatO pre).filter p ++ ((leafL x).take m).filter p <+: (flatO ls).filter p := by
  obtain ⟨r, rfl⟩ := h
  refine ⟨((leafL x).drop m).filter p ++ (flatO r).filter p, ?_⟩
  have e : flatO (pre ++ [x] ++ r) = flatO pre ++ (leafL x ++ flatO r) := by simp [flatO]
  rw [e, List.filter_append, List.filter_append, List.append_assoc, ← List.append_assoc (((leafL x).take m).filter p), ← List.filter_append, List.take_append_drop]
/-- Half-way through a leaf. -/
structure InLeaf (J : List Ent → BS → World → Prop) (w6 : World) (T' : BS) (pre : List Ent) (T1 : BS) (wr : World) : Prop where
  st : Stp T' w6 T1 wr
  j : J pre T1 wr

end Go.Proofs.YtelenboncejdaaaGreatDoor

/-
  slices.Backward over entries and over pointers; the iterators over the leaves of a tree up to a key, and of walk.BackFrom, the last one first; conditions: the tree is valid and lies in memory, or is nil.
-/
namespace Go.Proofs.YtelenboncejdaaaGreatDoor
open Go.RowKit Go.Sort Go.Shelf Rt
set_option linter.unusedVariables false
attribute [local go_sem] Oper.semAt_some wide_fn wide_depth

theorem rev_at {n d : Nat} (h : d < n) : (List.range n).reverse[d]? = some (n - 1 - d) := by
  rw [List.getElem?_reverse (by simpa using h), List.length_range, List.getElem?_range (by omega)]
theorem rev_take {n d : Nat} (h : d < n) : (List.range n).reverse.take (d + 1) = (List.range n).reverse.take d ++ [n - 1 - d] := by
  have h1 := rev_at h
  obtain ⟨hi, e⟩ := List.getElem?_eq_some_iff.1 h1
  rw [List.take_succ_eq_append_getElem hi, e]
theorem rev_prefix {n d : Nat} (h : d < n) : (List.range n).reverse.take d ++ [n - 1 - d] <+: (List.range n).reverse := by
  rw [← rev_take h]
  exact List.take_prefix _ _
theorem rev_flatMap {α β : Type} (l : List α) (d : α) (G : α → List β) : (List.range l.length).reverse.flatMap (fun i => G (l[i]?.getD d)) = l.reverse.flatMap G := by
  have h : (List.range l.length).map (fun i => l[i]?.getD d) = l := by
    apply List.ext_getElem
    · simp
    · intro i h1 h2
      simp [h2]
  conv => rhs; rw [← h]
  rw [← List.map_reverse, List.flatMap_map]
theorem rev_filter (l : List Ent) (p : Ent → Bool) : l.reverse.flatMap (fun e => if p e then [e] else []) = (l.filter p).reverse := by
  induction l with
  | nil => rfl
  | cons e l ih =>
    rw [List.reverse_cons, List.flatMap_append, ih, List.filter_cons]
    by_cases hp : p e <;> simp [hp]
/-- An index with its element. -/
def encI (f : Nat → Value) (i : Nat) : Array Value := #[.int .i64 (i : Int), f i]
def Kb (bs : Nat) (A : Option Addr) : BS := fun k => k = bs ∨ ∃ ad, A = some ad ∧ k = ad.block
theorem Ls.keepB {α : Type} {f : α → List Value} {w w' : World} {A : Option Addr} {l : List α} (h : Ls f w A l) (hb : ∀ ad, A = some ad → w'.heap[ad.block]? = w.heap[ad.block]?) (hs : w.heap.size ≤ w'.heap.size) : Ls f w' A l := fun h0 => by
  obtain ⟨ad, e, hlt, hc⟩ := h h0
  exact ⟨ad, e, Nat.lt_of_lt_of_le hlt hs, fun j u hu => (World.cell?_of_block (w := w) (by rw [block_of_add]; exact hb ad e)).trans (hc j u hu)⟩
theorem Es.keepB {w w' : World} {A : Option Addr} {l : List Ent} (h : Es w A l) (hb : ∀ ad, A = some ad → w'.heap[ad.block]? = w.heap[ad.block]?) (hs : w.heap.size ≤ w'.heap.size) : Es w' A l := fun h0 => by
  obtain ⟨ad, e, hlt, hc⟩ := h h0
  exact ⟨ad, e, Nat.lt_of_lt_of_le hlt hs, fun j u hu => (World.cell?_of_block (w := w) (by rw [block_of_add]; exact hb ad e)).trans (hc j u hu)⟩
/-- Half-way through. -/
structure InRev (J : List Nat → BS → World → Prop) (W : World) (T : BS) (pre : List Nat) (T1 : BS) (wr : World) : Prop where
  st : Stp T W T1 wr
  j : J pre T1 wr

-- BEGIN P
def valP (l : List (Option Nat)) (i : Nat) : Value := ptr (l[i]?.getD none)
def entD : Ent := ⟨ByteArray.empty, ByteArray.empty⟩
def agE (e : Ent) : Value := .agg #[.string e.k, .string e.v]
def valE (l : List Ent) (i : Nat) : Value := agE (l[i]?.getD entD)
theorem ownP_addr {w : World} {base n c : Nat} {A : Option Addr} {l : List (Option Nat)} (h : OwnP w base (.slice A n c) l) : ∀ ad, A = some ad → base ≤ ad.block ∧ ad.block < w.heap.size := by
  intro ad e
  subst e
  rcases h.2 with ⟨h1, _⟩ | ⟨g, cap, cur, h1, h2, h3, _⟩
  · cases h1
  · cases h1
    exact ⟨h2, (Array.getElem?_eq_some_iff.1 h3).1⟩
theorem gtr_eq (a b : ByteArray) : (!Op.bytesLess a.toList b.toList && !a.toList == b.toList) = decide (kl b a) := by
  rw [less_eq, same_eq]
  by_cases h : kl b a
  · rw [decide_eq_true h, decide_eq_false (kl_asymm h), decide_eq_false (fun e : a = b => kl_irrefl b (by rw [e] at h; exact h))]
    rfl
  · by_cases h2 : kl a b
    · rw [decide_eq_true h2, decide_eq_false h]
      rfl
    · rw [decide_eq_true (kl_tri h2 h), decide_eq_false h2, decide_eq_false h]
      rfl
def Fb (key : ByteArray) (f : ST → List OS) (k : ST) : List OS := if kl key k.N.lo then [] else f k
theorem flatMap_snoc {α β : Type} (l : List α) (x : α) (f : α → List β) : (l ++ [x]).flatMap f = l.flatMap f ++ f x := by simp
theorem flatMap_pre {α β : Type} {pre l : List α} {f : α → List β} (h : pre <+: l) : pre.flatMap f <+: l.flatMap f := by
  obtain ⟨r, rfl⟩ := h
  exact ⟨r.flatMap f, by simp⟩

theorem rev_flat {α β : Type} (ks : List α) (F : α → List β) : (ks.reverse.flatMap F).reverse = ks.flatMap fun k => (F k).reverse := by
  rw [List.reverse_flatMap, List.reverse_reverse]
  rfl
theorem Tr.lo_ge {w : World} {h : Nat} {s : ST} (t : Tr w h s) {e : Ent} (he : e ∈ s.l) : ¬ kl e.k s.N.lo := t.lo_le he
/-- A leaf's entries up to a key, the last one first. -/
def rvL (p : Ent → Bool) (x : OS) : List Ent := ((leafL x).filter p).reverse
theorem rvL_all (ls : List OS) (p : Ent → Bool) : ls.flatMap (rvL p) = ((flatO ls.reverse).filter p).reverse := by
  unfold flatO
  rw [List.filter_flatMap, rev_flat]
  rfl
def oneE (p : Ent → Bool) (l : List Ent) (i : Nat) : List Ent := if p (l[i]?.getD entD) then [l[i]?.getD entD] else []
theorem oneE_all (l : List Ent) (p : Ent → Bool) : (List.range l.length).reverse.flatMap (oneE p l) = (l.filter p).reverse := by
  rw [← rev_filter, ← rev_flatMap l entD]
  rfl
theorem leq_eq (a b : ByteArray) : (Op.bytesLess a.toList b.toList || a.toList == b.toList) = decide (¬ kl b a) := by
  rw [less_eq, same_eq]
  by_cases h : kl b a
  · rw [decide_eq_false (kl_asymm h), decide_eq_false (fun e : a = b => kl_irrefl b (by rw [e] at h; exact h)), decide_eq_false (fun h2 : ¬ kl b a => h2 h)]
    rfl
  · by_cases h2 : kl a b
    · rw [decide_eq_true h2, decide_eq_true h]
      rfl
    · rw [decide_eq_true (kl_tri h2 h), decide_eq_false h2, decide_eq_true h]
      rfl

end Go.Proofs.YtelenboncejdaaaGreatDoor

/-
  A variable's box that holds a slice in a row of its own: append in a round of a range over a function; a box that holds a number; conditions stand at each.
-/
namespace Go.Proofs.YtelenboncejdaaaGreatDoor
open Go.RowKit Go.Sort Go.Shelf Rt
set_option linter.unusedVariables false
attribute [local go_sem] Oper.semAt_some wide_fn wide_depth

theorem wpListIn_append_ran {F : Fence} {n : Nat} {ops : Array Oper} {rest : List Oper} {o : Oper} {a : Act} {w : World} {Q : Exit → Act → World → Prop} (hgd : o.guard = none) (s x : Operand) (t : TypeId)
    (ho : o.op = .call { callee := .builtin .append, args := #[s, x], argTypes := #[t, t] }) (v u v' : Value) (w' : World) (hs : a.eval s = v) (hx : a.eval x = u)
    (hrun : (Builtin.append_ #[t, t] o.type #[v, u]).run Tryz.prog w = .ok v' w') (h : wpListIn F n Tryz.prog ops Q rest (a.put o.dst v') w') : wpListIn F n Tryz.prog ops Q (o :: rest) a w := by
  refine wpListIn_plain hgd fun K hK => ?_
  unfold Oper.wpIn
  refine ⟨?_, ?_⟩
  · simp [Oper.about, ho, resolve, Target.leads, Sem.run_pure]
  · rw [Oper.semAt_plain F _ _ (by rw [ho]; intro c hc'; cases hc')]
    simp [execOp, ho, resolve, invoke, builtin, hs, hx, hrun, Result.andThen]
    exact hK _ _ h

/-- A box B that holds a slice, whose row is the call's own; T: both. -/
structure BoxRow {α : Type} (f : α → List Value) (te ts : TypeId) (k base B : Nat) (T : BS) (W : World) (l : List α) (v : Value) : Prop where
  box : Boxed W B ts v
  row : OwnL f te k W base v l
  own : ∀ i, T i ↔ (i = B ∨ v.ownBlock = some i)
section
variable {α : Type} {f : α → List Value} {te ts : TypeId} {k base B : Nat} {T : BS} {W : World} {l : List α} {v : Value}
theorem BoxRow.abd (n : Nat) : Abd n (fun (s : List α × Value) T W => BoxRow f te ts k base B T W s.1 s.2) := fun s T A A' h q => by
  have hB : A'.heap[B]? = A.heap[B]? := q.same B h.box.lt (.inr ((h.own B).2 (.inl rfl)))
  exact ⟨hB.trans h.box, h.row.keep fun g hg hlt => q.same g hlt (.inr ((h.own g).2 (.inr hg))), h.own⟩
theorem BoxRow.lt (h : BoxRow f te ts k base B T W l v) : ∀ i, T i → i < W.heap.size := fun i hi => by
  rcases (h.own i).1 hi with rfl | hi
  · exact h.box.lt
  · exact h.row.lt i hi
theorem BoxRow.start (hb : Boxed W B ts (.slice none 0 0)) : BoxRow f te ts k base B (fun i => i = B) W ([] : List α) (.slice none 0 0) :=
  ⟨hb, OwnL.nil_ _ _ _, fun i => by simp [Value.ownBlock]⟩
theorem setCell_size (W : World) (a : Addr) (u : Value) : (W.setCell a u).heap.size = W.heap.size := by
  show (W.heap.modify _ _).size = _
  rw [Array.size_modify]
theorem BoxRow.append (h : BoxRow f te ts k base B T W l v) (he : Enc f k) (z : Value) (by_ : Nat) (hu : ∃ d, Tryz.prog.underlying ts = some d ∧ d = .slice te) (hi : (Tryz.prog.info? te).map (fun i => (i.zero, i.size, i.bytes)) = some (some z, k, by_)) (hz : z.cells.size = k) (hk : 0 < k) (hby : by_ ≤ 1000)
    (hne : ts ≠ te) (x : α) (hl : l.length ≤ 100000) (hbase : base ≤ W.heap.size) :
    ∃ A' c' w4 T', (Builtin.append_ #[ts, ts] ts #[v, .slice (some ⟨W.heap.size, 0, none⟩) 1 1]).run Tryz.prog (W.alloc (.cells (f x).toArray te)) = .ok (.slice A' (l.length + 1) c') w4 ∧ Boxed w4 B ts v ∧
      Stp T W T' (w4.setCell ⟨B, 0, none⟩ (.slice A' (l.length + 1) c')) ∧ BoxRow f te ts k base B T' (w4.setCell ⟨B, 0, none⟩ (.slice A' (l.length + 1) c')) (l ++ [x]) (.slice A' (l.length + 1) c') := by
  have hb0 : Below W.heap.size W (W.alloc (.cells (f x).toArray te)) := (Below.refl _ _).alloc (Nat.le_refl _) _
  obtain ⟨v', w4, h1, h2, h3, h5⟩ := run_append_at he ts te ts z by_ hu hi hz hk hby (h.row.below hb0) x (heap_alloc_new W _) (by omega) (Nat.le_trans hbase hb0.size)
  obtain ⟨A', c', rfl, _, _⟩ := h2.form
  rw [List.length_append, List.length_singleton] at h1 h2 h5
  have hvB : v.ownBlock ≠ some B := fun e => by
    rcases h.row.2 with ⟨rfl, _⟩ | ⟨g, cap, cur, rfl, _, hh, _⟩
    · simp [Value.ownBlock] at e
    · have e1 : g = B := by simpa [Value.ownBlock] using e
      subst e1
      have := hh.symm.trans h.box
      simp at this
      exact hne this.2.symm
  have hB4 : Boxed w4 B ts v := (h3.block B (by simp; have := h.box.lt; omega) (fun e => hvB e.symm)).trans ((hb0.block B h.box.lt).trans h.box)
  have hv4 : (Value.slice A' (l.length + 1) c').ownBlock ≠ some B := fun e => by
    rcases h5 with h5 | h5
    · exact hvB (h5.symm.trans e)
    · rw [h5] at e
      have := h.box.lt
      simp at e
      omega
  refine ⟨A', c', w4, fun i => i = B ∨ (Value.slice A' (l.length + 1) c').ownBlock = some i, h1, hB4, ⟨⟨h3.os.trans hb0.os, h3.tape.trans hb0.tape, h3.output.trans hb0.output, ?_⟩, fun i hi ht => ?_, fun i ht => ?_, fun i hi ht => ?_⟩, hB4.set _, ?_, fun i => Iff.rfl⟩
  · rw [setCell_size]
    exact Nat.le_trans hb0.size h3.size
  · rcases ht with rfl | ht
    · exact (h.own i).2 (.inl rfl)
    · rcases h5 with h5 | h5
      · exact (h.own i).2 (.inr (h5.symm.trans ht))
      · rw [h5] at ht
        simp at ht
        omega
  · rw [setCell_size]
    rcases ht with rfl | ht
    · exact hB4.lt
    · exact h2.lt i ht
  · have h6 : i ≠ B := fun e => ht ((h.own i).2 (.inl e))
    have h7 : v.ownBlock ≠ some i := fun e => ht ((h.own i).2 (.inr e))
    rw [Below.heap_setCell _ _ _ i h6]
    exact (h3.block i (by simp; omega) (fun e => h7 e.symm)).trans (hb0.block i hi)
  · exact h2.keep fun g hg hlt => Below.heap_setCell _ _ _ g fun e => hv4 (by rw [hg]; exact congrArg some e)
end

/-- A box that holds a number. -/
structure BoxInt (ti B : Nat) (T : BS) (W : World) (m : Int) : Prop where
  box : Boxed W B ti (.int .i64 m)
  own : T B
theorem BoxInt.abd {ti B : Nat} (n : Nat) : Abd n (fun (m : Int) T W => BoxInt ti B T W m) := fun s T A A' h q => ⟨(q.same B h.box.lt (.inr h.own)).trans h.box, h.own⟩
theorem BoxInt.set {ti B : Nat} {T : BS} {W : World} {m : Int} (h : BoxInt ti B T W m) (hT : ∀ i, T i → i < W.heap.size) (m' : Int) : Stp T W T (W.setCell ⟨B, 0, none⟩ (.int .i64 m')) ∧ BoxInt ti B T (W.setCell ⟨B, 0, none⟩ (.int .i64 m')) m' :=
  ⟨⟨⟨rfl, rfl, rfl, by rw [setCell_size]; exact Nat.le_refl _⟩, fun _ _ h => h, fun i hi => by rw [setCell_size]; exact hT i hi, fun i hi ht => Below.heap_setCell _ _ _ i fun e => ht (by rw [e]; exact h.own)⟩, h.box.set _, h.own⟩

/-- Entries as cells, one by one. -/
def pcE (e : Ent) : List Value := [.string e.k, .string e.v]
theorem pcE_enc : Enc pcE 2 := ⟨fun _ => rfl, fun x u hu => by
  simp only [pcE, List.mem_cons, List.not_mem_nil, or_false] at hu
  rcases hu with rfl | rfl <;> rfl⟩
theorem pcE_flat (l : List Ent) : l.flatMap pcE = ecells l := by
  induction l with
  | nil => rfl
  | cons e l ih => rw [List.flatMap_cons, ih]; rfl
theorem own_of_l {w : World} {base : Nat} {v : Value} {l : List Ent} (h : OwnL pcE 87 2 w base v l) : Own w base v l := by
  unfold OwnL at h
  rw [pcE_flat] at h
  exact h

end Go.Proofs.YtelenboncejdaaaGreatDoor
