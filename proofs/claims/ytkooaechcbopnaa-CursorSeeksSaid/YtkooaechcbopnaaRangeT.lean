/-
  A range over a function, where the loop's body owns a set of blocks that moves: what the body does not own lies as it lay; what the iterator turns lies above its call and is not the body's; conditions stand at each.
-/
import Derived.RangeFuncNested
import Derived.RangeFuncBound
import Derived.RangeFuncCalls
import Derived.RangeFuncLeaves
import Derived.TacticsInMore
namespace Go.Proofs.Ytkooaechcbopnaa.Rt
open Go Go.RowKit
set_option linter.unusedSimpArgs false
set_option linter.unusedVariables false

/-- A set of blocks. -/
abbrev BS := Nat → Prop
structure Fx (A B : World) : Prop where
  os : B.os = A.os
  tape : B.tape = A.tape
  output : B.output = A.output
  size : A.heap.size ≤ B.heap.size
/-- A step from A, where the body owns T, to B, where it owns T': what is not of T lies as it lay. -/
structure Stp (T : BS) (A : World) (T' : BS) (B : World) : Prop where
  fx : Fx A B
  own : ∀ k, k < A.heap.size → T' k → T k
  lt : ∀ k, T' k → k < B.heap.size
  same : ∀ k, k < A.heap.size → ¬ T k → B.heap[k]? = A.heap[k]?
/-- The iterator's step: what the body owns, and what lay below n, lies as it lay. -/
structure Qt (n : Nat) (T : BS) (A B : World) : Prop where
  fx : Fx A B
  same : ∀ k, k < A.heap.size → (k < n ∨ T k) → B.heap[k]? = A.heap[k]?
/-- What abides such a step. -/
def Abd {β : Type} (n : Nat) (J : β → BS → World → Prop) : Prop := ∀ s T A B, J s T A → Qt n T A B → J s T B

section
variable {A B C W W' W1 w : World} {T T' T1 T2 : BS} {n m : Nat}
theorem Fx.refl (A : World) : Fx A A := ⟨rfl, rfl, rfl, Nat.le_refl _⟩
theorem Fx.trans (h : Fx A B) (k : Fx B C) : Fx A C := ⟨k.os.trans h.os, k.tape.trans h.tape, k.output.trans h.output, Nat.le_trans h.size k.size⟩
theorem Fx.below (h : Below n A B) : Fx A B := ⟨h.os, h.tape, h.output, h.size⟩
theorem Fx.put (l : Nat) (o : Obj) : Fx A (A.putObj l o) := ⟨rfl, rfl, rfl, by simp⟩
theorem Stp.refl (h : ∀ k, T k → k < A.heap.size) : Stp T A T A := ⟨.refl _, fun _ _ h => h, h, fun _ _ _ => rfl⟩
theorem Stp.trans (h : Stp T A T1 B) (k : Stp T1 B T2 C) : Stp T A T2 C :=
  ⟨h.fx.trans k.fx, fun i hi h2 => h.own i hi (k.own i (Nat.lt_of_lt_of_le hi h.fx.size) h2), k.lt,
   fun i hi ht => (k.same i (Nat.lt_of_lt_of_le hi h.fx.size) fun h1 => ht (h.own i hi h1)).trans (h.same i hi ht)⟩
theorem Stp.of_below (h : Below A.heap.size A B) (hT : ∀ k, T k → k < A.heap.size) : Stp T A T B :=
  ⟨.below h, fun _ _ h => h, fun k hk => Nat.lt_of_lt_of_le (hT k hk) h.size, fun k hk _ => h.block k hk⟩
theorem Stp.below_ (h : Stp T A T1 B) (k : Below B.heap.size B C) : Stp T A T1 C := h.trans (.of_below k h.lt)
theorem Stp.below (h : Stp T A T' B) (hn : n ≤ A.heap.size) (hT : ∀ k, T k → n ≤ k) : Below n A B :=
  ⟨h.fx.os, h.fx.tape, h.fx.output, h.fx.size, fun k hk => h.same k (by omega) fun ht => by have := hT k ht; omega⟩
theorem Qt.of_below (h : Below A.heap.size A B) : Qt n T A B := ⟨.below h, fun k hk _ => h.block k hk⟩
theorem Qt.put {l : Nat} (o : Obj) (hl : n ≤ l) (hT : ¬ T l) : Qt n T A (A.putObj l o) :=
  ⟨.put l o, fun k _ h => World.putObj_heap_other fun e => by subst e; rcases h with h | h; omega; exact hT h⟩
theorem Qt.sub (h : Qt n T A B) (hm : m ≤ n) (hT : ∀ k, T1 k → T k) : Qt m T1 A B :=
  ⟨h.fx, fun k hk h1 => h.same k hk (h1.elim (fun h1 => .inl (by omega)) fun h1 => .inr (hT k h1))⟩
theorem Stp.qt (h : Stp T w T1 A) (hq : Qt n T1 A B) (hn : w.heap.size ≤ n) : Stp T w T1 B :=
  ⟨h.fx.trans hq.fx, h.own, fun k hk => Nat.lt_of_lt_of_le (h.lt k hk) hq.fx.size, fun k hk ht => (hq.same k (Nat.lt_of_lt_of_le hk h.fx.size) (.inl (by omega))).trans (h.same k hk ht)⟩
theorem Abd.and {β : Type} {J J' : β → BS → World → Prop} (h : Abd n J) (h' : Abd n J') : Abd n (fun s T W => J s T W ∧ J' s T W) := fun s T A B ⟨a, b⟩ q => ⟨h s T A B a q, h' s T A B b q⟩
theorem Abd.stp {β : Type} (hn : w.heap.size ≤ n) : Abd (β := β) n (fun _ T1 W => Stp T w T1 W) := fun _ _ _ _ h q => h.qt q hn
theorem Abd.false {β : Type} : Abd (β := β) n (fun _ _ _ => False) := fun _ _ _ _ h _ => h
theorem Abd.mono {β : Type} {J : β → BS → World → Prop} (h : Abd n J) (hm : n ≤ m) : Abd m J := fun s T A B j q => h s T A B j (q.sub hm fun _ h => h)
end

/-- A function that is ranged over: it yields xs, one by one, as long as it is asked to; what it reads lies in K, which the body does not own. -/
def Gives {α : Type} (P : Program) (g : Nat) (lb : Array Value) (encs : α → Array Value) (xs : List α) (K : BS) (W : World) : Prop :=
  ∀ (l : Nat) (J Jx : List α → BS → World → Prop) (T : BS), (∀ k, T k → k < W.heap.size ∧ ¬ K k) → Abd W.heap.size J → Abd W.heap.size Jx →
    (∀ pre x T1 W1, pre ++ [x] <+: xs → J pre T1 W1 → YieldAt Fence.wide 0 P l (encs x) W1 fun e W' =>
      ∃ T', Stp T1 W1 T' W' ∧ ((e = .returned (.bool true) ∧ J (pre ++ [x]) T' W') ∨ (e = .returned (.bool false) ∧ Jx (pre ++ [x]) T' W'))) →
    J [] T W →
    CallsIn Fence.wide 0 P g (#[.func (.yield l) #[] #[]] ++ lb) W fun e W' => (∃ v, e = .returned v) ∧ ∃ T', Stp T W T' W' ∧ (J xs T' W' ∨ ∃ pre, pre ≠ [] ∧ pre <+: xs ∧ Jx pre T' W')

/-- How a round may be left. -/
def rPost {α : Type} (I : List α → BS → World → Prop) (Ix : Code → List α → BS → World → Prop) (xs : List α) (T : BS) (W : World) : Exit → Act → World → Prop
  | .normal, _, W' => ∃ T', Stp T W T' W' ∧ I xs T' W'
  | .ret, _, W' => ∃ T', Stp T W T' W' ∧ Ix .ret xs T' W'
  | .exit id, _, W' => ∃ T', Stp T W T' W' ∧ Ix (.exit id) xs T' W'
  | .goto t, _, W' => ∃ T', Stp T W T' W' ∧ Ix (.goto t) xs T' W'
  | .panic _, _, _ => False
  | .outgrown, _, _ => False

/-- The record l is busy now; nothing else has turned. -/
structure Bsy (l : Nat) (A B : World) : Prop where
  os : B.os = A.os
  tape : B.tape = A.tape
  output : B.output = A.output
  size : B.heap.size = A.heap.size
  same : ∀ k, k ≠ l → B.heap[k]? = A.heap[k]?
  loop : ∃ r, B.heap[l]? = some (.loop r)
theorem Bsy.fx {l : Nat} {A B : World} (h : Bsy l A B) : Fx A B := ⟨h.os, h.tape, h.output, Nat.le_of_eq h.size.symm⟩
theorem Bsy.below {l n : Nat} {A B : World} (h : Bsy l A B) (hn : n ≤ l) : Below n A B := ⟨h.os, h.tape, h.output, Nat.le_of_eq h.size.symm, fun k hk => h.same k (by omega)⟩
theorem Bsy.qt {l n : Nat} {T : BS} {A B : World} (h : Bsy l A B) (hn : n ≤ l) (hT : ¬ T l) : Qt n T A B :=
  ⟨h.fx, fun k _ h1 => h.same k fun e => by subst e; rcases h1 with h1 | h1; omega; exact hT h1⟩

/-- What a round is asked for: the assign code lays blocks only; then the body. -/
def RoundT {α : Type} (P : Program) (ps : Array Tmp) (assign body : Code) (tm : Array Value) (w : World) (T : BS) (encs : α → Array Value) (xs : List α) (I : List α → BS → World → Prop) (Ix : Code → List α → BS → World → Prop) : Prop :=
  ∀ (l : Nat) (pre : List α) (x : α) (T1 : BS) (W : World), pre ++ [x] <+: xs → I pre T1 W → Stp T w T1 W → ¬ T1 l → w.heap.size ≤ l → (∃ r, W.heap[l]? = some (.loop r)) →
    ∀ C : Act → World → Prop, (∀ a' W', Below W.heap.size W W' → (∀ W'', Bsy l W' W'' → body.wpIn (Fence.wide.inRound l) 0 P (rPost I Ix (pre ++ [x]) T1 W'') a' W'') → C a' W') →
      assign.wpIn (Fence.wide.inRound l) 0 P (Exit.then C (fun _ _ _ => False)) { tmps := (ps.zip (encs x)).foldl (fun t (p, v) => t.setIfInBounds p v) tm, defers := [] } W

section
variable {α : Type} {P : Program} {ps : Array Tmp} {assign body : Code} {tm : Array Value} {w : World} {T : BS} {encs : α → Array Value} {xs : List α} {I : List α → BS → World → Prop} {Ix : Code → List α → BS → World → Prop}

/-- The loop's record, in a state. -/
abbrev recOf (fn : FuncId) (tm : Array Value) (ps : Array Tmp) (assign body : Code) (dfs : Nat) (st : LoopState) (pe : Option Code) : Loop := ⟨st, pe, fn, tm, ps, assign, body, dfs⟩
/-- The invariant with the book-keeping beside it. -/
def JJ (w : World) (T : BS) (r : Loop) (l : Nat) (X : Option Nat) (I : List α → BS → World → Prop) (pre : List α) (T' : BS) (W : World) : Prop :=
  ∃ T1, (∀ k, T' k ↔ T1 k ∨ k = l) ∧ I pre T1 W ∧ Stp T w T1 W ∧ ¬ T1 l ∧ W.heap[l]? = some (.loop r) ∧ ∀ D, X = some D → w.heap.size ≤ D ∧ D ≠ l ∧ ¬ T1 D ∧ W.heap[D]? = some (.deferred (some []))
theorem at_lt {A : World} {l : Nat} {o : Obj} (h : A.heap[l]? = some o) : l < A.heap.size := (Array.getElem?_eq_some_iff.1 h).1
theorem jj_abd {r : Loop} {l n : Nat} {X : Option Nat} (hI : Abd w.heap.size I) (hw : w.heap.size ≤ n) (hl : l < n) (hX : ∀ D, X = some D → D < n) : Abd n (JJ w T r l X I) := by
  rintro pre T' A B ⟨T1, h1, h2, h3, h4, h5, h6⟩ q
  have q1 : Qt n T1 A B := q.sub (Nat.le_refl _) fun k hk => (h1 k).2 (.inl hk)
  refine ⟨T1, h1, hI _ _ _ _ h2 (q1.sub hw fun _ h => h), h3.qt q1 hw, h4, (q.same l (at_lt h5) (.inl hl)).trans h5, fun D hD => ?_⟩
  obtain ⟨a, b, c, d⟩ := h6 D hD
  exact ⟨a, b, c, (q.same D (at_lt d) (.inl (hX D hD))).trans d⟩

/-- What a round comes to, seen from the iterator: the record turned to busy ahead of the body, and to another state behind it. -/
theorem round_step {l : Nat} {X : Option Nat} {pre : List α} {T' T1 T2 : BS} {W Wa W3 : World} {r r1 r2 : Loop} (hlw : w.heap.size ≤ l) (hT : ∀ k, T' k ↔ T1 k ∨ k = l) (hst : Stp T w T1 W) (hnl : ¬ T1 l) (hl : W.heap[l]? = some (.loop r))
    (hX : ∀ D, X = some D → w.heap.size ≤ D ∧ D ≠ l ∧ ¬ T1 D ∧ W.heap[D]? = some (.deferred (some []))) (hba : Below W.heap.size W Wa) (hs : Stp T1 (Wa.putObj l (.loop r1)) T2 W3) :
    Stp T' W (fun k => T2 k ∨ k = l) (W3.putObj l (.loop r2)) ∧ Stp T w T2 (W3.putObj l (.loop r2)) ∧ ¬ T2 l ∧ W3.heap[l]? = some (.loop r1) ∧ (W3.putObj l (.loop r2)).heap[l]? = some (.loop r2) ∧
      ∀ D, X = some D → w.heap.size ≤ D ∧ D ≠ l ∧ ¬ T2 D ∧ (W3.putObj l (.loop r2)).heap[D]? = some (.deferred (some [])) := by
  have hz : (Wa.putObj l (.loop r1)).heap.size = Wa.heap.size := World.putObj_size
  have hlW := at_lt hl
  have up : ∀ k, k < W.heap.size → k < (Wa.putObj l (.loop r1)).heap.size := fun k hk => by rw [hz]; exact Nat.lt_of_lt_of_le hk hba.size
  have hl3 : W3.heap[l]? = some (.loop r1) := (hs.same l (up l hlW) hnl).trans (World.putObj_heap_same (Nat.lt_of_lt_of_le hlW hba.size))
  have own : ∀ k, k < W.heap.size → T2 k → T1 k := fun k hk => hs.own k (up k hk)
  have same : ∀ k, k < W.heap.size → ¬ T1 k → k ≠ l → (W3.putObj l (.loop r2)).heap[k]? = W.heap[k]? := fun k hk hn hne =>
    (World.putObj_heap_other hne).trans ((hs.same k (up k hk) hn).trans ((World.putObj_heap_other hne).trans (hba.block k hk)))
  have fx : Fx W (W3.putObj l (.loop r2)) := (Fx.below hba).trans ((Fx.put l _).trans (hs.fx.trans (.put l _)))
  have hlt : ∀ k, T2 k → k < (W3.putObj l (.loop r2)).heap.size := fun k h => by rw [World.putObj_size]; exact hs.lt k h
  refine ⟨⟨fx, fun k hk h => (hT k).2 (h.imp (own k hk) id), fun k h => h.elim (hlt k) fun e => by rw [e, World.putObj_size]; exact at_lt hl3, fun k hk h => same k hk (fun h1 => h ((hT k).2 (.inl h1))) fun h1 => h ((hT k).2 (.inr h1))⟩,
    ⟨hst.fx.trans fx, fun k hk h => hst.own k hk (own k (Nat.lt_of_lt_of_le hk hst.fx.size) h), hlt, fun k hk h => ?_⟩, fun h => hnl (own l hlW h), hl3, World.putObj_heap_same (at_lt hl3), fun D hD => ?_⟩
  · exact (same k (Nat.lt_of_lt_of_le hk hst.fx.size) (fun h1 => h (hst.own k hk h1)) (by omega)).trans (hst.same k hk h)
  · obtain ⟨a, b, c, d⟩ := hX D hD
    exact ⟨a, b, fun h => c (own D (at_lt d) h), (same D (at_lt d) c b).trans d⟩

/-- One round. -/
theorem round_yield {fn : FuncId} {dfs l : Nat} {X : Option Nat} (hps : ∀ x, (encs x).size = ps.size) (hI : Abd w.heap.size I) (hIx : ∀ c, Abd w.heap.size (Ix c)) (hlw : w.heap.size ≤ l)
    (hr : RoundT P ps assign body tm w T encs xs I Ix) (pre : List α) (x : α) (T' : BS) (W : World) (hx : pre ++ [x] <+: xs) (hJ : JJ w T (recOf fn tm ps assign body dfs .ready none) l X I pre T' W) :
    YieldAt Fence.wide 0 P l (encs x) W fun e W' => ∃ T'', Stp T' W T'' W' ∧
      ((e = .returned (.bool true) ∧ JJ w T (recOf fn tm ps assign body dfs .ready none) l X I (pre ++ [x]) T'' W') ∨ (e = .returned (.bool false) ∧ ∃ c, JJ w T (recOf fn tm ps assign body dfs .done (some c)) l X (Ix c) (pre ++ [x]) T'' W')) := by
  obtain ⟨T1, hT, hi, hst, hnl, hl, hX⟩ := hJ
  refine ⟨fn, _, assign, body, run_yield hl (hps x), roundIn_of_wpIn trivial (hr l pre x T1 W hx hi hst hnl hlw ⟨_, hl⟩ _ fun a' Wa hba hbody => ?_)⟩
  have hla : Wa.heap[l]? = some (.loop (recOf fn tm ps assign body dfs .ready none)) := (hba.block l (at_lt hl)).trans hl
  refine ⟨_, run_beginRound hla rfl, wpIn_mono (hbody (Wa.putObj l (.loop (recOf fn tm ps assign body dfs .busy none))) ⟨rfl, rfl, rfl, World.putObj_size, fun k hk => World.putObj_heap_other hk, _, World.putObj_heap_same (at_lt hla)⟩) ?_⟩
  -- a round that has left by a jump
  have out : ∀ (c : Code) (W3 : World), (∃ T2, Stp T1 (Wa.putObj l (.loop (recOf fn tm ps assign body dfs .busy none))) T2 W3 ∧ Ix c (pre ++ [x]) T2 W3) → ∃ v w', (Instr.endRound l (some c)).run P W3 = .ok v w' ∧ ∃ T'', Stp T' W T'' w' ∧
      ((Ending.returned v = .returned (.bool true) ∧ JJ w T (recOf fn tm ps assign body dfs .ready none) l X I (pre ++ [x]) T'' w') ∨ (Ending.returned v = .returned (.bool false) ∧ ∃ c, JJ w T (recOf fn tm ps assign body dfs .done (some c)) l X (Ix c) (pre ++ [x]) T'' w')) := by
    rintro c W3 ⟨T2, hs, hi3⟩
    obtain ⟨q1, q2, q3, q4, q5, q6⟩ := round_step (r2 := recOf fn tm ps assign body dfs .done (some c)) (pre := pre) hlw hT hst hnl hl hX hba hs
    exact ⟨_, _, run_endRound (some c) q4, _, q1, .inr ⟨rfl, c, T2, fun _ => Iff.rfl, hIx c _ _ _ _ hi3 (.put _ hlw q3), q2, q3, q5, q6⟩⟩
  intro e a3 W3 hp
  match e, hp with
  | .normal, ⟨T2, hs, hi3⟩ =>
    obtain ⟨q1, q2, q3, q4, q5, q6⟩ := round_step (r2 := recOf fn tm ps assign body dfs .ready none) (pre := pre) hlw hT hst hnl hl hX hba hs
    exact ⟨_, _, run_endRound none q4, _, q1, .inl ⟨rfl, T2, fun _ => Iff.rfl, hI _ _ _ _ hi3 (.put _ hlw q3), q2, q3, q5, q6⟩⟩
  | .ret, hp => exact out _ _ hp
  | .exit _, hp => exact out _ _ hp
  | .goto _, hp => exact out _ _ hp

/-- The mark on an activation's deferred calls. -/
abbrev mk (D : Nat) : Deferred := { target := .collected D, args := #[] }
/-- What entering a loop lays: its record l; X: the block for the rounds' deferred calls, if it is an outermost one. -/
def Entered (P : Program) (ps : Array Tmp) (assign body : Code) (tm : Array Value) (w : World) (rd : Option Nat) (l : Nat) (mark : List Deferred) (X : Option Nat) : Prop :=
  w.heap.size ≤ l ∧ (∀ D, X = some D → w.heap.size ≤ D ∧ D ≠ l) ∧ ∀ fn, ∃ dfs W1, (Instr.enterLoop fn tm ps assign body rd).run P w = .ok (l, mark) W1 ∧ Below w.heap.size w W1 ∧ W1.heap[l]? = some (.loop (recOf fn tm ps assign body dfs .ready none)) ∧
    ∀ D, X = some D → W1.heap[D]? = some (.deferred (some []))
theorem entered_out : Entered P ps assign body tm w none (w.heap.size + 1) [mk w.heap.size] (some w.heap.size) :=
  ⟨by omega, fun D hD => by cases hD; omega, fun fn => ⟨w.heap.size, _, run_enterLoop_outer fn tm ps assign body, ((Below.refl _ w).alloc (Nat.le_refl _) _).alloc (by simp) _,
    by have := World.alloc_heap_new (w.alloc (.deferred (some []))) (.loop (recOf fn tm ps assign body w.heap.size .ready none)); rwa [World.size_alloc] at this,
    fun D hD => by cases hD; exact (Below.heap_alloc _ _ _ (by simp)).trans (World.alloc_heap_new w _)⟩⟩
theorem entered_in {l₀ : Nat} {r₀ : Loop} (h : w.heap[l₀]? = some (.loop r₀)) : Entered P ps assign body tm w (some l₀) w.heap.size [] none :=
  ⟨Nat.le_refl _, fun D hD => (by cases hD), fun fn => ⟨r₀.defers, _, run_enterLoop_inner h fn tm ps assign body, (Below.refl _ w).alloc (Nat.le_refl _) _, World.alloc_heap_new w _, fun D hD => by cases hD⟩⟩

/-- The statement, wherever it stands. -/
theorem range_core {rd : Option Nat} {l : Nat} {mark : List Deferred} {X : Option Nat} {g : Operand} {Q : Exit → Act → World → Prop} {a : Act} {gf : Nat} {lb : Array Value} (hen : Entered P ps assign body a.tmps w rd l mark X)
    (hg : a.eval g = .func (.func gf) #[] lb) (eg : ∀ args w, (callFunc gf args).run P w = .ok (.enter gf args) w) {K : BS} (hps : ∀ x, (encs x).size = ps.size) (hseq : ∀ W, Below w.heap.size w W → Gives P gf lb encs xs K W)
    (hT : ∀ k, T k → k < w.heap.size ∧ ¬ K k) (hK : ∀ k, K k → k < w.heap.size) (hI : Abd w.heap.size I) (hIx : ∀ c, Abd w.heap.size (Ix c)) (h0 : I [] T w) (hround : RoundT P ps assign body a.tmps w T encs xs I Ix)
    (hdone : ∀ T' W', I xs T' W' → Stp T w T' W' → (∀ D, X = some D → ¬ T' D ∧ W'.heap[D]? = some (.deferred (some []))) → Q .normal { a with defers := mark ++ a.defers } W')
    (hstop : ∀ c pre T' W', pre ≠ [] → pre <+: xs → Ix c pre T' W' → Stp T w T' W' → (∀ D, X = some D → ¬ T' D ∧ W'.heap[D]? = some (.deferred (some []))) → c.wpIn { Fence.wide with round := rd } 0 P Q { a with defers := mark ++ a.defers } W') :
    (Code.rangeFunc g ps assign body).wpIn { Fence.wide with round := rd } 0 P Q a w := by
  obtain ⟨hlw, hXw, hen⟩ := hen
  have hTw : ∀ k, T k → k < w.heap.size := fun k hk => (hT k hk).1
  refine wpIn_rangeFunc fun fn _ => ?_
  obtain ⟨dfs, W1, hrun, hb1, hl1, hX1⟩ := hen fn
  have hres : (resolve a.eval (rangeCall g l) 0).run P W1 = .ok { target := .fn (.func gf) lb, args := #[.func (.yield l) #[] #[]] } W1 := by
    simp only [resolve, hg]
    simp [go_sem]
  have hinv : (invoke (.fn (.func gf) lb) #[.func (.yield l) #[] #[]]).run P W1 = .ok (.enter gf (#[.func (.yield l) #[] #[]] ++ lb)) W1 := by
    simp [invoke, go_sem, eg]
  refine ⟨l, mark, W1, _, W1, gf, _, W1, hrun, hres, fun _ _ => trivial, hinv, fun h => (by cases h), ?_⟩
  have hit := hseq W1 hb1 l (JJ w T (recOf fn a.tmps ps assign body dfs .ready none) l X I) (fun pre T' W => ∃ c, JJ w T (recOf fn a.tmps ps assign body dfs .done (some c)) l X (Ix c) pre T' W) (fun k => T k ∨ k = l)
    (fun k hk => hk.elim (fun h => ⟨Nat.lt_of_lt_of_le (hTw k h) hb1.size, (hT k h).2⟩) fun h => ⟨by rw [h]; exact at_lt hl1, fun h2 => by have := hK k h2; omega⟩)
    (jj_abd hI hb1.size (at_lt hl1) fun D hD => at_lt (hX1 D hD)) (fun pre T' A B h q => by
      obtain ⟨c, h⟩ := h
      exact ⟨c, jj_abd (hIx c) hb1.size (at_lt hl1) (fun D hD => at_lt (hX1 D hD)) _ _ _ _ h q⟩)
    (fun pre x T1 W hx hJ => round_yield hps hI hIx hlw hround pre x T1 W hx hJ)
    ⟨T, fun _ => Iff.rfl, hI _ _ _ _ h0 (.of_below hb1), .of_below hb1 hTw, fun h => by have := hTw l h; omega, hl1, fun D hD => ⟨(hXw D hD).1, (hXw D hD).2, fun h => by have := hTw D h; have := (hXw D hD).1; omega, hX1 D hD⟩⟩
  refine CallsIn.mono (F := Fence.wide) hit fun e W2 h => ?_
  -- behind the iterator: the record is shut, and a jump that waits is carried out
  have shut : ∀ {st : LoopState} {pe : Option Code} {T1 : BS}, st ≠ .busy → ¬ T1 l → Stp T w T1 W2 → W2.heap[l]? = some (.loop (recOf fn a.tmps ps assign body dfs st pe)) → (∀ D, X = some D → w.heap.size ≤ D ∧ D ≠ l ∧ ¬ T1 D ∧ W2.heap[D]? = some (.deferred (some []))) →
      ∃ W3, (Instr.endLoop l).run P W2 = .ok pe W3 ∧ Qt w.heap.size T1 W2 W3 ∧ Stp T w T1 W3 ∧ ∀ D, X = some D → ¬ T1 D ∧ W3.heap[D]? = some (.deferred (some [])) := fun hb hn hs hl hX =>
    ⟨_, run_endLoop hl hb, .put _ hlw hn, hs.qt (.put _ hlw hn) (Nat.le_refl _), fun D hD => by
      obtain ⟨_, b, c, d⟩ := hX D hD
      exact ⟨c, (World.putObj_heap_other b).trans d⟩⟩
  obtain ⟨⟨v, rfl⟩, T', _, h | ⟨pre, hne, hpre, c, h⟩⟩ := h
  · obtain ⟨T1, _, h2, h3, h4, h5, h6⟩ := h
    obtain ⟨W3, e1, e2, e3, e4⟩ := shut (by simp) h4 h3 h5 h6
    exact ⟨none, W3, e1, hdone T1 W3 (hI _ _ _ _ h2 e2) e3 e4⟩
  · obtain ⟨T1, _, h2, h3, h4, h5, h6⟩ := h
    obtain ⟨W3, e1, e2, e3, e4⟩ := shut (by simp) h4 h3 h5 h6
    exact ⟨some c, W3, e1, hstop c pre T1 W3 hne hpre (hIx c _ _ _ _ h2 e2) e3 e4⟩

/-- **The statement, outermost.** -/
theorem wpIn_range {g : Operand} {Q : Exit → Act → World → Prop} {a : Act} {gf : Nat} {lb : Array Value} (hg : a.eval g = .func (.func gf) #[] lb) (eg : ∀ args w, (callFunc gf args).run P w = .ok (.enter gf args) w)
    {K : BS} (hps : ∀ x, (encs x).size = ps.size) (hseq : ∀ W, Below w.heap.size w W → Gives P gf lb encs xs K W) (hT : ∀ k, T k → k < w.heap.size ∧ ¬ K k) (hK : ∀ k, K k → k < w.heap.size)
    (I : List α → BS → World → Prop) (Ix : Code → List α → BS → World → Prop) (hI : Abd w.heap.size I) (hIx : ∀ c, Abd w.heap.size (Ix c)) (h0 : I [] T w)
    (hround : RoundT P ps assign body a.tmps w T encs xs I Ix)
    (hdone : ∀ D T' W', I xs T' W' → Stp T w T' W' → w.heap.size ≤ D → ¬ T' D → W'.heap[D]? = some (.deferred (some [])) → Q .normal { a with defers := mk D :: a.defers } W')
    (hstop : ∀ D c pre T' W', pre ≠ [] → pre <+: xs → Ix c pre T' W' → Stp T w T' W' → w.heap.size ≤ D → ¬ T' D → W'.heap[D]? = some (.deferred (some [])) → c.wpIn Fence.wide 0 P Q { a with defers := mk D :: a.defers } W') :
    (Code.rangeFunc g ps assign body).wpIn Fence.wide 0 P Q a w :=
  range_core (rd := none) entered_out hg eg hps hseq hT hK hI hIx h0 hround (fun T' W' h1 h2 h3 => hdone _ T' W' h1 h2 (Nat.le_refl _) (h3 _ rfl).1 (h3 _ rfl).2)
    (fun c pre T' W' h1 h2 h3 h4 h5 => hstop _ c pre T' W' h1 h2 h3 h4 (Nat.le_refl _) (h5 _ rfl).1 (h5 _ rfl).2)

/-- **The statement, in a round of loop l₀.** -/
theorem wpIn_rangeIn {l₀ : Nat} {g : Operand} {Q : Exit → Act → World → Prop} {a : Act} {gf : Nat} {lb : Array Value} (hl₀ : ∃ r₀, w.heap[l₀]? = some (.loop r₀)) (hg : a.eval g = .func (.func gf) #[] lb) (eg : ∀ args w, (callFunc gf args).run P w = .ok (.enter gf args) w)
    {K : BS} (hps : ∀ x, (encs x).size = ps.size) (hseq : ∀ W, Below w.heap.size w W → Gives P gf lb encs xs K W) (hT : ∀ k, T k → k < w.heap.size ∧ ¬ K k) (hK : ∀ k, K k → k < w.heap.size)
    (I : List α → BS → World → Prop) (Ix : Code → List α → BS → World → Prop) (hI : Abd w.heap.size I) (hIx : ∀ c, Abd w.heap.size (Ix c)) (h0 : I [] T w)
    (hround : RoundT P ps assign body a.tmps w T encs xs I Ix)
    (hdone : ∀ T' W', I xs T' W' → Stp T w T' W' → Q .normal a W')
    (hstop : ∀ c pre T' W', pre ≠ [] → pre <+: xs → Ix c pre T' W' → Stp T w T' W' → c.wpIn (Fence.wide.inRound l₀) 0 P Q a W') :
    (Code.rangeFunc g ps assign body).wpIn (Fence.wide.inRound l₀) 0 P Q a w := by
  obtain ⟨r₀, hl₀⟩ := hl₀
  exact range_core (rd := some l₀) (entered_in hl₀) hg eg hps hseq hT hK hI hIx h0 hround (fun T' W' h1 h2 _ => hdone T' W' h1 h2) (fun c pre T' W' h1 h2 h3 h4 _ => hstop c pre T' W' h1 h2 h3 h4)
end

/-- The blocks for the rounds' deferred calls are shut, one by one. -/
def Shut (Ds : List Nat) (A B : World) : Prop := Fx A B ∧ ∀ k, k ∉ Ds → B.heap[k]? = A.heap[k]?
theorem leaves_marks {P : Program} {fn : Func} {tmps : Array Value} {R : Ending → World → Prop} : ∀ (Ds : List Nat) (w : World), Ds.Nodup → (∀ D ∈ Ds, w.heap[D]? = some (.deferred (some []))) →
    (∀ w', Shut Ds w w' → ∃ v, (results fn tmps).run P w' = .ok v w' ∧ R (.returned v) w') → LeavesInM Fence.wide 0 P fn tmps R (Ds.map mk) .returning w
  | [], w, _, _, h => h w ⟨.refl _, fun _ _ => rfl⟩
  | D :: Ds, w, hn, hD, h => by
    have h0 := hD D (List.mem_cons_self ..)
    refine ⟨by simp, .inl ⟨D, _, rfl, run_takeDeferred h0, leaves_marks Ds _ (List.nodup_cons.1 hn).2 (fun E hE => ?_) fun w' hw' => h w' ⟨(Fx.put _ _).trans hw'.1, fun k hk => ?_⟩⟩⟩
    · exact (World.putObj_heap_other fun e => (List.nodup_cons.1 hn).1 (by rw [← e]; exact hE)).trans (hD E (List.mem_cons_of_mem _ hE))
    · rw [hw'.2 k fun h => hk (List.mem_cons_of_mem _ h), World.putObj_heap_other fun e => hk (by rw [e]; exact List.mem_cons_self ..)]

end Go.Proofs.Ytkooaechcbopnaa.Rt
