/-
  A range over a function, where the loop's body owns a set of blocks that moves: what the body does not own lies as it lay; what the iterator turns lies above its call and is not the body's; conditions stand at each.
-/
import Derived.RangeFuncNested
import Derived.RangeFuncBound
import Derived.RangeFuncCalls
import Derived.RangeFuncLeaves
import Derived.TacticsInMore
namespace Go.Proofs.Ytcoaloignmkemaa.Rt
open Go Go.RowKit
set_option linter.unusedSimpArgs false
set_option linter.unusedVariables false

/-- A set of blocks. -/
abbrev BS := Nat → Prop
structure Fx (A B : World) : Prop where
  os : B.os = A.os
  tape : B.tape = A.tape
  output : B.output = A.output
  size : A.heap.size ≤ B.heap.size
/-- A step from A, where the body owns T, to B, where it owns T': what is not of T lies as it lay. -/
structure Stp (T : BS) (A : World) (T' : BS) (B : World) : Prop where
  fx : Fx A B
  own : ∀ k, k < A.heap.size → T' k → T k
  lt : ∀ k, T' k → k < B.heap.size
  same : ∀ k, k < A.heap.size → ¬ T k → B.heap[k]? = A.heap[k]?
/-- The iterator's step: what the body owns, and what lay below n, lies as it lay. -/
structure Qt (n : Nat) (T : BS) (A B : World) : Prop where
  fx : Fx A B
  same : ∀ k, k < A.heap.size → (k < n ∨ T k) → B.heap[k]? = A.heap[k]?
/-- What abides such a step. -/
def Abd {β : Type} (n : Nat) (J : β → BS → World → Prop) : Prop := ∀ s T A B, J s T A → Qt n T A B → J s T B

section
variable {A B C W W' W1 w : World} {T T' T1 T2 : BS} {n m : Nat}
theorem Fx.refl (A : World) : Fx A A := ⟨rfl, rfl, rfl, Nat.le_refl _⟩
theorem Fx.trans (h : Fx A B) (k : Fx B C) : Fx A C := ⟨k.os.trans h.os, k.tape.trans h.tape, k.output.trans h.output, Nat.le_trans h.size k.size⟩
theorem Fx.below (h : Below n A B) : Fx A B := ⟨h.os, h.tape, h.output, h.size⟩
theorem Fx.put (l : Nat) (o : Obj) : Fx A (A.putObj l o) := ⟨rfl, rfl, rfl, by simp⟩
theorem Stp.refl (h : ∀ k, T k → k < A.heap.size) : Stp T A T A := ⟨.refl _, fun _ _ h => h, h, fun _ _ _ => rfl⟩
theorem Stp.trans (h : Stp T A T1 B) (k : Stp T1 B T2 C) : Stp T A T2 C :=
  ⟨h.fx.trans k.fx, fun i hi h2 => h.own i hi (k.own i (Nat.lt_of_lt_of_le hi h.fx.size) h2), k.lt,
   fun i hi ht => (k.same i (Nat.lt_of_lt_of_le hi h.fx.size) fun h1 => ht (h.own i hi h1)).trans (h.same i hi ht)⟩
theorem Stp.of_below (h : Below A.heap.size A B) (hT : ∀ k, T k → k < A.heap.size) : Stp T A T B :=
  ⟨.below h, fun _ _ h => h, fun k hk => Nat.lt_of_lt_of_le (hT k hk) h.size, fun k hk _ => h.block k hk⟩
theorem Stp.below_ (h : Stp T A T1 B) (k : Below B.heap.size B C) : Stp T A T1 C := h.trans (.of_below k h.lt)
theorem Stp.below (h : Stp T A T' B) (hn : n ≤ A.heap.size) (hT : ∀ k, T k → n ≤ k) : Below n A B :=
  ⟨h.fx.os, h.fx.tape, h.fx.output, h.fx.size, fun k hk => h.same k (by omega) fun ht => by have := hT k ht; omega⟩
theorem Qt.of_below (h : Below A.heap.size A B) : Qt n T A B := ⟨.below h, fun k hk _ => h.block k hk⟩
theorem Qt.put {l : Nat} (o : Obj) (hl : n ≤ l) (hT : ¬ T l) : Qt n T A (A.putObj l o) :=
  ⟨.put l o, fun k _ h => World.putObj_heap_other fun e => by subst e; rcases h with h | h; omega; exact hT h⟩
theorem Qt.sub (h : Qt n T A B) (hm : m ≤ n) (hT : ∀ k, T1 k → T k) : Qt m T1 A B :=
  ⟨h.fx, fun k hk h1 => h.same k hk (h1.elim (fun h1 => .inl (by omega)) fun h1 => .inr (hT k h1))⟩
theorem Stp.qt (h : Stp T w T1 A) (hq : Qt n T1 A B) (hn : w.heap.size ≤ n) : Stp T w T1 B :=
  ⟨h.fx.trans hq.fx, h.own, fun k hk => Nat.lt_of_lt_of_le (h.lt k hk) hq.fx.size, fun k hk ht => (hq.same k (Nat.lt_of_lt_of_le hk h.fx.size) (.inl (by omega))).trans (h.same k hk ht)⟩
theorem Abd.and {β : Type} {J J' : β → BS → World → Prop} (h : Abd n J) (h' : Abd n J') : Abd n (fun s T W => J s T W ∧ J' s T W) := fun s T A B ⟨a, b⟩ q => ⟨h s T A B a q, h' s T A B b q⟩
theorem Abd.stp {β : Type} (hn : w.heap.size ≤ n) : Abd (β := β) n (fun _ T1 W => Stp T w T1 W) := fun _ _ _ _ h q => h.qt q hn
theorem Abd.false {β : Type} : Abd (β := β) n (fun _ _ _ => False) := fun _ _ _ _ h _ => h
theorem Abd.mono {β : Type} {J : β → BS → World → Prop} (h : Abd n J) (hm : n ≤ m) : Abd m J := fun s T A B j q => h s T A B j (q.sub hm fun _ h => h)
end

/-- A function that is ranged over: it yields xs, one by one, as long as it is asked to; what it reads lies in K, which the body does not own. -/
def Gives {α : Type} (P : Program) (g : Nat) (lb : Array Value) (encs : α → Array Value) (xs : List α) (K : BS) (W : World) : Prop :=
  ∀ (l : Nat) (J Jx : List α → BS → World → Prop) (T : BS), (∀ k, T k → k < W.heap.size ∧ ¬ K k) → Abd W.heap.size J → Abd W.heap.size Jx →
    (∀ pre x T1 W1, pre ++ [x] <+: xs → J pre T1 W1 → YieldAt Fence.wide 0 P l (encs x) W1 fun e W' =>
      ∃ T', Stp T1 W1 T' W' ∧ ((e = .returned (.bool true) ∧ J (pre ++ [x]) T' W') ∨ (e = .returned (.bool false) ∧ Jx (pre ++ [x]) T' W'))) →
    J [] T W →
    CallsIn Fence.wide 0 P g (#[.func (.yield l) #[] #[]] ++ lb) W fun e W' => (∃ v, e = .returned v) ∧ ∃ T', Stp T W T' W' ∧ (J xs T' W' ∨ ∃ pre, pre ≠ [] ∧ pre <+: xs ∧ Jx pre T' W')

/-- How a round may be left. -/
def rPost {α : Type} (I : List α → BS → World → Prop) (Ix : Code → List α → BS → World → Prop) (xs : List α) (T : BS) (W : World) : Exit → Act → World → Prop
  | .normal, _, W' => ∃ T', Stp T W T' W' ∧ I xs T' W'
  | .ret, _, W' => ∃ T', Stp T W T' W' ∧ Ix .ret xs T' W'
  | .exit id, _, W' => ∃ T', Stp T W T' W' ∧ Ix (.exit id) xs T' W'
  | .goto t, _, W' => ∃ T', Stp T W T' W' ∧ Ix (.goto t) xs T' W'
  | .panic _, _, _ => False
  | .outgrown, _, _ => False

/-- The record l is busy now; nothing else has turned. -/
structure Bsy (l : Nat) (A B : World) : Prop where
  os : B.os = A.os
  tape : B.tape = A.tape
  output : B.output = A.output
  size : B.heap.size = A.heap.size
  same : ∀ k, k ≠ l → B.heap[k]? = A.heap[k]?
  loop : ∃ r, B.heap[l]? = some (.loop r)
theorem Bsy.fx {l : Nat} {A B : World} (h : Bsy l A B) : Fx A B := ⟨h.os, h.tape, h.output, Nat.le_of_eq h.size.symm⟩
theorem Bsy.below {l n : Nat} {A B : World} (h : Bsy l A B) (hn : n ≤ l) : Below n A B := ⟨h.os, h.tape, h.output, Nat.le_of_eq h.size.symm, fun k hk => h.same k (by omega)⟩
theorem Bsy.qt {l n : Nat} {T : BS} {A B : World} (h : Bsy l A B) (hn : n ≤ l) (hT : ¬ T l) : Qt n T A B :=
  ⟨h.fx, fun k _ h1 => h.same k fun e => by subst e; rcases h1 with h1 | h1; omega; exact hT h1⟩

/-- What a round is asked for: the assign code lays blocks only; then the body. -/
def RoundT {α : Type} (P : Program) (ps : Array Tmp) (assign body : Code) (tm : Array Value) (w : World) (T : BS) (encs : α → Array Value) (xs : List α) (I : List α → BS → World → Prop) (Ix : Code → List α → BS → World → Prop) : Prop :=
  ∀ (l : Nat) (pre : List α) (x : α) (T1 : BS) (W : World), pre ++ [x] <+: xs → I pre T1 W → Stp T w T1 W → ¬ T1 l → w.heap.size ≤ l → (∃ r, W.heap[l]? = some (.loop r)) →
    ∀ C : Act → World → Prop, (∀ a' W', Below W.heap.size W W' → (∀ W'', Bsy l W' W'' → body.wpIn (Fence.wide.inRound l) 0 P (rPost I Ix (pre ++ [x]) T1 W'') a' W'') → C a' W') →
      assign.wpIn (Fence.wide.inRound l) 0 P (Exit.then C (fun _ _ _ => False)) { tmps := (ps.zip (encs x)).foldl (fun t (p, v) => t.setIfInBounds p v) tm, defers := [] } W

section
variable {α : Type} {P : Program} {ps : Array Tmp} {assign body : Code} {tm : Array Value} {w : World} {T : BS} {encs : α → Array Value} {xs : List α} {I : List α → BS → World → Prop} {Ix : Code → List α → BS → World → Prop}

/-- The invariant with the book-keeping beside it. -/
def JJ (w : World) (T : BS) (r : Loop) (l : Nat) (X : Option Nat) (I : List α → BS → World → Prop) (pre : List α) (T' : BS) (W : World) : Prop :=
  ∃ T1, (∀ k, T' k ↔ T1 k ∨ k = l) ∧ I pre T1 W ∧ Stp T w T1 W ∧ ¬ T1 l ∧ W.heap[l]? = some (.loop r) ∧ ∀ D, X = some D → w.heap.size ≤ D ∧ D ≠ l ∧ ¬ T1 D ∧ W.heap[D]? = some (.deferred (some []))
theorem jj_abd {r : Loop} {l n : Nat} {X : Option Nat} (hI : Abd w.heap.size I) (hw : w.heap.size ≤ n) (hl : l < n) (hX : ∀ D, X = some D → D < n) : Abd n (JJ w T r l X I) := by
  rintro pre T' A B ⟨T1, h1, h2, h3, h4, h5, h6⟩ q
  have q1 : Qt n T1 A B := q.sub (Nat.le_refl _) fun k hk => (h1 k).2 (.inl hk)
  refine ⟨T1, h1, hI _ _ _ _ h2 (q1.sub hw fun _ h => h), h3.qt q1 hw, h4, ?_, fun D hD => ?_⟩
  · exact (q.same l (lt_of_some h5) (.inl hl)).trans h5
  · obtain ⟨a, b, c, d⟩ := h6 D hD
    exact ⟨a, b, c, (q.same D (lt_of_some d) (.inl (hX D hD))).trans d⟩
where lt_of_some {A : World} {l : Nat} {o : Obj} (h : A.heap[l]? = some o) : l < A.heap.size := (Array.getElem?_eq_some_iff.1 h).1

theorem lt_some {A : World} {l : Nat} {o : Obj} (h : A.heap[l]? = some o) : l < A.heap.size := (Array.getElem?_eq_some_iff.1 h).1

/-- One round. -/
theorem round_yield {fn : FuncId} {dfs l : Nat} {X : Option Nat} (hps : ∀ x, (encs x).size = ps.size) (hI : Abd w.heap.size I) (hIx : ∀ c, Abd w.heap.size (Ix c)) (hlw : w.heap.size ≤ l)
    (hr : RoundT P ps assign body tm w T encs xs I Ix) {rec : LoopState → Option Code → Loop} (hrec : rec = fun st pe => { state := st, pending := pe, fn, tmps := tm, params := ps, assign, body, defers := dfs })
    (pre : List α) (x : α) (T' : BS) (W : World) (hx : pre ++ [x] <+: xs) (hJ : JJ w T (rec .ready none) l X I pre T' W) :
    YieldAt Fence.wide 0 P l (encs x) W fun e W' => ∃ T'', Stp T' W T'' W' ∧
      ((e = .returned (.bool true) ∧ JJ w T (rec .ready none) l X I (pre ++ [x]) T'' W') ∨ (e = .returned (.bool false) ∧ ∃ c, JJ w T (rec .done (some c)) l X (Ix c) (pre ++ [x]) T'' W')) := by
  obtain ⟨T1, hT, hi, hst, hnl, hl, hX⟩ := hJ
  have hy := run_yield (P := P) (args := encs x) hl (by rw [hrec]; exact hps x)
  rw [hrec] at hy
  refine ⟨fn, _, assign, body, hy, roundIn_of_wpIn trivial (hr l pre x T1 W hx hi hst hnl hlw ⟨_, hl⟩ _ ?_)⟩
  clear hy
  intro a' Wa hba hbody
  have hla : Wa.heap[l]? = some (.loop (rec .ready none)) := (hba.block l (lt_some hl)).trans hl
  have hlt := lt_some hla
  refine ⟨_, run_beginRound hla (by rw [hrec]), ?_⟩
  have hl2 : (Wa.putObj l (.loop { rec .ready none with state := .busy })).heap[l]? = some (.loop { rec .ready none with state := .busy }) := World.putObj_heap_same hlt
  refine wpIn_mono (hbody _ ⟨rfl, rfl, rfl, by simp, fun k hk => World.putObj_heap_other hk, _, hl2⟩) ?_
  have hstep : ∀ {T2 : BS} {W3 : World} (o : Obj), Stp T1 (Wa.putObj l (.loop { rec .ready none with state := .busy })) T2 W3 → Stp T' W (fun k => T2 k ∨ k = l) (W3.putObj l o) ∧ Stp T w T2 (W3.putObj l o) ∧ ¬ T2 l ∧
      (∀ D, X = some D → w.heap.size ≤ D ∧ D ≠ l ∧ ¬ T2 D ∧ (W3.putObj l o).heap[D]? = some (.deferred (some []))) ∧ W3.heap[l]? = some (.loop { rec .ready none with state := .busy }) := by
    intro T2 W3 o hs
    have hsz : (Wa.putObj l (.loop { rec .ready none with state := .busy })).heap.size = Wa.heap.size := by simp
    have hn2 : ¬ T2 l := fun h => hnl (hs.own l (by rw [hsz]; exact hlt) h)
    have hlt1 : ∀ k, T1 k → k < W.heap.size := hst.lt
    have fxa : Fx W (W3.putObj l o) := ((Fx.below hba).trans ((Fx.put l _).trans hs.fx)).trans (.put l o)
    have hsame : ∀ k, k < W.heap.size → ¬ T1 k → k ≠ l → (W3.putObj l o).heap[k]? = W.heap[k]? := fun k hk hn hne => by
      rw [World.putObj_heap_other hne, hs.same k (by rw [hsz]; exact Nat.lt_of_lt_of_le hk hba.size) hn, World.putObj_heap_other hne, hba.block k hk]
    have hown : ∀ k, k < W.heap.size → T2 k → T1 k := fun k hk h => hs.own k (by rw [hsz]; exact Nat.lt_of_lt_of_le hk hba.size) h
    have hl3 := (hs.same l (by rw [hsz]; exact hlt) hnl).trans hl2
    refine ⟨⟨fxa, fun k hk h => (hT k).2 (h.imp (hown k hk) id), fun k h => ?_, fun k hk h => hsame k hk (fun h1 => h ((hT k).2 (.inl h1))) fun h1 => h ((hT k).2 (.inr h1))⟩, ⟨hst.fx.trans fxa, fun k hk h => hst.own k hk (hown k (Nat.lt_of_lt_of_le hk hst.fx.size) h), fun k h => by simpa using hs.lt k h, fun k hk h => ?_⟩, hn2, fun D hD => ?_, hl3⟩
    · rcases h with h | h
      · simpa using hs.lt k h
      · subst h
        simpa using lt_some hl3
    · have hkW := Nat.lt_of_lt_of_le hk hst.fx.size
      exact (hsame k hkW (fun h1 => h (hst.own k hk h1)) (by omega)).trans (hst.same k hk h)
    · obtain ⟨a, b, c, d⟩ := hX D hD
      exact ⟨a, b, fun h => c (hown D (lt_some d) h), (hsame D (lt_some d) c b).trans d⟩
  have fin : ∀ (jump : Option Code) (W3 : World), W3.heap[l]? = some (.loop { rec .ready none with state := .busy }) →
      (Instr.endRound l jump).run P W3 = .ok (.bool jump.isNone) (W3.putObj l (.loop (rec (if jump.isNone then .ready else .done) jump))) := fun jump W3 hl3 => by
    have := run_endRound (P := P) jump hl3
    rw [hrec] at this ⊢
    exact this
  rintro e a3 W3 hp
  have jump : ∀ c : Code, (∃ T2, Stp T1 (Wa.putObj l (.loop { rec .ready none with state := .busy })) T2 W3 ∧ Ix c (pre ++ [x]) T2 W3) → ∃ v w', (Instr.endRound l (some c)).run P W3 = .ok v w' ∧ ∃ T'', Stp T' W T'' w' ∧
      ((Ending.returned v = .returned (.bool true) ∧ JJ w T (rec .ready none) l X I (pre ++ [x]) T'' w') ∨ (Ending.returned v = .returned (.bool false) ∧ ∃ c, JJ w T (rec .done (some c)) l X (Ix c) (pre ++ [x]) T'' w')) := by
    rintro c ⟨T2, hs, hi3⟩
    obtain ⟨q1, q2, q3, q4, q5⟩ := hstep (.loop (rec .done (some c))) hs
    exact ⟨_, _, fin (some c) W3 q5, _, q1, .inr ⟨rfl, c, T2, fun k => Iff.rfl, (hIx c) _ _ _ _ hi3 (.put _ hlw q3), q2, q3, World.putObj_heap_same (lt_some q5), q4⟩⟩
  cases e with
  | normal =>
    obtain ⟨T2, hs, hi3⟩ := hp
    obtain ⟨q1, q2, q3, q4, q5⟩ := hstep (.loop (rec .ready none)) hs
    exact ⟨_, _, fin none W3 q5, _, q1, .inl ⟨rfl, T2, fun k => Iff.rfl, hI _ _ _ _ hi3 (.put _ hlw q3), q2, q3, World.putObj_heap_same (lt_some q5), q4⟩⟩
  | ret => exact jump _ hp
  | exit id => exact jump _ hp
  | goto t => exact jump _ hp
  | panic ch => exact hp.elim
  | outgrown => exact hp.elim

/-- The mark on an activation's deferred calls. -/
abbrev mk (D : Nat) : Deferred := { target := .collected D, args := #[] }

/-- **The statement, outermost.** -/
theorem wpIn_range {g : Operand} {Q : Exit → Act → World → Prop} {a : Act} {gf : Nat} {lb : Array Value} (hg : a.eval g = .func (.func gf) #[] lb) (eg : ∀ args w, (callFunc gf args).run P w = .ok (.enter gf args) w)
    {K : BS} (hps : ∀ x, (encs x).size = ps.size) (hseq : ∀ W, Below w.heap.size w W → Gives P gf lb encs xs K W) (hT : ∀ k, T k → k < w.heap.size ∧ ¬ K k) (hK : ∀ k, K k → k < w.heap.size)
    (I : List α → BS → World → Prop) (Ix : Code → List α → BS → World → Prop) (hI : Abd w.heap.size I) (hIx : ∀ c, Abd w.heap.size (Ix c)) (h0 : I [] T w)
    (hround : RoundT P ps assign body a.tmps w T encs xs I Ix)
    (hdone : ∀ D T' W', I xs T' W' → Stp T w T' W' → w.heap.size ≤ D → ¬ T' D → W'.heap[D]? = some (.deferred (some [])) → Q .normal { a with defers := mk D :: a.defers } W')
    (hstop : ∀ D c pre T' W', pre ≠ [] → pre <+: xs → Ix c pre T' W' → Stp T w T' W' → w.heap.size ≤ D → ¬ T' D → W'.heap[D]? = some (.deferred (some [])) → c.wpIn Fence.wide 0 P Q { a with defers := mk D :: a.defers } W') :
    (Code.rangeFunc g ps assign body).wpIn Fence.wide 0 P Q a w := by
  refine wpIn_rangeFunc ?_
  intro fn hfn
  rw [show Fence.wide.round = none from rfl]
  obtain ⟨rec, hrec⟩ : ∃ rec : LoopState → Option Code → Loop, rec = fun st pe => { state := st, pending := pe, fn, tmps := a.tmps, params := ps, assign, body, defers := w.heap.size } := ⟨_, rfl⟩
  obtain ⟨W1, hW1⟩ : ∃ W1, (w.alloc (.deferred (some []))).alloc (.loop (rec .ready none)) = W1 := ⟨_, rfl⟩
  have hs1 : W1.heap.size = w.heap.size + 2 := by rw [← hW1]; simp
  have hL1 : W1.heap[w.heap.size + 1]? = some (.loop (rec .ready none)) := by
    rw [← hW1]; have := World.alloc_heap_new (w.alloc (.deferred (some []))) (.loop (rec .ready none)); rwa [World.size_alloc] at this
  have hK1 : W1.heap[w.heap.size]? = some (.deferred (some [])) := by
    rw [← hW1]; exact (Below.heap_alloc _ _ _ (by simp)).trans (World.alloc_heap_new w _)
  have hb1 : Below w.heap.size w W1 := by
    rw [← hW1]; exact ((Below.refl _ w).alloc (Nat.le_refl _) _).alloc (by simp) _
  have hTw : ∀ k, T k → k < w.heap.size := fun k hk => (hT k hk).1
  have hst1 : Stp T w T W1 := .of_below hb1 hTw
  refine ⟨w.heap.size + 1, [mk w.heap.size], W1, { target := .fn (.func gf) lb, args := #[.func (.yield (w.heap.size + 1)) #[] #[]] }, W1, gf,
    #[.func (.yield (w.heap.size + 1)) #[] #[]] ++ lb, W1, ?_, ?_, ?_, ?_, (by intro h; cases h), ?_⟩
  · rw [← hW1, hrec]; exact run_enterLoop_outer _ _ _ _ _
  · simp only [resolve, hg]
    simp [go_sem]
  · intro f' hf'; trivial
  · simp [invoke, go_sem, eg]
  · refine (hseq W1 hb1 (w.heap.size + 1) (JJ w T (rec .ready none) (w.heap.size + 1) (some w.heap.size) I) (fun pre T' W => ∃ c, JJ w T (rec .done (some c)) (w.heap.size + 1) (some w.heap.size) (Ix c) pre T' W)
      (fun k => T k ∨ k = w.heap.size + 1) ?_ (jj_abd hI (by omega) (by omega) (fun D hD => by cases hD; omega)) ?_ ?_ ?_).mono ?_
    · rintro k (hk | rfl)
      · exact ⟨by have := hTw k hk; omega, (hT k hk).2⟩
      · exact ⟨by omega, fun h => by have := hK _ h; omega⟩
    · rintro pre T' A B ⟨c, h⟩ q
      exact ⟨c, jj_abd (hIx c) (by omega) (by omega) (fun D hD => by cases hD; omega) _ _ _ _ h q⟩
    · intro pre x T1 W hx hJ
      exact round_yield hps hI hIx (by omega) hround hrec pre x T1 W hx hJ
    · exact ⟨T, fun k => Iff.rfl, hI _ _ _ _ h0 (.of_below hb1), hst1, fun h => by have := hTw _ h; omega, hL1, fun D hD => by cases hD; exact ⟨Nat.le_refl _, by omega, fun h => by have := hTw _ h; omega, hK1⟩⟩
    · rintro e W2 ⟨⟨v, rfl⟩, T', hst, (⟨T1, h1, h2, h3, h4, h5, h6⟩ | ⟨pre, hne, hpre, c, T1, h1, h2, h3, h4, h5, h6⟩)⟩
      · obtain ⟨d1, d2, d3, d4⟩ := h6 _ rfl
        exact ⟨none, _, by have := run_endLoop (P := P) h5 (by rw [hrec]; simp); rw [hrec] at this; exact this, hdone _ T1 _ (hI _ _ _ _ h2 (.put _ (by omega) h4)) (h3.qt (.put _ (Nat.le_succ _) h4) (Nat.le_refl _)) (Nat.le_refl _) d3 ((World.putObj_heap_other d2).trans d4)⟩
      · obtain ⟨d1, d2, d3, d4⟩ := h6 _ rfl
        exact ⟨some c, _, by have := run_endLoop (P := P) h5 (by rw [hrec]; simp); rw [hrec] at this; exact this, hstop _ c pre T1 _ hne hpre (hIx c _ _ _ _ h2 (.put _ (by omega) h4)) (h3.qt (.put _ (Nat.le_succ _) h4) (Nat.le_refl _)) (Nat.le_refl _) d3 ((World.putObj_heap_other d2).trans d4)⟩

/-- **The statement, in a round of loop l₀.** -/
theorem wpIn_rangeIn {l₀ : Nat} {g : Operand} {Q : Exit → Act → World → Prop} {a : Act} {gf : Nat} {lb : Array Value} (hl₀ : ∃ r₀, w.heap[l₀]? = some (.loop r₀)) (hg : a.eval g = .func (.func gf) #[] lb) (eg : ∀ args w, (callFunc gf args).run P w = .ok (.enter gf args) w)
    {K : BS} (hps : ∀ x, (encs x).size = ps.size) (hseq : ∀ W, Below w.heap.size w W → Gives P gf lb encs xs K W) (hT : ∀ k, T k → k < w.heap.size ∧ ¬ K k) (hK : ∀ k, K k → k < w.heap.size)
    (I : List α → BS → World → Prop) (Ix : Code → List α → BS → World → Prop) (hI : Abd w.heap.size I) (hIx : ∀ c, Abd w.heap.size (Ix c)) (h0 : I [] T w)
    (hround : RoundT P ps assign body a.tmps w T encs xs I Ix)
    (hdone : ∀ T' W', I xs T' W' → Stp T w T' W' → Q .normal a W')
    (hstop : ∀ c pre T' W', pre ≠ [] → pre <+: xs → Ix c pre T' W' → Stp T w T' W' → c.wpIn (Fence.wide.inRound l₀) 0 P Q a W') :
    (Code.rangeFunc g ps assign body).wpIn (Fence.wide.inRound l₀) 0 P Q a w := by
  obtain ⟨r₀, hl₀⟩ := hl₀
  refine wpIn_rangeFunc ?_
  intro fn hfn
  rw [show (Fence.wide.inRound l₀).round = some l₀ from rfl]
  obtain ⟨rec, hrec⟩ : ∃ rec : LoopState → Option Code → Loop, rec = fun st pe => { state := st, pending := pe, fn, tmps := a.tmps, params := ps, assign, body, defers := r₀.defers } := ⟨_, rfl⟩
  obtain ⟨W1, hW1⟩ : ∃ W1, w.alloc (.loop (rec .ready none)) = W1 := ⟨_, rfl⟩
  have hs1 : W1.heap.size = w.heap.size + 1 := by rw [← hW1]; simp
  have hL1 : W1.heap[w.heap.size]? = some (.loop (rec .ready none)) := by rw [← hW1]; exact World.alloc_heap_new w _
  have hb1 : Below w.heap.size w W1 := by rw [← hW1]; exact (Below.refl _ w).alloc (Nat.le_refl _) _
  have hTw : ∀ k, T k → k < w.heap.size := fun k hk => (hT k hk).1
  have hst1 : Stp T w T W1 := .of_below hb1 hTw
  refine ⟨w.heap.size, [], W1, { target := .fn (.func gf) lb, args := #[.func (.yield w.heap.size) #[] #[]] }, W1, gf,
    #[.func (.yield w.heap.size) #[] #[]] ++ lb, W1, ?_, ?_, ?_, ?_, (by intro h; cases h), ?_⟩
  · rw [← hW1, hrec]; exact run_enterLoop_inner hl₀ _ _ _ _ _
  · simp only [resolve, hg]
    simp [go_sem]
  · intro f' hf'; trivial
  · simp [invoke, go_sem, eg]
  · refine CallsIn.mono (F := Fence.wide) (hseq W1 hb1 w.heap.size (JJ w T (rec .ready none) w.heap.size none I) (fun pre T' W => ∃ c, JJ w T (rec .done (some c)) w.heap.size none (Ix c) pre T' W)
      (fun k => T k ∨ k = w.heap.size) ?_ (jj_abd hI (by omega) (by omega) (fun D hD => by cases hD)) ?_ ?_ ?_) ?_
    · rintro k (hk | rfl)
      · exact ⟨by have := hTw k hk; omega, (hT k hk).2⟩
      · exact ⟨by omega, fun h => by have := hK _ h; omega⟩
    · rintro pre T' A B ⟨c, h⟩ q
      exact ⟨c, jj_abd (hIx c) (by omega) (by omega) (fun D hD => by cases hD) _ _ _ _ h q⟩
    · intro pre x T1 W hx hJ
      exact round_yield hps hI hIx (by omega) hround hrec pre x T1 W hx hJ
    · exact ⟨T, fun k => Iff.rfl, hI _ _ _ _ h0 (.of_below hb1), hst1, fun h => by have := hTw _ h; omega, hL1, fun D hD => by cases hD⟩
    · rintro e W2 ⟨⟨v, rfl⟩, T', hst, (⟨T1, h1, h2, h3, h4, h5, h6⟩ | ⟨pre, hne, hpre, c, T1, h1, h2, h3, h4, h5, h6⟩)⟩
      · exact ⟨none, _, by have := run_endLoop (P := P) h5 (by rw [hrec]; simp); rw [hrec] at this; exact this, hdone T1 _ (hI _ _ _ _ h2 (.put _ (by omega) h4)) (h3.qt (.put _ (Nat.le_refl _) h4) (Nat.le_refl _))⟩
      · exact ⟨some c, _, by have := run_endLoop (P := P) h5 (by rw [hrec]; simp); rw [hrec] at this; exact this, hstop c pre T1 _ hne hpre (hIx c _ _ _ _ h2 (.put _ (by omega) h4)) (h3.qt (.put _ (Nat.le_refl _) h4) (Nat.le_refl _))⟩
end

/-- The blocks for the rounds' deferred calls are shut, one by one. -/
def Shut (Ds : List Nat) (A B : World) : Prop := Fx A B ∧ ∀ k, k ∉ Ds → B.heap[k]? = A.heap[k]?
theorem leaves_marks {P : Program} {fn : Func} {tmps : Array Value} {R : Ending → World → Prop} : ∀ (Ds : List Nat) (w : World), Ds.Nodup → (∀ D ∈ Ds, w.heap[D]? = some (.deferred (some []))) →
    (∀ w', Shut Ds w w' → ∃ v, (results fn tmps).run P w' = .ok v w' ∧ R (.returned v) w') → LeavesInM Fence.wide 0 P fn tmps R (Ds.map mk) .returning w
  | [], w, _, _, h => h w ⟨.refl _, fun _ _ => rfl⟩
  | D :: Ds, w, hn, hD, h => by
    have h0 := hD D (List.mem_cons_self ..)
    refine ⟨by simp, .inl ⟨D, _, rfl, run_takeDeferred h0, leaves_marks Ds _ (List.nodup_cons.1 hn).2 (fun E hE => ?_) fun w' hw' => h w' ⟨(Fx.put _ _).trans hw'.1, fun k hk => ?_⟩⟩⟩
    · exact (World.putObj_heap_other fun e => (List.nodup_cons.1 hn).1 (by rw [← e]; exact hE)).trans (hD E (List.mem_cons_of_mem _ hE))
    · rw [hw'.2 k fun h => hk (List.mem_cons_of_mem _ h), World.putObj_heap_other fun e => hk (by rw [e]; exact List.mem_cons_self ..)]

end Go.Proofs.Ytcoaloignmkemaa.Rt
