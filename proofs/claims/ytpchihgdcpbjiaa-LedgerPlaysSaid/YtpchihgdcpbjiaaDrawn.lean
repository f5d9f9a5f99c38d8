/-
  A statement that draws its order and holds calls that make memory: one walk, in an order that the prover gives, serves every order; conditions: each call, allocation or store waits for the one before it, and every other operation yields its value in each later world.
-/
import Derived.Test.YtpchihgdcpbjiaaProg
import Derived.WalkKit
import Derived.OrdersHeld
import Derived.Lib.QuietBelow
import Derived.BigQuiet
namespace Go.Proofs.Ytpchihgdcpbjiaa
open Go Go.RowKit Go.Sort
set_option linter.unusedSimpArgs false

/-- The worlds behind w: whatever was drawn, whatever blocks were laid behind. -/
def Later (w w' : World) : Prop := ∃ p : Regrown, w' = grow (redrawn w p.d) p.os
theorem later_iff {w w' : World} : Later w w' ↔ Below w.heap.size w w' := ⟨fun ⟨p, h⟩ => h ▸ below_regrown w p.d p.os, regrown_of_below⟩
theorem Later.refl (w : World) : Later w w := later_iff.2 (Below.refl _ _)
theorem Later.trans {a b c : World} (h : Later a b) (k : Later b c) : Later a c := by
  rw [later_iff] at *
  exact h.trans (k.mono h.size)

section
variable {P : Program} {ops : Array Oper} {Q : Exit → Act → World → Prop} {md : Region.Mode}

/-- Whatever order is picked from here on, and each operation leaves a later world. -/
def wpAnyG (P : Program) (md : Region.Mode) (ops : Array Oper) (Q : Exit → Act → World → Prop) : Nat → Array Bool → Act → World → Prop
  | 0, listed, a, w => Region.ready md ops listed = [] ∧ Q .normal a w
  | fuel + 1, listed, a, w =>
    (Region.ready md ops listed = [] → Q .normal a w) ∧
    ∀ i ∈ Region.ready md ops listed, wpOp P ops Q i (fun a' w' => Later w w' ∧ wpAnyG P md ops Q fuel (listed.setIfInBounds i true) a' w') a w

theorem wpAny_of_G : ∀ (fuel : Nat) (listed : Array Bool) (a : Act) (w : World), wpAnyG P md ops Q fuel listed a w → wpAny P md ops Q fuel listed a w
  | 0, _, _, _, h => h
  | fuel + 1, _, _, _, h => ⟨h.1, fun i hi => wpOp_mono (fun a' w' h' => wpAny_of_G fuel _ a' w' h'.2) (h.2 i hi)⟩

theorem wpAnyG_first {i : Nat} {oi : Oper} {v : Value} {w0 : World} (hi : ops[i]? = some oi) (hsel : ∀ (j : Nat) (o : Oper) cs b, ops[j]? = some o → o.op ≠ .select cs b)
    (hQ : ∀ c a w, Q (.panic c) (a.put oi.dst v) w → Q (.panic c) a w) :
    ∀ (fuel : Nat) (listed : Array Bool) (a : Act) (w : World),
      (∀ j oj, ops[j]? = some oj → j ≠ i → listed.getD j true = false → (∀ e ∈ oj.after, Region.binds md e = true → e.on ≠ i) → oi.apart ops oj = true) →
      i ∈ Region.ready md ops listed → YieldsIf P ops (Later w0) oi v a → Later w0 w →
      wpAnyG P md ops Q fuel (listed.setIfInBounds i true) (a.put oi.dst v) w → wpAnyG P md ops Q (fuel + 1) listed a w := by
  intro fuel
  induction fuel with
  | zero =>
    intro listed a w _ hr hy hS H
    refine ⟨fun h => (by rw [h] at hr; cases hr), fun j hj => ?_⟩
    by_cases hji : j = i
    · subst hji; exact hy.wpOp hi hS ⟨Later.refl w, H⟩
    · have := ready_mono hj hji
      rw [H.1] at this
      cases this
  | succ fuel ih =>
    intro listed a w hfree hr hy hS H
    refine ⟨fun h => (by rw [h] at hr; cases hr), fun j hj => ?_⟩
    by_cases hji : j = i
    · subst hji; exact hy.wpOp hi hS ⟨Later.refl w, H⟩
    · have h1 := H.2 j (ready_mono hj hji)
      obtain ⟨hjun, oj, hoj, hall⟩ := mem_ready.1 hj
      have hnot : ∀ e ∈ oj.after, Region.binds md e = true → e.on ≠ i := fun e he hb heq => by
        have h1 := hall e he hb
        have h0 := (mem_ready.1 hr).1
        rw [heq] at h1
        rcases Nat.lt_or_ge i listed.size with h' | h'
        · simp [h'] at h0 h1; rw [h0] at h1; cases h1
        · simp [Array.getElem?_eq_none h'] at h1
      have h2 := wpOp_putIf hoj (hfree j oj hoj hji hjun hnot) (fun cs b => hsel i oi cs b hi) (fun cs b => hsel j oj cs b hoj) hQ hy h1
      have hfree' : ∀ k ok, ops[k]? = some ok → k ≠ i → (listed.setIfInBounds j true).getD k true = false →
          (∀ e ∈ ok.after, Region.binds md e = true → e.on ≠ i) → oi.apart ops ok = true := fun k ok hk hki hun hno => by
        refine hfree k ok hk hki ?_ hno
        by_cases hjk : j = k
        · subst hjk; exact hjun
        · rw [getD_set_ne true hjk] at hun; exact hun
      refine wpOp_mono (fun a' w' h3 => ⟨h3.2.1, ih (listed.setIfInBounds j true) a' w' hfree' (ready_mono hr (Ne.symm hji)) h3.1 (hS.trans h3.2.1) ?_⟩) h2
      rw [Array.setIfInBounds_comm _ _ hji]
      exact h3.2.2

/-- What may be taken as it comes: no call of a Go function, no store. -/
def lightOp (o : Oper) : Bool := match o.op with
  | .call c => match c.callee with
    | .builtin .len | .builtin .cap | .builtin .min | .builtin .max => true
    | _ => false
  | .go _ | .defer _ | .send .. | .recv .. | .select .. | .store .. | .ready _ | .mapUpdate .. | .insert .. | .entryStore .. => false
  | _ => true

def Result.isVal : Result Next → Prop
  | .ok (.value _) _ => True
  | .ok _ _ => False
  | .halt _ _ => True
theorem andThen_isVal (r : Result Value) : Result.isVal (r.andThen fun a w' => Result.ok (Next.value a) w') := by
  cases r <;> simp [Result.andThen, Result.isVal]
theorem value_isVal (s : Sem Value) (w : World) : Result.isVal (((do pure (Next.value (← s))) : Sem Next).run P w) := by
  simp only [Sem.run_bind]
  cases s.run P w <;> simp [Result.andThen, Result.isVal]

theorem light_isVal {ρ : Operand → Value} {o : Oper} (h : lightOp o = true) (w : World) : Result.isVal ((execOp ρ o).run P w) := by
  unfold lightOp at h
  unfold execOp
  split <;> rename_i heq <;> simp only [heq] at h <;> try (first | exact value_isVal _ _ | (simp [Result.isVal]; done) | (cases h; done))
  · simp only [Sem.run_bind]
    cases (asBool (ρ _)).run P w <;> simp [Result.andThen, Result.isVal]
  · dsimp only
    split
    · simp [runtimePanic, goPanic, Result.isVal]
    · simp [runtimePanic, goPanic, Result.isVal]
    · simp [runtimePanic, goPanic, Result.isVal]
    · split
      · simp [runtimePanic, goPanic, Result.isVal]
      · simp only [Sem.run_bind]
        cases (program).run P w with
        | halt _ _ => simp [Result.andThen, Result.isVal]
        | ok p w1 =>
          simp only [Result.andThen]
          cases (nilAhead _ _ _ _).run P w1 with
          | halt _ _ => simp [Result.andThen, Result.isVal]
          | ok b w2 =>
            simp only [Result.andThen]
            split <;> simp [unsupported, Result.andThen, Result.isVal]
      · simp [Result.isVal]
    · simp [Result.isVal]
  · split at h
    case h_5 => cases h
    all_goals
      rename_i hc
      dsimp only
      simp only [resolve, hc, Sem.run_bind, Sem.run_pure, Result.andThen_ok, invoke, builtin]
      exact andThen_isVal _

/-- A light operation that is quiet in every later world. -/
theorem yieldsIf_of_qOp {i : Nat} {o : Oper} {a : Act} {w : World} {K : Act → Prop} (hi : ops[i]? = some o) (hl : lightOp o = true) (h : qOp P ops (Later w) i K a) :
    ∃ v, YieldsIf P ops (Later w) o v a ∧ K (a.put o.dst v) := by
  obtain ⟨v, hy, hk⟩ := yieldsIn_of_qOp hi h
  refine ⟨v, ?_, hk⟩
  rcases hy with ⟨hw, hv⟩ | h
  · refine .inl ⟨hw, fun w' hw' => ?_⟩
    have h1 := hv w' hw'
    have h2 := light_isVal (P := P) (ρ := a.eval) hl w'
    unfold Oper.quietAt at h1
    generalize (execOp a.eval o).run P w' = r at *
    cases r with
    | ok n w'' => cases n <;> simp only [Oper.quietUpon, Result.isVal] at h1 h2 <;> first | (obtain ⟨rfl, rfl⟩ := h1; rfl) | exact h2.elim
    | halt x w'' => simp only [Oper.quietUpon] at h1
  · exact .inr h

/-- The order is one that the region allows: the light ones may come up and are apart; each other one comes up alone. -/
def segB (md : Region.Mode) (ops : Array Oper) : List Nat → Array Bool → Bool × Array Bool
  | [], listed => (true, listed)
  | i :: r, listed =>
    let x := segB md ops r (listed.setIfInBounds i true)
    ((Region.ready md ops listed).contains i && Region.free md ops listed i && (match ops[i]? with | some o => lightOp o | none => false) && x.1, x.2)
def segsB (md : Region.Mode) (ops : Array Oper) (last : List Nat) : List (List Nat × Nat) → Array Bool → Bool
  | [], listed => let x := segB md ops last listed; x.1 && (Region.ready md ops x.2).isEmpty
  | (fl, i) :: r, listed => let x := segB md ops fl listed; x.1 && (Region.ready md ops x.2 == [i]) && segsB md ops last r (x.2.setIfInBounds i true)
def segsLen (last : List Nat) : List (List Nat × Nat) → Nat
  | [] => last.length
  | (fl, _) :: r => fl.length + (segsLen last r + 1)

/-- The operations of these numbers. -/
def pick (l : List Oper) : List Nat → List Oper
  | [] => []
  | i :: r => match l[i]? with
    | some o => o :: pick l r
    | none => pick l r

/-- The walk: light ones in every later world, then one that may change the world, and so on. -/
def wpSegs (P : Program) (l : List Oper) (Q : Exit → Act → World → Prop) (last : List Nat) : List (List Nat × Nat) → Act → World → Prop
  | [], a, w => wpQuiet P l.toArray (fun w' => ∃ p : Regrown, w' = grow (redrawn w p.d) p.os) (fun a' => Q .normal a' w) (pick l last) a
  | (fl, i) :: r, a, w => wpQuiet P l.toArray (fun w' => ∃ p : Regrown, w' = grow (redrawn w p.d) p.os)
      (fun a' => wpOp P l.toArray Q i (fun a'' w'' => Below w.heap.size w w'' ∧ wpSegs P l Q last r a'' w'') a' w) (pick l fl) a

theorem seg_sound {l : List Oper} {w : World} (hs : Region.noSelect l.toArray = true) (hQ : ∀ c (a : Act) d v w, Q (.panic c) (a.put d v) w → Q (.panic c) a w) {K : Act → Prop} {fuel : Nat} :
    ∀ (fl : List Nat) (listed : Array Bool) (a : Act), (segB md l.toArray fl listed).1 = true → wpQuiet P l.toArray (fun w' => ∃ p : Regrown, w' = grow (redrawn w p.d) p.os) K (pick l fl) a →
      (∀ a', K a' → wpAnyG P md l.toArray Q fuel (segB md l.toArray fl listed).2 a' w) → wpAnyG P md l.toArray Q (fl.length + fuel) listed a w
  | [], listed, a, _, h, hk => by
    have := hk a h
    simpa [segB] using this
  | i :: fl, listed, a, hB, h, hk => by
    simp only [segB, Bool.and_eq_true] at hB
    obtain ⟨⟨⟨hr, hf⟩, hl⟩, hB'⟩ := hB
    cases ho : l[i]? with
    | none => simp [ho] at hl
    | some o =>
      have ho' : l.toArray[i]? = some o := by simpa using ho
      simp only [ho'] at hl
      simp only [pick, ho] at h
      have hq : qOp P l.toArray (Later w) i (wpQuiet P l.toArray (Later w) K (pick l fl)) a := by unfold qOp; simp only [ho']; exact h
      obtain ⟨v, hy, hK⟩ := yieldsIf_of_qOp ho' hl hq
      have hrec := seg_sound hs hQ (K := K) (fuel := fuel) fl (listed.setIfInBounds i true) _ hB' hK hk
      have := wpAnyG_first ho' (Region.noSelect_spec hs) (fun c a w => hQ c a _ _ w) (fl.length + fuel) listed a w (Region.free_spec ho' hf) (by simpa using hr) hy (Later.refl w) hrec
      rw [List.length_cons, show fl.length + 1 + fuel = fl.length + fuel + 1 from by omega]
      exact this

theorem segs_sound {l : List Oper} (hs : Region.noSelect l.toArray = true) (hQ : ∀ c (a : Act) d v w, Q (.panic c) (a.put d v) w → Q (.panic c) a w) (last : List Nat) :
    ∀ (sg : List (List Nat × Nat)) (listed : Array Bool) (a : Act) (w : World), segsB md l.toArray last sg listed = true → wpSegs P l Q last sg a w → wpAnyG P md l.toArray Q (segsLen last sg) listed a w
  | [], listed, a, w, hB, h => by
    simp only [segsB, Bool.and_eq_true] at hB
    have := seg_sound (fuel := 0) hs hQ last listed a hB.1 h (fun a' ha' => ⟨by simpa using hB.2, ha'⟩)
    simpa [segsLen] using this
  | (fl, i) :: r, listed, a, w, hB, h => by
    simp only [segsB, Bool.and_eq_true] at hB
    obtain ⟨⟨h1, h2⟩, h3⟩ := hB
    refine seg_sound (fuel := segsLen last r + 1) hs hQ fl listed a h1 h (fun a' ha' => ?_)
    have h2' : Region.ready md l.toArray (segB md l.toArray fl listed).2 = [i] := by simpa using h2
    refine ⟨fun h0 => (by rw [h2'] at h0; cases h0), fun j hj => ?_⟩
    rw [h2'] at hj
    obtain rfl : j = i := by simpa using hj
    exact wpOp_mono (fun a'' w'' ⟨hb, hk⟩ => ⟨later_iff.2 hb, segs_sound hs hQ last r _ a'' w'' h3 hk⟩) ha'

/-- A region that draws its order, by segments. -/
theorem wp_region_segs {id : Nat} {l : List Oper} {a : Act} {w : World} (sg : List (List Nat × Nat)) (last : List Nat) (hm : P.follows .mixedOrders = true) (hs : Region.noSelect l.toArray = true)
    (hB : segsB .any l.toArray last sg (Array.replicate l.length false) = true) (hL : segsLen last sg = l.length)
    (hQ : ∀ c (a : Act) d v w, Q (.panic c) (a.put d v) w → Q (.panic c) a w) (h : wpSegs P l Q last sg a w.drew) : (Code.region id l.toArray true).wp P Q a w := by
  refine wp_region_any hm (wpAny_of_G _ _ _ _ ?_)
  have := segs_sound hs hQ last sg (Array.replicate l.length false) a w.drew hB h
  rw [hL] at this
  simpa using this

/-- The next segment; the last one. -/
theorem wpSegs_more {l : List Oper} {last fl : List Nat} {i : Nat} {r : List (List Nat × Nat)} {a : Act} {w : World} (h : wpQuiet P l.toArray (fun w' => ∃ p : Regrown, w' = grow (redrawn w p.d) p.os)
      (fun a' => wpOp P l.toArray Q i (fun a'' w'' => Below w.heap.size w w'' ∧ wpSegs P l Q last r a'' w'') a' w) (pick l fl) a) : wpSegs P l Q last ((fl, i) :: r) a w := h
theorem wpSegs_last {l : List Oper} {last : List Nat} {a : Act} {w : World} (h : wpQuiet P l.toArray (fun w' => ∃ p : Regrown, w' = grow (redrawn w p.d) p.os) (fun a' => Q .normal a' w) (pick l last) a) : wpSegs P l Q last [] a w := h

/-- One that may change the world, where it is wanted. -/
theorem wpOp_heavy {l : List Oper} {i : Nat} {o : Oper} {a : Act} {w : World} {R : Act → World → Prop} (hi : l[i]? = some o) (hw : Region.wanted o (yielded l.toArray a.tmps) = true)
    (h : ∀ K : Act → World → Prop, (∀ a' w', Below w.heap.size w w' → R a' w' → K a' w') → o.wp P a w K Q) : wpOp P l.toArray Q i (fun a'' w'' => Below w.heap.size w w'' ∧ R a'' w'') a w := by
  unfold wpOp
  have hi' : l.toArray[i]? = some o := by simpa using hi
  simp only [hi', hw, if_true]
  exact .inl (h _ (fun a' w' h1 h2 => ⟨h1, h2⟩))

end
end Go.Proofs.Ytpchihgdcpbjiaa
