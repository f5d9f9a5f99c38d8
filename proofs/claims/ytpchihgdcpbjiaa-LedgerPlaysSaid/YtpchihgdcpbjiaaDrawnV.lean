/-
  A statement that draws its order, whatever its operations make: what each operation yields is told by a word that lasts while memory grows; if each operation, entered where those that it waits for have yielded so, yields so, the statement ends with all of them; conditions: each operation waits only for earlier ones, each has a slot of its own.
-/
import Derived.Test.YtpchihgdcpbjiaaProg
import Derived.WalkKit
import Derived.OrdersHeld
namespace Go.Proofs.Ytpchihgdcpbjiaa.Dv
open Go Go.RowKit
set_option linter.unusedSimpArgs false
set_option linter.unusedVariables false

/-- The slot of operation i, and what stands in it. -/
def slotOf (l : List Oper) (i : Nat) : Option Tmp := (l[i]?).bind (·.dst)
def val (l : List Oper) (a : Act) (i : Nat) : Value := match slotOf l i with
  | some s => a.tmps.getD s undef
  | none => undef
/-- All slots but those of the operations stand as they stood. -/
def Same (l : List Oper) (a0 a : Act) : Prop := a.defers = a0.defers ∧ a.tmps.size = a0.tmps.size ∧ ∀ s, (l.map (·.dst)).contains (some s) = false → a.tmps.getD s undef = a0.tmps.getD s undef
def deps (o : Oper) : List Nat := (o.after.toList.filter (Region.binds .any)).map (·.on)

section
variable {P : Program} {Q : Exit → Act → World → Prop} {l : List Oper} {V : Nat → Value → World → Prop} {a0 : Act} {w0 : World}

/-- What is asked of an operation. -/
def StepOne (P : Program) (Q : Exit → Act → World → Prop) (l : List Oper) (V : Nat → Value → World → Prop) (a0 : Act) (w0 : World) (i : Nat) (o : Oper) : Prop :=
  ∀ a w, Below w0.heap.size w0 w → Same l a0 a → (∀ j ∈ deps o, V j (val l a j) w) →
    (Region.wanted o (yielded l.toArray a.tmps) = true → o.wp P a w (fun a' w' => ∃ v, a' = a.put o.dst v ∧ Below w.heap.size w w' ∧ V i v w') Q) ∧
    (Region.wanted o (yielded l.toArray a.tmps) = false → V i undef w)
def StepsAll (P : Program) (Q : Exit → Act → World → Prop) (l : List Oper) (V : Nat → Value → World → Prop) (a0 : Act) (w0 : World) : List Oper → Nat → Prop
  | [], _ => True
  | o :: r, i => StepOne P Q l V a0 w0 i o ∧ StepsAll P Q l V a0 w0 r (i + 1)
theorem stepsAll_at : ∀ (r : List Oper) (k : Nat), StepsAll P Q l V a0 w0 r k → ∀ i o, r[i]? = some o → StepOne P Q l V a0 w0 (k + i) o
  | o' :: r, k, h, 0, o, hi => by
    simp at hi
    subst hi
    exact h.1
  | o' :: r, k, h, i + 1, o, hi => by
    have := stepsAll_at r (k + 1) h.2 i o (by simpa using hi)
    rwa [show k + 1 + i = k + (i + 1) by omega] at this
  | [], _, _, i, o, hi => by simp at hi

/-- The checks: each waits only for earlier ones; the slots are apart and in the frame. -/
def earlierB : List Oper → Nat → Bool
  | [], _ => true
  | o :: r, i => o.after.toList.all (fun e => !Region.binds .any e || decide (e.on < i)) && earlierB r (i + 1)
theorem earlier_at : ∀ (r : List Oper) (k : Nat), earlierB r k = true → ∀ i o, r[i]? = some o → ∀ e ∈ o.after, Region.binds .any e = true → e.on < k + i
  | o' :: r, k, h, 0, o, hi => by
    simp at hi
    subst hi
    simp only [earlierB, Bool.and_eq_true, List.all_eq_true, Bool.or_eq_true, decide_eq_true_eq] at h
    intro e he hb
    rcases h.1 e (by simpa using he) with h1 | h1
    · rw [hb] at h1
      cases h1
    · exact h1
  | o' :: r, k, h, i + 1, o, hi => by
    simp only [earlierB, Bool.and_eq_true] at h
    intro e he hb
    have := earlier_at r (k + 1) h.2 i o (by simpa using hi) e he hb
    omega
  | [], _, _, i, o, hi => by simp at hi
def apartB (n : Nat) : List Oper → Bool
  | [] => true
  | o :: r => (match o.dst with | some s => decide (s < n) && r.all (fun p => p.dst != some s) | none => true) && apartB n r
theorem apart_at {n : Nat} : ∀ (r : List Oper), apartB n r = true → ∀ (i j : Nat) (o p : Oper) (s : Tmp), r[i]? = some o → r[j]? = some p → o.dst = some s → p.dst = some s → i = j
  | o' :: r, h, i, j, o, p, s, hi, hj, ho, hp => by
    simp only [apartB, Bool.and_eq_true] at h
    cases i with
    | zero =>
      cases j with
      | zero => rfl
      | succ j =>
        simp at hi hj
        subst hi
        have h1 := h.1
        rw [ho] at h1
        simp only [Bool.and_eq_true, List.all_eq_true] at h1
        have := h1.2 p (List.mem_of_getElem? hj)
        simp [hp] at this
    | succ i =>
      cases j with
      | zero =>
        simp at hi hj
        subst hj
        have h1 := h.1
        rw [hp] at h1
        simp only [Bool.and_eq_true, List.all_eq_true] at h1
        have := h1.2 o (List.mem_of_getElem? hi)
        simp [ho] at this
      | succ j =>
        have := apart_at r h.2 i j o p s (by simpa using hi) (by simpa using hj) ho hp
        omega
  | [], _, i, _, _, _, _, hi, _, _, _ => by simp at hi
theorem apart_lt {n : Nat} : ∀ (r : List Oper), apartB n r = true → ∀ o ∈ r, ∀ s, o.dst = some s → s < n
  | o' :: r, h, o, ho, s, hs => by
    simp only [apartB, Bool.and_eq_true] at h
    rcases List.mem_cons.1 ho with rfl | ho
    · have h1 := h.1
      rw [hs] at h1
      simp only [Bool.and_eq_true, decide_eq_true_eq] at h1
      exact h1.1
    · exact apart_lt r h.2 o ho s hs
  | [], _, o, ho, _, _ => by cases ho

/-- What stands on the way. -/
structure Mid (l : List Oper) (V : Nat → Value → World → Prop) (a0 : Act) (w0 : World) (listed : Array Bool) (a : Act) (w : World) : Prop where
  same : Same l a0 a
  below : Below w0.heap.size w0 w
  size : listed.size = l.length
  vals : ∀ i, listed.getD i false = true → V i (val l a i) w

theorem val_put_same {i : Nat} {o : Oper} (hi : l[i]? = some o) {n : Nat} (hap : apartB n l = true) {a : Act} (hn : a.tmps.size = n) (v : Value) : val l (a.put o.dst v) i = (match o.dst with | some _ => v | none => undef) := by
  unfold val slotOf
  rw [hi]
  simp only [Option.bind_some]
  cases hd : o.dst with
  | none => rfl
  | some s =>
    have hs := apart_lt l hap o (List.mem_of_getElem? hi) s hd
    simp [Act.put, Array.getD_eq_getD_getElem?, hn, hs]
theorem val_put_other {i j : Nat} {o : Oper} (hi : l[i]? = some o) {n : Nat} (hap : apartB n l = true) (hij : i ≠ j) (a : Act) (v : Value) : val l (a.put o.dst v) j = val l a j := by
  unfold val slotOf
  cases hj : l[j]? with
  | none => rfl
  | some p =>
    simp only [Option.bind_some]
    cases hp : p.dst with
    | none => rfl
    | some s =>
      cases hd : o.dst with
      | none => rfl
      | some t =>
        have : t ≠ s := fun e => hij (apart_at l hap i j o p s hi hj (by rw [hd, e]) hp)
        simp [Act.put, Array.getD_eq_getD_getElem?, Array.getElem?_setIfInBounds_ne this]
theorem same_put {i : Nat} {o : Oper} (hi : l[i]? = some o) {a : Act} (h : Same l a0 a) (v : Value) : Same l a0 (a.put o.dst v) := by
  cases hd : o.dst with
  | none => exact h
  | some t =>
    refine ⟨h.1, by simpa [Act.put] using h.2.1, fun s hs => ?_⟩
    have : t ≠ s := by
      rintro rfl
      have hm : some t ∈ l.map (·.dst) := List.mem_map.2 ⟨o, List.mem_of_getElem? hi, hd⟩
      rw [List.contains_eq_mem] at hs
      simp [hm] at hs
    rw [← h.2.2 s hs]
    simp [Act.put, Array.getD_eq_getD_getElem?, Array.getElem?_setIfInBounds_ne this]

theorem mid_step (hmono : ∀ i v w w', V i v w → Below w.heap.size w w' → V i v w') (hap : apartB a0.tmps.size l = true) (hst : StepsAll P Q l V a0 w0 l 0) (hno : ∀ (i : Nat) (o : Oper), l[i]? = some o → o.dst = none → ∀ v w, V i v w → V i undef w)
    {listed : Array Bool} {a : Act} {w : World} (hm : Mid l V a0 w0 listed a w) {i : Nat} (hi : i ∈ Region.ready .any l.toArray listed) :
    wpOp P l.toArray Q i (fun a' w' => Mid l V a0 w0 (listed.setIfInBounds i true) a' w') a w := by
  obtain ⟨hun, o, ho, hall⟩ := mem_ready.1 hi
  have ho' : l[i]? = some o := by simpa using ho
  have hone := stepsAll_at l 0 hst i o ho'
  rw [Nat.zero_add] at hone
  have hd : ∀ j ∈ deps o, V j (val l a j) w := by
    intro j hj
    simp only [deps, List.mem_map, List.mem_filter] at hj
    obtain ⟨e, ⟨he, hb⟩, rfl⟩ := hj
    exact hm.vals _ (hall e (by simpa using he) hb)
  obtain ⟨h1, h2⟩ := hone a w hm.below hm.same hd
  have put : ∀ v w', Below w.heap.size w w' → V i v w' → Mid l V a0 w0 (listed.setIfInBounds i true) (a.put o.dst v) w' := by
    intro v w' hb hv
    refine ⟨same_put ho' hm.same v, hm.below.trans (hb.mono hm.below.size), by simpa using hm.size, fun j hj => ?_⟩
    by_cases hij : i = j
    · subst hij
      rw [val_put_same ho' hap hm.same.2.1]
      cases hd : o.dst with
      | none => exact hno i o ho' hd v w' hv
      | some s => exact hv
    · rw [val_put_other ho' hap hij]
      refine hmono _ _ _ _ (hm.vals j ?_) hb
      rw [Array.getD_eq_getD_getElem?, Array.getElem?_setIfInBounds_ne hij] at hj
      rw [Array.getD_eq_getD_getElem?]
      exact hj
  unfold wpOp
  simp only [ho]
  by_cases hw : Region.wanted o (yielded l.toArray a.tmps) = true
  · rw [if_pos hw]
    refine .inl (Oper.wp_mono (fun a' w' => ?_) (h1 hw))
    rintro ⟨v, rfl, hb, hv⟩
    exact put v w' hb hv
  · rw [if_neg hw]
    exact put undef w (Below.refl _ _) (h2 (by simpa using hw))

theorem ready_all {listed : Array Bool} (he : earlierB l 0 = true) (hs : listed.size = l.length) (h : Region.ready .any l.toArray listed = []) : ∀ i, i < l.length → listed.getD i false = true := by
  intro i
  induction i using Nat.strongRecOn with
  | ind i ih =>
    intro hi
    rcases hb : listed.getD i false with _ | _
    · exfalso
      have hmem : i ∈ Region.ready .any l.toArray listed := by
        refine mem_ready.2 ⟨?_, l[i], by simp [hi], fun e hee hbd => ?_⟩
        · rw [Array.getD_eq_getD_getElem?] at hb ⊢
          rw [Array.getElem?_eq_getElem (by omega)] at hb ⊢
          exact hb
        · have := earlier_at l 0 he i l[i] (by simp [hi]) e hee hbd
          exact ih e.on (by omega) (by omega)
      rw [h] at hmem
      cases hmem
    · rfl

theorem count_set {listed : Array Bool} {i : Nat} (h : listed.getD i true = false) : (listed.setIfInBounds i true).toList.count false + 1 = listed.toList.count false := by
  have hi : i < listed.size := by
    rcases Nat.lt_or_ge i listed.size with h1 | h1
    · exact h1
    · rw [Array.getD_eq_getD_getElem?, Array.getElem?_eq_none h1] at h
      cases h
  have hv : listed.toList[i] = false := by
    rw [Array.getD_eq_getD_getElem?, Array.getElem?_eq_getElem hi] at h
    simpa using h
  rw [Array.toList_setIfInBounds, List.count_set (by simpa using hi)]
  have hpos : 0 < listed.toList.count false := List.count_pos_iff.2 (by rw [← hv]; exact List.getElem_mem _)
  rw [hv, if_pos (by simp), if_neg (by simp)]
  omega

theorem any_of_mid (hmono : ∀ i v w w', V i v w → Below w.heap.size w w' → V i v w') (he : earlierB l 0 = true) (hap : apartB a0.tmps.size l = true) (hst : StepsAll P Q l V a0 w0 l 0) (hno : ∀ (i : Nat) (o : Oper), l[i]? = some o → o.dst = none → ∀ v w, V i v w → V i undef w)
    (hend : ∀ a w, Below w0.heap.size w0 w → Same l a0 a → (∀ i, i < l.length → V i (val l a i) w) → Q .normal a w) :
    ∀ (fuel : Nat) (listed : Array Bool) (a : Act) (w : World), listed.toList.count false ≤ fuel → Mid l V a0 w0 listed a w → wpAny P .any l.toArray Q fuel listed a w := by
  have fin : ∀ (listed : Array Bool) (a : Act) (w : World), Mid l V a0 w0 listed a w → Region.ready .any l.toArray listed = [] → Q .normal a w := fun listed a w hm hr =>
    hend a w hm.below hm.same (fun i hi => hm.vals i (ready_all he hm.size hr i hi))
  intro fuel
  induction fuel with
  | zero =>
    intro listed a w hc hm
    have hr : Region.ready .any l.toArray listed = [] := by
      apply List.eq_nil_iff_forall_not_mem.2
      intro i hi
      have := count_set (mem_ready.1 hi).1
      omega
    exact ⟨hr, fin listed a w hm hr⟩
  | succ fuel ih =>
    intro listed a w hc hm
    refine ⟨fin listed a w hm, fun i hi => ?_⟩
    refine wpOp_mono (fun a' w' hm' => ih _ a' w' ?_ hm') (mid_step hmono hap hst hno hm hi)
    have := count_set (mem_ready.1 hi).1
    omega

/-- A region that draws its order, whatever its operations make. -/
theorem wp_region_vals {id : Nat} {a : Act} {w : World} (V : Nat → Value → World → Prop) (hm : P.follows .mixedOrders = true) (he : earlierB l 0 = true) (hap : apartB a.tmps.size l = true)
    (hmono : ∀ i v w w', V i v w → Below w.heap.size w w' → V i v w') (hno : l.all (fun o => o.dst.isSome) = true)
    (hst : StepsAll P Q l V a w.drew l 0)
    (hend : ∀ a' w', Below w.heap.size w w' → Same l a a' → (∀ i, i < l.length → V i (val l a' i) w') → Q .normal a' w') : (Code.region id l.toArray true).wp P Q a w := by
  refine wp_region_any hm ?_
  refine any_of_mid (a0 := a) (w0 := w.drew) hmono he hap hst (fun i o hi hd => ?_) (fun a' w' hb => hend a' w' ?_) _ _ _ _ ?_ ⟨⟨rfl, rfl, fun _ _ => rfl⟩, Below.refl _ _, by simp, fun i hi => ?_⟩
  · have := List.all_eq_true.1 hno o (List.mem_of_getElem? hi)
    rw [hd] at this
    cases this
  · exact (Below.refl _ _).drew.trans hb
  · simp
  · exfalso
    rw [Array.getD_eq_getD_getElem?] at hi
    rcases Nat.lt_or_ge i l.length with h | h
    · rw [Array.getElem?_replicate] at hi
      simp [h] at hi
    · rw [Array.getElem?_replicate] at hi
      simp [Nat.not_lt.2 h] at hi

/-- An operation that yields a value. -/
theorem wp_val {o : Oper} {a : Act} {w w' : World} {K : Act → World → Prop} {v : Value} (hr : (execOp a.eval o).run P w = .ok (.value v) w') (h : K (a.put o.dst v) w') : o.wp P a w K Q := by
  unfold Oper.wp
  rw [hr]
  exact h

/-- An operation that calls a Go function. -/
theorem wp_call {o : Oper} {a : Act} {w : World} {K : Act → World → Prop} {f : FuncId} {fn : Func} {xs : Array Operand} {ts : Array TypeId} {vs : Array Value} (ho : o.op = .call { callee := .value (.func f), args := xs, argTypes := ts })
    (hf : P.funcs[f]? = some fn) (hname : (fn.name == "runtime.NumGoroutine") = false) (hbody : fn.body.isNone = false) (hx : xs.map a.eval = vs)
    (h : Calls P f vs w fun e w'' => ∃ u, e = .returned u ∧ K (a.put o.dst u) w'') : o.wp P a w K Q := by
  have hn : fn.name ≠ "runtime.NumGoroutine" := by simpa using hname
  have hb : fn.body ≠ none := by intro e; rw [e] at hbody; cases hbody
  unfold Oper.wp execOp
  simp [ho, resolve, invoke, Act.eval, go_sem, hx, Deferred.ofValue, callFunc, hf, hn, hb]
  refine Calls.mono h ?_
  rintro e w'' ⟨u, rfl, hk⟩
  exact hk

/-- What is asked, at an operation without a guard. -/
theorem step_free {i : Nat} {o : Oper} (hg : o.guard = none)
    (h : ∀ a w, Below w0.heap.size w0 w → Same l a0 a → (∀ j ∈ deps o, V j (val l a j) w) → o.wp P a w (fun a' w' => ∃ v, a' = a.put o.dst v ∧ Below w.heap.size w w' ∧ V i v w') Q) :
    StepOne P Q l V a0 w0 i o := by
  intro a w hb hs hd
  refine ⟨fun _ => h a w hb hs hd, fun hw => ?_⟩
  unfold Region.wanted at hw
  rw [hg] at hw
  cases hw
/-- An operation without a guard that only reckons. -/
theorem step_val {i : Nat} {o : Oper} (hg : o.guard = none)
    (h : ∀ a w, Below w0.heap.size w0 w → Same l a0 a → (∀ j ∈ deps o, V j (val l a j) w) → ∃ v w', (execOp a.eval o).run P w = .ok (.value v) w' ∧ Below w.heap.size w w' ∧ V i v w') :
    StepOne P Q l V a0 w0 i o := by
  refine step_free hg fun a w hb hs hd => ?_
  obtain ⟨v, w', hr, hb', hv⟩ := h a w hb hs hd
  exact wp_val hr ⟨v, rfl, hb', hv⟩

end
end Go.Proofs.Ytpchihgdcpbjiaa.Dv
