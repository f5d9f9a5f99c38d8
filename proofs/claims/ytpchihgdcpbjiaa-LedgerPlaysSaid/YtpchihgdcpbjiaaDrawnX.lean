/-
  A statement that draws its order, whatever its operations make or turn: what stands ahead of each operation, what each yields, what each may turn; if each leaves what the others stand on, the statement ends with all of them; conditions: each operation waits only for earlier ones, each has a slot of its own.
-/
import Derived.Test.YtpchihgdcpbjiaaDrawnW
namespace Go.Proofs.Ytpchihgdcpbjiaa.Dx
open Go Go.RowKit
open Go.Proofs.Ytpchihgdcpbjiaa.Dv (slotOf val Same deps earlierB apartB val_put_same val_put_other same_put ready_all count_set putAll putAll_same putAll_self)
set_option linter.unusedSimpArgs false
set_option linter.unusedVariables false

/-- The words: of the world (G), ahead of an operation (N), behind it (V), of its step (S). -/
structure Words where
  G : World → Prop
  N : Nat → World → Prop
  V : Nat → Value → World → Prop
  S : Nat → World → World → Prop
/-- Operation i waits for j. -/
def depB (l : List Oper) (i j : Nat) : Bool := match l[i]? with
  | some o => (deps o).contains j
  | none => false
structure Words.Ok (D : Words) (l : List Oper) : Prop where
  g : ∀ i w w', D.G w → D.S i w w' → D.G w'
  n : ∀ i j w w', i ≠ j → D.G w → D.N i w → D.S j w w' → D.N i w'
  v : ∀ i j u w w', i ≠ j → depB l i j = false → D.G w → D.V i u w → D.S j w w' → D.V i u w'

section
variable {P : Program} {Q : Exit → Act → World → Prop} {l : List Oper} {D : Words} {a0 : Act}

/-- The slot s is written only by operations that wait for i. -/
def stillB (l : List Oper) (i s : Nat) : Bool := l.all fun o => o.dst != some s || (deps o).contains i
/-- What is asked of an operation. -/
def StepOne (P : Program) (Q : Exit → Act → World → Prop) (l : List Oper) (D : Words) (a0 : Act) (i : Nat) (o : Oper) : Prop :=
  ∀ a w, D.G w → (∀ s, stillB l i s = true → a.tmps.getD s undef = a0.tmps.getD s undef) → (∀ j ∈ deps o, D.V j (val l a j) w) → D.N i w → o.wp P a w (fun a' w' => ∃ v, a' = a.put o.dst v ∧ D.S i w w' ∧ D.V i v w') Q
def StepsAll (P : Program) (Q : Exit → Act → World → Prop) (l : List Oper) (D : Words) (a0 : Act) : List Oper → Nat → Prop
  | [], _ => True
  | o :: r, i => StepOne P Q l D a0 i o ∧ StepsAll P Q l D a0 r (i + 1)
theorem stepsAll_at : ∀ (r : List Oper) (k : Nat), StepsAll P Q l D a0 r k → ∀ i o, r[i]? = some o → StepOne P Q l D a0 (k + i) o
  | o' :: r, k, h, 0, o, hi => by
    simp at hi
    subst hi
    exact h.1
  | o' :: r, k, h, i + 1, o, hi => by
    have := stepsAll_at r (k + 1) h.2 i o (by simpa using hi)
    rwa [show k + 1 + i = k + (i + 1) by omega] at this
  | [], _, _, i, o, hi => by simp at hi

/-- What stands on the way. -/
structure Mid (l : List Oper) (D : Words) (a0 : Act) (listed : Array Bool) (a : Act) (w : World) : Prop where
  same : Same l a0 a
  good : D.G w
  size : listed.size = l.length
  vals : ∀ i, listed.getD i false = true → D.V i (val l a i) w
  news : ∀ i, listed.getD i false = false → D.N i w
  closed : ∀ i j, listed.getD i false = true → depB l i j = true → listed.getD j false = true
  still : ∀ i, listed.getD i false = false → ∀ s, stillB l i s = true → a.tmps.getD s undef = a0.tmps.getD s undef

theorem mid_step (hok : D.Ok l) (hap : apartB a0.tmps.size l = true) (hst : StepsAll P Q l D a0 l 0) (hfree : l.all (fun o => o.guard.isNone) = true) (hno : ∀ (i : Nat) (o : Oper), l[i]? = some o → o.dst = none → ∀ v w, D.V i v w → D.V i undef w)
    {listed : Array Bool} {a : Act} {w : World} (hm : Mid l D a0 listed a w) {i : Nat} (hi : i ∈ Region.ready .any l.toArray listed) :
    wpOp P l.toArray Q i (fun a' w' => Mid l D a0 (listed.setIfInBounds i true) a' w') a w := by
  obtain ⟨hun, o, ho, hall⟩ := mem_ready.1 hi
  have ho' : l[i]? = some o := by simpa using ho
  have hone := stepsAll_at l 0 hst i o ho'
  rw [Nat.zero_add] at hone
  have hf := List.all_eq_true.1 hfree o (List.mem_of_getElem? ho')
  have hd : ∀ j ∈ deps o, D.V j (val l a j) w := by
    intro j hj
    simp only [deps, List.mem_map, List.mem_filter] at hj
    obtain ⟨e, ⟨he, hb⟩, rfl⟩ := hj
    exact hm.vals _ (hall e (by simpa using he) hb)
  have hnot : listed.getD i false = false := by
    rw [Array.getD_eq_getD_getElem?] at hun ⊢
    cases h : listed[i]? with
    | none => rfl
    | some b => rw [h] at hun; exact hun
  have h1 := hone a w hm.good (hm.still i hnot) hd (hm.news i hnot)
  have put : ∀ v w', D.S i w w' → D.V i v w' → Mid l D a0 (listed.setIfInBounds i true) (a.put o.dst v) w' := by
    intro v w' hs hv
    refine ⟨same_put ho' hm.same v, hok.g i w w' hm.good hs, by simpa using hm.size, fun j hj => ?_, fun j hj => ?_, fun j q hj hq => ?_, fun j hj s hsl => ?_⟩
    · by_cases hij : i = j
      · subst hij
        rw [val_put_same ho' hap hm.same.2.1]
        cases hd : o.dst with
        | none => exact hno i o ho' hd v w' hv
        | some s => exact hv
      · rw [val_put_other ho' hap hij]
        have hj' : listed.getD j false = true := by
          rw [Array.getD_eq_getD_getElem?, Array.getElem?_setIfInBounds_ne hij] at hj
          rw [Array.getD_eq_getD_getElem?]
          exact hj
        refine hok.v j i _ w w' (Ne.symm hij) (Bool.eq_false_iff.2 fun hdd => ?_) hm.good (hm.vals j hj') hs
        have := hm.closed j i hj' hdd
        rw [hnot] at this
        cases this
    · by_cases hij : i = j
      · subst hij
        exfalso
        have hlt : i < listed.size := by
          rcases Nat.lt_or_ge i listed.size with h1 | h1
          · exact h1
          · rw [Array.getD_eq_getD_getElem?, Array.getElem?_eq_none h1] at hun
            cases hun
        rw [Array.getD_eq_getD_getElem?, Array.getElem?_setIfInBounds_self_of_lt hlt] at hj
        cases hj
      · refine hok.n j i w w' (Ne.symm hij) hm.good (hm.news j ?_) hs
        rw [Array.getD_eq_getD_getElem?, Array.getElem?_setIfInBounds_ne hij] at hj
        rw [Array.getD_eq_getD_getElem?]
        exact hj
    · have hq1 : listed.getD q false = true := by
        by_cases hij : i = j
        · subst hij
          unfold depB at hq
          rw [ho'] at hq
          simp only at hq
          have hin : q ∈ deps o := List.contains_iff_mem.1 hq
          simp only [deps, List.mem_map, List.mem_filter] at hin
          obtain ⟨e, ⟨he, hb⟩, rfl⟩ := hin
          exact hall e (by simpa using he) hb
        · refine hm.closed j q ?_ hq
          rw [Array.getD_eq_getD_getElem?, Array.getElem?_setIfInBounds_ne hij] at hj
          rw [Array.getD_eq_getD_getElem?]
          exact hj
      by_cases hiq : i = q
      · subst hiq
        rw [hnot] at hq1
        cases hq1
      · rw [Array.getD_eq_getD_getElem?, Array.getElem?_setIfInBounds_ne hiq, ← Array.getD_eq_getD_getElem?]
        exact hq1
    · by_cases hij : i = j
      · subst hij
        exfalso
        have hlt : i < listed.size := by
          rcases Nat.lt_or_ge i listed.size with h1 | h1
          · exact h1
          · rw [Array.getD_eq_getD_getElem?, Array.getElem?_eq_none h1] at hun
            cases hun
        rw [Array.getD_eq_getD_getElem?, Array.getElem?_setIfInBounds_self_of_lt hlt] at hj
        cases hj
      · have hj' : listed.getD j false = false := by
          rw [Array.getD_eq_getD_getElem?, Array.getElem?_setIfInBounds_ne hij] at hj
          rw [Array.getD_eq_getD_getElem?]
          exact hj
        have hne : o.dst ≠ some s := by
          intro hds
          have hso := List.all_eq_true.1 hsl o (List.mem_of_getElem? ho')
          rw [hds] at hso
          simp only [bne_self_eq_false, Bool.false_or] at hso
          have hin : j ∈ deps o := List.contains_iff_mem.1 hso
          simp only [deps, List.mem_map, List.mem_filter] at hin
          obtain ⟨e, ⟨he, hb⟩, hej⟩ := hin
          have := hall e (by simpa using he) hb
          rw [hej, hj'] at this
          cases this
        rw [← hm.still j hj' s hsl]
        cases hd : o.dst with
        | none => rfl
        | some t =>
          have : t ≠ s := fun e => hne (by rw [hd, e])
          simp [Act.put, Array.getD_eq_getD_getElem?, Array.getElem?_setIfInBounds_ne this]
  unfold wpOp
  simp only [ho]
  have hw : Region.wanted o (yielded l.toArray a.tmps) = true := by
    unfold Region.wanted
    have : o.guard = none := by cases hg : o.guard with
      | none => rfl
      | some x => rw [hg] at hf; cases hf
    rw [this]
  rw [if_pos hw]
  refine .inl (Oper.wp_mono (fun a' w' => ?_) h1)
  rintro ⟨v, rfl, hb, hv⟩
  exact put v w' hb hv

theorem any_of_mid (hok : D.Ok l) (he : earlierB l 0 = true) (hap : apartB a0.tmps.size l = true) (hst : StepsAll P Q l D a0 l 0) (hfree : l.all (fun o => o.guard.isNone) = true) (hno : ∀ (i : Nat) (o : Oper), l[i]? = some o → o.dst = none → ∀ v w, D.V i v w → D.V i undef w)
    (hend : ∀ a w, D.G w → Same l a0 a → (∀ i, i < l.length → D.V i (val l a i) w) → Q .normal a w) :
    ∀ (fuel : Nat) (listed : Array Bool) (a : Act) (w : World), listed.toList.count false ≤ fuel → Mid l D a0 listed a w → wpAny P .any l.toArray Q fuel listed a w := by
  have fin : ∀ (listed : Array Bool) (a : Act) (w : World), Mid l D a0 listed a w → Region.ready .any l.toArray listed = [] → Q .normal a w := fun listed a w hm hr =>
    hend a w hm.good hm.same (fun i hi => hm.vals i (ready_all he hm.size hr i hi))
  intro fuel
  induction fuel with
  | zero =>
    intro listed a w hc hm
    have hr : Region.ready .any l.toArray listed = [] := by
      apply List.eq_nil_iff_forall_not_mem.2
      intro i hi
      have := count_set (mem_ready.1 hi).1
      omega
    exact ⟨hr, fin listed a w hm hr⟩
  | succ fuel ih =>
    intro listed a w hc hm
    refine ⟨fin listed a w hm, fun i hi => ?_⟩
    refine wpOp_mono (fun a' w' hm' => ih _ a' w' ?_ hm') (mid_step hok hap hst hfree hno hm hi)
    have := count_set (mem_ready.1 hi).1
    omega

theorem putAll_back {l : List Oper} {a : Act} : ∀ (r : List Oper) (i : Nat), (∀ j o, r[j]? = some o → l[i + j]? = some o) → putAll r (fun k => val l a k) i a = a
  | [], _, _ => rfl
  | o :: r, i, h => by
    unfold putAll
    have h0 := h 0 o rfl
    rw [Nat.add_zero] at h0
    have e : a.put o.dst (val l a i) = a := by
      unfold val Dv.slotOf
      rw [h0]
      simp only [Option.bind_some]
      cases hd : o.dst with
      | none => rfl
      | some t => exact Dv.put_self
    rw [e]
    exact putAll_back r (i + 1) (fun j o' hj => by
      have := h (j + 1) o' (by simpa using hj)
      rwa [show i + (j + 1) = i + 1 + j by omega] at this)
/-- Only z has no slot. -/
def noneB (l : List Oper) (z : Nat) : Bool := (List.range l.length).all fun i => i == z || ((l[i]?).bind (·.dst)).isSome
theorem none_of {z : Nat} (h : noneB l z = true) (hz : ∀ v w, D.V z v w → D.V z undef w) : ∀ (i : Nat) (o : Oper), l[i]? = some o → o.dst = none → ∀ v w, D.V i v w → D.V i undef w := by
  intro i o ho hd v w hv
  have h1 := List.all_eq_true.1 h i (List.mem_range.2 (List.getElem?_eq_some_iff.1 ho).1)
  rw [ho, Option.bind_some, hd] at h1
  have e : i = z := by simpa using h1
  subst e
  exact hz v w hv
/-- A region that draws its order, whatever its operations make or turn, stores among them; code may follow. -/
theorem wp_region_stores {id : Nat} {a : Act} {w : World} (D : Words) (hok : D.Ok l) (hm : P.follows .mixedOrders = true) (he : earlierB l 0 = true) (hap : apartB a.tmps.size l = true) (hfree : l.all (fun o => o.guard.isNone) = true)
    (hno : ∀ (i : Nat) (o : Oper), l[i]? = some o → o.dst = none → ∀ v w, D.V i v w → D.V i undef w)
    (hg : D.G w.drew) (hn : ∀ i, D.N i w.drew) (hst : StepsAll P Q l D a l 0)
    (hend : ∀ (f : Nat → Value) w', D.G w' → (∀ i, i < l.length → D.V i (f i) w') → Q .normal (putAll l f 0 a) w') : (Code.region id l.toArray true).wp P Q a w := by
  have none_yet : ∀ i, ¬ (Array.replicate l.length false).getD i false = true := by
    intro i hi
    rw [Array.getD_eq_getD_getElem?] at hi
    rcases Nat.lt_or_ge i l.length with h | h
    · rw [Array.getElem?_replicate] at hi
      simp [h] at hi
    · rw [Array.getElem?_replicate] at hi
      simp [Nat.not_lt.2 h] at hi
  refine wp_region_any hm ?_
  refine any_of_mid (a0 := a) hok he hap hst hfree hno (fun a' w' hb hs hv => ?_) _ _ _ _ ?_ ⟨⟨rfl, rfl, fun _ _ => rfl⟩, hg, by simp, fun i hi => absurd hi (none_yet i), fun i _ => hn i, fun i _ hi => absurd hi (none_yet i), fun _ _ _ _ => rfl⟩
  · have e : a' = putAll l (fun k => val l a' k) 0 a := by
      rw [putAll_same l 0 a a' hs]
      exact (putAll_back l 0 (fun j o h => by rwa [Nat.zero_add])).symm
    have := hend (fun k => val l a' k) w' hb hv
    rwa [← e] at this
  · simp
/-- A region that draws its order, whatever its operations make or turn; code may follow. -/
theorem wp_region_words {id : Nat} {a : Act} {w : World} (D : Words) (hok : D.Ok l) (hm : P.follows .mixedOrders = true) (he : earlierB l 0 = true) (hap : apartB a.tmps.size l = true) (hfree : l.all (fun o => o.dst.isSome && o.guard.isNone) = true)
    (hg : D.G w.drew) (hn : ∀ i, D.N i w.drew) (hst : StepsAll P Q l D a l 0)
    (hend : ∀ (f : Nat → Value) w', D.G w' → (∀ i, i < l.length → D.V i (f i) w') → Q .normal (putAll l f 0 a) w') : (Code.region id l.toArray true).wp P Q a w := by
  refine wp_region_stores D hok hm he hap (List.all_eq_true.2 fun o ho => ?_) (fun i o ho hd => ?_) hg hn hst hend
  · have := List.all_eq_true.1 hfree o ho
    simp only [Bool.and_eq_true] at this
    exact this.2
  · have := List.all_eq_true.1 hfree o (List.mem_of_getElem? ho)
    rw [hd] at this
    cases this

theorem step_any {i : Nat} {o : Oper}
    (h : ∀ a w, D.G w → (∀ s, stillB l i s = true → a.tmps.getD s undef = a0.tmps.getD s undef) → (∀ j ∈ deps o, D.V j (val l a j) w) → D.N i w → o.wp P a w (fun a' w' => ∃ v, a' = a.put o.dst v ∧ D.S i w w' ∧ D.V i v w') Q) :
    StepOne P Q l D a0 i o := h
/-- An operation that only reckons. -/
theorem step_val {i : Nat} {o : Oper}
    (h : ∀ a w, D.G w → (∀ s, stillB l i s = true → a.tmps.getD s undef = a0.tmps.getD s undef) → (∀ j ∈ deps o, D.V j (val l a j) w) → D.N i w → ∃ v w', (execOp a.eval o).run P w = .ok (.value v) w' ∧ D.S i w w' ∧ D.V i v w') :
    StepOne P Q l D a0 i o := by
  intro a w hg hs hd hn
  obtain ⟨v, w', hr, hb', hv⟩ := h a w hg hs hd hn
  exact Dv.wp_val hr ⟨v, rfl, hb', hv⟩
/-- A store. -/
theorem step_skip {i : Nat} {o : Oper}
    (h : ∀ a w, D.G w → (∀ s, stillB l i s = true → a.tmps.getD s undef = a0.tmps.getD s undef) → (∀ j ∈ deps o, D.V j (val l a j) w) → D.N i w → ∃ w', (execOp a.eval o).run P w = .ok .skip w' ∧ D.S i w w' ∧ D.V i undef w') :
    StepOne P Q l D a0 i o := by
  intro a w hg hs hd hn
  obtain ⟨w', hr, hb', hv⟩ := h a w hg hs hd hn
  unfold Oper.wp
  rw [hr]
  exact ⟨undef, rfl, hb', hv⟩

end
end Go.Proofs.Ytpchihgdcpbjiaa.Dx
