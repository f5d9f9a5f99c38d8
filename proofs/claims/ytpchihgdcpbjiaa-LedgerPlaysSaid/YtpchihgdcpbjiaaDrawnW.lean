/-
  A statement that draws its order, whatever its operations make (DrawnV), where more code follows: behind it the frame is the old one with each operation's yield put into its slot; conditions: as there.
-/
import Derived.Test.YtpchihgdcpbjiaaDrawnV
namespace Go.Proofs.Ytpchihgdcpbjiaa.Dv
open Go Go.RowKit
set_option linter.unusedSimpArgs false
set_option linter.unusedVariables false

/-- Each operation's yield put into its slot. -/
def putAll : List Oper → (Nat → Value) → Nat → Act → Act
  | [], _, _, a => a
  | o :: r, f, i, a => putAll r f (i + 1) (a.put o.dst (f i))

theorem act_ext {a b : Act} (h1 : a.defers = b.defers) (h2 : a.tmps.size = b.tmps.size) (h3 : ∀ s, a.tmps.getD s undef = b.tmps.getD s undef) : a = b := by
  cases a with | mk ta da =>
  cases b with | mk tb db =>
  simp only at h1 h2 h3
  subst h1
  congr 1
  apply Array.ext h2
  intro i hi hj
  have := h3 i
  rwa [Array.getD_eq_getD_getElem?, Array.getD_eq_getD_getElem?, Array.getElem?_eq_getElem hi, Array.getElem?_eq_getElem hj] at this
theorem put_getD {a : Act} {s t : Tmp} {v : Value} : (a.put (some t) v).tmps.getD s undef = if t = s ∧ s < a.tmps.size then v else a.tmps.getD s undef := by
  simp only [Act.put, Array.getD_eq_getD_getElem?]
  by_cases h : t = s
  · subst h
    by_cases hl : t < a.tmps.size
    · simp [hl]
    · simp [hl]
  · rw [Array.getElem?_setIfInBounds_ne h, if_neg fun hh => h hh.1]
theorem put_self {a : Act} {t : Tmp} : a.put (some t) (a.tmps.getD t undef) = a := by
  refine act_ext rfl (by simp [Act.put]) fun s => ?_
  rw [put_getD]
  split
  · rename_i h
    rw [h.1]
  · rfl
/-- Frames that are alike but in the slots of the operations. -/
theorem putAll_same {f : Nat → Value} : ∀ (l : List Oper) (i : Nat) (a b : Act), Same l a b → putAll l f i a = putAll l f i b
  | [], _, a, b, h => (act_ext h.1.symm h.2.1.symm fun s => (h.2.2 s rfl).symm)
  | o :: r, i, a, b, h => by
    unfold putAll
    refine putAll_same r (i + 1) _ _ ?_
    cases hd : o.dst with
    | none =>
      refine ⟨h.1, h.2.1, fun s hs => h.2.2 s ?_⟩
      rw [List.map_cons, List.contains_cons, hd, hs]
      rfl
    | some t =>
      refine ⟨h.1, by simpa [Act.put] using h.2.1, fun s hs => ?_⟩
      rw [put_getD, put_getD, h.2.1]
      split
      · rfl
      · rename_i hne
        by_cases hts : t = s
        · subst hts
          have hl : ¬ t < a.tmps.size := fun hl => hne ⟨rfl, hl⟩
          rw [Array.getD_eq_getD_getElem?, Array.getD_eq_getD_getElem?, Array.getElem?_eq_none (by rw [h.2.1]; exact Nat.le_of_not_lt hl), Array.getElem?_eq_none (Nat.le_of_not_lt hl)]
        · refine h.2.2 s ?_
          rw [List.map_cons, List.contains_cons, hd, hs, Bool.or_false]
          exact beq_false_of_ne fun e => hts (Option.some.inj e).symm
theorem putAll_self {l : List Oper} {a : Act} : ∀ (r : List Oper) (i : Nat), (∀ j o, r[j]? = some o → l[i + j]? = some o) → (∀ o ∈ r, o.dst.isSome = true) → putAll r (fun k => val l a k) i a = a
  | [], _, _, _ => rfl
  | o :: r, i, h, hs => by
    unfold putAll
    have h0 := h 0 o rfl
    rw [Nat.add_zero] at h0
    have e : a.put o.dst (val l a i) = a := by
      unfold val slotOf
      rw [h0]
      simp only [Option.bind_some]
      cases hd : o.dst with
      | none =>
        have := hs o List.mem_cons_self
        rw [hd] at this
        cases this
      | some t => exact put_self
    rw [e]
    exact putAll_self r (i + 1) (fun j o' hj => by
      have := h (j + 1) o' (by simpa using hj)
      rwa [show i + (j + 1) = i + 1 + j by omega] at this) (fun o' ho => hs o' (List.mem_cons_of_mem _ ho))

/-- A region that draws its order, whatever its operations make; code may follow. -/
theorem wp_region_frame {P : Program} {Q : Exit → Act → World → Prop} {l : List Oper} {id : Nat} {a : Act} {w : World} (V : Nat → Value → World → Prop) (hm : P.follows .mixedOrders = true) (he : earlierB l 0 = true) (hap : apartB a.tmps.size l = true)
    (hmono : ∀ i v w w', V i v w → Below w.heap.size w w' → V i v w') (hno : l.all (fun o => o.dst.isSome) = true)
    (hst : StepsAll P Q l V a w.drew l 0)
    (hend : ∀ (f : Nat → Value) w', Below w.heap.size w w' → (∀ i, i < l.length → V i (f i) w') → Q .normal (putAll l f 0 a) w') : (Code.region id l.toArray true).wp P Q a w := by
  refine wp_region_vals V hm he hap hmono hno hst fun a' w' hb hs hv => ?_
  have e : a' = putAll l (fun k => val l a' k) 0 a := by
    rw [putAll_same l 0 a a' hs]
    exact (putAll_self l 0 (fun j o h => by rwa [Nat.zero_add]) fun o ho => List.all_eq_true.1 hno o ho).symm
  have := hend (fun k => val l a' k) w' hb hv
  rwa [← e] at this

end Go.Proofs.Ytpchihgdcpbjiaa.Dv
