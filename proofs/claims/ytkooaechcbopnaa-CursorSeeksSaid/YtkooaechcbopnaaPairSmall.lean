/-
  The contracts of pair.Key, pair.Value, the reference's, awake, few and ref.Same: answers as the document says; conditions stand at each.
-/
import Derived.Test.YtkooaechcbopnaaPairPut
import Derived.Test.YtkooaechcbopnaaPairRise
namespace Go.Proofs.Ytkooaechcbopnaa
open Go.RowKit Go.Sort
set_option linter.unusedVariables false

/-- The number of a key's error, and of a value's. -/
def keyNo (s : ByteArray) : Int := if s.size = 0 then 1 else if 24 < s.size then 4 else 0
def valNo (s : ByteArray) : Int := if 400 < s.size then 4 else 0

theorem empty_eq (s : ByteArray) : (s.toList == ([] : List UInt8)) = decide (s.size = 0) := by
  rw [Lib.toList_data]
  by_cases h : s.size = 0
  · have : s.data.toList = [] := List.eq_nil_of_length_eq_zero h
    simp [h, this]
  · have : s.data.toList ≠ [] := fun e => h (by show s.data.toList.length = 0; rw [e]; rfl)
    rw [decide_eq_false h]
    cases hl : s.data.toList with
    | nil => exact absurd hl this
    | cons _ _ => rfl

set_option maxHeartbeats 400000 in
theorem atMost_any (s : ByteArray) (m : Nat) (w : World) (hb : m ≤ 1000) (hs : s.size ≤ 140737488351232) :
    Calls Try.prog 57 #[.string s, .int .i64 (m : Nat)] w fun e w' => e = .returned (.int .i64 (if m < s.size then 4 else 0)) ∧ w = w' := by
  by_cases h : m < s.size
  · rw [if_pos h]
    go_enter Try.func57, Try.ntmps57
    go_wp2
    go_ret
    exact ⟨rfl, rfl⟩
  · rw [if_neg h]
    go_enter Try.func57, Try.ntmps57
    go_wp2
    go_ret
    exact ⟨rfl, rfl⟩

set_option maxHeartbeats 400000 in
theorem key_any (s : ByteArray) (w : World) (hs : s.size ≤ 140737488351232) :
    Calls Try.prog 35 #[.string s] w fun e w' => e = .returned (.int .i64 (keyNo s)) ∧ w = w' := by
  have he := empty_eq s
  unfold keyNo
  by_cases h : s.size = 0
  · rw [if_pos h]
    rw [decide_eq_true h] at he
    clear h
    go_enter Try.func35, Try.ntmps35
    go_wp2
    go_ret
    exact ⟨rfl, rfl⟩
  · rw [if_neg h]
    rw [decide_eq_false h] at he
    obtain ⟨r, hr⟩ : ∃ r, r = (if 24 < s.size then (4 : Int) else 0) := ⟨_, rfl⟩
    rw [← hr]
    have HR := Lib.hid hr
    clear hr
    go_enter Try.func35, Try.ntmps35
    go_wp2_with fail
    refine (atMost_any s 24 w (by omega) hs).mono ?_
    rintro e w1 ⟨rfl, rfl⟩
    rw [← HR.out]
    go_wp2
    go_ret
    exact ⟨rfl, rfl⟩

set_option maxHeartbeats 400000 in
theorem value_any (s : ByteArray) (w : World) (hs : s.size ≤ 140737488351232) :
    Calls Try.prog 36 #[.string s] w fun e w' => e = .returned (.int .i64 (valNo s)) ∧ w = w' := by
  unfold valNo
  obtain ⟨r, hr⟩ : ∃ r, r = (if 400 < s.size then (4 : Int) else 0) := ⟨_, rfl⟩
  rw [← hr]
  have HR := Lib.hid hr
  clear hr
  go_enter Try.func36, Try.ntmps36
  go_wp2_with fail
  refine (atMost_any s 400 w (by omega) hs).mono ?_
  rintro e w1 ⟨rfl, rfl⟩
  rw [← HR.out]
  go_wp2
  go_ret
  exact ⟨rfl, rfl⟩

/-- Entries of a size that is looked at. -/
def Few (l : List Ent) : Prop := l.length ≤ 300 ∧ ∀ e ∈ l, e.k.size + e.v.size ≤ 2000
instance (l : List Ent) : Decidable (Few l) := inferInstanceAs (Decidable (_ ∧ _))

theorem equal_same (a b : ByteArray) (w : World) : (Op.equalIn 10000 39 (.agg #[.string a, .string b]) (.agg #[.string a, .string b])).run Try.prog w = .ok true w := by
  have hs : (a.toList == a.toList) = true := by rw [same_eq]; simp
  have hs2 : (b.toList == b.toList) = true := by rw [same_eq]; simp
  rw [run_equalIn_agg w 9999 39 _ _ (by kernel_rfl) (by kernel_rfl)]
  have hf : ((Try.prog.fieldsOf 39).toList.map fun f => (f.name == "_", f.type, f.offset)) = [(false, 9, 0), (false, 9, 1)] := by kernel_rfl
  revert hf
  generalize (Try.prog.fieldsOf 39).toList = fs
  intro hf
  obtain ⟨f0, r0, rfl, h0, hf⟩ := List.map_eq_cons_iff.1 hf
  obtain ⟨f1, r1, rfl, h1, hf⟩ := List.map_eq_cons_iff.1 hf
  obtain rfl := List.map_eq_nil_iff.1 hf
  simp only [Prod.mk.injEq, beq_eq_false_iff_ne] at h0 h1
  obtain ⟨n0, t0, o0⟩ := h0
  obtain ⟨n1, t1, o1⟩ := h1
  have c9 : Try.prog.cellsOf 9 = 1 := by kernel_rfl
  simp [Op.eqFields, n0, n1, t0, t1, o0, o1, go_sem]
theorem neq_same (a b : ByteArray) (w : World) : (binOp .neq 39 (.agg #[.string a, .string b]) (.agg #[.string a, .string b])).run Try.prog w = .ok (.bool false) w := by
  rw [run_neq_struct, equal_same]
  rfl
theorem eql_same (a b : ByteArray) (w : World) : (binOp .eql 39 (.agg #[.string a, .string b]) (.agg #[.string a, .string b])).run Try.prog w = .ok (.bool true) w := by
  rw [run_eql_struct, equal_same]
  rfl

end Go.Proofs.Ytkooaechcbopnaa
