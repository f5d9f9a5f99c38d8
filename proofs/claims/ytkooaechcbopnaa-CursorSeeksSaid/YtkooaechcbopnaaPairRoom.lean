/-
  Entries with room behind them: make and copy; rows of entries that may be written; conditions stand at each.
-/
import Derived.Test.YtkooaechcbopnaaPairSmall
namespace Go.Proofs.Ytkooaechcbopnaa
open Go.RowKit Go.Sort
set_option linter.unusedVariables false

theorem made_two (z : Value) (k : Nat) : madeCells #[z, z] k = (List.replicate k z).toArray := by
  apply Array.ext
  · simp [size_madeCells]
  · intro i h1 h2
    simp [madeCells]
    rcases Nat.mod_two_eq_zero_or_one i with h | h <;> simp [h]

/-- make([]Entry, n, c). -/
theorem run_make_room (n c : Nat) (hnc : n ≤ c) (hb : c ≤ 1000000) (w : World) :
    (Instr.makeSlice 22 (.int .i64 (n : Int)) (.int .i64 (c : Int))).run Try.prog w =
      .ok (.slice (some ⟨w.heap.size, 0, none⟩) n c) (w.alloc (.cells (List.replicate (c * 2) (.string ByteArray.empty)).toArray 39)) := by
  obtain ⟨i0, hi0, hz0, hz1, hz2⟩ := ent_parts
  have hr := run_make (P := Try.prog) w 22 39 i0 _ Try.underlying22 hi0 hz0 .i64 .i64 (n : Int) (c : Int) (by omega) (by omega) (by rw [hz2]; omega) (by omega)
  rw [hz1] at hr
  rw [← made_two]
  simpa [Value.cells] using hr

/-- copy(room, b) of as many entries. -/
theorem run_copy_ents (ty : TypeId) {w : World} {g m c d : Nat} {B : Option Addr} {a : List Ent} {cur : Array Value} (hg : w.heap[g]? = some (.cells cur 39 (0, 0))) (hs : Es w B a) (hm : a.length = m) (hfit : m * 2 ≤ cur.size) :
    (Builtin.copy_ #[22, 22] ty #[.slice (some ⟨g, 0, none⟩) m c, .slice B m d]).run Try.prog w = .ok (goInt m) (w.setRow g (ecells a ++ cur.toList.drop (m * 2)).toArray) := by
  obtain ⟨i0, hi0, hz0, hz1, hz2⟩ := ent_parts
  have hl2 : (ecells a).length = m * 2 := by rw [ecells_length, hm]
  have hst := run_storeCells_at Try.prog g 0 39 (ecells a) 0 cur w hg (by rw [hl2]; omega) (ecells_one a)
  rw [hl2] at hst
  rcases B with _ | ad
  · have h0 : a = [] := by
      rcases Nat.eq_zero_or_pos a.length with h0 | h0
      · exact List.eq_nil_of_length_eq_zero h0
      · obtain ⟨ad, e, _⟩ := hs h0
        cases e
    subst h0
    subst hm
    simp only [ecells] at hst
    simp [Builtin.copy_, run_underlying Try.underlying22, Builtin.lenOf, Builtin.firstCells, sizeOf, typeInfo, hi0, storeCells, ecells]
    simp [storeCells] at hst
    exact hst
  · have hcells : ∀ j u, (ecells a)[j]? = some u → w.cell? (ad.add j) = some u := by
      intro j u hu
      have hl : 0 < a.length := by
        have := (List.getElem?_eq_some_iff.1 hu).1
        rw [ecells_length] at this
        omega
      obtain ⟨ad', e, _, hc⟩ := hs hl
      cases e
      exact hc j u hu
    have hl := run_loadCells_list (P := Try.prog) w ad (ecells a) hcells
    rw [hl2] at hl
    simp only [List.take_zero, List.nil_append, Nat.zero_add] at hst
    simp [Builtin.copy_, run_underlying Try.underlying22, Builtin.lenOf, Builtin.firstCells, sizeOf, typeInfo, hi0, hz1, hl, hst]

theorem wpList_copy_ran {ops : Array Oper} {rest : List Oper} {o : Oper} {a : Act} {w : World} {Q : Exit → Act → World → Prop} (hgd : o.guard = none) (s x : Operand) (t : TypeId)
    (ho : o.op = .call { callee := .builtin .copy, args := #[s, x], argTypes := #[t, t] }) (v u v' : Value) (w' : World) (hs : a.eval s = v) (hx : a.eval x = u)
    (hrun : (Builtin.copy_ #[t, t] o.type #[v, u]).run Try.prog w = .ok v' w') (h : wpList Try.prog ops Q rest (a.put o.dst v') w') : wpList Try.prog ops Q (o :: rest) a w :=
  wpList_plain hgd fun _ hK => by
    unfold Oper.wp execOp
    simp only [ho, resolve, invoke, builtin, Sem.run_bind, Sem.run_pure, Result.andThen_ok, List.map_toArray, List.map_cons, List.map_nil, hs, hx, hrun]
    exact hK _ _ h

/-- A slice of n entries that may be written. -/
def XR (w : World) (A : Option Addr) (n : Nat) : Prop :=
  0 < n → ∃ g, A = some ⟨g, 0, none⟩ ∧ g < w.heap.size ∧ ∀ j, j < n * 2 → (∃ v : ByteArray, w.cell? ⟨g, j, none⟩ = some (.string v)) ∧ w.frozen? ⟨g, j, none⟩ = false
theorem XR.block {w w' : World} {A : Option Addr} {n : Nat} (h : XR w A n) (hb : ∀ g, A = some ⟨g, 0, none⟩ → g < w.heap.size → w'.heap[g]? = w.heap[g]?) (hsz : w.heap.size ≤ w'.heap.size) : XR w' A n := fun h0 => by
  obtain ⟨g, rfl, hlt, hc⟩ := h h0
  refine ⟨g, rfl, by omega, fun j hj => ?_⟩
  obtain ⟨⟨v, hv⟩, hf⟩ := hc j hj
  have hbg := hb g rfl hlt
  exact ⟨⟨v, (World.cell?_of_block (w := w) (a := ⟨g, j, none⟩) hbg).trans hv⟩, (World.frozen?_of_block (w := w) (a := ⟨g, j, none⟩) hbg).trans hf⟩
theorem XR.below {w w' : World} {A : Option Addr} {n : Nat} (h : XR w A n) (hb : Below w.heap.size w w') : XR w' A n := h.block (fun g _ hlt => hb.block g hlt) hb.size
theorem XR.set {w : World} {A : Option Addr} {n : Nat} (h : XR w A n) (p : Addr) (v : ByteArray) : XR (w.setCell p (.string v)) A n := fun h0 => by
  obtain ⟨g, rfl, hlt, hc⟩ := h h0
  refine ⟨g, rfl, by simpa [World.setCell] using hlt, fun j hj => ?_⟩
  obtain ⟨⟨u, hu⟩, hf⟩ := hc j hj
  refine ⟨?_, by simpa using hf⟩
  by_cases hp : p = ⟨g, j, none⟩
  · subst hp
    exact ⟨v, World.cell?_setCell_same _ _ _ hu⟩
  · exact ⟨u, (World.cell?_setCell_other _ _ _ _ hp).trans hu⟩
theorem XR.of_own {w : World} {base n c : Nat} {A : Option Addr} {l : List Ent} (h : Own w base (.slice A n c) l) (hn : l.length = n) : XR w A n := fun h0 => by
  rcases h.2 with ⟨hv, h1⟩ | ⟨g, cap, cur, hv, hb, hh, hnc, _, hs, ht⟩
  · omega
  · cases hv
    refine ⟨g, rfl, lt_of_block hh, fun j hj => ⟨?_, by simp [World.frozen?, hh]⟩⟩
    rw [cell_of_row w g j _ _ _ hh]
    have h2 : cur.toList[j]? = (ecells l)[j]? := by rw [← ht, List.getElem?_take_of_lt (by omega)]
    rw [Array.getElem?_toList] at h2
    rw [h2]
    have hat := ecells_at l (j / 2)
    rw [List.getElem?_eq_getElem (show j / 2 < l.length by omega)] at hat
    rcases Nat.mod_two_eq_zero_or_one j with hj2 | hj2
    · rw [show j = j / 2 * 2 by omega, hat.1]
      exact ⟨_, rfl⟩
    · rw [show j = j / 2 * 2 + 1 by omega, hat.2]
      exact ⟨_, rfl⟩
theorem Own.ge {w : World} {base n c g : Nat} {l : List Ent} (h : Own w base (.slice (some ⟨g, 0, none⟩) n c) l) : base ≤ g := h.at_block g rfl

/-- The block that a slice of the call's own lies in. -/
def obk (A : Option Addr) : Option Nat := A.map (·.block)
theorem Own.obk_ge {w : World} {base n c : Nat} {A : Option Addr} {l : List Ent} (h : Own w base (.slice A n c) l) : ∀ g, obk A = some g → base ≤ g := by
  intro g hg
  rcases h.2 with ⟨hv, _⟩ | ⟨g', cap, cur, hv, hb, _⟩
  · cases hv
    cases hg
  · cases hv
    simp [obk] at hg
    omega
theorem below_set {B : Nat} {a w : World} (h : Below B a w) {p : Addr} (hp : B ≤ p.block) (u : Value) : Below B a (w.setCell p u) :=
  ⟨h.os, h.tape, h.output, by simpa [World.setCell] using h.size, fun i hi => (Below.heap_setCell w p u i (by omega)).trans (h.block i hi)⟩
/-- Three slices that may be written; what was there before them stays. -/
def Kp (w wq : World) (A1 A2 A3 : Option Addr) (m1 m2 m3 : Nat) : Prop := XR wq A1 m1 ∧ XR wq A2 m2 ∧ XR wq A3 m3 ∧ Below w.heap.size w wq
theorem Kp.set {w wq : World} {A1 A2 A3 : Option Addr} {m1 m2 m3 : Nat} (h : Kp w wq A1 A2 A3 m1 m2 m3) {p : Addr} (hp : w.heap.size ≤ p.block) (v : ByteArray) : Kp w (wq.setCell p (.string v)) A1 A2 A3 m1 m2 m3 :=
  ⟨h.1.set p v, h.2.1.set p v, h.2.2.1.set p v, below_set h.2.2.2 hp _⟩

/-- Entries at the head of a block. -/
theorem es_block {w : World} {g : Nat} {a : List Ent} {rest : List Value} {t : TypeId} (hh : w.heap[g]? = some (.cells (ecells a ++ rest).toArray t (0, 0))) : Es w (some ⟨g, 0, none⟩) a := fun _ => ⟨_, rfl, lt_of_block hh, fun j u hu => by
  have e : ((⟨g, 0, none⟩ : Addr).add j) = ⟨g, j, none⟩ := by unfold Addr.add; split <;> simp_all
  rw [e, cell_of_row w g j _ _ _ hh]
  have hj := (List.getElem?_eq_some_iff.1 hu).1
  rw [List.getElem?_toArray, List.getElem?_append_left hj]
  exact hu⟩
theorem room_cell {w : World} {g k j : Nat} {a : List Ent} {t : TypeId} (hh : w.heap[g]? = some (.cells (ecells a ++ List.replicate k (Value.string ByteArray.empty)).toArray t (0, 0))) (h1 : a.length * 2 ≤ j) (h2 : j < a.length * 2 + k) : w.cell? ⟨g, j, none⟩ = some (.string ByteArray.empty) := by
  rw [cell_of_row w g j _ _ _ hh, List.getElem?_toArray, List.getElem?_append_right (by rw [ecells_length]; omega), ecells_length, List.getElem?_replicate, if_pos (by omega)]

end Go.Proofs.Ytkooaechcbopnaa
