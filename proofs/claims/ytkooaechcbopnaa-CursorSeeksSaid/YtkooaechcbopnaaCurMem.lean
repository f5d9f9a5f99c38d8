/-
  Cursors in memory, and the contracts of cursor.New, placed and moveTo; conditions: the tree lies in memory, the cursor in a block behind it.
-/
import Derived.Test.YtkooaechcbopnaaCurFirst
import Derived.Test.YtkooaechcbopnaaDrawnC
namespace Go.Proofs.Ytkooaechcbopnaa
open Go.RowKit Go.Sort Go.Shelf Rt
set_option linter.unusedVariables false
set_option linter.unusedSimpArgs false

/-- A cursor in block b, at place p of the tree T, which lay in w0. -/
structure Cur (w0 : World) (T : TO) (b : Nat) (p : Option Nat) (W : World) : Prop where
  tr : TreeIs w0 T
  lo : w0.heap.size ≤ b
  bel : Below w0.heap.size w0 W
  ok : OkP (tl T) p
  at_ : W.heap[b]? = some (.cells #[tb T, .string (keyAt (tl T) p)] 53 (0, 0))
/-- At most block b has turned. -/
abbrev Mv (b : Nat) (A B : World) : Prop := Stp (fun k => k = b) A (fun k => k = b) B
section
variable {w0 W W' : World} {T : TO} {b : Nat} {p : Option Nat}
theorem Cur.lt (h : Cur w0 T b p W) : b < W.heap.size := at_lt h.at_
theorem Cur.below (h : Cur w0 T b p W) (hb : Below W.heap.size W W') : Cur w0 T b p W' := ⟨h.tr, h.lo, h.bel.trans (hb.mono h.bel.size), h.ok, (hb.block _ h.lt).trans h.at_⟩
theorem Mv.below' {n : Nat} (h : Mv b W W') (hn : n ≤ W.heap.size) (hb : n ≤ b) : Below n W W' := Stp.below h hn fun k hk => by rw [hk]; exact hb
theorem Cur.other {c : Nat} (h : Cur w0 T b p W) (hm : Mv c W W') (hc : w0.heap.size ≤ c) (hn : b ≠ c) : Cur w0 T b p W' :=
  ⟨h.tr, h.lo, h.bel.trans (Mv.below' hm h.bel.size hc), h.ok, (hm.same _ h.lt hn).trans h.at_⟩
theorem Cur.refl (h : Cur w0 T b p W) : Mv b W W := .refl fun k hk => by rw [hk]; exact h.lt
theorem Cur.sorted (h : Cur w0 T b p W) : Sorted (tl T) := h.tr.sorted
theorem Cur.okE (h : Cur w0 T b p W) : ∀ e ∈ tl T, okE e = true := h.tr.okE
theorem Cur.c0 (h : Cur w0 T b p W) : W.cell? ⟨b, 0, none⟩ = some (tb T) := cell_row h.at_ 0 _ rfl
theorem Cur.c1 (h : Cur w0 T b p W) : W.cell? ⟨b, 1, none⟩ = some (.string (keyAt (tl T) p)) := cell_row h.at_ 1 _ rfl
theorem Cur.frozen (h : Cur w0 T b p W) (i : Nat) : W.frozen? ⟨b, i, none⟩ = false := by simp [World.frozen?, h.at_]
end

theorem curNew_any (w : World) (pt : Option Addr) : Calls Try.prog 11 #[.pointer pt] w fun e w' => e = .returned (pb w.heap.size) ∧ w' = w.alloc (.cells #[.pointer pt, .string ⟨#[]⟩] 53) := by
  go_enter Try.func11, Try.ntmps11
  go_wp2
  go_ret
  exact ⟨rfl, rfl⟩
theorem Cur.new {w0 w : World} {T : TO} (ht : TreeIs w0 T) (hb : Below w0.heap.size w0 w) : Cur w0 T w.heap.size none (w.alloc (.cells #[tb T, .string ⟨#[]⟩] 53)) :=
  ⟨ht, hb.size, hb.alloc hb.size _, okP_none _, heap_alloc_new w _⟩

set_option maxHeartbeats 1000000 in
theorem curPlaced_any {w0 w : World} {T : TO} {b : Nat} {p : Option Nat} (h : Cur w0 T b p w) :
    Calls Try.prog 30 #[pb b] w fun e w' => e = .returned (.bool p.isSome) ∧ w = w' := by
  have hc := h.c1
  have hk := placed_iff h.ok h.okE
  obtain ⟨k, hk2⟩ : ∃ k, keyAt (tl T) p = k := ⟨_, rfl⟩
  rw [hk2] at hc hk
  have hse : k.toList.isEmpty = !p.isSome := by
    rw [← show decide (k = ⟨#[]⟩) = !p.isSome from hk, ← same_eq k ⟨#[]⟩]
    rw [show (⟨#[]⟩ : ByteArray).toList = [] by simp [Lib.toList_data]]
    cases k.toList <;> rfl
  obtain ⟨f, hf⟩ : ∃ f, p.isSome = f := ⟨_, rfl⟩
  rw [hf] at hse ⊢
  clear hk2 hk hf h
  go_enter Try.func30, Try.ntmps30
  go_wp2
  go_ret
  exact ⟨rfl, rfl⟩
theorem curPlaced_nil (w : World) : Calls Try.prog 30 #[.pointer none] w fun e w' => e = .returned (.bool false) ∧ w = w' := by
  go_enter Try.func30, Try.ntmps30
  go_wp2
  go_ret
  exact ⟨rfl, rfl⟩

set_option maxHeartbeats 1000000 in
theorem moveTo_any {w : World} {b : Nat} {tv : Value} {k0 k v : ByteArray} {f : Bool} (h : w.heap[b]? = some (.cells #[tv, .string k0] 53 (0, 0))) :
    Calls Try.prog 26 #[pb b, .agg #[.string k, .string v], .bool f] w fun e w' => e = .returned (.bool f) ∧ Mv b w w' ∧ w'.heap[b]? = some (.cells #[tv, .string k] 53 (0, 0)) := by
  have hlt := at_lt h
  have q1 := cell_row h 1 _ rfl
  have f1 : w.frozen? ⟨b, 1, none⟩ = false := by simp [World.frozen?, h]
  have hs : Mv b w (w.setCell ⟨b, 1, none⟩ (.string k)) := (Stp.refl (T := fun i => i = b) fun i hi => by rw [hi]; exact hlt).set (p := ⟨b, 1, none⟩) rfl _
  have ha : (w.setCell ⟨b, 1, none⟩ (.string k)).heap[b]? = some (.cells #[tv, .string k] 53 (0, 0)) := (cells_set h 1 _).trans rfl
  have hba : Below (w.setCell ⟨b, 1, none⟩ (.string k)).heap.size (w.setCell ⟨b, 1, none⟩ (.string k)) ((w.setCell ⟨b, 1, none⟩ (.string k)).alloc (.cells #[.string k, .string v] 39)) := (Below.refl _ _).alloc (Nat.le_refl _) _
  have HS := Lib.hid (hs.below_ hba)
  have HA := Lib.hid ((hba.block b (at_lt ha)).trans ha)
  clear hs ha hba h
  go_enter Try.func26, Try.ntmps26
  go_wp2
  go_ret
  exact ⟨rfl, HS.out, HA.out⟩
/-- Where first has found an entry, or none, the cursor moves there. -/
theorem Cur.moved {w0 w w' : World} {T : TO} {b : Nat} {p q : Option Nat} (h : Cur w0 T b p w) (hq : OkP (tl T) q) (hm : Mv b w w') (ha : w'.heap[b]? = some (.cells #[tb T, .string (keyAt (tl T) q)] 53 (0, 0))) : Cur w0 T b q w' :=
  ⟨h.tr, h.lo, h.bel.trans (Mv.below' hm h.bel.size h.lo), hq, ha⟩
theorem curMoveTo_any {w0 w : World} {T : TO} {b : Nat} {p q : Option Nat} (h : Cur w0 T b p w) (hq : OkP (tl T) q) :
    Calls Try.prog 26 #[pb b, ansE (entAt (tl T) q), .bool (entAt (tl T) q).isSome] w fun e w' => e = .returned (.bool q.isSome) ∧ Mv b w w' ∧ Cur w0 T b q w' := by
  rw [okP_ent hq]
  refine (moveTo_any (f := q.isSome) (k := keyO (entAt (tl T) q)) (v := valO (entAt (tl T) q)) h.at_).mono ?_
  rintro e w' ⟨rfl, hm, ha⟩
  exact ⟨rfl, hm, h.moved hq hm ha⟩

end Go.Proofs.Ytkooaechcbopnaa
