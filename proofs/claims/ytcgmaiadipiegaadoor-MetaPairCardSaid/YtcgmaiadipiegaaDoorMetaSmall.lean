/-
  Meta pages in memory; the contracts of meta.Right, isNumber, Slot and of the reference's Right, Number and Slot; words for bytes in a row of the call's own; conditions: numbers of 64 bits.
-/
import Derived.Test.YtcgmaiadipiegaaDoorMetaPure
import Derived.Test.YtcgmaiadipiegaaDoorLs
import Derived.Test.YtcgmaiadipiegaaDoorSumSeal
import Derived.Test.YtcgmaiadipiegaaDoorDrawnC
namespace Go.Proofs.YtcgmaiadipiegaaDoor
open Go.RowKit Go.Sort
set_option linter.unusedVariables false

/-- Bytes in a row of the call's own. -/
def OB (w : World) (base : Nat) (v : Value) (l : List UInt8) : Prop := w.ownsRow base 5 1 v l.length (bcells l)
theorem OB.form {w : World} {base : Nat} {v : Value} {l : List UInt8} (h : OB w base v l) : ∃ A c, v = .slice A l.length c ∧ l.length ≤ c ∧ Rd w A l := by
  rcases h.2 with ⟨rfl, h0⟩ | ⟨g, cap, cur, rfl, hg, hh, hc, _⟩
  · exact ⟨none, 0, by rw [h0], by omega, fun hl => by omega⟩
  · exact ⟨_, _, rfl, hc, fun _ => ⟨_, rfl, lt_of_block hh, h.cells (g := g) rfl⟩⟩
theorem OB.named {w : World} {base : Nat} {v : Value} {l : List UInt8} (h : OB w base v l) : ∃ A n c, v = .slice A n c ∧ l.length = n ∧ n ≤ c ∧ Rd w A l := by
  obtain ⟨A, c, h1, h2, h3⟩ := h.form
  exact ⟨A, _, c, h1, rfl, h2, h3⟩
theorem OB.at_block {w : World} {base : Nat} {v : Value} {l : List UInt8} (h : OB w base v l) : ∀ g, v.ownBlock = some g → base ≤ g := by
  intro g hg
  rcases h.2 with ⟨rfl, h0⟩ | ⟨g', cap, cur, rfl, hb, _⟩
  · simp [Value.ownBlock] at hg
  · have : g' = g := by simpa [Value.ownBlock] using hg
    omega
theorem OB.below {w w' : World} {base : Nat} {v : Value} {l : List UInt8} (h : OB w base v l) (hb : Below w.heap.size w w') : OB w' base v l := own_below h hb
theorem OB.mono {w : World} {b b' : Nat} {v : Value} {l : List UInt8} (h : OB w b v l) (hb : b' ≤ b) : OB w b' v l := own_mono h hb
theorem OB.grow_below {a w w' : World} {base : Nat} {v : Value} {l : List UInt8} (h : OB w base v l) (hb : Below base a w) (hs : base ≤ w.heap.size) (hg : w.grownBy w' v.ownBlock) : Below base a w' :=
  hb.grown hg hs (fun k hk => h.at_block k hk)
theorem enc8 : Enc (fun b : UInt8 => [u8 b]) 1 := ⟨fun _ => rfl, fun x u hu => by
  rw [List.mem_singleton] at hu
  subst hu
  rfl⟩
theorem flat8 (l : List UInt8) : l.flatMap (fun b => [u8 b]) = bcells l := by
  induction l with
  | nil => rfl
  | cons b l ih => rw [List.flatMap_cons, ih]; rfl
/-- append(b, x). -/
theorem append_byte (ty : TypeId) {W : World} {base : Nat} {v : Value} {l : List UInt8} (h : OB W base v l) (hs : base ≤ W.heap.size) (x : UInt8) (y : Value) (hy : y = u8 x) (hl : l.length ≤ 1000000) :
    ∃ v' w', (Builtin.append_ #[25, 25] ty #[v, .slice (some ⟨W.heap.size, 0, none⟩) 1 1]).run Tryd.prog (W.alloc (.cells #[y] 5)) = .ok v' w' ∧ OB w' base v' (l ++ [x]) ∧ (W.alloc (.cells #[y] 5)).grownBy w' v.ownBlock := by
  subst hy
  have h' : OwnL (fun b : UInt8 => [u8 b]) 5 1 W base v l := by unfold OwnL; rw [flat8]; exact h
  obtain ⟨v', w', h1, h2, h3⟩ := run_append_one enc8 25 5 ty (.int .u8 0) 1 ⟨_, Tryd.underlying25, rfl⟩ u8info rfl (by omega) (by omega) (by omega) h' x hl hs
  refine ⟨v', w', h1, ?_, h3⟩
  unfold OwnL at h2
  rwa [flat8] at h2
theorem put16_ob (A : Option Addr) (n c : Nat) (l : List UInt8) (x : Int) (w : World) (hr : Rd w A l) (hn : l.length = n) (hb : n ≤ 1000000) (hx : I64 x) :
    Calls Tryd.prog 36 #[.slice A n c, .int .i64 x] w fun e w' => ∃ v, e = .returned v ∧ OB w' w.heap.size v (l ++ be16 x) ∧ Below w.heap.size w w' := by
  refine (put16_any A n c l x w hr hn (by omega) hx.1 hx.2).mono ?_
  rintro e w' ⟨rfl, ho, hb'⟩
  refine ⟨_, rfl, ?_, hb'⟩
  unfold OB
  rw [show (l ++ be16 x).length = n + 2 by rw [List.length_append, be16_len, hn]]
  exact ho
theorem put32_ob (A : Option Addr) (n c : Nat) (l : List UInt8) (x : Int) (w : World) (hr : Rd w A l) (hn : l.length = n) (hb : n ≤ 1000000) (hx : I64 x) :
    Calls Tryd.prog 27 #[.slice A n c, .int .i64 x] w fun e w' => ∃ v, e = .returned v ∧ OB w' w.heap.size v (l ++ be32 x) ∧ Below w.heap.size w w' := by
  refine (put32_any A n c l x w hr hn (by omega) hx.1 hx.2).mono ?_
  rintro e w' ⟨rfl, ho, hb'⟩
  refine ⟨_, rfl, ?_, hb'⟩
  unfold OB
  rw [show (l ++ be32 x).length = n + 4 by rw [List.length_append, be32_len, hn]]
  exact ho

/-- A meta page by value. -/
def metaV (m : MT) : Value := .agg #[.int .i64 m.e, .int .i64 m.r]
def MI (m : MT) : Prop := I64 m.e ∧ I64 m.r
theorem i64_num {n : Int} (h : okNum n) : I64 n := ⟨by have := h.1; omega, by have := h.2; omega⟩
theorem okM_mi {m : MT} (h : okM m) : MI m := ⟨⟨by have := (okM_e h).1; omega, by have := (okM_e h).2; omega⟩, ⟨by have := (okM_r h).1; omega, by have := (okM_r h).2; omega⟩⟩

theorem mtIsNumber_any (n : Int) (w : World) (hn : I64 n) :
    Calls Tryd.prog 30 #[.int .i64 n] w fun e w' => e = .returned (.bool (decide (okNum n))) ∧ w = w' := by
  by_cases h1 : 2 ≤ n
  · by_cases h2 : n < 512
    · rw [show decide (okNum n) = true from decide_eq_true ⟨h1, by omega⟩]
      go_enter Tryd.func30, Tryd.ntmps30
      go_wp2
      go_ret
      exact ⟨rfl, rfl⟩
    · rw [show decide (okNum n) = false from decide_eq_false fun h => by have := h.2; omega]
      go_enter Tryd.func30, Tryd.ntmps30
      go_wp2
      go_ret
      exact ⟨rfl, rfl⟩
  · rw [show decide (okNum n) = false from decide_eq_false fun h => h1 h.1]
    go_enter Tryd.func30, Tryd.ntmps30
    go_wp2
    go_ret
    exact ⟨rfl, rfl⟩
theorem refNumber_any (n : Int) (w : World) (hn : I64 n) :
    Calls Tryd.prog 31 #[.int .i64 n] w fun e w' => e = .returned (.bool (decide (okNum n))) ∧ w = w' := by
  by_cases h1 : 2 ≤ n
  · by_cases h2 : n ≤ 511
    · rw [show decide (okNum n) = true from decide_eq_true ⟨h1, h2⟩]
      go_enter Tryd.func31, Tryd.ntmps31
      go_wp2
      go_ret
      exact ⟨rfl, rfl⟩
    · rw [show decide (okNum n) = false from decide_eq_false fun h => h2 h.2]
      go_enter Tryd.func31, Tryd.ntmps31
      go_wp2
      go_ret
      exact ⟨rfl, rfl⟩
  · rw [show decide (okNum n) = false from decide_eq_false fun h => h1 h.1]
    go_enter Tryd.func31, Tryd.ntmps31
    go_wp2
    go_ret
    exact ⟨rfl, rfl⟩

set_option maxRecDepth 100000 in
set_option maxHeartbeats 400000 in
/-- meta.Right. -/
theorem mtRight_any (m : MT) (w : World) (hm : MI m) :
    Calls Tryd.prog 14 #[metaV m] w fun e w' => e = .returned (.bool (decide (okM m))) ∧ Below w.heap.size w w' := by
  obtain ⟨x, y⟩ := m
  obtain ⟨⟨hx, hx'⟩, hy⟩ := hm
  simp only at hx hx'
  unfold metaV
  simp only
  have hb : Below w.heap.size w (w.alloc (.cells #[.int .i64 x, .int .i64 y] 29)) := (Below.refl _ _).alloc (Nat.le_refl _) _
  by_cases h1 : 1 ≤ x
  · by_cases h2 : x ≤ 1073741824
    · by_cases h3 : y = 0
      · rw [show decide (okM ⟨x, y⟩) = true from decide_eq_true ⟨⟨h1, h2⟩, .inl h3⟩]
        subst h3
        go_enter Tryd.func14, Tryd.ntmps14
        go_wp2
        go_ret
        exact ⟨rfl, hb⟩
      · rw [show decide (okM ⟨x, y⟩) = decide (okNum y) from decide_eq_decide.2 ⟨fun h => h.2.resolve_left h3, fun h => ⟨⟨h1, h2⟩, .inr h⟩⟩]
        have h4 : (y == 0) = false := by simpa using h3
        go_enter Tryd.func14, Tryd.ntmps14
        go_wp2_with fail
        refine (mtIsNumber_any y _ hy).mono ?_
        rintro e w1 ⟨rfl, rfl⟩
        go_wp2
        go_ret
        exact ⟨rfl, hb⟩
    · rw [show decide (okM ⟨x, y⟩) = false from decide_eq_false fun h => h2 h.1.2]
      go_enter Tryd.func14, Tryd.ntmps14
      go_wp2
      go_ret
      exact ⟨rfl, hb⟩
  · rw [show decide (okM ⟨x, y⟩) = false from decide_eq_false fun h => h1 h.1.1]
    go_enter Tryd.func14, Tryd.ntmps14
    go_wp2
    go_ret
    exact ⟨rfl, hb⟩

set_option maxRecDepth 100000 in
set_option maxHeartbeats 400000 in
/-- The reference's Right. -/
theorem mtRefRight_any (m : MT) (w : World) (hm : MI m) :
    Calls Tryd.prog 15 #[metaV m] w fun e w' => e = .returned (.bool (decide (okM m))) ∧ Below w.heap.size w w' := by
  obtain ⟨x, y⟩ := m
  obtain ⟨⟨hx, hx'⟩, hy⟩ := hm
  simp only at hx hx'
  unfold metaV
  simp only
  have hb : Below w.heap.size w (w.alloc (.cells #[.int .i64 x, .int .i64 y] 23)) := (Below.refl _ _).alloc (Nat.le_refl _) _
  by_cases h1 : 1 ≤ x
  · by_cases h2 : x ≤ 1073741824
    · by_cases h3 : y = 0
      · rw [show decide (okM ⟨x, y⟩) = true from decide_eq_true ⟨⟨h1, h2⟩, .inl h3⟩]
        subst h3
        go_enter Tryd.func15, Tryd.ntmps15
        go_wp2
        go_ret
        exact ⟨rfl, hb⟩
      · rw [show decide (okM ⟨x, y⟩) = decide (okNum y) from decide_eq_decide.2 ⟨fun h => h.2.resolve_left h3, fun h => ⟨⟨h1, h2⟩, .inr h⟩⟩]
        have h4 : (y == 0) = false := by simpa using h3
        go_enter Tryd.func15, Tryd.ntmps15
        go_wp2_with fail
        refine (refNumber_any y _ hy).mono ?_
        rintro e w1 ⟨rfl, rfl⟩
        go_wp2
        go_ret
        exact ⟨rfl, hb⟩
    · rw [show decide (okM ⟨x, y⟩) = false from decide_eq_false fun h => h2 h.1.2]
      go_enter Tryd.func15, Tryd.ntmps15
      go_wp2
      go_ret
      exact ⟨rfl, hb⟩
  · rw [show decide (okM ⟨x, y⟩) = false from decide_eq_false fun h => h1 h.1.1]
    go_enter Tryd.func15, Tryd.ntmps15
    go_wp2
    go_ret
    exact ⟨rfl, hb⟩

def slotI (x : Int) : Int := if x % 2 = 0 then 0 else 1
theorem slot_rem (x : Int) : (Int.tmod x 2 == 0) = decide (x % 2 = 0) := by
  have h : Int.tmod x 2 = 0 ↔ x % 2 = 0 := by
    rw [← Int.dvd_iff_tmod_eq_zero, Int.dvd_iff_emod_eq_zero]
  by_cases h0 : x % 2 = 0
  · rw [decide_eq_true h0]; simpa using h.2 h0
  · rw [decide_eq_false h0]
    have : ¬ Int.tmod x 2 = 0 := fun k => h0 (h.1 k)
    simpa using this

set_option maxHeartbeats 400000 in
theorem mtSlot_any (x : Int) (w : World) (hx : I64 x) :
    Calls Tryd.prog 16 #[.int .i64 x] w fun e w' => e = .returned (.int .i64 (slotI x)) ∧ w = w' := by
  have h1 := hx.1
  have h2 := hx.2
  clear hx
  have hs := slot_rem x
  go_enter Tryd.func16, Tryd.ntmps16
  by_cases h : x % 2 = 0
  · rw [decide_eq_true h] at hs
    have e : slotI x = 0 := if_pos h
    rw [e]
    clear e h
    go_wp2
    go_ret
    exact ⟨rfl, rfl⟩
  · rw [decide_eq_false h] at hs
    have e : slotI x = 1 := if_neg h
    rw [e]
    clear e h
    go_wp2
    go_ret
    exact ⟨rfl, rfl⟩
set_option maxHeartbeats 400000 in
theorem mtRefSlot_any (x : Int) (w : World) (hx : I64 x) :
    Calls Tryd.prog 17 #[.int .i64 x] w fun e w' => e = .returned (.int .i64 (slotI x)) ∧ w = w' := by
  have h1 := hx.1
  have h2 := hx.2
  clear hx
  have hs := slot_rem x
  go_enter Tryd.func17, Tryd.ntmps17
  by_cases h : x % 2 = 0
  · rw [decide_eq_true h] at hs
    have e : slotI x = 0 := if_pos h
    rw [e]
    clear e h
    go_wp2
    go_ret
    exact ⟨rfl, rfl⟩
  · rw [decide_eq_false h] at hs
    have e : slotI x = 1 := if_neg h
    rw [e]
    clear e h
    go_wp2
    go_ret
    exact ⟨rfl, rfl⟩

end Go.Proofs.YtcgmaiadipiegaaDoor
