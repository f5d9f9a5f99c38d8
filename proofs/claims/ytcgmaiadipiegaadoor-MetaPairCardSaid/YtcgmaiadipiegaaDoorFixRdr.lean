/-
  The contracts of fix.Read and of the Reader's methods Err, At, next: a Reader is a block of three cells (its bytes, the position, the error); conditions: the Reader lies in memory as Rdr says.
-/
import Derived.Test.YtcgmaiadipiegaaDoorBytes
import Derived.Test.YtcgmaiadipiegaaDoorFixPut
namespace Go.Proofs.YtcgmaiadipiegaaDoor
open Go.RowKit
set_option linter.unusedVariables false

/-- A Reader in block g over the bytes l, which lie in block h: at position p, with error e. -/
def Rdr (w : World) (g h : Nat) (l : List UInt8) (p e : Int) : Prop :=
  w.heap[g]? = some (.cells #[.slice (some ⟨h, 0, none⟩) l.length l.length, .int .i64 p, .int .i64 e] 75 (0, 0)) ∧
  w.heap[h]? = some (.cells (bcells l).toArray 5 (0, 0)) ∧ 0 ≤ p ∧ p ≤ l.length

theorem Rdr.cells {w : World} {g h : Nat} {l : List UInt8} {p e : Int} (r : Rdr w g h l p e) :
    w.cell? ⟨g, 0, none⟩ = some (.slice (some ⟨h, 0, none⟩) l.length l.length) ∧ w.cell? ⟨g, 1, none⟩ = some (.int .i64 p) ∧ w.cell? ⟨g, 2, none⟩ = some (.int .i64 e) :=
  ⟨(cell_of_block r.1 0).trans rfl, (cell_of_block r.1 1).trans rfl, (cell_of_block r.1 2).trans rfl⟩
theorem Rdr.free {w : World} {g h : Nat} {l : List UInt8} {p e : Int} (r : Rdr w g h l p e) (i : Nat) : w.frozen? ⟨g, i, none⟩ = false := by
  simp [World.frozen?, r.1]
theorem Rdr.ne {w : World} {g h : Nat} {l : List UInt8} {p e : Int} (r : Rdr w g h l p e) : g ≠ h := by
  rintro rfl
  have := r.1.symm.trans r.2.1
  injection this with this
  injection this with _ ht
  exact absurd ht (by decide)
theorem Rdr.lt {w : World} {g h : Nat} {l : List UInt8} {p e : Int} (r : Rdr w g h l p e) : g < w.heap.size ∧ h < w.heap.size :=
  ⟨lt_of_block r.1, lt_of_block r.2.1⟩

set_option maxHeartbeats 400000 in
theorem err_some (w : World) (g h : Nat) (l : List UInt8) (p e : Int) (r : Rdr w g h l p e) :
    Calls Tryd.prog 48 #[.pointer (some ⟨g, 0, none⟩)] w fun x w' => x = .returned (.int .i64 e) ∧ w = w' := by
  have hc := r.cells.2.2
  clear r
  go_enter Tryd.func48, Tryd.ntmps48
  go_wp2
  go_ret
  exact ⟨rfl, rfl⟩

theorem err_nil (w : World) :
    Calls Tryd.prog 48 #[.pointer none] w fun x w' => x = .returned (.int .i64 2) ∧ w = w' := by
  go_enter Tryd.func48, Tryd.ntmps48
  go_wp2
  go_ret
  exact ⟨rfl, rfl⟩

set_option maxHeartbeats 400000 in
theorem read_any (A : Option Addr) (n c : Nat) (l : List UInt8) (w : World) (hr : Rd w A l) (hn : l.length = n) (hb : n ≤ 281474976710656) :
    Calls Tryd.prog 33 #[.slice A n c] w fun e w' =>
      ∃ g, e = .returned (.pointer (some ⟨g, 0, none⟩)) ∧ Rdr w' g w.heap.size l 0 0 ∧ w.heap.size ≤ g ∧ Below w.heap.size w w' := by
  have Hn := Lib.hid hn
  clear hn
  go_enter Tryd.func33, Tryd.ntmps33
  go_wp2_with (go_at_call 37; ((with_reducible refine (withRoom_any A n c l 0 _ hr Hn.out (by omega) (by omega)).mono ?_); rintro e w1 ⟨rfl, hown, hb1⟩))
  go_ret
  refine ⟨w1.heap.size, rfl, ⟨?_, ?_, Int.le_refl _, by omega⟩, hb1.size, hb1.alloc hb1.size _⟩
  · rw [heap_alloc_new, Hn.out]
  · have h1 := own_whole (n := n) (by simpa using hown)
    rw [Below.heap_alloc _ _ _ (lt_of_block h1)]
    exact h1

theorem Rdr.drewN {w : World} {g h : Nat} {l : List UInt8} {p e : Int} (r : Rdr w g h l p e) (n : Nat) : Rdr (w.drewN n) g h l p e := r
theorem Rdr.setP {w : World} {g h : Nat} {l : List UInt8} {p e : Int} (r : Rdr w g h l p e) {q : Int} (h0 : 0 ≤ q) (h1 : q ≤ l.length) : Rdr (w.setCell ⟨g, 1, none⟩ (.int .i64 q)) g h l q e :=
  ⟨(blk_set r.1 1 _).trans rfl, (Below.heap_setCell w _ _ h (Ne.symm r.ne)).trans r.2.1, h0, h1⟩
theorem Rdr.setE {w : World} {g h : Nat} {l : List UInt8} {p e : Int} (r : Rdr w g h l p e) (q : Int) : Rdr (w.setCell ⟨g, 2, none⟩ (.int .i64 q)) g h l p q :=
  ⟨(blk_set r.1 2 _).trans rfl, (Below.heap_setCell w _ _ h (Ne.symm r.ne)).trans r.2.1, r.2.2.1, r.2.2.2⟩
/-- What next leaves: the position, the error, the bytes. -/
def nextP (l : List UInt8) (p e : Int) (size : Int) : Int := if e = 0 ∧ size ≤ l.length - p then p + size else p
def nextE (l : List UInt8) (p e : Int) (size : Int) : Int := if e = 0 then (if size ≤ l.length - p then 0 else 2) else e
def nextB (l : List UInt8) (p e : Int) (size : Int) : List UInt8 := if e = 0 ∧ size ≤ l.length - p then (l.drop p.toNat).take size.toNat else []

/-- What a call of a Reader's method leaves: only the Reader's own block may have turned. -/
def NextPost (w : World) (g h : Nat) (l : List UInt8) (p e size : Int) (x : Ending) (w' : World) : Prop :=
  ∃ A n c, x = .returned (.slice A n c) ∧ (nextB l p e size).length = n ∧ Rd w' A (nextB l p e size) ∧ Rdr w' g h l (nextP l p e size) (nextE l p e size) ∧ w.grownBy w' (some g)

set_option maxHeartbeats 400000 in
theorem next_err (w : World) (g h : Nat) (l : List UInt8) (p e size : Int) (r : Rdr w g h l p e) (he : e ≠ 0) :
    Calls Tryd.prog 47 #[.pointer (some ⟨g, 0, none⟩), .int .i64 size] w (NextPost w g h l p e size) := by
  have hne : (e != 0) = true := by simpa using he
  have R := Lib.hid r
  have HE := Lib.hid he
  clear he r
  go_enter Tryd.func47, Tryd.ntmps47
  go_wp2_with (go_at_call 48; ((with_reducible refine (err_some w g h l p e R.out).mono ?_); rintro x w1 ⟨rfl, rfl⟩))
  go_ret
  refine ⟨none, 0, 0, rfl, ?_, ?_, ?_, World.grownBy.refl _ _⟩
  · simp [nextB, HE.out]
  · simp [nextB, HE.out]; exact Rd.nil _ _
  · simpa [nextP, nextE, HE.out] using R.out

set_option maxHeartbeats 400000 in
theorem next_short (w : World) (g h : Nat) (l : List UInt8) (p size : Int) (r : Rdr w g h l p 0) (hsz : (l.length : Int) - p < size) (hb : l.length ≤ 281474976710656) :
    Calls Tryd.prog 47 #[.pointer (some ⟨g, 0, none⟩), .int .i64 size] w (NextPost w g h l p 0 size) := by
  have R := Lib.hid r
  obtain ⟨hc0, hc1, hc2⟩ := r.cells
  have hf := r.free 2
  have hp0 := r.2.2.1
  have hp1 := r.2.2.2
  clear r
  go_enter Tryd.func47, Tryd.ntmps47
  go_wp2_with (go_at_call 48; ((with_reducible refine (err_some w g h l p 0 R.out).mono ?_); rintro x w1 ⟨rfl, rfl⟩))
  go_quiet (fail)
  go_wp2
  go_ret
  have hn : ¬ (size ≤ (l.length : Int) - p) := by omega
  refine ⟨none, 0, 0, rfl, ?_, ?_, ?_, only_setCell (only_drewN (World.grownBy.refl _ _) nq) rfl _⟩
  · simp [nextB, hn]
  · simp [nextB, hn]; exact Rd.nil _ _
  · have := (R.out.drewN nq).setE 2
    simpa [nextP, nextE, hn] using this

theorem nextB_ok (l : List UInt8) (q m : Nat) (h : (m : Int) ≤ l.length - q) : nextB l q 0 m = (l.drop q).take m := by
  simp [nextB, h]
theorem nextP_ok (l : List UInt8) (q m : Nat) (h : (m : Int) ≤ l.length - q) : nextP l q 0 m = q + m := by
  simp [nextP, h]
theorem nextE_ok (l : List UInt8) (q m : Nat) (h : (m : Int) ≤ l.length - q) : nextE l q 0 m = 0 := by
  simp [nextE, h]

set_option maxHeartbeats 400000 in
theorem next_ok (w : World) (g d : Nat) (l : List UInt8) (q m : Nat) (r : Rdr w g d l q 0) (hsz : (m : Int) ≤ (l.length : Int) - q) (hb : l.length ≤ 281474976710656) :
    Calls Tryd.prog 47 #[.pointer (some ⟨g, 0, none⟩), .int .i64 m] w (NextPost w g d l q 0 m) := by
  have R := Lib.hid r
  obtain ⟨hc0, hc1, hc2⟩ := r.cells
  have hf := r.free 1
  have hp1 := r.2.2.2
  clear r
  go_enter Tryd.func47, Tryd.ntmps47
  go_wp2_with (go_at_call 48; ((with_reducible refine (err_some w g d l q 0 R.out).mono ?_); rintro x w1 ⟨rfl, rfl⟩))
  go_quiet (fail)
  go_wp2
  go_quiet (fail)
  go_wp2
  · go_ret
    have hlq : l.length = q := by assumption
    have hm : m = 0 := by omega
    refine ⟨some ⟨d, 0, none⟩, m, 0, rfl, ?_, ?_, ?_, only_drewN (only_setCell (only_drewN (World.grownBy.refl _ _) _) rfl _) _⟩
    · rw [nextB_ok l q m hsz, hm]; simp
    · rw [nextB_ok l q m hsz, hm]; simp; exact Rd.nil _ _
    · rw [nextP_ok l q m hsz, nextE_ok l q m hsz]; exact ((R.out.drewN _).setP (by omega) (by omega)).drewN _
  · go_ret
    refine ⟨some ⟨d, q, none⟩, _, _, rfl, ?_, ?_, ?_, only_drewN (only_setCell (only_drewN (World.grownBy.refl _ _) _) rfl _) _⟩
    · rw [nextB_ok l q m hsz]; simp; omega
    · rw [nextB_ok l q m hsz]; exact rd_block (((R.out.drewN _).setP (q := (q : Int) + m) (by omega) (by omega)).drewN _).2.1 q m
    · rw [nextP_ok l q m hsz, nextE_ok l q m hsz]; exact ((R.out.drewN _).setP (by omega) (by omega)).drewN _

/-- next, whatever the Reader's state. -/
theorem next_any (w : World) (g d : Nat) (l : List UInt8) (p e size : Int) (r : Rdr w g d l p e) (h0 : 0 ≤ size) (hb : l.length ≤ 281474976710656) :
    Calls Tryd.prog 47 #[.pointer (some ⟨g, 0, none⟩), .int .i64 size] w (NextPost w g d l p e size) := by
  by_cases he : e = 0
  · subst he
    by_cases hs : size ≤ (l.length : Int) - p
    · obtain ⟨q, rfl⟩ := Int.eq_ofNat_of_zero_le r.2.2.1
      obtain ⟨m, rfl⟩ := Int.eq_ofNat_of_zero_le h0
      exact next_ok w g d l q m r hs hb
    · exact next_short w g d l p size r (by omega) hb
  · exact next_err w g d l p e size r he

theorem next_nil (w : World) (size : Int) : Calls Tryd.prog 47 #[.pointer none, .int .i64 size] w fun x w' => x = .returned (.slice none 0 0) ∧ w = w' := by
  go_enter Tryd.func47, Tryd.ntmps47
  go_wp2_with (go_at_call 48; ((with_reducible refine (err_nil w).mono ?_); rintro x w1 ⟨rfl, rfl⟩))
  go_ret
  exact ⟨rfl, rfl⟩

theorem take_nil (w : World) (size : Int) : Calls Tryd.prog 46 #[.pointer none, .int .i64 size] w fun x w' => x = .returned (.int .i64 0) ∧ w = w' := by
  go_enter Tryd.func46, Tryd.ntmps46
  go_wp2_with (go_at_call 47; ((with_reducible refine (next_nil w size).mono ?_); rintro x w1 ⟨rfl, rfl⟩))
  refine wp_loop_rounds 1 ?_
  rw [rounds_succ]
  go_wp2
  go_ret
  exact ⟨rfl, rfl⟩

end Go.Proofs.YtcgmaiadipiegaaDoor
