/-
  The contracts of the document's reader sapwoodref01.Reader (Take, Text, Zero): it answers and moves by the same functions as the program's Reader; conditions: it lies in memory as RefR says.
-/
import Derived.Test.YtcgmaiadipiegaaDoorFixText
namespace Go.Proofs.YtcgmaiadipiegaaDoor
open Go.RowKit
set_option linter.unusedVariables false
set_option linter.unusedSimpArgs false

/-- The document's reader in block g: its text, the position, the error. -/
def RefR (w : World) (g : Nat) (B : ByteArray) (p e : Int) : Prop :=
  w.heap[g]? = some (.cells #[.string B, .int .i64 p, .int .i64 e] 68 (0, 0)) ∧ 0 ≤ p ∧ p ≤ B.size

section
variable {w : World} {g : Nat} {B : ByteArray} {p e : Int}
theorem RefR.cells (r : RefR w g B p e) : w.cell? ⟨g, 0, none⟩ = some (.string B) ∧ w.cell? ⟨g, 1, none⟩ = some (.int .i64 p) ∧ w.cell? ⟨g, 2, none⟩ = some (.int .i64 e) :=
  ⟨(cell_of_block r.1 0).trans rfl, (cell_of_block r.1 1).trans rfl, (cell_of_block r.1 2).trans rfl⟩
theorem RefR.free (r : RefR w g B p e) (i : Nat) : w.frozen? ⟨g, i, none⟩ = false := by simp [World.frozen?, r.1]
theorem RefR.drewN (r : RefR w g B p e) (n : Nat) : RefR (w.drewN n) g B p e := r
theorem RefR.setP (r : RefR w g B p e) {q : Int} (h0 : 0 ≤ q) (h1 : q ≤ B.size) : RefR (w.setCell ⟨g, 1, none⟩ (.int .i64 q)) g B q e := ⟨(blk_set r.1 1 _).trans rfl, h0, h1⟩
theorem RefR.setE (r : RefR w g B p e) (q : Int) : RefR (w.setCell ⟨g, 2, none⟩ (.int .i64 q)) g B p q := ⟨(blk_set r.1 2 _).trans rfl, r.2.1, r.2.2⟩
theorem RefR.lt (r : RefR w g B p e) : g < w.heap.size := lt_of_block r.1
end

def RTakePost (w : World) (g : Nat) (B : ByteArray) (p e size : Int) (x : Ending) (w' : World) : Prop :=
  x = .returned (.int .i64 (num (nextB B.data.toList p e size))) ∧ RefR w' g B (nextP B.data.toList p e size) (nextE B.data.toList p e size) ∧ w.grownBy w' (some g)

theorem data_len (B : ByteArray) : B.data.toList.length = B.size := rfl

set_option maxHeartbeats 400000 in
theorem rtake_err (w : World) (g : Nat) (B : ByteArray) (p e size : Int) (r : RefR w g B p e) (he : e ≠ 0) :
    Calls Tryd.prog 35 #[.pointer (some ⟨g, 0, none⟩), .int .i64 size] w (RTakePost w g B p e size) := by
  have hne : (e != 0) = true := by simpa using he
  have R := Lib.hid r
  have hc := r.cells.2.2
  have HE := Lib.hid he
  clear he r
  go_enter Tryd.func35, Tryd.ntmps35
  go_wp2
  go_ret
  refine ⟨?_, ?_, World.grownBy.refl _ _⟩
  · simp [nextB, HE.out]; rfl
  · simpa [nextP, nextE, HE.out] using R.out

set_option maxHeartbeats 400000 in
theorem rtake_short (w : World) (g : Nat) (B : ByteArray) (p size : Int) (r : RefR w g B p 0) (hsz : (B.size : Int) - p < size) (hb : B.size ≤ 281474976710656) :
    Calls Tryd.prog 35 #[.pointer (some ⟨g, 0, none⟩), .int .i64 size] w (RTakePost w g B p 0 size) := by
  have R := Lib.hid r
  obtain ⟨hc0, hc1, hc2⟩ := r.cells
  have hf := r.free 2
  have hp0 := r.2.1
  have hp1 := r.2.2
  clear r
  go_enter Tryd.func35, Tryd.ntmps35
  go_wp2
  go_quiet (fail)
  go_wp2
  go_ret
  have hn : ¬ (size ≤ (B.data.toList.length : Int) - p) := by rw [data_len]; omega
  refine ⟨?_, ?_, only_setCell (only_drewN (World.grownBy.refl _ _) nq) rfl _⟩
  · simp only [nextB, hn, and_false, if_false]; rfl
  · have := (R.out.drewN nq).setE 2
    simp only [nextP, nextE, hn, and_false, if_false, if_true]
    exact this

theorem take_get (B : ByteArray) (q m k : Nat) (hk : k < m) (h : q + m ≤ B.size) : num (((B.data.toList.drop q).take m).take (k + 1)) = num (((B.data.toList.drop q).take m).take k) * 256 + (B[q + k]'(by omega)).toNat := by
  have hl : k < ((B.data.toList.drop q).take m).length := by
    simp [data_len]; omega
  rw [take_succ_num _ k hl]
  congr 2
  simp
  rfl

set_option maxHeartbeats 1000000 in
theorem rtake_ok (w : World) (g : Nat) (B : ByteArray) (q m : Nat) (r : RefR w g B q 0) (hsz : q + m ≤ B.size) (h4 : m ≤ 4) (hb : B.size ≤ 281474976710656) :
    Calls Tryd.prog 35 #[.pointer (some ⟨g, 0, none⟩), .int .i64 m] w (RTakePost w g B q 0 m) := by
  have R := Lib.hid r
  obtain ⟨hc0, hc1, hc2⟩ := r.cells
  have hf := r.free 1
  clear r
  obtain ⟨D, hD⟩ : ∃ D, D = (B.data.toList.drop q).take m := ⟨_, rfl⟩
  have hDl : D.length = m := by rw [hD]; simp [data_len]; omega
  have HD := Lib.hid hD
  have HDl := Lib.hid hDl
  clear hD hDl
  have hsz' : ¬ ((B.size : Int) - (q : Int) < (m : Int)) := by omega
  go_enter Tryd.func35, Tryd.ntmps35
  go_wp2
  go_quiet (fail)
  go_wp2
  go_loopw [5, 6] (fun t i wr => ∃ k : Nat, k ≤ m ∧ i = .int .i64 k ∧ t = .int .i64 (num (D.take k)) ∧ ∃ c, wr = w.drewN c) (fun _ i _ => m - (intOf i).toNat)
  case atStart => exact ⟨0, Nat.zero_le _, rfl, rfl, _, rfl⟩
  case round =>
    obtain ⟨k, hk, rfl, rfl, c, rfl⟩ := hrel
    by_cases hlt : k < m
    · have hn3 := num_lt3 (D.take k) (by rw [List.length_take]; omega)
      have HS := Lib.hid (take_get B q m k hlt hsz)
      rw [← HD.out] at HS
      generalize num (D.take k) = N at *
      have hqk : (q : Int) + (k : Int) < (B.size : Int) := by omega
      have hqk' : q + k < B.size := by omega
      have hq0 : (0 : Int) ≤ (q : Int) + (k : Int) := by omega
      have e1 : IntKind.i64.wrap ((q : Int) + (k : Int)) = (q : Int) + (k : Int) := IntWalk.i64_in _ (by omega)
      have e2 : IntKind.i64.wrap ((N : Int) * 256) = (N : Int) * 256 := IntWalk.i64_in _ (by omega)
      have e3 : ((q : Int) + (k : Int)).toNat = q + k := by omega
      go_wp2
      go_quiet (fail)
      go_wp2
      clear e1 e2
      refine ⟨⟨k + 1, by omega, by go_num, ?_, _, rfl⟩, by simp [intOf]; omega⟩
      rw [HS.out]
      have hby : (B[q + k]).toNat < 256 := (B[q + k]).toNat_lt
      generalize (B[q + k]).toNat = y at *
      congr 1
      unfold wrap64
      omega
    · have hkm : k = m := by omega
      have hfin : D.take k = D := List.take_of_length_le (by rw [HDl.out]; omega)
      have HF := Lib.hid hfin
      clear hfin
      go_wp2
      go_ret
      have hle : ((m : Nat) : Int) ≤ (B.data.toList.length : Int) - (q : Int) := by rw [data_len]; omega
      refine ⟨?_, ?_, only_setCell (only_drewN (World.grownBy.refl _ _) _) rfl _⟩
      · rw [nextB_ok _ q m hle, ← HD.out]
        show Ending.returned (.int .i64 (num (D.take k))) = _
        rw [HF.out]
      · rw [nextP_ok _ q m hle, nextE_ok _ q m hle]
        exact (R.out.drewN _).setP (by omega) (by omega)

theorem rtake_any (w : World) (g : Nat) (B : ByteArray) (p e size : Int) (r : RefR w g B p e) (h0 : 0 ≤ size) (h4 : size ≤ 4) (hb : B.size ≤ 281474976710656) :
    Calls Tryd.prog 35 #[.pointer (some ⟨g, 0, none⟩), .int .i64 size] w (RTakePost w g B p e size) := by
  by_cases he : e = 0
  · subst he
    by_cases hs : size ≤ (B.size : Int) - p
    · obtain ⟨q, rfl⟩ := Int.eq_ofNat_of_zero_le r.2.1
      obtain ⟨m, rfl⟩ := Int.eq_ofNat_of_zero_le h0
      exact rtake_ok w g B q m r (by omega) (by omega) hb
    · exact rtake_short w g B p size r (by omega) hb
  · exact rtake_err w g B p e size r he

def RTextPost (w : World) (g : Nat) (B : ByteArray) (p e most : Int) (x : Ending) (w' : World) : Prop :=
  x = .returned (.string ⟨(txtS B.data.toList p e most).toArray⟩) ∧ RefR w' g B (txtP B.data.toList p e most) (txtE B.data.toList p e most) ∧ w.grownBy w' (some g)

theorem extract_eq (B : ByteArray) (q m : Nat) (h : q + m ≤ B.size) : B.extract q (q + m) = ⟨((B.data.toList.drop q).take m).toArray⟩ := by
  apply ByteArray.ext
  apply Array.toList_inj.1
  rw [ByteArray.data_extract]
  simp

def RZeroPost (w : World) (g : Nat) (B : ByteArray) (p e : Int) (x : Ending) (w' : World) : Prop :=
  x = .returned (.tuple #[]) ∧ RefR w' g B (zeroP B.data.toList p e) (zeroE B.data.toList p e) ∧ w.grownBy w' (some g)

theorem zeros_next (B : ByteArray) (k : Nat) (h : k < B.size) : (B.data.toList.drop k).all (· == 0) = (B[k] == 0 && (B.data.toList.drop (k + 1)).all (· == 0)) := by
  rw [List.drop_eq_getElem_cons (by rw [data_len]; exact h), List.all_cons]; rfl

end Go.Proofs.YtcgmaiadipiegaaDoor
