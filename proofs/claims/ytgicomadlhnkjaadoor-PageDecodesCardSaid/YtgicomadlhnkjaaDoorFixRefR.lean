/-
  The contracts of the document's reader sapwoodref01.Reader (Take, Text, Zero): it answers and moves by the same functions as the program's Reader; conditions: it lies in memory as RefR says.
-/
import Derived.Test.YtgicomadlhnkjaaDoorFixText
namespace Go.Proofs.YtgicomadlhnkjaaDoor
open Go.RowKit
set_option linter.unusedVariables false
set_option linter.unusedSimpArgs false

/-- The document's reader in block g: its text, the position, the error. -/
def RefR (w : World) (g : Nat) (B : ByteArray) (p e : Int) : Prop :=
  w.heap[g]? = some (.cells #[.string B, .int .i64 p, .int .i64 e] 76 (0, 0)) ∧ 0 ≤ p ∧ p ≤ B.size

section
variable {w : World} {g : Nat} {B : ByteArray} {p e : Int}
theorem RefR.cells (r : RefR w g B p e) : w.cell? ⟨g, 0, none⟩ = some (.string B) ∧ w.cell? ⟨g, 1, none⟩ = some (.int .i64 p) ∧ w.cell? ⟨g, 2, none⟩ = some (.int .i64 e) :=
  ⟨(cell_of_block r.1 0).trans rfl, (cell_of_block r.1 1).trans rfl, (cell_of_block r.1 2).trans rfl⟩
theorem RefR.free (r : RefR w g B p e) (i : Nat) : w.frozen? ⟨g, i, none⟩ = false := by simp [World.frozen?, r.1]
theorem RefR.drewN (r : RefR w g B p e) (n : Nat) : RefR (w.drewN n) g B p e := r
theorem RefR.setP (r : RefR w g B p e) {q : Int} (h0 : 0 ≤ q) (h1 : q ≤ B.size) : RefR (w.setCell ⟨g, 1, none⟩ (.int .i64 q)) g B q e := ⟨(blk_set r.1 1 _).trans rfl, h0, h1⟩
theorem RefR.setE (r : RefR w g B p e) (q : Int) : RefR (w.setCell ⟨g, 2, none⟩ (.int .i64 q)) g B p q := ⟨(blk_set r.1 2 _).trans rfl, r.2.1, r.2.2⟩
theorem RefR.lt (r : RefR w g B p e) : g < w.heap.size := lt_of_block r.1
end

def RTakePost (w : World) (g : Nat) (B : ByteArray) (p e size : Int) (x : Ending) (w' : World) : Prop :=
  x = .returned (.int .i64 (num (nextB B.data.toList p e size))) ∧ RefR w' g B (nextP B.data.toList p e size) (nextE B.data.toList p e size) ∧ w.grownBy w' (some g)

theorem data_len (B : ByteArray) : B.data.toList.length = B.size := rfl

set_option maxHeartbeats 400000 in
theorem rtake_err (w : World) (g : Nat) (B : ByteArray) (p e size : Int) (r : RefR w g B p e) (he : e ≠ 0) :
    Calls Tryd.prog 34 #[.pointer (some ⟨g, 0, none⟩), .int .i64 size] w (RTakePost w g B p e size) := by
  have hne : (e != 0) = true := by simpa using he
  have R := Lib.hid r
  have hc := r.cells.2.2
  have HE := Lib.hid he
  clear he r
  go_enter Tryd.func34, Tryd.ntmps34
  go_wp2
  go_ret
  refine ⟨?_, ?_, World.grownBy.refl _ _⟩
  · simp [nextB, HE.out]; rfl
  · simpa [nextP, nextE, HE.out] using R.out

set_option maxHeartbeats 400000 in
theorem rtake_short (w : World) (g : Nat) (B : ByteArray) (p size : Int) (r : RefR w g B p 0) (hsz : (B.size : Int) - p < size) (hb : B.size ≤ 281474976710656) :
    Calls Tryd.prog 34 #[.pointer (some ⟨g, 0, none⟩), .int .i64 size] w (RTakePost w g B p 0 size) := by
  have R := Lib.hid r
  obtain ⟨hc0, hc1, hc2⟩ := r.cells
  have hf := r.free 2
  have hp0 := r.2.1
  have hp1 := r.2.2
  clear r
  go_enter Tryd.func34, Tryd.ntmps34
  go_wp2
  go_quiet (fail)
  go_wp2
  go_ret
  have hn : ¬ (size ≤ (B.data.toList.length : Int) - p) := by rw [data_len]; omega
  refine ⟨?_, ?_, only_setCell (only_drewN (World.grownBy.refl _ _) nq) rfl _⟩
  · simp only [nextB, hn, and_false, if_false]; rfl
  · have := (R.out.drewN nq).setE 2
    simp only [nextP, nextE, hn, and_false, if_false, if_true]
    exact this

theorem take_get (B : ByteArray) (q m k : Nat) (hk : k < m) (h : q + m ≤ B.size) : num (((B.data.toList.drop q).take m).take (k + 1)) = num (((B.data.toList.drop q).take m).take k) * 256 + (B[q + k]'(by omega)).toNat := by
  have hl : k < ((B.data.toList.drop q).take m).length := by
    simp [data_len]; omega
  rw [take_succ_num _ k hl]
  congr 2
  simp
  rfl

set_option maxHeartbeats 1000000 in
theorem rtake_ok (w : World) (g : Nat) (B : ByteArray) (q m : Nat) (r : RefR w g B q 0) (hsz : q + m ≤ B.size) (h4 : m ≤ 4) (hb : B.size ≤ 281474976710656) :
    Calls Tryd.prog 34 #[.pointer (some ⟨g, 0, none⟩), .int .i64 m] w (RTakePost w g B q 0 m) := by
  have R := Lib.hid r
  obtain ⟨hc0, hc1, hc2⟩ := r.cells
  have hf := r.free 1
  clear r
  obtain ⟨D, hD⟩ : ∃ D, D = (B.data.toList.drop q).take m := ⟨_, rfl⟩
  have hDl : D.length = m := by rw [hD]; simp [data_len]; omega
  have HD := Lib.hid hD
  have HDl := Lib.hid hDl
  clear hD hDl
  have hsz' : ¬ ((B.size : Int) - (q : Int) < (m : Int)) := by omega
  go_enter Tryd.func34, Tryd.ntmps34
  go_wp2
  go_quiet (fail)
  go_wp2
  go_loopw [5, 6] (fun t i wr => ∃ k : Nat, k ≤ m ∧ i = .int .i64 k ∧ t = .int .i64 (num (D.take k)) ∧ ∃ c, wr = w.drewN c) (fun _ i _ => m - (intOf i).toNat)
  case atStart => exact ⟨0, Nat.zero_le _, rfl, rfl, _, rfl⟩
  case round =>
    obtain ⟨k, hk, rfl, rfl, c, rfl⟩ := hrel
    by_cases hlt : k < m
    · have hn3 := num_lt3 (D.take k) (by rw [List.length_take]; omega)
      have HS := Lib.hid (take_get B q m k hlt hsz)
      rw [← HD.out] at HS
      generalize num (D.take k) = N at *
      have hqk : (q : Int) + (k : Int) < (B.size : Int) := by omega
      have hqk' : q + k < B.size := by omega
      have hq0 : (0 : Int) ≤ (q : Int) + (k : Int) := by omega
      have e1 : IntKind.i64.wrap ((q : Int) + (k : Int)) = (q : Int) + (k : Int) := IntWalk.i64_in _ (by omega)
      have e2 : IntKind.i64.wrap ((N : Int) * 256) = (N : Int) * 256 := IntWalk.i64_in _ (by omega)
      have e3 : ((q : Int) + (k : Int)).toNat = q + k := by omega
      go_wp2
      go_quiet (fail)
      go_wp2
      clear e1 e2
      refine ⟨⟨k + 1, by omega, by go_num, ?_, _, rfl⟩, by simp [intOf]; omega⟩
      rw [HS.out]
      have hby : (B[q + k]).toNat < 256 := (B[q + k]).toNat_lt
      generalize (B[q + k]).toNat = y at *
      congr 1
      unfold wrap64
      omega
    · have hkm : k = m := by omega
      have hfin : D.take k = D := List.take_of_length_le (by rw [HDl.out]; omega)
      have HF := Lib.hid hfin
      clear hfin
      go_wp2
      go_ret
      have hle : ((m : Nat) : Int) ≤ (B.data.toList.length : Int) - (q : Int) := by rw [data_len]; omega
      refine ⟨?_, ?_, only_setCell (only_drewN (World.grownBy.refl _ _) _) rfl _⟩
      · rw [nextB_ok _ q m hle, ← HD.out]
        show Ending.returned (.int .i64 (num (D.take k))) = _
        rw [HF.out]
      · rw [nextP_ok _ q m hle, nextE_ok _ q m hle]
        exact (R.out.drewN _).setP (by omega) (by omega)

theorem rtake_any (w : World) (g : Nat) (B : ByteArray) (p e size : Int) (r : RefR w g B p e) (h0 : 0 ≤ size) (h4 : size ≤ 4) (hb : B.size ≤ 281474976710656) :
    Calls Tryd.prog 34 #[.pointer (some ⟨g, 0, none⟩), .int .i64 size] w (RTakePost w g B p e size) := by
  by_cases he : e = 0
  · subst he
    by_cases hs : size ≤ (B.size : Int) - p
    · obtain ⟨q, rfl⟩ := Int.eq_ofNat_of_zero_le r.2.1
      obtain ⟨m, rfl⟩ := Int.eq_ofNat_of_zero_le h0
      exact rtake_ok w g B q m r (by omega) (by omega) hb
    · exact rtake_short w g B p size r (by omega) hb
  · exact rtake_err w g B p e size r he

def RTextPost (w : World) (g : Nat) (B : ByteArray) (p e most : Int) (x : Ending) (w' : World) : Prop :=
  x = .returned (.string ⟨(txtS B.data.toList p e most).toArray⟩) ∧ RefR w' g B (txtP B.data.toList p e most) (txtE B.data.toList p e most) ∧ w.grownBy w' (some g)

theorem extract_eq (B : ByteArray) (q m : Nat) (h : q + m ≤ B.size) : B.extract q (q + m) = ⟨((B.data.toList.drop q).take m).toArray⟩ := by
  apply ByteArray.ext
  apply Array.toList_inj.1
  rw [ByteArray.data_extract]
  simp

set_option maxHeartbeats 1000000 in
theorem rtext_any (w : World) (g : Nat) (B : ByteArray) (p e most : Int) (r : RefR w g B p e) (hb : B.size ≤ 281474976710656) :
    Calls Tryd.prog 35 #[.pointer (some ⟨g, 0, none⟩), .int .i64 most] w (RTextPost w g B p e most) := by
  have R := Lib.hid r
  clear r
  obtain ⟨l, hl⟩ : ∃ l, l = B.data.toList := ⟨_, rfl⟩
  have hN := num_lt2 _ (nextB_len2 l p e)
  obtain ⟨N, hNe⟩ : ∃ N, N = num (nextB l p e 2) := ⟨_, rfl⟩
  obtain ⟨p1, hp1⟩ : ∃ q, q = nextP l p e 2 := ⟨_, rfl⟩
  obtain ⟨e1, he1⟩ : ∃ q, q = nextE l p e 2 := ⟨_, rfl⟩
  rw [← hNe] at hN
  have HL := Lib.hid hl
  have HN := Lib.hid hNe
  have HP := Lib.hid hp1
  have HE := Lib.hid he1
  clear hNe hp1 he1 hl
  by_cases hz : e1 = 0
  · subst hz
    by_cases hm : most < N
    · go_enter Tryd.func35, Tryd.ntmps35
      go_wp2_with fail
      refine (rtake_any w g B p e 2 R.out (by omega) (by omega) hb).mono ?_
      rintro x w1 ⟨rfl, r1, hg1⟩
      rw [← HL.out, ← HP.out, ← HE.out] at r1
      rw [← HL.out, ← HN.out]
      have hf := r1.free 2
      have hc := r1.cells.2.2
      have R1 := Lib.hid r1
      clear r1
      go_wp2
      go_ret
      refine ⟨?_, ?_, ?_⟩
      · rw [← HL.out]; simp [txtS, ← HE.out, ← HN.out, hm]
      · rw [← HL.out]
        have := R1.out.setE 4
        simpa [txtP, txtE, ← HE.out, ← HN.out, ← HP.out, hm] using this
      · exact only_setCell hg1 rfl _
    · go_enter Tryd.func35, Tryd.ntmps35
      go_wp2_with fail
      refine (rtake_any w g B p e 2 R.out (by omega) (by omega) hb).mono ?_
      rintro x w1 ⟨rfl, r1, hg1⟩
      rw [← HL.out, ← HP.out, ← HE.out] at r1
      rw [← HL.out, ← HN.out]
      have hf1 := r1.free 1
      have hf2 := r1.free 2
      obtain ⟨hc0, hc1, hc2⟩ := r1.cells
      have hq0 := r1.2.1
      have hq1 := r1.2.2
      have R1 := Lib.hid r1
      clear r1
      obtain ⟨q, hq⟩ := Int.eq_ofNat_of_zero_le hq0
      subst hq
      by_cases hs : (N : Int) ≤ (B.size : Int) - (q : Int)
      · have hx := Lib.hid (extract_eq B q N (by omega))
        have e1 : IntKind.i64.wrap ((q : Int) + (N : Int)) = (q : Int) + (N : Int) := IntWalk.i64_in _ (by omega)
        have hlo : (q : Int) ≤ (q : Int) + (N : Int) := by omega
        have hhi : (q : Int) + (N : Int) ≤ (B.size : Int) := by omega
        have e3 : ((q : Int) + (N : Int)).toNat = q + N := by omega
        go_wp2
        go_quiet (fail)
        go_wp2
        go_quiet (fail)
        go_wp2
        go_ret
        have hm' : ¬ (most < (N : Int)) := by omega
        have hle : ((N : Nat) : Int) ≤ (l.length : Int) - (q : Int) := by rw [HL.out, data_len]; omega
        refine ⟨?_, ?_, only_setCell (only_drewN hg1 _) rfl _⟩
        · rw [← HL.out]
          simp only [txtS, ← HE.out, ← HN.out, ← HP.out, hm', ne_eq, not_true, if_false, nextB_ok l q N hle]
          show Ending.returned (.string (B.extract q (q + N))) = _
          rw [hx.out, HL.out]
        · rw [← HL.out]
          simp only [txtP, txtE, ← HE.out, ← HN.out, ← HP.out, hm', ne_eq, not_true, if_false, nextP_ok l q N hle, nextE_ok l q N hle]
          exact (R1.out.drewN _).setP (by omega) (by omega)
      · have hs' : (B.size : Int) - (q : Int) < (N : Int) := by omega
        clear hs
        go_wp2
        go_quiet (fail)
        go_wp2
        go_ret
        have hm' : ¬ (most < (N : Int)) := by omega
        have hn : ¬ ((N : Int) ≤ (l.length : Int) - (q : Int)) := by rw [HL.out, data_len]; omega
        have hsh : nextB l q 0 N = [] ∧ nextP l q 0 N = q ∧ nextE l q 0 N = 2 := by simp [nextB, nextP, nextE, hn]
        refine ⟨?_, ?_, only_setCell (only_drewN hg1 _) rfl _⟩
        · rw [← HL.out]
          simp [txtS, ← HE.out, ← HN.out, ← HP.out, hm', hsh.1]
        · rw [← HL.out]
          have := (R1.out.drewN nq).setE 2
          simpa [txtP, txtE, ← HE.out, ← HN.out, ← HP.out, hm', hsh.2.1, hsh.2.2] using this
  · have hne : (e1 != 0) = true := by simpa using hz
    have HZ := Lib.hid hz
    clear hz
    go_enter Tryd.func35, Tryd.ntmps35
    go_wp2_with fail
    refine (rtake_any w g B p e 2 R.out (by omega) (by omega) hb).mono ?_
    rintro x w1 ⟨rfl, r1, hg1⟩
    rw [← HL.out, ← HP.out, ← HE.out] at r1
    rw [← HL.out, ← HN.out]
    have hc := r1.cells.2.2
    have R1 := Lib.hid r1
    clear r1
    go_wp2
    go_ret
    refine ⟨?_, ?_, hg1⟩
    · rw [← HL.out]; simp [txtS, ← HE.out, HZ.out]
    · rw [← HL.out]; simpa [txtP, txtE, ← HE.out, ← HP.out, HZ.out] using R1.out

def RZeroPost (w : World) (g : Nat) (B : ByteArray) (p e : Int) (x : Ending) (w' : World) : Prop :=
  x = .returned (.tuple #[]) ∧ RefR w' g B (zeroP B.data.toList p e) (zeroE B.data.toList p e) ∧ w.grownBy w' (some g)

theorem zeros_next (B : ByteArray) (k : Nat) (h : k < B.size) : (B.data.toList.drop k).all (· == 0) = (B[k] == 0 && (B.data.toList.drop (k + 1)).all (· == 0)) := by
  rw [List.drop_eq_getElem_cons (by rw [data_len]; exact h), List.all_cons]; rfl

end Go.Proofs.YtgicomadlhnkjaaDoor
