/-
  The contract of chain.Cut: the pieces that the document says, in a row of its own; conditions stand at it.
-/
import Derived.Test.YtalhnmaecnielaaChainSmall
namespace Go.Proofs.Ytalhnmaecnielaa
open Go.RowKit Go.Sort
set_option linter.unusedVariables false

theorem empty_eq (s : ByteArray) : (s.toList == ([] : List UInt8)) = decide (s.size = 0) := by
  rw [Lib.toList_data]
  by_cases h : s.size = 0
  · have : s.data.toList = [] := List.eq_nil_of_length_eq_zero h
    simp [h, this]
  · have : s.data.toList ≠ [] := fun e => h (by show s.data.toList.length = 0; rw [e]; rfl)
    rw [decide_eq_false h]
    cases hl : s.data.toList with
    | nil => exact absurd hl this
    | cons _ _ => rfl

def szOf : Value → Nat
  | .string s => s.size
  | _ => 0

/-- What Cut answers. -/
def ChCutPost (w : World) (s : ByteArray) (e : Ending) (w' : World) : Prop := ∃ v, e = .returned v ∧ OwnS w' w.heap.size v (cutL s) ∧ Below w.heap.size w w'

theorem pcs_zero {r : ByteArray} (h : r.size = 0) : pcs r = [] := if_pos h
theorem extract_self (r : ByteArray) : r.extract 0 r.size = r := ext_list (by rw [Lib.extract_data, List.drop_zero, List.take_of_length_le (by rw [toNat_le]; omega)])
theorem extract_end (r : ByteArray) : (r.extract r.size r.size).size = 0 := by rw [ByteArray.size_extract]; omega
theorem pcs_one {r : ByteArray} (h : r.size ≠ 0) (h2 : r.size ≤ 240) : pcs r = [r] ++ pcs ByteArray.empty := by
  rw [show pcs ByteArray.empty = [] from pcs_zero rfl, List.append_nil]
  exact (if_neg h).trans (if_pos h2)
theorem pcs_two {r : ByteArray} (h2 : 240 < r.size) (h4 : r.size ≤ 400) : pcs r = [r.extract 0 240] ++ pcs (r.extract 240 r.size) := by
  have hs : (r.extract 240 r.size).size = r.size - 240 := by simp only [ByteArray.size_extract]; omega
  have hr : pcs (r.extract 240 r.size) = [r.extract 240 r.size] := by
    unfold pcs
    rw [if_neg (by omega), if_pos (by omega)]
  rw [hr]
  unfold pcs
  rw [if_neg (by omega), if_neg (by omega)]
  rfl

set_option maxHeartbeats 800000 in
set_option maxRecDepth 100000 in
theorem chCut_any (s : ByteArray) (w : World) (hs : s.size ≤ 140737488351232) : Calls Try.prog 12 #[.string s] w (ChCutPost w s) := by
  go_enter Try.func12, Try.ntmps12
  go_wp2_with fail
  refine (chPages_any s w hs).mono ?_
  rintro e w1 ⟨rfl, rfl⟩
  by_cases hl : Long s.size
  · obtain ⟨p, hp⟩ : ∃ p, p = pagesN s := ⟨_, rfl⟩
    have hp0 : p ≠ 0 := by
      rw [hp]
      unfold pagesN
      rw [if_pos hl]
      have := hl.1
      omega
    rw [← hp]
    have HP := Lib.hid hp
    have HL := Lib.hid hl
    clear hp hl
    go_wp2
    simp only [show ((p : Int) == 0) = false by simpa using hp0]
    go_loopw [0, 3] (fun i v wr => ∃ (r : ByteArray) (done : List ByteArray), i = .string r ∧ r.size ≤ 400 ∧ done ++ pcs r = pcs s ∧ OwnS wr w.heap.size v done ∧ Below w.heap.size w wr ∧ done.length + r.size ≤ 400) (fun i _ _ => szOf i)
    case atStart => exact ⟨s, [], rfl, by have := HL.out.2; omega, rfl, ⟨by simp, .inr ⟨_, _, _, rfl, Nat.le_refl _, heap_alloc_new w _, Nat.le_refl _, Nat.zero_le _, rfl, rfl⟩⟩, (Below.refl _ _).alloc (Nat.le_refl _) _, by have := HL.out.2; simp only [List.length_nil]; omega⟩
    case round =>
      obtain ⟨r, done, rfl, hr, hd, hown, hbw, hdl⟩ := hrel
      have hemp := empty_eq r
      have HD := Lib.hid hd
      have HO : Hid (OwnS wr w.heap.size u3 done) := Lib.hid hown
      clear hd hown
      by_cases h0 : r.size = 0
      · rw [decide_eq_true h0] at hemp
        have HF := Lib.hid (show done = cutL s by
          have := HD.out
          rw [pcs_zero h0, List.append_nil] at this
          rw [this]
          exact (if_pos HL.out).symm)
        clear h0
        go_wp2
        go_ret
        exact ⟨u3, rfl, HF.out ▸ HO.out, hbw⟩
      rw [decide_eq_false h0] at hemp
      by_cases h2 : r.size ≤ 240
      · have hmin : min (r.size : Int) 240 = r.size := by omega
        have hex : r.size ≤ 140737488351232 := by omega
        have hpc : done ++ [r] ++ pcs (ByteArray.empty) = pcs s := by rw [List.append_assoc, ← pcs_one h0 h2]; exact HD.out
        have hrs : ByteArray.empty.size < r.size := by show 0 < r.size; omega
        have HC := Lib.hid hpc
        have HX := Lib.hid hrs
        clear hpc hrs
        go_wp2_with fail
        refine (strClone_any (r) wr hex).mono ?_
        rintro e w1 ⟨rfl, hb1⟩
        have hbw1 := bthen hbw hb1
        obtain ⟨v', w2, hrun, hown2, hg2⟩ := run_append_str 22 (HO.out.below hb1) (r) (by omega) hbw1.size
        have hba : Below w1.heap.size w1 (w1.alloc (.cells #[.string (r)] 9)) := (Below.refl _ _).alloc (Nat.le_refl _) _
        have hbwa := bthen hbw1 hba
        have HG := Lib.hid (((HO.out.below hb1).below hba).grow_below hbwa hbwa.size hg2)
        have HR := Lib.hid hrun
        have HO2 := Lib.hid hown2
        clear hrun hown2 hg2 hba hbwa hex
        go_wp2_with (at_builtin; refine wpList_append_ran rfl (.tmp 14) (.tmp 19) 22 rfl _ _ _ _ rfl rfl HR.out ?_)
        exact ⟨⟨ByteArray.empty, done ++ [r], rfl, by have := HX.out; omega, HC.out, HO2.out, HG.out, by have := HX.out; rw [List.length_append, List.length_singleton]; omega⟩, HX.out⟩
      · have hmin : min (r.size : Int) 240 = 240 := by omega
        have hex : (r.extract 0 240).size ≤ 140737488351232 := by rw [ByteArray.size_extract]; omega
        have hpc : done ++ [r.extract 0 240] ++ pcs (r.extract 240 r.size) = pcs s := by rw [List.append_assoc, ← pcs_two (by omega) hr]; exact HD.out
        have hrs : (r.extract 240 r.size).size < r.size := by rw [ByteArray.size_extract]; omega
        have HC := Lib.hid hpc
        have HX := Lib.hid hrs
        clear hpc hrs
        go_wp2_with fail
        refine (strClone_any (r.extract 0 240) wr hex).mono ?_
        rintro e w1 ⟨rfl, hb1⟩
        have hbw1 := bthen hbw hb1
        obtain ⟨v', w2, hrun, hown2, hg2⟩ := run_append_str 22 (HO.out.below hb1) (r.extract 0 240) (by omega) hbw1.size
        have hba : Below w1.heap.size w1 (w1.alloc (.cells #[.string (r.extract 0 240)] 9)) := (Below.refl _ _).alloc (Nat.le_refl _) _
        have hbwa := bthen hbw1 hba
        have HG := Lib.hid (((HO.out.below hb1).below hba).grow_below hbwa hbwa.size hg2)
        have HR := Lib.hid hrun
        have HO2 := Lib.hid hown2
        clear hrun hown2 hg2 hba hbwa hex
        go_wp2_with (at_builtin; refine wpList_append_ran rfl (.tmp 14) (.tmp 19) 22 rfl _ _ _ _ rfl rfl HR.out ?_)
        exact ⟨⟨r.extract 240 r.size, done ++ [r.extract 0 240], rfl, by have := HX.out; omega, HC.out, HO2.out, HG.out, by have := HX.out; rw [List.length_append, List.length_singleton]; omega⟩, HX.out⟩
  · have hp : pagesN s = 0 := if_neg hl
    have hc : cutL s = [] := if_neg hl
    rw [hp]
    have HC := Lib.hid hc
    clear hc hp hl
    go_wp2
    go_ret
    exact ⟨_, rfl, by rw [HC.out]; exact OwnL.nil_ _ _ _, Below.refl _ _⟩

end Go.Proofs.Ytalhnmaecnielaa
