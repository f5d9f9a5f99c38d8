/-
  The contract of meta.Decode: the meta page whose encoding the bytes are, or ErrForm; conditions: the slice can be read, the table of the check lies in memory.
-/
import Derived.Test.YtcgmaiadipiegaaDoorMetaTake
namespace Go.Proofs.YtcgmaiadipiegaaDoor
open Go.RowKit Go.Sort
set_option linter.unusedVariables false

/-- What Decode answers. -/
def MDecPost (w : World) (l : List UInt8) (e : Ending) (w' : World) : Prop := e = .returned (.tuple #[metaV (decV l), .int .i64 (decE l)]) ∧ Below w.heap.size w w'

/-- A new box, stored into. -/
theorem below_two {a w : World} {B : Nat} (h : Below B a w) {b : Nat} (hb : B ≤ b) (u v : Value) : Below B a ((w.setCell ⟨b, 0, none⟩ u).setCell ⟨b, 1, none⟩ v) :=
  (h.setCell (p := ⟨b, 0, none⟩) hb u).setCell (p := ⟨b, 1, none⟩) hb v

set_option maxRecDepth 100000 in
set_option maxHeartbeats 1000000 in
theorem mtDecode_any (A : Option Addr) (n c : Nat) (l : List UInt8) (w : World) (hh : Half w) (hr : Rd w A l) (hn : l.length = n) (hb : n ≤ 1000000000) :
    Calls Tryd.prog 18 #[.slice A n c] w (MDecPost w l) := by
  obtain ⟨W, hW⟩ : ∃ W, W = w.alloc (.cells #[.int .i64 0, .int .i64 0] 29) := ⟨_, rfl⟩
  have hbW : Below w.heap.size w W := by rw [hW]; exact (Below.refl _ _).alloc (Nat.le_refl _) _
  have hz0 : W.heap[w.heap.size]? = some (.cells #[.int .i64 0, .int .i64 0] 29 (0, 0)) := by rw [hW]; exact heap_alloc_new w _
  have hs0 : w.heap.size < W.heap.size := lt_of_block hz0
  have HW := Lib.hid hW
  have Hn := Lib.hid hn
  have hrW := hr.below hbW
  clear hW hn
  go_enter Tryd.func18, Tryd.ntmps18
  go_wp2_with fail
  rw [← HW.out]
  refine (read_any A n c l W hrW Hn.out (by omega)).mono ?_
  rintro e w1 ⟨g, rfl, r1, hg1, hb1⟩
  go_wp2_with fail
  refine (mtTake_any w1 g _ l r1 (by rw [Hn.out]; omega)).mono ?_
  rintro e w2 ⟨rfl, hg2⟩
  have hb2 : Below W.heap.size W w2 := below_only hb1 hg2 hb1.size hg1
  have hb02 := bthen hbW hb2
  have hz2 := (hb2.block _ hs0).trans hz0
  obtain ⟨x, hx⟩ : ∃ x, x = (takeM l).e := ⟨_, rfl⟩
  obtain ⟨y, hy⟩ : ∃ y, y = (takeM l).r := ⟨_, rfl⟩
  have hm : metaV (takeM l) = .agg #[.int .i64 x, .int .i64 y] := by rw [hx, hy]; rfl
  have ht : takeM l = ⟨x, y⟩ := by rw [hx, hy]
  have hmi : MI ⟨x, y⟩ := by
    have := takeM_64 l
    rw [ht] at this
    simp only at this
    exact ⟨⟨by simp only; omega, by simp only; omega⟩, ⟨by simp only; omega, by simp only; omega⟩⟩
  rw [hm]
  have hs2 : w.heap.size < w2.heap.size := lt_of_block hz2
  have HT := Lib.hid ht
  have hr2 := hr.below hb02
  clear hb1 hg2 r1 hb2 hz0 hrW hx hy hm ht hg1 HW hr hbW hs0
  obtain ⟨w3, hw3⟩ : ∃ w3, w3 = w2.alloc (.cells #[.int .i64 x, .int .i64 y] 29) := ⟨_, rfl⟩
  have hb3 : Below w2.heap.size w2 w3 := by rw [hw3]; exact (Below.refl _ _).alloc (Nat.le_refl _) _
  have hz3 : w3.heap[w2.heap.size]? = some (.cells #[.int .i64 x, .int .i64 y] 29 (0, 0)) := by rw [hw3]; exact heap_alloc_new w2 _
  have hz3' := (hb3.block _ hs2).trans hz2
  have hb03 := bthen hb02 hb3
  have hr3 := hr2.below hb3
  have HW3 := Lib.hid hw3
  have hs3 : w2.heap.size < w3.heap.size := lt_of_block hz3
  clear hz2 hb3 hr2 hw3
  go_wp2_with fail
  rw [← HW3.out]
  refine (mtEncode_any ⟨x, y⟩ w3 hmi (hh.below hb03)).mono ?_
  intro e w4 hpost
  by_cases hok : okM ⟨x, y⟩
  · obtain ⟨v4, rfl, ho4, hb4⟩ := menc_ok hpost hok
    obtain ⟨A4, n4, c4, rfl, hn4, hc4, hr4⟩ := ho4.named
    have hz4 := (hb4.block _ hs3).trans hz3
    have hz4' := (hb4.block _ (by omega)).trans hz3'
    have hb04 := bthen hb03 hb4
    have hrl := hr3.below hb4
    have Hn4 := Lib.hid hn4
    clear hpost hz3 hz3' ho4 hn4 hb4 hb03 hr3
    go_wp2_with fail
    refine (equal_any A4 A n4 c4 n c (encM ⟨x, y⟩) l w4 hr4 Hn4.out hrl Hn.out).mono ?_
    rintro e w5 ⟨rfl, rfl⟩
    by_cases heq : encM ⟨x, y⟩ = l
    · rw [decide_eq_true heq]
      have HP : Hid (decV l = ⟨x, y⟩ ∧ decE l = 0) := by
        have h1 := (decM_iff l ⟨x, y⟩).2 ⟨hok, heq⟩
        exact ⟨by unfold decV; rw [h1]; rfl, by unfold decE; rw [h1]; rfl⟩
      have hc0 := cell_at hz4 0 (.int .i64 x) rfl
      have hc1 := cell_at hz4 1 (.int .i64 y) rfl
      have hd0 := cell_at hz4' 0 (.int .i64 0) rfl
      have hd1 := cell_at hz4' 1 (.int .i64 0) rfl
      have hf0 := free_at hz4' 0
      have hf1 := free_at hz4' 1
      have HB := Lib.hid (set_two hz4' (.int .i64 x) (.int .i64 y))
      have HG := Lib.hid (below_two hb04 (Nat.le_refl _) (.int .i64 x) (.int .i64 y))
      have hne1 : w.heap.size ≠ w2.heap.size := by omega
      have hne2 : w2.heap.size ≠ w.heap.size := by omega
      clear heq hz4 hz4' hb04 hrl hr4
      go_wp2
      refine bodyPost_ret (v := .tuple #[.agg #[.int .i64 x, .int .i64 y], .int .i64 0]) ?_ rfl ⟨?_, HG.out⟩
      · have k0 := cell_at HB.out 0 (.int .i64 x) rfl
        have k1 := cell_at HB.out 1 (.int .i64 y) rfl
        simp [results, Tryd.results18, go_sem, k0, k1]
      · rw [HP.out.1, HP.out.2]
        rfl
    · rw [decide_eq_false heq]
      have HP : Hid (decV l = ⟨0, 0⟩ ∧ decE l = 3) := by
        have h1 : decM l = none := by
          unfold decM
          rw [HT.out, if_neg fun h => heq h.2]
        exact ⟨by unfold decV; rw [h1]; rfl, by unfold decE; rw [h1]; rfl⟩
      have hd0 := cell_at hz4' 0 (.int .i64 0) rfl
      have hd1 := cell_at hz4' 1 (.int .i64 0) rfl
      have hf0 := free_at hz4' 0
      have hf1 := free_at hz4' 1
      have HB := Lib.hid (set_two hz4' (.int .i64 0) (.int .i64 0))
      have HG := Lib.hid (below_two hb04 (Nat.le_refl _) (.int .i64 0) (.int .i64 0))
      clear heq hz4 hz4' hb04 hrl hr4
      go_wp2
      refine bodyPost_ret (v := .tuple #[.agg #[.int .i64 0, .int .i64 0], .int .i64 3]) ?_ rfl ⟨?_, HG.out⟩
      · have k0 := cell_at HB.out 0 (.int .i64 0) rfl
        have k1 := cell_at HB.out 1 (.int .i64 0) rfl
        simp [results, Tryd.results18, go_sem, k0, k1]
      · rw [HP.out.1, HP.out.2]
        rfl
  · obtain ⟨rfl, hb4⟩ := menc_no hpost hok
    have HP : Hid (decV l = ⟨0, 0⟩ ∧ decE l = 3) := by
      have h1 : decM l = none := by
        unfold decM
        rw [HT.out, if_neg fun h => hok h.1]
      exact ⟨by unfold decV; rw [h1]; rfl, by unfold decE; rw [h1]; rfl⟩
    have hz4' := (hb4.block _ (by omega)).trans hz3'
    have hb04 := bthen hb03 hb4
    have hd0 := cell_at hz4' 0 (.int .i64 0) rfl
    have hd1 := cell_at hz4' 1 (.int .i64 0) rfl
    have hf0 := free_at hz4' 0
    have hf1 := free_at hz4' 1
    have HB := Lib.hid (set_two hz4' (.int .i64 0) (.int .i64 0))
    have HG := Lib.hid (below_two hb04 (Nat.le_refl _) (.int .i64 0) (.int .i64 0))
    clear hpost hz3 hz3' hz4' hb04 hb03 hb4 hr3 hok
    go_wp2
    refine bodyPost_ret (v := .tuple #[.agg #[.int .i64 0, .int .i64 0], .int .i64 3]) ?_ rfl ⟨?_, HG.out⟩
    · have k0 := cell_at HB.out 0 (.int .i64 0) rfl
      have k1 := cell_at HB.out 1 (.int .i64 0) rfl
      simp [results, Tryd.results18, go_sem, k0, k1]
    · rw [HP.out.1, HP.out.2]
      rfl

end Go.Proofs.YtcgmaiadipiegaaDoor
