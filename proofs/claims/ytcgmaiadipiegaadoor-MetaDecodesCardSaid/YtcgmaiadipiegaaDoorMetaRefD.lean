/-
  The contracts of the reference's Encode and Decode of layer 6; conditions: numbers of 64 bits, strings of at most 10^9 bytes.
-/
import Derived.Test.YtcgmaiadipiegaaDoorMetaRef
import Derived.Test.YtcgmaiadipiegaaDoorMetaDecode
import Derived.Test.YtcgmaiadipiegaaDoorFixRefR
namespace Go.Proofs.YtcgmaiadipiegaaDoor
open Go.RowKit Go.Sort
set_option linter.unusedVariables false
set_option linter.unusedSimpArgs false

def MREncPost (w : World) (m : MT) (e : Ending) (w' : World) : Prop :=
  ((okM m ∧ ∃ s : ByteArray, e = .returned (.tuple #[.string s, .int .i64 0]) ∧ s.size = 256 ∧ s.data.toList = encM m) ∨ (¬ okM m ∧ e = .returned (.tuple #[.string ⟨#[]⟩, .int .i64 1]))) ∧ Below w.heap.size w w'

set_option maxRecDepth 100000 in
set_option maxHeartbeats 1000000 in
theorem mtRefEncode_any (m : MT) (w : World) (hm : MI m) : Calls Tryd.prog 13 #[metaV m] w (MREncPost w m) := by
  have hri := mtRefRight_any m
  have hby := mtRefBytes_any m
  obtain ⟨x, y⟩ := m
  have HM := Lib.hid hm
  clear hm
  unfold metaV at *
  simp only at *
  have hb0 : Below w.heap.size w (w.alloc (.cells #[.int .i64 x, .int .i64 y] 23)) := (Below.refl _ _).alloc (Nat.le_refl _) _
  go_enter Tryd.func13, Tryd.ntmps13
  go_wp2_with fail
  refine (hri _ HM.out).mono ?_
  rintro e w1 ⟨rfl, hb1⟩
  have c0 := box_at hb1 0 (.int .i64 x) rfl
  have c1 := box_at hb1 1 (.int .i64 y) rfl
  have hbw := bthen hb0 hb1
  clear hb0 hb1 hri
  by_cases hok : okM ⟨x, y⟩
  · rw [decide_eq_true hok]
    go_wp2_with fail
    refine (hby w1 HM.out).mono ?_
    rintro e w2 ⟨⟨s, rfl, hs, hl⟩, hb2⟩
    have HS := Lib.hid hs
    have HL := Lib.hid hl
    have hbw2 := bthen hbw hb2
    clear hs hl hb2
    go_wp2
    go_ret2
    exact ⟨.inl ⟨hok, s, rfl, HS.out, HL.out⟩, hbw2⟩
  · rw [decide_eq_false hok]
    go_wp2
    go_ret2
    exact ⟨.inr ⟨hok, rfl⟩, hbw⟩

theorem RefR.later {w w' : World} {g : Nat} {B : ByteArray} {p e : Int} (r : RefR w g B p e) (hb : ∀ i, i < w.heap.size → w'.heap[i]? = w.heap[i]?) : RefR w' g B p e :=
  ⟨(hb g r.lt).trans r.1, r.2.1, r.2.2⟩

/-- What is to be shown at the end of Decode. -/
theorem rdec_yes {l : List UInt8} (hok : okM (rtakeM l)) (heq : encM (rtakeM l) = l) : decV l = rtakeM l ∧ decE l = 0 := by
  have h1 := (decM_iff l (rtakeM l)).2 ⟨hok, heq⟩
  exact ⟨by unfold decV; rw [h1]; rfl, by unfold decE; rw [h1]; rfl⟩
theorem rdec_no {l : List UInt8} (h : (rS l (r4 l) 2).2 = 0 → okM (rtakeM l) → encM (rtakeM l) ≠ l) : decV l = ⟨0, 0⟩ ∧ decE l = 3 := by
  rcases dec_cases l with ⟨m, hok, rfl, _⟩ | ⟨_, h1, h2⟩
  · have h3 := rtakeM_enc hok
    rw [h3.1] at h
    exact absurd rfl (h h3.2 hok)
  · exact ⟨h1, h2⟩

set_option maxRecDepth 100000 in
set_option maxHeartbeats 2000000 in
theorem mtRefDecode_any (b : ByteArray) (w : World) (hb : b.size ≤ 1000000000) :
    Calls Tryd.prog 19 #[.string b] w (MDecPost w b.data.toList) := by
  obtain ⟨l, hl⟩ : ∃ l, l = b.data.toList := ⟨_, rfl⟩
  rw [← hl]
  have HLL := Lib.hid hl
  clear hl
  obtain ⟨W, hW⟩ : ∃ W, W = (w.alloc (.cells #[.int .i64 0, .int .i64 0] 23)).alloc (.cells #[.string b, .int .i64 0, .int .i64 0] 68) := ⟨_, rfl⟩
  have hbW : Below w.heap.size w W := by rw [hW]; exact ((Below.refl _ _).alloc (Nat.le_refl _) _).alloc (by simp) _
  have hsW : W.heap.size = w.heap.size + 2 := by rw [hW]; simp
  have hz0 : W.heap[w.heap.size]? = some (.cells #[.int .i64 0, .int .i64 0] 23 (0, 0)) := by rw [hW]; exact (Below.heap_alloc _ _ _ (by simp)).trans (heap_alloc_new w _)
  have r0 : RefR W (w.heap.size + 1) b 0 0 := ⟨by
    rw [hW]
    have := heap_alloc_new (w.alloc (.cells #[.int .i64 0, .int .i64 0] 23)) (.cells #[.string b, .int .i64 0, .int .i64 0] 68)
    simpa using this, by omega, by omega⟩
  have HW := Lib.hid hW
  clear hW
  have HSW := Lib.hid hsW
  clear hsW
  go_enter Tryd.func19, Tryd.ntmps19
  go_wp2_with fail
  rw [← HW.out]
  refine (rtake_any W _ b 0 0 4 r0 (by omega) (by omega) (by omega)).mono ?_
  rintro e w1 ⟨rfl, r1, g1⟩
  rw [← HLL.out] at r1 ⊢
  obtain ⟨x, hx⟩ : ∃ x : Nat, x = num (nextB l 0 0 4) := ⟨_, rfl⟩
  rw [← hx]
  obtain ⟨q1, hq1⟩ : ∃ q, q = rS l (0, 0) 4 := ⟨_, rfl⟩
  have hr1 : RefR w1 (w.heap.size + 1) b q1.1 q1.2 := by rw [hq1]; exact r1
  have hs1 : w.heap.size + 2 ≤ w1.heap.size := by have := g1.size; rw [HSW.out] at this; exact this
  have hz1 := (g1.block w.heap.size (by rw [HSW.out]; omega) (fun e => by have := Option.some.inj e; omega)).trans hz0
  have hb1 : Below w.heap.size w w1 := below_only hbW g1 hbW.size (by omega)
  have HX := Lib.hid hx
  have HQ1 := Lib.hid hq1
  clear hx hq1 r1 g1 r0 hz0 hbW
  obtain ⟨w2, hw2⟩ : ∃ w2, w2 = w1.alloc (.cells #[.int .i64 x, .int .i64 0] 23) := ⟨_, rfl⟩
  have hm2 : w2.heap[w1.heap.size]? = some (.cells #[.int .i64 x, .int .i64 0] 23 (0, 0)) := by rw [hw2]; exact heap_alloc_new w1 _
  have hb12 : Below w1.heap.size w1 w2 := by rw [hw2]; exact (Below.refl _ _).alloc (Nat.le_refl _) _
  have hr2 : RefR w2 (w.heap.size + 1) b q1.1 q1.2 := hr1.later fun i hi => hb12.block i hi
  have hz2 := (hb12.block w.heap.size (by omega)).trans hz1
  have hb2 := bthen hb1 hb12
  have hs2 : w1.heap.size < w2.heap.size := lt_of_block hm2
  have HW2 := Lib.hid hw2
  clear hw2 hb12 hr1 hz1 hb1
  go_wp2_with fail
  rw [← HW2.out]
  obtain ⟨p1, hp1⟩ : ∃ p, p = q1.1 := ⟨_, rfl⟩
  obtain ⟨e1, he1⟩ : ∃ p, p = q1.2 := ⟨_, rfl⟩
  rw [← hp1, ← he1] at hr2
  refine (rtake_any w2 _ b p1 e1 4 hr2 (by omega) (by omega) (by omega)).mono ?_
  rintro e w3 ⟨rfl, r3, g3⟩
  rw [← HLL.out] at r3 ⊢
  obtain ⟨q3, hq3⟩ : ∃ q, q = rS l q1 4 := ⟨_, rfl⟩
  have hr3 : RefR w3 (w.heap.size + 1) b q3.1 q3.2 := by rw [hq3]; unfold rS; rw [← hp1, ← he1]; exact r3
  have hm3 := (g3.block _ hs2 (fun e => by have := Option.some.inj e; omega)).trans hm2
  have hz3 := (g3.block w.heap.size (by omega) (fun e => by have := Option.some.inj e; omega)).trans hz2
  have hb3 : Below w.heap.size w w3 := below_only hb2 g3 hb2.size (by omega)
  have HQ3 := Lib.hid hq3
  have hs3 : w1.heap.size < w3.heap.size := lt_of_block hm3
  clear hq3 r3 g3 hr2 hm2 hz2 hb2 hs2 HW2 hp1 he1
  go_wp2_with fail
  obtain ⟨p3, hp3⟩ : ∃ p, p = q3.1 := ⟨_, rfl⟩
  obtain ⟨e3, he3⟩ : ∃ p, p = q3.2 := ⟨_, rfl⟩
  rw [← hp3, ← he3] at hr3
  refine (rtake_any w3 _ b p3 e3 2 hr3 (by omega) (by omega) (by omega)).mono ?_
  rintro e w4 ⟨rfl, r4', g4⟩
  rw [← HLL.out] at r4' ⊢
  obtain ⟨q4, hq4⟩ : ∃ q, q = rS l q3 2 := ⟨_, rfl⟩
  have hr4 : RefR w4 (w.heap.size + 1) b q4.1 q4.2 := by rw [hq4]; unfold rS; rw [← hp3, ← he3]; exact r4'
  have hm4 := (g4.block _ hs3 (fun e => by have := Option.some.inj e; omega)).trans hm3
  have hz4 := (g4.block w.heap.size (by omega) (fun e => by have := Option.some.inj e; omega)).trans hz3
  have hb4 : Below w.heap.size w w4 := below_only hb3 g4 hb3.size (by omega)
  have HQ4 := Lib.hid hq4
  have hs4 : w1.heap.size < w4.heap.size := lt_of_block hm4
  clear hq4 r4' g4 hr3 hm3 hz3 hb3 hs3 hp3 he3
  go_wp2_with fail
  obtain ⟨p4, hp4⟩ : ∃ p, p = q4.1 := ⟨_, rfl⟩
  obtain ⟨e4, he4⟩ : ∃ p, p = q4.2 := ⟨_, rfl⟩
  rw [← hp4, ← he4] at hr4
  refine (rtake_any w4 _ b p4 e4 1 hr4 (by omega) (by omega) (by omega)).mono ?_
  rintro e w5 ⟨rfl, r5', g5⟩
  rw [← HLL.out] at r5' ⊢
  obtain ⟨q5, hq5⟩ : ∃ q, q = rS l q4 1 := ⟨_, rfl⟩
  have hr5 : RefR w5 (w.heap.size + 1) b q5.1 q5.2 := by rw [hq5]; unfold rS; rw [← hp4, ← he4]; exact r5'
  have hm5 := (g5.block _ hs4 (fun e => by have := Option.some.inj e; omega)).trans hm4
  have hz5 := (g5.block w.heap.size (by omega) (fun e => by have := Option.some.inj e; omega)).trans hz4
  have hb5 : Below w.heap.size w w5 := below_only hb4 g5 hb4.size (by omega)
  have H4 : Hid (q5 = r4 l) := by
    show _ = _
    unfold r4
    rw [hq5, HQ4.out, HQ3.out, HQ1.out]
  have hs5 : w1.heap.size < w5.heap.size := lt_of_block hm5
  clear hq5 r5' g5 hr4 hm4 hz4 hb4 hs4 hp4 he4 HQ4 HQ3 HQ1
  go_wp2_with fail
  obtain ⟨p5, hp5⟩ : ∃ p, p = q5.1 := ⟨_, rfl⟩
  obtain ⟨e5, he5⟩ : ∃ p, p = q5.2 := ⟨_, rfl⟩
  rw [← hp5, ← he5] at hr5
  refine (rtake_any w5 _ b p5 e5 2 hr5 (by omega) (by omega) (by omega)).mono ?_
  rintro e w6 ⟨rfl, r6', g6⟩
  rw [← HLL.out] at r6' ⊢
  obtain ⟨y, hy⟩ : ∃ y : Nat, y = num (nextB l p5 e5 2) := ⟨_, rfl⟩
  rw [← hy]
  obtain ⟨e6, he6⟩ : ∃ e6, e6 = nextE l p5 e5 2 := ⟨_, rfl⟩
  have hm6 := (g6.block _ hs5 (fun e => by have := Option.some.inj e; omega)).trans hm5
  have hz6 := (g6.block w.heap.size (by omega) (fun e => by have := Option.some.inj e; omega)).trans hz5
  have hb6 : Below w.heap.size w w6 := below_only hb5 g6 hb5.size (by omega)
  have hT : rtakeM l = ⟨x, y⟩ := by
    unfold rtakeM
    rw [← H4.out, ← hp5, ← he5, ← hy, ← HX.out]
  have hE : (rS l (r4 l) 2).2 = e6 := by
    unfold rS
    rw [← H4.out, ← hp5, ← he5, he6]
  have hc6 : w6.cell? ⟨w.heap.size + 1, 2, none⟩ = some (.int .i64 e6) := by rw [he6]; exact r6'.cells.2.2
  have hmi : MI ⟨x, y⟩ := by
    have := rtakeM_64 l
    rw [hT] at this
    simp only at this
    exact ⟨⟨by simp only; omega, by simp only; omega⟩, ⟨by simp only; omega, by simp only; omega⟩⟩
  have HT := Lib.hid hT
  have HE := Lib.hid hE
  have HM := Lib.hid hmi
  clear hy he6 g6 r6' hr5 hm5 hz5 hb5 hs5 hp5 he5 H4 HX hT hE hmi
  -- the root is stored
  have cm0 := cell_at hm6 0 (.int .i64 x) rfl
  have cm1 := cell_at hm6 1 (.int .i64 0) rfl
  have cf1 := free_at hm6 1
  obtain ⟨w7, hw7⟩ : ∃ w7, w7 = w6.setCell ⟨w1.heap.size, 1, none⟩ (.int .i64 y) := ⟨_, rfl⟩
  have hm7 : w7.heap[w1.heap.size]? = some (.cells #[.int .i64 x, .int .i64 y] 23 (0, 0)) := by rw [hw7]; exact blk_set hm6 1 _
  have hz7 : w7.heap[w.heap.size]? = some (.cells #[.int .i64 0, .int .i64 0] 23 (0, 0)) := by
    rw [hw7]
    exact (Below.heap_setCell _ _ _ _ (by simp only; omega)).trans hz6
  have hr7 : w7.cell? ⟨w.heap.size + 1, 2, none⟩ = some (.int .i64 e6) := by
    have h1 : w7.heap[w.heap.size + 1]? = w6.heap[w.heap.size + 1]? := by
      rw [hw7]
      exact Below.heap_setCell _ _ _ _ (by simp only; omega)
    exact (World.cell?_of_block (w := w6) h1).trans hc6
  have hb7 : Below w.heap.size w w7 := by rw [hw7]; exact hb6.setCell (p := ⟨w1.heap.size, 1, none⟩) (by simp only; omega) _
  have HW7 := Lib.hid hw7
  have hs7 : w1.heap.size < w7.heap.size := lt_of_block hm7
  have hne : w.heap.size + 1 ≠ w1.heap.size := by omega
  have m0 := cell_at hm7 0 (.int .i64 x) rfl
  have m1 := cell_at hm7 1 (.int .i64 y) rfl
  have HM7 := Lib.hid hm7
  have HZ7 := Lib.hid hz7
  have cz0 := cell_at hz6 0 (.int .i64 0) rfl
  have cz1 := cell_at hz6 1 (.int .i64 0) rfl
  have fz0 := free_at hz6 0
  have fz1 := free_at hz6 1
  have hne0 : w.heap.size ≠ w1.heap.size := by omega
  clear hw7 hm6 hz6 hb6 hm7 hz7
  have hfin : ∀ (u v r : Int) (wz : World), wz.heap[w.heap.size]? = some (.cells #[.int .i64 0, .int .i64 0] 23 (0, 0)) → Below w.heap.size w wz →
      ((wz.setCell ⟨w.heap.size, 0, none⟩ (.int .i64 u)).setCell ⟨w.heap.size, 1, none⟩ (.int .i64 v)).heap[w.heap.size]? = some (.cells #[.int .i64 u, .int .i64 v] 23 (0, 0)) ∧ Below w.heap.size w ((wz.setCell ⟨w.heap.size, 0, none⟩ (.int .i64 u)).setCell ⟨w.heap.size, 1, none⟩ (.int .i64 v)) := fun u v r wz h1 h2 =>
    ⟨set_two h1 _ _, below_two h2 (Nat.le_refl _) _ _⟩
  have HF := Lib.hid hfin
  clear hfin
  by_cases h6 : e6 = 0
  · subst h6
    go_wp2_with fail
    rw [← HW7.out]
    have hri := mtRefRight_any ⟨x, y⟩
    have hby := mtRefBytes_any ⟨x, y⟩
    unfold metaV at hri hby
    simp only at hri hby
    refine (hri w7 HM.out).mono ?_
    rintro e w8 ⟨rfl, hb8⟩
    have hm8 := (hb8.block _ hs7).trans HM7.out
    have hz8 := (hb8.block w.heap.size (by omega)).trans HZ7.out
    have hbw8 := bthen hb7 hb8
    have hs8 : w1.heap.size < w8.heap.size := lt_of_block hm8
    clear hb8 cm0 cm1 cf1 m0 m1 hr7 hc6 cz0 cz1 fz0 fz1 hri
    by_cases hok : okM ⟨x, y⟩
    · rw [decide_eq_true hok]
      have m0 := cell_at hm8 0 (.int .i64 x) rfl
      have m1 := cell_at hm8 1 (.int .i64 y) rfl
      have HZ8 := Lib.hid hz8
      have HM8 := Lib.hid hm8
      clear hz8 hm8
      go_wp2_with fail
      refine (hby w8 HM.out).mono ?_
      rintro e w9 ⟨⟨s, rfl, hs, hls⟩, hb9⟩
      have hz9 := (hb9.block w.heap.size (by omega)).trans HZ8.out
      have hm9 := (hb9.block _ hs8).trans HM8.out
      have hbw9 := bthen hbw8 hb9
      clear m0 m1 hb9 hby HZ8 HM8
      have m0 := cell_at hm9 0 (.int .i64 x) rfl
      have m1 := cell_at hm9 1 (.int .i64 y) rfl
      have d0 := cell_at hz9 0 (.int .i64 0) rfl
      have d1 := cell_at hz9 1 (.int .i64 0) rfl
      have g0 := free_at hz9 0
      have g1 := free_at hz9 1
      have hssz : s.size ≤ 1000 := by omega
      by_cases heq : s = b
      · have HP : Hid (decV l = ⟨x, y⟩ ∧ decE l = 0) := by
          have he : encM (rtakeM l) = l := by rw [HT.out, ← hls, heq, HLL.out]
          have := rdec_yes (l := l) (by rw [HT.out]; exact hok) he
          rwa [HT.out] at this
        subst heq
        clear hls hs
        obtain ⟨f1, f2⟩ := HF.out x y 0 w9 hz9 hbw9
        have F1 := Lib.hid f1
        have F2 := Lib.hid f2
        clear f1 f2
        go_wp2
        refine bodyPost_ret (v := .tuple #[.agg #[.int .i64 x, .int .i64 y], .int .i64 0]) ?_ rfl ⟨?_, F2.out⟩
        · have k0 := cell_at F1.out 0 (.int .i64 x) rfl
          have k1 := cell_at F1.out 1 (.int .i64 y) rfl
          simp [results, Tryd.results19, go_sem, k0, k1]
        · rw [HP.out.1, HP.out.2]
          rfl
      · have HP : Hid (decV l = ⟨0, 0⟩ ∧ decE l = 3) := rdec_no fun _ _ h => heq (ba_ext (by rw [hls, ← HLL.out, ← h, HT.out]))
        have hneq : (s.toList == b.toList) = false := by
          have h1 : s.toList ≠ b.toList := fun h => heq (ba_ext (by rw [← ByteArray.toList_eq, ← ByteArray.toList_eq, h]))
          simpa using h1
        clear hls hs heq
        obtain ⟨f1, f2⟩ := HF.out 0 0 0 w9 hz9 hbw9
        have F1 := Lib.hid f1
        have F2 := Lib.hid f2
        clear f1 f2
        go_wp2
        refine bodyPost_ret (v := .tuple #[.agg #[.int .i64 0, .int .i64 0], .int .i64 3]) ?_ rfl ⟨?_, F2.out⟩
        · have k0 := cell_at F1.out 0 (.int .i64 0) rfl
          have k1 := cell_at F1.out 1 (.int .i64 0) rfl
          simp [results, Tryd.results19, go_sem, k0, k1]
        · rw [HP.out.1, HP.out.2]
          rfl
    · rw [decide_eq_false hok]
      have HP : Hid (decV l = ⟨0, 0⟩ ∧ decE l = 3) := rdec_no fun _ h _ => hok (by rw [HT.out] at h; exact h)
      have d0 := cell_at hz8 0 (.int .i64 0) rfl
      have d1 := cell_at hz8 1 (.int .i64 0) rfl
      have g0 := free_at hz8 0
      have g1 := free_at hz8 1
      obtain ⟨f1, f2⟩ := HF.out 0 0 0 w8 hz8 hbw8
      have F1 := Lib.hid f1
      have F2 := Lib.hid f2
      clear f1 f2
      go_wp2
      refine bodyPost_ret (v := .tuple #[.agg #[.int .i64 0, .int .i64 0], .int .i64 3]) ?_ rfl ⟨?_, F2.out⟩
      · have k0 := cell_at F1.out 0 (.int .i64 0) rfl
        have k1 := cell_at F1.out 1 (.int .i64 0) rfl
        simp [results, Tryd.results19, go_sem, k0, k1]
      · rw [HP.out.1, HP.out.2]
        rfl
  · have HP : Hid (decV l = ⟨0, 0⟩ ∧ decE l = 3) := rdec_no fun h => absurd (HE.out.symm.trans h) h6
    have hne6 : (e6 != 0) = true := by simpa using h6
    clear h6
    obtain ⟨f1, f2⟩ := HF.out 0 0 0 w7 HZ7.out hb7
    have F1 := Lib.hid f1
    have F2 := Lib.hid f2
    clear f1 f2
    go_wp2
    rw [← HW7.out]
    refine bodyPost_ret (v := .tuple #[.agg #[.int .i64 0, .int .i64 0], .int .i64 3]) ?_ rfl ⟨?_, F2.out⟩
    · have k0 := cell_at F1.out 0 (.int .i64 0) rfl
      have k1 := cell_at F1.out 1 (.int .i64 0) rfl
      simp [results, Tryd.results19, go_sem, k0, k1]
    · rw [HP.out.1, HP.out.2]
      rfl

end Go.Proofs.YtcgmaiadipiegaaDoor
