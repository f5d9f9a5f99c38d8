/-
  PageBack: a page's bytes are decoded as it; with one more behind, or one fewer, they are ErrLong; for every page and byte; no condition beyond the row's.
-/
import Derived.Test.YtgicomadlhnkjaaDoorPageDecode
import Derived.Test.YtgicomadlhnkjaaDoorPageTold
import Derived.Test.YtgicomadlhnkjaaDoorPageSame
import Derived.ArgAppend
import Derived.Test.YtgicomadlhnkjaaDoorPageOpen
import Derived.Test.YtgicomadlhnkjaaDoorPageTools
import Derived.Test.YtgicomadlhnkjaaDoorSumLaid
import Derived.Test.YtgicomadlhnkjaaDoorTie
import Derived.Test.YtgicomadlhnkjaaDoorCards
import Derived.SevenTiedAt
namespace Go.Proofs.YtgicomadlhnkjaaDoor
open Go.RowKit Go.Sort
set_option linter.unusedVariables false

theorem dec_long {l : List UInt8} {q : PP} {r : Int} (h : Dec l q r) (hl : l.length ≠ 256) : r = 4 := by
  rcases h with ⟨_, _, h⟩ | ⟨h, _⟩ | ⟨h, _⟩ | ⟨h, h2, _⟩
  · exact h
  · exact absurd h hl
  · exact absurd h hl
  · exact absurd (by rw [← h2]; exact encL_len h) hl
/-- append(b[:n:n], x): a new row. -/
theorem append_more {W : World} {b : Addr} {n : Nat} {l : List UInt8} (h : Rd W (some b) l) (hn : l.length = n) (x : Int) (h0 : 0 ≤ x ∧ x ≤ 255) (hl : n ≤ 1000000) (hp : 0 < n) :
    ∃ v' w', (Builtin.append_ #[28, 28] 28 #[.slice (some b) n n, .slice (some ⟨W.heap.size, 0, none⟩) 1 1]).run Tryd.prog (W.alloc (.cells #[.int .u8 x] 5)) = .ok v' w' ∧ OB w' W.heap.size v' (l ++ [b8 x]) ∧ Below W.heap.size W w' := by
  obtain ⟨i0, hi0, hz0, hz1, hz2⟩ := info_parts u8info
  have hbA : Below W.heap.size W (W.alloc (.cells #[.int .u8 x] 5)) := (Below.refl _ _).alloc (Nat.le_refl _) _
  have hx : Value.int .u8 x = u8 (b8 x) := by rw [u8_b8, Int.emod_eq_of_lt h0.1 (by omega)]
  obtain ⟨ad, e, hlt, hc⟩ := h (by omega)
  cases e
  obtain ⟨v', w', h1, h2, h3⟩ := run_append_arg_grows (P := Tryd.prog) (w := W.alloc (.cells #[.int .u8 x] 5)) 28 28 5 i0 _ 1 1 Tryd.underlying28 hi0 hz0 hz1 hz2 rfl (by omega) b n n (bcells l) (by rw [bcells_length, hn]; omega)
    (fun j u hu => (hbA.cell (by rw [block_of_add]; exact hlt)).trans (hc j u hu)) ⟨W.heap.size, 0, none⟩ 1 1 [.int .u8 x] rfl (fun j u hu => new_row W #[.int .u8 x] 5 j u hu) (by omega) (by simp only [maxLen]; omega) (by omega)
  refine ⟨v', w', h1, ?_, ?_⟩
  · unfold OB
    rw [show (l ++ [b8 x]).length = n + 1 by rw [List.length_append, hn]; rfl, bcells_append]
    have : bcells [b8 x] = [Value.int .u8 x] := by rw [hx]; rfl
    rw [this]
    exact own_mono h2 hbA.size
  · exact hbA.grown h3 hbA.size (fun k hk => by cases hk)

set_option maxHeartbeats 4000000 in
set_option maxRecDepth 100000 in
theorem pageBack_walk (p : PP) (A B : Option Addr) (a b : Nat) (x : Int) (w : World) (hh : Half w) (hA : Ls pcC w A p.cells) (hB : Ls pcK w B p.kids) (hp : ArgP p) (wx : (Lit.int .u8 x).wf = true) :
    Calls Tryd.prog 5 #[pageV p A a B b, .int .u8 x] w fun e w' => e = .returned (.bool true) ∧ Below w.heap.size w w' := by
  have hx : 0 ≤ x ∧ x ≤ 255 := by simpa [Lit.wf, IntKind.min, IntKind.max, IntKind.signed, IntKind.bits] using wx
  have hfew := few_any p
  have hmade := made_any p
  have henc := encode_any p
  have hright := right_any p
  have htold := told_any p
  have hsame := same_pg p p
  rw [decide_eq_true rfl] at hsame
  have hf1' : FewP p → p.cells.length ≤ 1000 := fun h => by have := h.1; omega
  have hf2' : FewP p → p.kids.length ≤ 1000 := fun h => by have := h.2.1; omega
  have hbd' : FewP p → Bd p := fun h => hp.bd h
  unfold PgPost at hmade htold
  unfold pageV at *
  generalize hgn : p.cells.length = n at *
  generalize hgm : p.kids.length = m at *
  generalize hpk : p.kind = pk at *
  generalize hpp : p.piece = pp at *
  generalize hpn : p.next = pn at *
  have HQ := Lib.hid (show p.cells.length = n ∧ p.kids.length = m ∧ p.kind = pk ∧ p.piece = pp ∧ p.next = pn from ⟨hgn, hgm, hpk, hpp, hpn⟩)
  obtain ⟨W, hW⟩ : ∃ W, W = w.alloc (.cells #[.int .i64 pk, .slice A n a, .slice B m b, .string pp, .int .i64 pn] 25) := ⟨_, rfl⟩
  have hbW : Below w.heap.size w W := by rw [hW]; exact (Below.refl _ _).alloc (Nat.le_refl _) _
  have hsW : w.heap.size < W.heap.size := by rw [hW]; simp
  have hcc : ∀ w', Below W.heap.size W w' → w'.cell? ⟨w.heap.size, 0, none⟩ = some (.int .i64 pk) ∧ w'.cell? ⟨w.heap.size, 1, none⟩ = some (.slice A n a) ∧ w'.cell? ⟨w.heap.size, 2, none⟩ = some (.slice B m b) ∧ w'.cell? ⟨w.heap.size, 3, none⟩ = some (.string pp) ∧ w'.cell? ⟨w.heap.size, 4, none⟩ = some (.int .i64 pn) := fun w' h => by
    rw [hW] at h
    exact ⟨box_at h 0 _ rfl, box_at h 1 _ rfl, box_at h 2 _ rfl, box_at h 3 _ rfl, box_at h 4 _ rfl⟩
  have HCC := Lib.hid hcc
  have HW := Lib.hid hW
  clear hW hcc hgn hgm hpk hpp hpn
  go_enter Tryd.func5, Tryd.ntmps5
  go_wp2_with fail
  rw [← HW.out]
  refine (awake_any W (hh.below hbW)).mono ?_
  rintro e w1 ⟨rfl, hb1⟩
  obtain ⟨ca0, ca1, ca2, ca3, ca4⟩ := HCC.out _ hb1
  have hbw1 := bthen hbW hb1
  go_wp2_with fail
  refine (hfew A B a b w1 (hA.below hbw1) (hB.below hbw1) hp).mono ?_
  rintro e w2 ⟨rfl, hb2⟩
  have hb12 := bthen hb1 hb2
  have hbw2 := bthen hbW hb12
  clear ca0 ca1 ca2 ca3 ca4
  by_cases hf : FewP p
  · have hf1 := hf1' hf
    have hf2 := hf2' hf
    have hbd := hbd' hf
    clear hf1' hf2' hbd'
    rw [decide_eq_true hf]
    obtain ⟨cb0, cb1, cb2, cb3, cb4⟩ := HCC.out _ hb12
    go_wp2_with fail
    refine (hmade A B a b w2 (hA.below hbw2) (hB.below hbw2) hf1 hf2).mono ?_
    rintro e w3 ⟨A3, a3, B3, b3, rfl, hA3, hB3, hb3⟩
    have hb13 := bthen hb12 hb3
    have hbw3 := bthen hbW hb13
    clear cb0 cb1 cb2 cb3 cb4
    go_wp2_with fail
    refine (henc A3 B3 a3 b3 w3 hA3 hB3 hbd (hh.below hbw3)).mono ?_
    intro e w4 hpost
    by_cases hok : okPage p
    · have HL : Hid ((encL p).length = 256) := encL_len hok
      obtain ⟨hgn', hgm', hpk', hpp', hpn'⟩ := HQ.out
      obtain ⟨v4, rfl, ho4, hb4⟩ := enc_ok hpost hok
      obtain ⟨A4, n4, c4', rfl, hn4, hc4, hr4⟩ := ho4.named
      have hL256 := HL.out
      rw [hL256] at hn4
      subst hn4
      have hb14 := bthen hb13 hb4
      have hbw4 := bthen hbW hb14
      clear hpost ho4 hL256
      go_wp2_with fail
      refine (decode_any A4 256 c4' (encL p) w4 (hh.below hbw4) hr4 HL.out hc4 (by omega)).mono ?_
      rintro e w5 ⟨q, A5, B5, a5, b5, r, rfl, hA5, hB5, hb5, hbd5, h255, h255', hdec⟩
      obtain ⟨hq, hr0⟩ := dec_ok hdec hok rfl
      have hq2 := hq.symm
      clear hq
      subst hq2
      subst hr0
      unfold pageV
      rw [hgn', hgm', hpk', hpp', hpn']
      have hb15 := bthen hb14 hb5
      have hbw5 := bthen hbW hb15
      have hr5 := hr4.below hb5
      clear hdec hbd5
      obtain ⟨W6, hW6⟩ : ∃ W6, W6 = w5.alloc (.cells #[.int .i64 pk, .slice A5 n a5, .slice B5 m b5, .string pp, .int .i64 pn] 35) := ⟨_, rfl⟩
      have hb56 : Below w5.heap.size w5 W6 := by rw [hW6]; exact (Below.refl _ _).alloc (Nat.le_refl _) _
      have hpb : ∀ w', Below W6.heap.size W6 w' → w'.cell? ⟨w5.heap.size, 0, none⟩ = some (.int .i64 pk) ∧ w'.cell? ⟨w5.heap.size, 1, none⟩ = some (.slice A5 n a5) ∧ w'.cell? ⟨w5.heap.size, 2, none⟩ = some (.slice B5 m b5) ∧ w'.cell? ⟨w5.heap.size, 3, none⟩ = some (.string pp) ∧ w'.cell? ⟨w5.heap.size, 4, none⟩ = some (.int .i64 pn) := fun w' h => by
        rw [hW6] at h
        exact ⟨box_at h 0 _ rfl, box_at h 1 _ rfl, box_at h 2 _ rfl, box_at h 3 _ rfl, box_at h 4 _ rfl⟩
      have hs56 : w5.heap.size < W6.heap.size := by rw [hW6]; simp
      have HPB := Lib.hid hpb
      have HW6 := Lib.hid hW6
      have hb16 := bthen hb15 hb56
      clear hW6 hpb
      obtain ⟨U, hU⟩ : ∃ U, U = (w5.alloc (.cells #[.int .i64 pk, .slice A5 n a5, .slice B5 m b5, .string pp, .int .i64 pn] 35)).drew := ⟨_, rfl⟩
      have hbU : Below W6.heap.size W6 U := by rw [hU, ← HW6.out]; exact (Below.refl _ _).drew
      have hbU0 := bthen hb16 hbU
      have hbUw := bthen hbW hbU0
      have hlU : w.heap.size < U.heap.size := Nat.lt_of_lt_of_le hsW hbU0.size
      have hlU5 : w5.heap.size < U.heap.size := Nat.lt_of_lt_of_le hs56 hbU.size
      have HU := Lib.hid hU
      clear hU
      have qb0 : ∀ q : Dc.Past [] U, q.val.cell? ⟨w.heap.size, 0, none⟩ = some (.int .i64 pk) := fun q => (q.ok.cell (by exact hlU) (by simp)).trans (HCC.out _ hbU0).1
      have qb1 : ∀ q : Dc.Past [] U, q.val.cell? ⟨w.heap.size, 1, none⟩ = some (.slice A n a) := fun q => (q.ok.cell (by exact hlU) (by simp)).trans (HCC.out _ hbU0).2.1
      have qb2 : ∀ q : Dc.Past [] U, q.val.cell? ⟨w.heap.size, 2, none⟩ = some (.slice B m b) := fun q => (q.ok.cell (by exact hlU) (by simp)).trans (HCC.out _ hbU0).2.2.1
      have qb3 : ∀ q : Dc.Past [] U, q.val.cell? ⟨w.heap.size, 3, none⟩ = some (.string pp) := fun q => (q.ok.cell (by exact hlU) (by simp)).trans (HCC.out _ hbU0).2.2.2.1
      have qb4 : ∀ q : Dc.Past [] U, q.val.cell? ⟨w.heap.size, 4, none⟩ = some (.int .i64 pn) := fun q => (q.ok.cell (by exact hlU) (by simp)).trans (HCC.out _ hbU0).2.2.2.2
      have qp0 : ∀ q : Dc.Past [] U, q.val.cell? ⟨w5.heap.size, 0, none⟩ = some (.int .i64 pk) := fun q => (q.ok.cell (by exact hlU5) (by simp)).trans (HPB.out _ hbU).1
      have qp1 : ∀ q : Dc.Past [] U, q.val.cell? ⟨w5.heap.size, 1, none⟩ = some (.slice A5 n a5) := fun q => (q.ok.cell (by exact hlU5) (by simp)).trans (HPB.out _ hbU).2.1
      have qp2 : ∀ q : Dc.Past [] U, q.val.cell? ⟨w5.heap.size, 2, none⟩ = some (.slice B5 m b5) := fun q => (q.ok.cell (by exact hlU5) (by simp)).trans (HPB.out _ hbU).2.2.1
      have qp3 : ∀ q : Dc.Past [] U, q.val.cell? ⟨w5.heap.size, 3, none⟩ = some (.string pp) := fun q => (q.ok.cell (by exact hlU5) (by simp)).trans (HPB.out _ hbU).2.2.2.1
      have qp4 : ∀ q : Dc.Past [] U, q.val.cell? ⟨w5.heap.size, 4, none⟩ = some (.int .i64 pn) := fun q => (q.ok.cell (by exact hlU5) (by simp)).trans (HPB.out _ hbU).2.2.2.2
      have hb5U := bthen hb56 hbU
      go_wp2
      refine Dc.wp_region_segs 13 [] [([0, 1, 2, 3, 5], 4), ([], 6)] [7, 8, 9, 10, 11, 12, 13] (by kernel_rfl) (by kernel_rfl) (by kernel_rfl) (by kernel_rfl) (by kernel_rfl) (by intro c a d v w h; cases d <;> exact h) ?_
      rw [← HU.out]
      refine Dc.wpSegs_more ?_
      simp only [Dc.pick, List.getElem?_cons_zero, List.getElem?_cons_succ]
      repeat (first | go_big_quiet_step (fail) | quiet_step (fail))
      refine wpQuiet_nil ?_
      refine Dc.wpOp_heavy rfl (by rfl) (fun K hK => ?_)
      go_simp
      refine (htold A5 B5 a5 b5 U (hA5.below hb5U) (hB5.below hb5U) hf1 hf2).mono ?_
      rintro e w7 ⟨A7, a7, B7, b7, rfl, hA7, hB7, hb7⟩
      refine hK _ _ (fun _ => Dc.But.of_below hb7) ?_
      clear hK K qb0 qb1 qb2 qb3 qb4 qp0 qp1 qp2 qp3 qp4
      have hbw7 := bthen hbUw hb7
      refine Dc.wpSegs_more ?_
      simp only [Dc.pick]
      refine wpQuiet_nil ?_
      refine Dc.wpOp_heavy rfl (by rfl) (fun K hK => ?_)
      go_simp
      refine (hsame A7 B7 A B a7 b7 a b w7 hA7 hB7 (hA.below hbw7) (hB.below hbw7) hf1 hf2 hf1 hf2).mono ?_
      rintro e w8 ⟨rfl, hb8⟩
      refine hK _ _ (fun _ => Dc.But.of_below hb8) ?_
      clear hK K
      have hbw8 := bthen hbw7 hb8
      have hb58 := bthen hb5U (bthen hb7 hb8)
      have hr8 := hr5.below hb58
      refine Dc.wpSegs_last ?_
      simp only [Dc.pick, List.getElem?_cons_zero, List.getElem?_cons_succ]
      repeat (first | go_big_quiet_step (fail) | quiet_step (fail))
      refine wpQuiet_nil ?_
      go_wp2_with fail
      refine (decode_any A4 255 c4' ((encL p).take 255) w8 (hh.below hbw8) (hr8.take 255) (by rw [List.length_take, HL.out]; rfl) (by omega) (by omega)).mono ?_
      rintro e w9 ⟨q9, A9, B9, a9, b9, r9, rfl, hA9, hB9, hb9, _, _, _, hdec9⟩
      have hr9 : r9 = 4 := by
        have hl9 : ((encL p).take 255).length ≠ 256 := by rw [List.length_take, HL.out]; decide
        exact dec_long hdec9 hl9
      subst hr9
      unfold pageV
      obtain ⟨u0, hu0⟩ : ∃ u0, u0 = q9.kind := ⟨_, rfl⟩
      have hbw9 := bthen hbw8 hb9
      obtain ⟨W10, hW10⟩ : ∃ W10, W10 = w9.alloc (.cells #[.int .i64 q9.kind, .slice A9 q9.cells.length a9, .slice B9 q9.kids.length b9, .string q9.piece, .int .i64 q9.next] 35) := ⟨_, rfl⟩
      have hb910 : Below w9.heap.size w9 W10 := by rw [hW10]; exact (Below.refl _ _).alloc (Nat.le_refl _) _
      have hbw10 := bthen hbw9 hb910
      have hr10 := hr8.below (bthen hb9 hb910)
      obtain ⟨ad, rfl⟩ : ∃ ad, A4 = some ad := by
        obtain ⟨ad, e, _⟩ := hr10 (by rw [HL.out]; omega)
        exact ⟨ad, e⟩
      obtain ⟨v', w11, hrun, hown11, hb11⟩ := append_more hr10 HL.out x hx (by omega) (by omega)
      have hs10 : W10.heap.size = w9.heap.size + 1 := by rw [hW10]; simp
      have hrun' := hrun
      rw [hs10, hW10] at hrun'
      have HR := Lib.hid hrun'
      clear hrun hrun'
      go_wp2_with (at_builtin; refine wpList_append_ran rfl (.tmp 76) (.tmp 78) 28 rfl _ _ _ _ rfl rfl HR.out ?_)
      have hbw11 := bthen hbw10 hb11
      obtain ⟨A11, n11, c11, rfl, hn11, hc11, hr11⟩ := hown11.named
      rw [List.length_append, HL.out] at hn11
      have hn11' : n11 = 257 := hn11.symm
      subst hn11'
      refine (decode_any A11 257 c11 (encL p ++ [b8 x]) w11 (hh.below hbw11) hr11 (by rw [List.length_append, HL.out]; rfl) hc11 (by omega)).mono ?_
      rintro e w12 ⟨q12, A12, B12, a12, b12, r12, rfl, hA12, hB12, hb12', _, _, _, hdec12⟩
      have hr12 : r12 = 4 := dec_long hdec12 (by rw [List.length_append, HL.out]; simp)
      subst hr12
      unfold pageV
      have hbw12 := bthen hbw11 hb12'
      go_wp2
      go_ret
      exact ⟨rfl, hbw12.alloc hbw12.size _⟩
    · obtain ⟨rfl, hb4⟩ := enc_no hpost hok
      have hb14 := bthen hb13 hb4
      have hbw4 := bthen hbW hb14
      obtain ⟨cd0, cd1, cd2, cd3, cd4⟩ := HCC.out _ hb14
      clear hpost
      go_wp2_with fail
      refine (hmade A B a b w4 (hA.below hbw4) (hB.below hbw4) hf1 hf2).mono ?_
      rintro e w5 ⟨A5, a5, B5, b5, rfl, hA5, hB5, hb5⟩
      have hbw5 := bthen hbw4 hb5
      clear cd0 cd1 cd2 cd3 cd4
      go_wp2_with fail
      refine (hright A5 B5 a5 b5 w5 hA5 hB5 hbd).mono ?_
      rintro e w6 ⟨rfl, hb6⟩
      rw [decide_eq_false hok]
      have hbw6 := bthen hbw5 hb6
      go_wp2
      go_ret
      exact ⟨rfl, hbw6⟩
  · rw [decide_eq_false hf]
    go_wp2_with fail
    refine (awake_any w2 (hh.below hbw2)).mono ?_
    rintro e w3 ⟨rfl, hb3⟩
    have hbw3 := bthen hbw2 hb3
    go_wp2
    go_ret
    exact ⟨rfl, hbw3⟩

end Go.Proofs.YtgicomadlhnkjaaDoor

namespace Go.Proofs.YtgicomadlhnkjaaDoor.pageBack
open Go Go.ChangeShapes Go.WideShapes Go.ChangeAt Go.RowKit
open Go.ChangeMaps (open_string shut_string)
set_option linter.unusedVariables false

theorem own : ownKnob Tryd.prog.godebug = none := by kernel_rfl

theorem laidOut : laidOutB Tryd.prog = true := by kernel_rfl

set_option maxRecDepth 100000 in
theorem lifted (os : Os) (started : os.Started) (H : Type) (enc : TypeId × Value → H) :
    ReturnsInHanded {} Tryd.checked os 5 .any (fun w args => (Rows.pageBackSpec.pre enc Tryd.prog Tryd.f5 [] false w args ∧ laidMetH Tryd.prog laidL w) ∧ sizedMet enc Tryd.prog Tryd.f5 (OpenSpec.ofChange Rows.pageBackSpec) false w args)
      (Rows.pageBackSpec.post enc Tryd.prog Tryd.f5 false true false false) := by
  refine returnsInHanded_of_change_and (C := Tryd.checked) (X := fun w _ => laidMetH Tryd.prog laidL w) (fun _ _ _ hh h => h.of_heap hh) own started (by kernel_rfl) Tryd.func5
    (ChangeSpec.witness_shaped (enc := enc) (C := Tryd.checked) (os := os) (X := fun w _ => laidMetH Tryd.prog laidL w) false (World.doorLaid Tryd.prog 14 os) #[.agg #[.int .i64 0, .slice none 0 0, .slice none 0 0, .string ByteArray.empty, .int .i64 0], .int .u8 0] 8 rfl (World.shaped_of_RefB (by kernel_rfl) (by kernel_rfl)) (by kernel_rfl) (by kernel_rfl) (by kernel_rfl) (door_met os _)) ?_
  intro W base args ds gs before hval0 hW hcnd hsz0 hL _
  have hval : ∀ (j : Nat) t v, Tryd.f5.params[j]? = some t → args[j]? = some v → Value.okWide Tryd.prog W .any base t v := hval0
  have hsz : (DataW.weightsEach Tryd.prog (Tryd.f5.params.toList ++ Rows.pageBackSpec.plain.varTypes Tryd.prog) (ds ++ gs)).all (· ≤ reachBytes) = true := hsz0
  have hW' := hW
  obtain ⟨p, q, hA0, hV, rfl, hfz, hnd⟩ := hW
  have hA : DataW.TrodAll enc Tryd.prog W 0 (fun _ => true) true Tryd.f5.params.toList args.toList ds p := hA0
  rw [Tryd.params5] at hA hval hsz
  obtain ⟨v0, vs0, d0, ds0, p0, q0, hargs, rfl, rfl, h0, r0⟩ := trodAll_cons hA
  obtain ⟨v1, vs1, d1, ds1, p1, q1, rfl, rfl, rfl, h1, r1⟩ := trodAll_cons r0
  obtain ⟨rfl, rfl, rfl⟩ := trodAll_nil r1
  obtain rfl : args = #[v0, v1] := by cases args; simp_all
  obtain ⟨rfl, rfl⟩ := trodVars_none hV
  have k0 := h0
  have lt0 : ∀ x ∈ p0, x.block < W.heap.size := by obtain ⟨m, hm⟩ := k0; exact DataW.trod_lt m _ _ _ hm
  obtain ⟨a0, A0, B0, ca0, cb0, rfl, la0, lb0, w0⟩ := open_page (hval 0 25 v0 rfl rfl) h0 (fun m hm => of_decide_eq_true (List.all_eq_true.1 hsz _ (DataW.weights_mem_each (j := 0) (t := 25) rfl rfl m hm)))
  obtain ⟨a1, rfl, rfl, rfl, w1⟩ := open_int Tryd.underlying5 (hval 1 5 v1 rfl rfl) h1
  clear hA0 hval0 hsz hsz0
  refine (pageBack_walk a0 A0 B0 ca0 cb0 a1 W (half_of_laid hL) la0 lb0 w0 w1).mono fun e W' ⟨he, bel⟩ => ?_
  subst he
  exact ⟨_, rfl, _, _, _, [], _, [], hW', trodAll_mk1 (shut_bool Tryd.underlying4 _), (trodAll_cons_mk (Below.trod laidOut (by kernel_rfl) (of_decide_eq_true (by kernel_rfl)) k0 bel lt0) (trodAll_cons_mk (shut_int Tryd.underlying5 w1) trodAll_mk0)), rfl, bel.frame _, fun h => by cases h⟩

theorem over : Rows.PageBackSaid :=
  OpenClaim.holds_of_wide 5 Tryd.f5 rfl rfl rfl rfl rfl rfl rfl ⟨rfl, rfl, rfl, rfl, rfl⟩ rfl rfl rfl rfl rfl (by kernel_rfl) Tryd.func5 (by kernel_rfl)
    (of_decide_eq_true (by kernel_rfl)) (by unfold Func.isWrapper; first | (rw [if_pos (by decide +kernel)]; kernel_rfl) | (rw [if_neg (by decide +kernel)]; exact ⟨rfl, rfl⟩))
    (fun os started H enc _ => lifted os started H enc)

theorem proved : Rows.PageBackCardSaid :=
  Claim7.holds_tied_plain_at .later [] [.data] true (true, "4e616fa6175ec80d00b51e5fb52bf1d6326841f81c3ae43d4e7153953247007d") false
    over (fun _ h => by cases h) (by kernel_rfl) (fun _ h => by cases h) pageBack_row_tie rfl ⟨rfl, rfl⟩ (by kernel_rfl) rfl
    (fun f fn hf hfn => by
      obtain rfl : f = 5 := Option.some.inj ((show Tryd.prog.funcNamed "sapwood/sapwoodlaw04.PageBack" = some 5 by kernel_rfl).symm.trans hf) |>.symm
      obtain rfl : fn = Tryd.f5 := (Option.some.inj (Tryd.func5.symm.trans hfn)).symm
      exact ⟨by kernel_rfl, fun j t ht => by
        rw [Tryd.params5] at ht
        have hm : t ∈ [25, 5] := by simpa using Array.mem_of_getElem? ht
        have hall : ([25, 5].all fun u => !Tryd.prog.wantsStandIn u) = true := by kernel_rfl
        exact (show Tryd.prog.wantsStandIn t = false by simpa using List.all_eq_true.1 hall t hm)⟩)
    (by kernel_rfl)
#print axioms proved

end Go.Proofs.YtgicomadlhnkjaaDoor.pageBack
