/-
  DevicePlays: whatever is written, read, synced and cut off, each answer is the reference's, and so are all bytes; for every number of pages and every script; no condition beyond the row's.
-/
import Derived.Test.YthjgcbpanfiacaaDevTwo
namespace Go.Proofs.Ythjgcbpanfiacaa
open Go.RowKit Go.Sort Go.ChangeShapes Go.WideShapes
set_option linter.unusedVariables false
set_option linter.unusedSimpArgs false

set_option maxRecDepth 100000 in
set_option maxHeartbeats 3000000 in
theorem devicePlays_walk (y0 : Int) (A : Option Addr) (m c : Nat) (l : List OP) (w : World) (hy : (Lit.int .u8 y0).wf = true) (ha : ArgO w A m c l) :
    Calls Try.prog 3 #[.int .u8 y0, .slice A m c] w fun e w' => e = .returned (.bool true) ∧ Below w.heap.size w w' := by
  obtain ⟨y, rfl⟩ := byte_of hy
  obtain ⟨hlen, hcap, hsm, hls, hok⟩ := ha
  have HL := Lib.hid hlen
  have HLS := Lib.hid hls
  have HOK := Lib.hid hok
  clear hlen hls hok hy
  obtain ⟨p0, hp0⟩ : ∃ p : Nat, p = y.toNat := ⟨_, rfl⟩
  have hp256 : p0 < 256 := by rw [hp0]; exact y.toNat_lt
  rw [← hp0]
  clear hp0
  obtain ⟨n, hn⟩ : ∃ n : Nat, n = p0 % 20 := ⟨_, rfl⟩
  have hq1 : (p0 : Int).tmod 20 = (n : Int) := by rw [Int.tmod_eq_emod_of_nonneg (by omega)]; omega
  have hq2 : (p0 : Int) % 20 = (n : Int) := by omega
  have hn20 : n < 20 := by omega
  clear hn
  go_enter Try.func3, Try.ntmps3
  go_wp2_with fail
  refine (devAwake_any w).mono ?_
  rintro e w1 ⟨rfl, hb1⟩
  go_wp2_with fail
  refine (fewO_any A m c l w1 (HLS.out.below hb1) HL.out hsm (fun z hz => (HOK.out z hz).b)).mono ?_
  rintro e w2 ⟨rfl, rfl⟩
  by_cases hf : FewO l
  case neg =>
    rw [decide_eq_false hf]
    go_wp2_with fail
    refine (devAwake_any _).mono ?_
    rintro e w3 ⟨rfl, hb3⟩
    go_wp2
    go_ret
    exact ⟨rfl, bthen hb1 hb3⟩
  rw [decide_eq_true hf]
  have hm : m ≤ 150 := by rw [← HL.out]; exact hf.1
  have hw1 := hb1.size
  have HB1 := Lib.hid hb1
  have HFW := Lib.hid hf.2
  clear hf hb1
  go_wp2_with fail
  refine (new_any (n : Int) w2).mono ?_
  rintro e w3 ⟨d, rfl, hd3, hb3⟩
  rw [pagesN_of n (by omega)] at hd3
  have HD3 := Lib.hid hd3
  have HB3 := Lib.hid hb3
  clear hd3 hb3
  go_wp2_with fail
  refine (refNew_any (n : Int) w3).mono ?_
  rintro e w4 ⟨r, rfl, hr4, hb4⟩
  rw [pagesN_of n (by omega)] at hr4
  have HT4 := Lib.hid (Two.make (Nat.le_refl _) HD3.out HB3.out hr4 hb4)
  have HB4 := Lib.hid (bthen (bthen HB1.out HB3.out) hb4)
  clear hr4 hb4 HB1 HB3 HD3
  generalize List.replicate (n * 256) (0 : UInt8) = st0 at HT4
  go_wp2_with fail
  obtain ⟨F4, hF4⟩ := HT4.out.dev
  refine (pages_any hF4).mono ?_
  rintro e w5 ⟨rfl, rfl⟩
  clear hF4
  go_wp2
  go_loopw [39] (fun i wr => ∃ k : Nat, k ≤ m ∧ i = .int .i64 k ∧ Hid (∃ st pd, Two w2.heap.size wr d r n st pd st pd ∧ pd.length ≤ k) ∧ Hid (Below w.heap.size w wr)) (fun i _ => m - (intOf i).toNat)
  case atStart => exact ⟨0, Nat.zero_le _, rfl, Lib.hid ⟨_, _, HT4.out, by simp⟩, HB4⟩
  case round =>
    obtain ⟨k, hk, rfl, HT, HB⟩ := hrel
    clear HT4 HB4
    obtain ⟨st, pd, ht, hpl⟩ := HT.out
    have HTT := Lib.hid ht
    clear ht HT
    by_cases hlt : k < m
    · obtain ⟨ad, x, rfl, hx, hl, g0, g1, g2, g3, g4⟩ := (HLS.out.below HB.out).atO (i := k) (by rw [HL.out]; exact hlt)
      have HO := Lib.hid (HOK.out x (List.mem_of_getElem? hx))
      have hxb : x.b.size ≤ 1000 := HFW.out x (List.mem_of_getElem? hx)
      obtain ⟨xk, xi, xn, xp, xb⟩ := x
      simp only at g0 g1 g2 g3 g4 hxb
      obtain ⟨wa, hwa⟩ : ∃ wa, wa = wr.alloc (.cells #[.int .i64 xk, .int .i64 xi, .int .i64 xn, .int .u64 (xp : Int), .string xb] 32) := ⟨_, rfl⟩
      have hba : Below wr.heap.size wr wa := by rw [hwa]; exact (Below.refl _ _).alloc (Nat.le_refl _) _
      have hal : wr.heap.size < wa.heap.size := by rw [hwa]; simp
      have c0 : wa.cell? ⟨wr.heap.size, 0, none⟩ = some (.int .i64 xk) := by rw [hwa, World.cell?_alloc_mark]; rfl
      have c1 : wa.cell? ⟨wr.heap.size, 1, none⟩ = some (.int .i64 xi) := by rw [hwa, World.cell?_alloc_mark]; rfl
      have c2 : wa.cell? ⟨wr.heap.size, 2, none⟩ = some (.int .i64 xn) := by rw [hwa, World.cell?_alloc_mark]; rfl
      have c3 : wa.cell? ⟨wr.heap.size, 3, none⟩ = some (.int .u64 (xp : Int)) := by rw [hwa, World.cell?_alloc_mark]; rfl
      have c4 : wa.cell? ⟨wr.heap.size, 4, none⟩ = some (.string xb) := by rw [hwa, World.cell?_alloc_mark]; rfl
      have HWA := Lib.hid hwa
      have HTA := Lib.hid (HTT.out.below hba)
      have HBA := Lib.hid (bthen HB.out hba)
      have HBX := Lib.hid hba
      clear hwa hx
      by_cases h1 : xk = 1
      · subst h1
        by_cases hin : 0 ≤ xi ∧ xi < (n : Int) ∧ xb.size = 256
        · obtain ⟨bs, rfl, hbl⟩ : ∃ bs : List UInt8, xb = str bs ∧ bs.length = 256 := ⟨xb.data.toList, by simp [str], hin.2.2⟩
          obtain ⟨q, rfl⟩ : ∃ q : Nat, xi = (q : Int) := ⟨xi.toNat, by omega⟩
          have hqn : q < n := by omega
          have hsz : (str bs).size = 256 := by rw [str_size, hbl]
          clear hin
          obtain ⟨Ld, Lr, hbs, hdL, hrL, hboth⟩ := HTT.out.both
          have hnot : wr.heap.size ∉ Ld ++ Lr := fun h => by have := hbs _ h; omega
          obtain ⟨W, hW⟩ : ∃ W, W = wa.drew := ⟨_, rfl⟩
          have hbW : Below wr.heap.size wr W := by rw [hW]; exact bthen hba (Below.refl _ _).drew
          have hWz : wa.heap.size ≤ W.heap.size := by rw [hW]; exact Nat.le_refl _
          have cW1 : W.cell? ⟨wr.heap.size, 1, none⟩ = some (.int .i64 (q : Int)) := by rw [hW]; exact c1
          have cW4 : W.cell? ⟨wr.heap.size, 4, none⟩ = some (.string (str bs)) := by rw [hW]; exact c4
          have q1 : ∀ q' : Dc.Past (Ld ++ Lr) W, q'.val.cell? ⟨wr.heap.size, 1, none⟩ = some (.int .i64 (q : Int)) := fun q' => (q'.ok.cell (Nat.lt_of_lt_of_le hal hWz) hnot).trans cW1
          have q4 : ∀ q' : Dc.Past (Ld ++ Lr) W, q'.val.cell? ⟨wr.heap.size, 4, none⟩ = some (.string (str bs)) := fun q' => (q'.ok.cell (Nat.lt_of_lt_of_le hal hWz) hnot).trans cW4
          obtain ⟨C, F, hcv, hF⟩ := bytes_of ((str bs))
          have hcvW := hcv W
          obtain ⟨hrd, _, hb1'⟩ := hF W
          generalize F W = W1 at *
          have HCV := Lib.hid hcvW
          have HB1 := Lib.hid hb1'
          have HRD := Lib.hid hrd
          have HW := Lib.hid hW
          have HBW1 := Lib.hid (bthen hbW hb1')
          have HN := Lib.hid hnot
          have HDL := Lib.hid hdL
          have HRL := Lib.hid hrL
          have HBO := Lib.hid hboth
          have hW1l : wr.heap.size < W1.heap.size := Nat.lt_of_lt_of_le (Nat.lt_of_lt_of_le hal hWz) hb1'.size
          clear hcv hF hcvW hrd hb1' hW hbW hnot hdL hrL hboth hbs cW1 cW4
          clear c0 c1 c2 c3 c4 hba
          rw [hsz] at HCV
          rw [str_toList] at HRD
          have HX := Lib.hid (show ∃ X : WR, X.page = q ∧ X.bytes = bs from ⟨⟨q, bs, hbl⟩, rfl, rfl⟩)
          obtain ⟨X, hXp, hXb⟩ := HX.out
          have HXP := Lib.hid hXp
          have HXB := Lib.hid hXb
          clear HX hXp hXb hbl
          go_wp2
          rw [← HWA.out]
          refine Dc.wp_region_segs 13 (Ld ++ Lr) [([0, 1, 2, 3, 4, 7, 8, 9, 10, 11], 5), ([], 6), ([], 12)] [13] (by kernel_rfl) (by kernel_rfl) (by kernel_rfl) (by kernel_rfl) (by kernel_rfl) (by intro c a d v w h; cases d <;> exact h) ?_
          rw [← HW.out]
          refine Dc.wpSegs_more ?_
          simp only [Dc.pick, List.getElem?_cons_zero, List.getElem?_cons_succ]
          repeat (first | go_big_quiet_step (fail) | quiet_step (fail))
          refine wpQuiet_nil ?_
          refine Dc.wpOp_heavy rfl (by rfl) (fun K hK => ?_)
          refine oper_run (.slice (some ⟨W.heap.size, 0, none⟩) 256 (C W)) (w' := W1) ?_ (hK _ _ (fun _ => Dc.But.of_below HB1.out) ?_)
          · have := HCV.out
            unfold execOp
            simp only [Act.eval, Array.getD_eq_getD_getElem?, List.getElem?_toArray, List.getElem?_cons_succ, List.getElem?_cons_zero, Option.getD_some, Sem.run_bind, Sem.run_pure, Result.andThen_ok, this]
          simp only [Act.put]
          clear hK K q1 q4
          refine Dc.wpSegs_more ?_
          simp only [Dc.pick]
          refine wpQuiet_nil ?_
          refine Dc.wpOp_heavy rfl (by rfl) (fun K hK => ?_)
          go_simp
          have hwr := write_any X (some ⟨W.heap.size, 0, none⟩) (C W) (HDL.out.below HBW1.out) (by rw [HXP.out]; exact hqn) (by rw [HXB.out]; exact HRD.out) (by omega)
          rw [HXP.out] at hwr
          refine hwr.mono ?_
          rintro e w6 ⟨rfl, hd6, hk6⟩
          clear hwr
          obtain ⟨hr6, hfin⟩ := HBO.out _ _ HBW1.out hk6
          have HD6 := Lib.hid hd6
          have HR6 := Lib.hid hr6
          have HFIN := Lib.hid hfin
          refine hK _ _ (fun _ => but_of_keep hk6 (fun i hi => List.mem_append_left _ hi)) ?_
          clear hK K hd6 hk6 hr6 hfin
          refine Dc.wpSegs_more ?_
          simp only [Dc.pick]
          refine wpQuiet_nil ?_
          refine Dc.wpOp_heavy rfl (by rfl) (fun K hK => ?_)
          go_simp
          have hrw := refWrite_any X HR6.out (by rw [HXP.out]; exact hqn) (by omega)
          rw [HXP.out, HXB.out] at hrw
          refine hrw.mono ?_
          rintro e w7 ⟨rfl, hr7, hk7⟩
          clear hrw
          obtain ⟨ht7, hb7⟩ := HFIN.out w7 _ _ _ _ HD6.out hr7 hk7
          have HE := Lib.hid ht7
          have HBE := Lib.hid (HB.out.trans (hb7.mono hw1))
          refine hK _ _ (fun _ => but_of_keep hk7 (fun i hi => List.mem_append_right _ hi)) ?_
          clear hK K hr7 hk7 ht7 hb7 HR6 HFIN HD6
          refine Dc.wpSegs_last ?_
          simp only [Dc.pick, List.getElem?_cons_zero, List.getElem?_cons_succ]
          repeat (first | go_big_quiet_step (fail) | quiet_step (fail))
          refine wpQuiet_nil ?_
          go_wp2
          obtain ⟨F7, hF7⟩ := HE.out.ref
          obtain ⟨vP, vW, A7, B7, c7, d7, hvP, hvW, hat7, _⟩ := hF7.form
          subst hvP hvW
          have hw7 : ∀ e os, (Go.Sort.grow (redrawn w7.drew e) os).cell? ⟨r, 1, none⟩ = some (.slice B7 _ d7) := fun e os => ((below_regrown w7.drew e os).cell (p := ⟨r, 1, none⟩) (lt_of_block hat7.box)).trans (cell_at hat7.box 1 _ rfl)
          clear hat7 hF7
          refine wp_region_segs [([0, 2, 3, 4, 5, 6], 1)] [7] (by kernel_rfl) (by kernel_rfl) (by kernel_rfl) (by kernel_rfl) (by intro c a d v w h; cases d <;> exact h) ?_
          refine wpSegs_more ?_
          simp only [pick, List.getElem?_cons_zero, List.getElem?_cons_succ]
          repeat (first | go_big_quiet_step (fail) | quiet_step (fail))
          refine wpQuiet_nil ?_
          refine wpOp_heavy rfl (by rfl) (fun K hK => ?_)
          go_simp
          clear hw7
          obtain ⟨F8, hF8⟩ := (HE.out.below (Below.refl _ _).drew).dev
          refine (waiting_any hF8).mono ?_
          rintro e w8 ⟨rfl, rfl⟩
          refine hK _ _ (Below.refl _ _) ?_
          clear hK K hF8
          refine wpSegs_last ?_
          simp only [pick, List.getElem?_cons_zero, List.getElem?_cons_succ]
          repeat (first | go_big_quiet_step (fail) | quiet_step (fail))
          refine wpQuiet_nil ?_
          go_wp2
          exact ⟨⟨k + 1, by omega, by go_num, Lib.hid ⟨_, _, HE.out.below (Below.refl _ _).drew, by rw [List.length_append, List.length_singleton]; omega⟩, Lib.hid (bthen HBE.out (Below.refl _ _).drew)⟩, by simp [intOf]; omega⟩
        · have HNO := Lib.hid hin
          have hxs := HO.out.b
          simp only at hxs
          clear hin
          obtain ⟨Ld, Lr, hbs, hdL, hrL, hboth⟩ := HTT.out.both
          have hnot : wr.heap.size ∉ Ld ++ Lr := fun h => by have := hbs _ h; omega
          obtain ⟨W, hW⟩ : ∃ W, W = wa.drew := ⟨_, rfl⟩
          have hbW : Below wr.heap.size wr W := by rw [hW]; exact bthen hba (Below.refl _ _).drew
          have hWz : wa.heap.size ≤ W.heap.size := by rw [hW]; exact Nat.le_refl _
          have cW1 : W.cell? ⟨wr.heap.size, 1, none⟩ = some (.int .i64 xi) := by rw [hW]; exact c1
          have cW4 : W.cell? ⟨wr.heap.size, 4, none⟩ = some (.string xb) := by rw [hW]; exact c4
          have q1 : ∀ q' : Dc.Past (Ld ++ Lr) W, q'.val.cell? ⟨wr.heap.size, 1, none⟩ = some (.int .i64 xi) := fun q' => (q'.ok.cell (Nat.lt_of_lt_of_le hal hWz) hnot).trans cW1
          have q4 : ∀ q' : Dc.Past (Ld ++ Lr) W, q'.val.cell? ⟨wr.heap.size, 4, none⟩ = some (.string xb) := fun q' => (q'.ok.cell (Nat.lt_of_lt_of_le hal hWz) hnot).trans cW4
          obtain ⟨C, F, hcv, hF⟩ := bytes_of (xb)
          have hcvW := hcv W
          obtain ⟨hrd, _, hb1'⟩ := hF W
          generalize F W = W1 at *
          have HCV := Lib.hid hcvW
          have HB1 := Lib.hid hb1'
          have HRD := Lib.hid hrd
          have HW := Lib.hid hW
          have HBW1 := Lib.hid (bthen hbW hb1')
          have HN := Lib.hid hnot
          have HDL := Lib.hid hdL
          have HRL := Lib.hid hrL
          have HBO := Lib.hid hboth
          have hW1l : wr.heap.size < W1.heap.size := Nat.lt_of_lt_of_le (Nat.lt_of_lt_of_le hal hWz) hb1'.size
          clear hcv hF hcvW hrd hb1' hW hbW hnot hdL hrL hboth hbs cW1 cW4
          clear c0 c1 c2 c3 c4 hba
          go_wp2
          rw [← HWA.out]
          refine Dc.wp_region_segs 13 (Ld ++ Lr) [([0, 1, 2, 3, 4, 7, 8, 9, 10, 11], 5), ([], 6), ([], 12)] [13] (by kernel_rfl) (by kernel_rfl) (by kernel_rfl) (by kernel_rfl) (by kernel_rfl) (by intro c a d v w h; cases d <;> exact h) ?_
          rw [← HW.out]
          refine Dc.wpSegs_more ?_
          simp only [Dc.pick, List.getElem?_cons_zero, List.getElem?_cons_succ]
          repeat (first | go_big_quiet_step (fail) | quiet_step (fail))
          refine wpQuiet_nil ?_
          refine Dc.wpOp_heavy rfl (by rfl) (fun K hK => ?_)
          refine oper_run (.slice (some ⟨W.heap.size, 0, none⟩) xb.size (C W)) (w' := W1) ?_ (hK _ _ (fun _ => Dc.But.of_below HB1.out) ?_)
          · have := HCV.out
            unfold execOp
            simp only [Act.eval, Array.getD_eq_getD_getElem?, List.getElem?_toArray, List.getElem?_cons_succ, List.getElem?_cons_zero, Option.getD_some, Sem.run_bind, Sem.run_pure, Result.andThen_ok, this]
          simp only [Act.put]
          clear hK K q1 q4
          refine Dc.wpSegs_more ?_
          simp only [Dc.pick]
          refine wpQuiet_nil ?_
          refine Dc.wpOp_heavy rfl (by rfl) (fun K hK => ?_)
          go_simp
          refine (write_no xi (some ⟨W.heap.size, 0, none⟩) xb.size (C W) (HDL.out.below HBW1.out) HNO.out).mono ?_
          rintro e w6 ⟨rfl, rfl⟩
          refine hK _ _ (fun _ => Dc.But.refl _ _) ?_
          clear hK K
          refine Dc.wpSegs_more ?_
          simp only [Dc.pick]
          refine wpQuiet_nil ?_
          refine Dc.wpOp_heavy rfl (by rfl) (fun K hK => ?_)
          go_simp
          refine (refWrite_no xi xb (HRL.out.below HBW1.out) HNO.out hxs).mono ?_
          rintro e w7 ⟨rfl, rfl⟩
          have HE := Lib.hid (HTT.out.below HBW1.out)
          have HBE := Lib.hid (bthen HB.out HBW1.out)
          refine hK _ _ (fun _ => Dc.But.refl _ _) ?_
          clear hK K
          refine Dc.wpSegs_last ?_
          simp only [Dc.pick, List.getElem?_cons_zero, List.getElem?_cons_succ]
          repeat (first | go_big_quiet_step (fail) | quiet_step (fail))
          refine wpQuiet_nil ?_
          go_wp2
          obtain ⟨F7, hF7⟩ := HE.out.ref
          obtain ⟨vP, vW, A7, B7, c7, d7, hvP, hvW, hat7, _⟩ := hF7.form
          subst hvP hvW
          have hw7 : ∀ e os, (Go.Sort.grow (redrawn w7.drew e) os).cell? ⟨r, 1, none⟩ = some (.slice B7 _ d7) := fun e os => ((below_regrown w7.drew e os).cell (p := ⟨r, 1, none⟩) (lt_of_block hat7.box)).trans (cell_at hat7.box 1 _ rfl)
          clear hat7 hF7
          refine wp_region_segs [([0, 2, 3, 4, 5, 6], 1)] [7] (by kernel_rfl) (by kernel_rfl) (by kernel_rfl) (by kernel_rfl) (by intro c a d v w h; cases d <;> exact h) ?_
          refine wpSegs_more ?_
          simp only [pick, List.getElem?_cons_zero, List.getElem?_cons_succ]
          repeat (first | go_big_quiet_step (fail) | quiet_step (fail))
          refine wpQuiet_nil ?_
          refine wpOp_heavy rfl (by rfl) (fun K hK => ?_)
          go_simp
          clear hw7
          obtain ⟨F8, hF8⟩ := (HE.out.below (Below.refl _ _).drew).dev
          refine (waiting_any hF8).mono ?_
          rintro e w8 ⟨rfl, rfl⟩
          refine hK _ _ (Below.refl _ _) ?_
          clear hK K hF8
          refine wpSegs_last ?_
          simp only [pick, List.getElem?_cons_zero, List.getElem?_cons_succ]
          repeat (first | go_big_quiet_step (fail) | quiet_step (fail))
          refine wpQuiet_nil ?_
          go_wp2
          exact ⟨⟨k + 1, by omega, by go_num, Lib.hid ⟨_, _, HE.out.below (Below.refl _ _).drew, by omega⟩, Lib.hid (bthen HBE.out (Below.refl _ _).drew)⟩, by simp [intOf]; omega⟩
      by_cases h2 : xk = 2
      · subst h2
        by_cases hin : 0 ≤ xi ∧ xi < (n : Int)
        · obtain ⟨q, rfl⟩ : ∃ q : Nat, xi = (q : Int) := ⟨xi.toNat, by omega⟩
          have hqn : q < n := by omega
          clear hin
          go_wp2_with fail
          rw [← HWA.out]
          obtain ⟨F6, hF6⟩ := HTA.out.dev
          refine (read_any q hF6 hqn (by omega)).mono ?_
          rintro e w6 ⟨g6, rfl, hg6, hrow6, hb6⟩
          have HCL := Lib.hid (cur_len (pd := pd) hF6.lens.1 hqn pd.length)
          have d1 := (hb6.cell (p := ⟨wr.heap.size, 1, none⟩) hal).trans c1
          have HE := Lib.hid (HTA.out.below hb6)
          have HBE := Lib.hid (bthen HBA.out hb6)
          have HR6 := Lib.hid hrow6
          clear hF6 hrow6 hb6 hg6 c0 c1 c2 c3 c4
          go_wp2_with fail
          obtain ⟨F7, hF7⟩ := HE.out.ref
          refine (refRead_any q hF7 hqn (by omega)).mono ?_
          rintro e w7 ⟨rfl, rfl⟩
          have cv := conv_rd (c := 256) (rd_whole HR6.out) HCL.out
          rw [show (⟨(curN st pd q pd.length).toArray⟩ : ByteArray) = str (curN st pd q pd.length) from rfl] at cv
          generalize str (curN st pd q pd.length) = sr at *
          clear hF7 HR6 HCL
          go_wp2
          clear cv
          obtain ⟨F7, hF7⟩ := HE.out.ref
          obtain ⟨vP, vW, A7, B7, c7, d7, hvP, hvW, hat7, _⟩ := hF7.form
          subst hvP hvW
          have hw7 : ∀ e os, (Go.Sort.grow (redrawn w7.drew e) os).cell? ⟨r, 1, none⟩ = some (.slice B7 _ d7) := fun e os => ((below_regrown w7.drew e os).cell (p := ⟨r, 1, none⟩) (lt_of_block hat7.box)).trans (cell_at hat7.box 1 _ rfl)
          clear hat7 hF7
          refine wp_region_segs [([0, 2, 3, 4, 5, 6], 1)] [7] (by kernel_rfl) (by kernel_rfl) (by kernel_rfl) (by kernel_rfl) (by intro c a d v w h; cases d <;> exact h) ?_
          refine wpSegs_more ?_
          simp only [pick, List.getElem?_cons_zero, List.getElem?_cons_succ]
          repeat (first | go_big_quiet_step (fail) | quiet_step (fail))
          refine wpQuiet_nil ?_
          refine wpOp_heavy rfl (by rfl) (fun K hK => ?_)
          go_simp
          clear hw7
          obtain ⟨F8, hF8⟩ := (HE.out.below (Below.refl _ _).drew).dev
          refine (waiting_any hF8).mono ?_
          rintro e w8 ⟨rfl, rfl⟩
          refine hK _ _ (Below.refl _ _) ?_
          clear hK K hF8
          refine wpSegs_last ?_
          simp only [pick, List.getElem?_cons_zero, List.getElem?_cons_succ]
          repeat (first | go_big_quiet_step (fail) | quiet_step (fail))
          refine wpQuiet_nil ?_
          go_wp2
          exact ⟨⟨k + 1, by omega, by go_num, Lib.hid ⟨_, _, HE.out.below (Below.refl _ _).drew, by omega⟩, Lib.hid (bthen HBE.out (Below.refl _ _).drew)⟩, by simp [intOf]; omega⟩
        · go_wp2_with fail
          rw [← HWA.out]
          obtain ⟨F6, hF6⟩ := HTA.out.dev
          refine (read_no xi hF6 hin).mono ?_
          rintro e w6 ⟨rfl, rfl⟩
          go_wp2_with fail
          obtain ⟨F7, hF7⟩ := HTA.out.ref
          refine (refRead_no xi hF7 hin).mono ?_
          rintro e w7 ⟨rfl, rfl⟩
          have cv : (convert 35 9 (.slice none 0 0)).run Try.prog w7 = .ok (.string ⟨#[]⟩) w7 := conv_rd (Rd.nil w7 none) rfl
          have HE := HTA
          have HBE := HBA
          clear hF6 hF7
          go_wp2
          clear cv
          obtain ⟨F7, hF7⟩ := HE.out.ref
          obtain ⟨vP, vW, A7, B7, c7, d7, hvP, hvW, hat7, _⟩ := hF7.form
          subst hvP hvW
          have hw7 : ∀ e os, (Go.Sort.grow (redrawn w7.drew e) os).cell? ⟨r, 1, none⟩ = some (.slice B7 _ d7) := fun e os => ((below_regrown w7.drew e os).cell (p := ⟨r, 1, none⟩) (lt_of_block hat7.box)).trans (cell_at hat7.box 1 _ rfl)
          clear hat7 hF7
          refine wp_region_segs [([0, 2, 3, 4, 5, 6], 1)] [7] (by kernel_rfl) (by kernel_rfl) (by kernel_rfl) (by kernel_rfl) (by intro c a d v w h; cases d <;> exact h) ?_
          refine wpSegs_more ?_
          simp only [pick, List.getElem?_cons_zero, List.getElem?_cons_succ]
          repeat (first | go_big_quiet_step (fail) | quiet_step (fail))
          refine wpQuiet_nil ?_
          refine wpOp_heavy rfl (by rfl) (fun K hK => ?_)
          go_simp
          clear hw7
          obtain ⟨F8, hF8⟩ := (HE.out.below (Below.refl _ _).drew).dev
          refine (waiting_any hF8).mono ?_
          rintro e w8 ⟨rfl, rfl⟩
          refine hK _ _ (Below.refl _ _) ?_
          clear hK K hF8
          refine wpSegs_last ?_
          simp only [pick, List.getElem?_cons_zero, List.getElem?_cons_succ]
          repeat (first | go_big_quiet_step (fail) | quiet_step (fail))
          refine wpQuiet_nil ?_
          go_wp2
          exact ⟨⟨k + 1, by omega, by go_num, Lib.hid ⟨_, _, HE.out.below (Below.refl _ _).drew, by omega⟩, Lib.hid (bthen HBE.out (Below.refl _ _).drew)⟩, by simp [intOf]; omega⟩
      by_cases h3 : xk = 3
      · subst h3
        go_wp2_with fail
        rw [← HWA.out]
        refine (syncT_any HTA.out (by omega)).mono ?_
        rintro e w6 ⟨rfl, ht6, hb6⟩
        have HT6 := Lib.hid ht6
        have HB6 := Lib.hid (HBA.out.trans (hb6.mono hw1))
        clear ht6 hb6 c0 c1 c2 c3 c4
        go_wp2_with fail
        refine (refSyncT_any HT6.out (by omega)).mono ?_
        rintro e w7 ⟨rfl, ht7, hb7⟩
        have HE := Lib.hid ht7
        have HBE := Lib.hid (HB6.out.trans (hb7.mono hw1))
        clear ht7 hb7 HT6 HB6
        go_wp2
        obtain ⟨F7, hF7⟩ := HE.out.ref
        obtain ⟨vP, vW, A7, B7, c7, d7, hvP, hvW, hat7, _⟩ := hF7.form
        subst hvP hvW
        have hw7 : ∀ e os, (Go.Sort.grow (redrawn w7.drew e) os).cell? ⟨r, 1, none⟩ = some (.slice B7 _ d7) := fun e os => ((below_regrown w7.drew e os).cell (p := ⟨r, 1, none⟩) (lt_of_block hat7.box)).trans (cell_at hat7.box 1 _ rfl)
        clear hat7 hF7
        refine wp_region_segs [([0, 2, 3, 4, 5, 6], 1)] [7] (by kernel_rfl) (by kernel_rfl) (by kernel_rfl) (by kernel_rfl) (by intro c a d v w h; cases d <;> exact h) ?_
        refine wpSegs_more ?_
        simp only [pick, List.getElem?_cons_zero, List.getElem?_cons_succ]
        repeat (first | go_big_quiet_step (fail) | quiet_step (fail))
        refine wpQuiet_nil ?_
        refine wpOp_heavy rfl (by rfl) (fun K hK => ?_)
        go_simp
        clear hw7
        obtain ⟨F8, hF8⟩ := (HE.out.below (Below.refl _ _).drew).dev
        refine (waiting_any hF8).mono ?_
        rintro e w8 ⟨rfl, rfl⟩
        refine hK _ _ (Below.refl _ _) ?_
        clear hK K hF8
        refine wpSegs_last ?_
        simp only [pick, List.getElem?_cons_zero, List.getElem?_cons_succ]
        repeat (first | go_big_quiet_step (fail) | quiet_step (fail))
        refine wpQuiet_nil ?_
        go_wp2
        exact ⟨⟨k + 1, by omega, by go_num, Lib.hid ⟨_, _, HE.out.below (Below.refl _ _).drew, by simp⟩, Lib.hid (bthen HBE.out (Below.refl _ _).drew)⟩, by simp [intOf]; omega⟩
      by_cases h4 : xk = 4
      · subst h4
        obtain ⟨Ld, Lr, hbs, hdL, hrL, hboth⟩ := HTT.out.both
        have hnot : wr.heap.size ∉ Ld := fun h => by have := hbs _ (List.mem_append_left _ h); omega
        have HDL := Lib.hid hdL
        have HBO := Lib.hid hboth
        have HN := Lib.hid hnot
        have hxp := HO.out.keep
        simp only at hxp
        clear hbs hdL hrL hboth hnot
        go_wp2_with fail
        rw [← HWA.out]
        refine (crash_any xp xi xn (HDL.out.below HBX.out) (by omega) hxp).mono ?_
        rintro e w6 ⟨rfl, hd6, hk6⟩
        obtain ⟨hr6, hfin⟩ := HBO.out _ _ HBX.out hk6
        have d1 := (World.cell?_of_block (w := wa) (a := ⟨wr.heap.size, 1, none⟩) (hk6.block _ hal HN.out)).trans c1
        have d2 := (World.cell?_of_block (w := wa) (a := ⟨wr.heap.size, 2, none⟩) (hk6.block _ hal HN.out)).trans c2
        have d3 := (World.cell?_of_block (w := wa) (a := ⟨wr.heap.size, 3, none⟩) (hk6.block _ hal HN.out)).trans c3
        have HD6 := Lib.hid (hd6.mono (G := Grew (fun i => i ∈ Ld) wa.heap.size) fun i _ hi => .inl hi)
        have HR6 := Lib.hid hr6
        have HFIN := Lib.hid hfin
        clear hd6 hk6 hr6 hfin c0 c1 c2 c3 c4
        go_wp2_with fail
        refine (refCrash_any xp xi xn HR6.out (by omega) hxp).mono ?_
        rintro e w7 ⟨rfl, hr7, hk7⟩
        obtain ⟨ht7, hb7⟩ := HFIN.out w7 _ _ _ _ HD6.out (hr7.mono fun i _ hi => .inl hi) hk7
        have HE := Lib.hid ht7
        have HBE := Lib.hid (HB.out.trans (hb7.mono hw1))
        clear hr7 hk7 ht7 hb7 HD6 HR6 HFIN d1 d2 d3
        go_wp2
        obtain ⟨F7, hF7⟩ := HE.out.ref
        obtain ⟨vP, vW, A7, B7, c7, d7, hvP, hvW, hat7, _⟩ := hF7.form
        subst hvP hvW
        have hw7 : ∀ e os, (Go.Sort.grow (redrawn w7.drew e) os).cell? ⟨r, 1, none⟩ = some (.slice B7 _ d7) := fun e os => ((below_regrown w7.drew e os).cell (p := ⟨r, 1, none⟩) (lt_of_block hat7.box)).trans (cell_at hat7.box 1 _ rfl)
        clear hat7 hF7
        refine wp_region_segs [([0, 2, 3, 4, 5, 6], 1)] [7] (by kernel_rfl) (by kernel_rfl) (by kernel_rfl) (by kernel_rfl) (by intro c a d v w h; cases d <;> exact h) ?_
        refine wpSegs_more ?_
        simp only [pick, List.getElem?_cons_zero, List.getElem?_cons_succ]
        repeat (first | go_big_quiet_step (fail) | quiet_step (fail))
        refine wpQuiet_nil ?_
        refine wpOp_heavy rfl (by rfl) (fun K hK => ?_)
        go_simp
        clear hw7
        obtain ⟨F8, hF8⟩ := (HE.out.below (Below.refl _ _).drew).dev
        refine (waiting_any hF8).mono ?_
        rintro e w8 ⟨rfl, rfl⟩
        refine hK _ _ (Below.refl _ _) ?_
        clear hK K hF8
        refine wpSegs_last ?_
        simp only [pick, List.getElem?_cons_zero, List.getElem?_cons_succ]
        repeat (first | go_big_quiet_step (fail) | quiet_step (fail))
        refine wpQuiet_nil ?_
        go_wp2
        exact ⟨⟨k + 1, by omega, by go_num, Lib.hid ⟨_, _, HE.out.below (Below.refl _ _).drew, by simp⟩, Lib.hid (bthen HBE.out (Below.refl _ _).drew)⟩, by simp [intOf]; omega⟩
      have hk1 : (xk == 1) = false := by simp [h1]
      have hk2 : (xk == 2) = false := by simp [h2]
      have hk3 : (xk == 3) = false := by simp [h3]
      have hk4 : (xk == 4) = false := by simp [h4]
      have HE := HTA
      have HBE := HBA
      clear h1 h2 h3 h4 c0 c1 c2 c3 c4
      go_wp2
      rw [← HWA.out]

      obtain ⟨F7, hF7⟩ := HE.out.ref
      obtain ⟨vP, vW, A7, B7, c7, d7, hvP, hvW, hat7, _⟩ := hF7.form
      subst hvP hvW
      have hw7 : ∀ e os, (Go.Sort.grow (redrawn wa.drew e) os).cell? ⟨r, 1, none⟩ = some (.slice B7 _ d7) := fun e os => ((below_regrown wa.drew e os).cell (p := ⟨r, 1, none⟩) (lt_of_block hat7.box)).trans (cell_at hat7.box 1 _ rfl)
      clear hat7 hF7
      refine wp_region_segs [([0, 2, 3, 4, 5, 6], 1)] [7] (by kernel_rfl) (by kernel_rfl) (by kernel_rfl) (by kernel_rfl) (by intro c a d v w h; cases d <;> exact h) ?_
      refine wpSegs_more ?_
      simp only [pick, List.getElem?_cons_zero, List.getElem?_cons_succ]
      repeat (first | go_big_quiet_step (fail) | quiet_step (fail))
      refine wpQuiet_nil ?_
      refine wpOp_heavy rfl (by rfl) (fun K hK => ?_)
      go_simp
      clear hw7
      obtain ⟨F8, hF8⟩ := (HE.out.below (Below.refl _ _).drew).dev
      refine (waiting_any hF8).mono ?_
      rintro e w8 ⟨rfl, rfl⟩
      refine hK _ _ (Below.refl _ _) ?_
      clear hK K hF8
      refine wpSegs_last ?_
      simp only [pick, List.getElem?_cons_zero, List.getElem?_cons_succ]
      repeat (first | go_big_quiet_step (fail) | quiet_step (fail))
      refine wpQuiet_nil ?_
      go_wp2
      exact ⟨⟨k + 1, by omega, by go_num, Lib.hid ⟨_, _, HE.out.below (Below.refl _ _).drew, by omega⟩, Lib.hid (bthen HBE.out (Below.refl _ _).drew)⟩, by simp [intOf]; omega⟩
    obtain rfl : k = m := by omega
    have HTD := Lib.hid (HTT.out.below (Below.refl _ _).drew)
    go_wp2
    refine wp_region_segs [([0, 3], 1), ([2], 4)] [5, 6] (by kernel_rfl) (by kernel_rfl) (by kernel_rfl) (by kernel_rfl) (by intro c a d v w h; cases d <;> exact h) ?_
    refine wpSegs_more ?_
    simp only [pick, List.getElem?_cons_zero, List.getElem?_cons_succ]
    repeat (first | go_big_quiet_step (fail) | quiet_step (fail))
    refine wpQuiet_nil ?_
    refine wpOp_heavy rfl (by rfl) (fun K hK => ?_)
    go_simp
    obtain ⟨F6, hF6⟩ := HTD.out.dev
    refine (devBytes_any hF6 (by omega)).mono ?_
    rintro e w6 ⟨g6, rfl, hg6, hrow6, hb6⟩
    have hln := allN_len hF6.lens.1 hF6.lens.2.2 pd.length
    have cv := conv_rd_later (c := n * 256) (rd_whole hrow6) hln
    rw [show (⟨(allN st pd pd.length).toArray⟩ : ByteArray) = str (allN st pd pd.length) from rfl] at cv
    have HT6 := Lib.hid (HTD.out.below hb6)
    have HB6 := Lib.hid (bthen (bthen HB.out (Below.refl _ _).drew) hb6)
    refine hK _ _ hb6 ?_
    clear hK K hF6 hrow6 hg6 hln hb6
    refine wpSegs_more ?_
    simp only [pick, List.getElem?_cons_zero, List.getElem?_cons_succ]
    repeat (first | go_big_quiet_step (fail) | quiet_step (fail))
    refine wpQuiet_nil ?_
    refine wpOp_heavy rfl (by rfl) (fun K hK => ?_)
    go_simp
    clear cv
    obtain ⟨F7, hF7⟩ := HT6.out.ref
    refine (refBytes_any hF7 (by omega)).mono ?_
    rintro e w7 ⟨rfl, rfl⟩
    refine hK _ _ (Below.refl _ _) ?_
    clear hK K hF7
    generalize str (allN st pd pd.length) = sr
    refine wpSegs_last ?_
    simp only [pick, List.getElem?_cons_zero, List.getElem?_cons_succ]
    repeat (first | go_big_quiet_step (fail) | quiet_step (fail))
    refine wpQuiet_nil ?_
    go_wp2
    go_ret
    exact ⟨rfl, HB6.out⟩

end Go.Proofs.Ythjgcbpanfiacaa

namespace Go.Proofs.Ythjgcbpanfiacaa.devicePlays
open Go.ChangeShapes Go.WideShapes Go.ChangeAt Go.RowKit
open Go.ChangeMaps (open_string shut_string)
set_option linter.unusedVariables false

theorem own : ownKnob Try.prog.godebug = none := by kernel_rfl
theorem laidOut : laidOutB Try.prog = true := by kernel_rfl

set_option maxRecDepth 100000 in
theorem lifted (os : Os) (started : os.Started) (H : Type) (enc : TypeId × Value → H) :
    ReturnsInHanded {} Try.checked os 3 .any (Rows.devicePlaysSpec.pre6 enc Try.prog Try.f3 Rows.devicePlaysRow.domain false) (Rows.devicePlaysSpec.post enc Try.prog Try.f3 false true false false) := by
  refine returnsInHanded_of_change_sized (C := Try.checked) own started (by kernel_rfl) Try.func3
    (ChangeSpec.witness6 (enc := enc) (C := Try.checked) false ⟨#[], #[.int .u8 0, .slice none 0 0], []⟩ 8 (by kernel_rfl) (by kernel_rfl) (by kernel_rfl) (by kernel_rfl)) ?_
  intro W base args ds gs before hval0 hW hcnd hsz0 _
  have hval : ∀ (j : Nat) t v, Try.f3.params[j]? = some t → args[j]? = some v → Value.okWide Try.prog W .any base t v := hval0
  have hsz : (DataW.weightsEach Try.prog (Try.f3.params.toList ++ Rows.devicePlaysSpec.plain.varTypes Try.prog) (ds ++ gs)).all (· ≤ reachBytes) = true := hsz0
  have hW' := hW
  obtain ⟨p, q, hA0, hV, rfl, hfz, hnd⟩ := hW
  have hA : DataW.TrodAll enc Try.prog W 0 (fun _ => true) true Try.f3.params.toList args.toList ds p := hA0
  rw [Try.params3] at hA hval hsz
  obtain ⟨v0, vs0, d0, ds0, p0, q0, hargs, rfl, rfl, h0, r0⟩ := trodAll_cons hA
  obtain ⟨v1, vs1, d1, ds1, p1, q1, rfl, rfl, rfl, h1, r1⟩ := trodAll_cons r0
  obtain ⟨rfl, rfl, rfl⟩ := trodAll_nil r1
  obtain rfl : args = #[v0, v1] := by cases args; simp_all
  obtain ⟨rfl, rfl⟩ := trodVars_none hV
  obtain ⟨a0, rfl, rfl, rfl, w0⟩ := open_int Try.underlying5 (hval 0 5 v0 rfl rfl) h0
  obtain ⟨A1, n1, c1, rfl⟩ := okWide_slice Try.underlying22 (hval 1 22 v1 rfl rfl)
  have k1 := h1
  have lt1 : ∀ x ∈ p1, x.block < W.heap.size := by obtain ⟨m, hm⟩ := k1; exact DataW.trod_lt m _ _ _ hm
  obtain ⟨l1, w1⟩ := open_ops h1 (fun m hm => of_decide_eq_true (List.all_eq_true.1 hsz _ (DataW.weights_mem_each (j := 1) (t := 22) rfl rfl m hm)))
  clear hA0 hval0 hsz hsz0
  refine (devicePlays_walk a0 A1 n1 c1 l1 W w0 w1).mono fun e W' ⟨he, bel⟩ => ?_
  subst he
  exact ⟨_, rfl, _, _, _, [], _, [], hW', trodAll_mk1 (shut_bool Try.underlying4 _), (trodAll_cons_mk (shut_int Try.underlying5 w0) (trodAll_cons_mk (Below.trod laidOut (by kernel_rfl) (of_decide_eq_true (by kernel_rfl)) k1 bel lt1) trodAll_mk0)), rfl, bel.frame _, fun h => by cases h⟩

theorem over : Rows.devicePlaysRow.holds Try.pinned (OpenSpec.ofChange Rows.devicePlaysSpec) :=
  OpenClaim.holds_of_wide 3 Try.f3 rfl rfl rfl rfl rfl rfl rfl ⟨rfl, rfl, rfl, rfl, rfl⟩ rfl rfl rfl rfl rfl (by kernel_rfl) Try.func3 (by kernel_rfl)
    (of_decide_eq_true (by kernel_rfl)) (by unfold Func.isWrapper; first | (rw [if_pos (by decide +kernel)]; kernel_rfl) | (rw [if_neg (by decide +kernel)]; exact ⟨rfl, rfl⟩))
    (fun os started H enc _ => lifted os started H enc)

theorem proved : Rows.DevicePlaysSaid := over
#print axioms proved

end Go.Proofs.Ythjgcbpanfiacaa.devicePlays
