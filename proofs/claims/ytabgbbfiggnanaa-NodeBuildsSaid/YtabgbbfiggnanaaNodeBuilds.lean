/-
  NodeBuilds: whatever is built of whatever, from leaves on, each node can be, or not, as the document says, and tells what it says; for every script; no condition beyond the row's.
-/
import Derived.Test.YtabgbbfiggnanaaNodeBld
import Derived.Test.YtabgbbfiggnanaaDrawn
namespace Go.Proofs.Ytabgbbfiggnanaa
open Go.RowKit Go.Sort Go.ChangeShapes Go.WideShapes
set_option linter.unusedVariables false
set_option linter.unusedSimpArgs false

theorem kr_leaf {N : NR} {l : List Ent} (h : LeafR N l) {x y : Ent} (hx : l[0]? = some x) (hy : l[l.length - 1]? = some y) : N.kr = ⟨1, x.k, y.k, true, decide (2 ≤ l.length)⟩ := by
  unfold NR.kr
  rw [h.h, h.lo x hx, h.hi y hy, h.lk, h.en, h.kn]
  rfl
theorem kr_branch {N : NR} {M : List (Nat × NR)} (h : BranchR N M) (h2 : 2 ≤ M.length) (hh : ∀ x ∈ M, 1 ≤ x.2.h) : N.kr = ofK (krs M) := by
  obtain ⟨x, hx⟩ : ∃ x, M[0]? = some x := ⟨_, List.getElem?_eq_getElem (by omega)⟩
  obtain ⟨y, hy⟩ : ∃ y, M[M.length - 1]? = some y := ⟨_, List.getElem?_eq_getElem (by omega)⟩
  have h1 := hh x (List.mem_of_getElem? hx)
  unfold NR.kr ofK
  rw [headD_at (krs_at hx), lastD_at (krs_at hy) (by rw [krs_len]; omega), h.h x hx, h.lo x hx, h.hi y hy, h.lk, h.en, h.kn, if_neg (by omega), krs_len, Nat.zero_add, Bool.not_not]
  rfl
theorem krs_drop (L : List (Nat × NR)) (q : Nat) : krs (L.drop q) = (krs L).drop q := by simp [krs, List.map_drop]
theorem ptrs_drop (L : List (Nat × NR)) (q : Nat) : ptrs (L.drop q) = (ptrs L).drop q := by simp [ptrs, List.map_drop]
theorem krs_take (L : List (Nat × NR)) (q : Nat) : krs (L.take q) = (krs L).take q := by simp [krs, List.map_take]
theorem ptrs_take (L : List (Nat × NR)) (q : Nat) : ptrs (L.take q) = (ptrs L).take q := by simp [ptrs, List.map_take]

set_option maxRecDepth 200000 in
set_option maxHeartbeats 8000000 in
theorem nodeBuilds_walk (A : Option Addr) (m c : Nat) (l : List NOp) (w : World) (ha : ArgN w A m c l) :
    Calls Try.prog 3 #[.slice A m c] w fun e w' => e = .returned (.bool true) ∧ Below w.heap.size w w' := by
  have HARG := Lib.hid ha
  have HLEN := Lib.hid ha.len
  clear ha
  go_enter Try.func3, Try.ntmps3
  go_wp2_with fail
  refine (ndAwake_any w).mono ?_
  rintro e w1 ⟨rfl, hb1⟩
  go_wp2_with fail
  refine (ndFew_any A m c l w1 (HARG.out.below hb1)).mono ?_
  rintro e w2 ⟨hb2, r, rfl, hfew⟩
  have HB2 := Lib.hid (bthen hb1 hb2)
  clear hb1 hb2
  cases r with
  | false =>
    clear hfew
    go_wp2_with fail
    refine (ndAwake_any _).mono ?_
    rintro e wz ⟨rfl, hbz⟩
    go_wp2
    go_ret
    exact ⟨rfl, bthen HB2.out hbz⟩
  | true =>
    have hm60 : m ≤ 60 := by have := (hfew rfl).1; rw [HLEN.out] at this; exact this
    have HN30 := Lib.hid (hfew rfl).2
    clear hfew
    go_wp2
    go_loopw [3, 4, 26] (fun s3 s4 s26 wr => ∃ k : Nat, k ≤ m ∧ s26 = .int .i64 k ∧ Hid (∃ L, Bld w wr s3 s4 L k)) (fun _ _ s26 _ => m - (intOf s26).toNat)
    case atStart => exact ⟨0, Nat.zero_le _, rfl, Lib.hid ⟨[], Row.nil_ _ _ HB2.out.size, OwnL.nil_ _ _ _, (fun x hx => by cases hx), Nat.le_refl _, HB2.out⟩⟩
    case round =>
      obtain ⟨k, hk, rfl, HQ⟩ := hrel
      obtain ⟨L, hL⟩ := HQ.out
      obtain ⟨A1, c1, rfl, hc1, hls1⟩ := hL.row.form
      obtain ⟨A2, c2, e2, hc2, hls2⟩ := hL.kids.form
      rw [krs_len] at e2 hc2
      subst e2
      have HL := Lib.hid hL
      have HLS1 := Lib.hid hls1
      have HLS2 := Lib.hid hls2
      have hLk : L.length ≤ k := hL.len
      obtain ⟨n0, hn0⟩ : ∃ n0, n0 = L.length := ⟨_, rfl⟩
      rw [← hn0] at hc1 hc2 hLk HL ⊢
      have HN0 := Lib.hid hn0
      clear HQ hL hls1 hls2 hn0
      by_cases hlt : k < m
      · obtain ⟨ad, o, rfl, ho, hl, q0, q1⟩ := (HARG.out.below HL.out.below).ls.op_at (i := k) (by rw [HLEN.out]; exact hlt)
        obtain ⟨hti, hao⟩ := HARG.out.ok o (List.mem_of_getElem? ho)
        have hon := HN30.out o (List.mem_of_getElem? ho)
        clear ho
        obtain ⟨ot, oA, on, oc, ol⟩ := o
        simp only at q0 q1 hti hao hon
        have HAO := Lib.hid hao
        obtain ⟨wa, hwa⟩ : ∃ wa, wa = wr.alloc (.cells #[.int .i64 ot, .slice oA on oc] 29) := ⟨_, rfl⟩
        have hba : Below wr.heap.size wr wa := by rw [hwa]; exact (Below.refl _ _).alloc (Nat.le_refl _) _
        have hob : wr.heap.size < wa.heap.size := by rw [hwa]; simp
        have hbox : wa.heap[wr.heap.size]? = some (.cells #[.int .i64 ot, .slice oA on oc] 29 (0, 0)) := by rw [hwa]; exact heap_alloc_new wr _
        have HBOX := Lib.hid hbox
        have HWA := Lib.hid hwa
        have HBA := Lib.hid hba
        have HLA := Lib.hid (HL.out.next hba)
        have d0 := cell_row hbox 0 (.int .i64 ot) rfl
        have d1 := cell_row hbox 1 (.slice oA on oc) rfl
        clear hao hba hwa hbox
        have hti1 := hti.1
        have hti2 := hti.2
        clear hti
        by_cases htake : ot < 1
        · go_wp2_with fail
          rw [← HWA.out]
          refine (leaf_any oA on oc ol wa ((HAO.out.below HL.out.below).below HBA.out).es HAO.out.len (by omega) HAO.out.strs).mono ?_
          rintro e w3 ⟨hb3, hres⟩
          have d13 := (hb3.cell (p := ⟨wr.heap.size, 1, none⟩) hob).trans d1
          have HB3 := Lib.hid hb3
          have HL3 := Lib.hid (HLA.out.next hb3)
          have HA3 := Lib.hid ((HAO.out.below HL.out.below).below (bthen HBA.out hb3))
          clear q0 q1
          rcases hres with ⟨hok, b, N, rfl, hbb, hN, hLR, hesN, haN⟩ | ⟨hno, rfl⟩
          · have HOK := Lib.hid hok
            have hlen := okLeaf_len hok
            rw [HAO.out.len] at hlen
            have hn1 : 1 ≤ on := hlen.1
            have hn4 : on ≤ 4 := hlen.2
            have HN := Lib.hid hN
            have HLR := Lib.hid hLR
            have HES := Lib.hid hesN
            have HBB := Lib.hid hbb
            clear hb3 hok hlen hN hLR hesN haN hbb d0 d1
            go_wp2_with fail
            refine (refLeaf_any oA on oc ol w3 HA3.out.es HAO.out.len (by omega) HAO.out.strs).mono ?_
            rintro e w4 ⟨rfl, hb4⟩
            rw [HOK.out]
            have HL4 := Lib.hid (HL3.out.next hb4)
            have HA4 := Lib.hid (HA3.out.below hb4)
            have HN4 := Lib.hid (HN.out.below hb4)
            have HES4 := Lib.hid (HES.out.below hb4)
            have HSZ4 := Lib.hid (show wr.heap.size < w4.heap.size from Nat.lt_of_lt_of_le hob (Nat.le_trans HB3.out.size hb4.size))
            have d14 := (hb4.cell (p := ⟨wr.heap.size, 1, none⟩) (Nat.lt_of_lt_of_le hob HB3.out.size)).trans d13
            obtain ⟨ax, x, ex, hx, hlx, x1, _⟩ := HA4.out.es.at_ (i := 0) (by rw [HAO.out.len]; omega)
            subst ex
            obtain ⟨ay, y, ey, hy, _, y1, _⟩ := HA4.out.es.at_ (i := on - 1) (by rw [HAO.out.len]; omega)
            cases ey
            rw [show 0 * 2 = 0 from rfl, show ax.add 0 = ax by simp [Addr.add]] at x1
            have HKR := Lib.hid (show N.kr = ⟨1, x.k, y.k, true, decide (2 ≤ on)⟩ by
              have := kr_leaf HLR.out hx (by rw [HAO.out.len]; exact hy)
              rw [HAO.out.len] at this
              exact this)
            obtain ⟨W, hW⟩ : ∃ W, W = w4.drew := ⟨_, rfl⟩
            have hbW : Below w4.heap.size w4 W := by rw [hW]; exact (Below.refl _ _).drew
            have hzW : wr.heap.size < W.heap.size := Nat.lt_of_lt_of_le HSZ4.out hbW.size
            have hxW : ax.block < W.heap.size := Nat.lt_of_lt_of_le hlx hbW.size
            have e1 : W.cell? ⟨wr.heap.size, 1, none⟩ = some (.slice (some ax) on oc) := (hbW.cell (p := ⟨wr.heap.size, 1, none⟩) HSZ4.out).trans d14
            have e2 : W.cell? ax = some (.string x.k) := (hbW.cell hlx).trans x1
            have e3 : W.cell? (ax.add ((on - 1) * 2)) = some (.string y.k) := (hbW.cell (by rw [block_of_add]; exact hlx)).trans y1
            have f1 : ∀ q : Dc.Past [] W, q.val.cell? ⟨wr.heap.size, 1, none⟩ = some (.slice (some ax) on oc) := fun q => (q.ok.cell (p := ⟨wr.heap.size, 1, none⟩) hzW (by simp)).trans e1
            have f2 : ∀ q : Dc.Past [] W, q.val.cell? ax = some (.string x.k) := fun q => (q.ok.cell hxW (by simp)).trans e2
            have f3 : ∀ q : Dc.Past [] W, q.val.cell? (ax.add ((on - 1) * 2)) = some (.string y.k) := fun q => (q.ok.cell (by rw [block_of_add]; exact hxW) (by simp)).trans e3
            have HL5 := Lib.hid (HL4.out.next hbW)
            have HA5 := Lib.hid (HA4.out.below hbW)
            have HN5 := Lib.hid (HN4.out.below hbW)
            have HES5 := Lib.hid (HES4.out.below hbW)
            have HBX5 := Lib.hid e1
            have HW := Lib.hid hW
            have HBN := Lib.hid (show ∀ g, (Value.slice A2 n0 c2).ownBlock = some g → g < W.heap.size from HL5.out.kids.lt)
            have HBN1 := Lib.hid (show ∀ g, (Value.slice A1 n0 c1).ownBlock = some g → g < W.heap.size from HL5.out.row.own.lt)
            clear hb4 hbW hx hy x1 y1 e1 e2 e3 hW d13 d14 HL3 HL4 HA3 HA4 HN HN4 HES HES4 HSZ4 HLA
            go_wp2_with fail
            refine Dc.wp_region_segs 20 [] [([0, 1, 2, 3, 4, 5, 6, 7, 8, 9, 10, 11, 12, 13, 14, 15, 16, 17, 18], 19), ([], 20)] [] (by kernel_rfl) (by kernel_rfl) (by kernel_rfl) (by kernel_rfl) (by kernel_rfl) (by intro c a d v w h; cases d <;> exact h) ?_
            rw [← HW.out]
            refine Dc.wpSegs_more ?_
            simp only [Dc.pick, List.getElem?_cons_zero, List.getElem?_cons_succ]
            repeat (first | go_big_quiet_step (fail) | quiet_step (fail))
            refine wpQuiet_nil ?_
            refine Dc.wpOp_heavy rfl (by rfl) (fun K hK => ?_)
            go_simp
            refine hK _ _ (fun _ => Dc.But.of_below ((Below.refl _ _).alloc (Nat.le_refl _) _)) ?_
            clear hK K
            refine Dc.wpSegs_more ?_
            simp only [Dc.pick]
            refine wpQuiet_nil ?_
            refine Dc.wpOp_heavy rfl (by rfl) (fun K hK => ?_)
            go_simp
            rw [show decide ((2 : Int) ≤ (on : Int)) = decide (2 ≤ on) from decide_eq_decide.2 (by omega)]
            obtain ⟨w5, hw5⟩ : ∃ w5, w5 = W.alloc (.cells (pcKd N.kr).toArray 38) := ⟨_, rfl⟩
            have hb5 : Below W.heap.size W w5 := by rw [hw5]; exact (Below.refl _ _).alloc (Nat.le_refl _) _
            have hkb : w5.heap[W.heap.size]? = some (.cells (pcKd N.kr).toArray 38 (0, 0)) := by rw [hw5]; exact heap_alloc_new W _
            have HW5 := Lib.hid (show W.alloc (.cells #[.int .i64 1, .string x.k, .string y.k, .bool true, .bool (decide (2 ≤ on))] 38) = w5 by rw [hw5, HKR.out]; rfl)
            rw [HW5.out]
            refine hK _ _ (fun h => absurd rfl h) ?_
            obtain ⟨V6, hV6⟩ : ∃ V6, V6 = w5.drew := ⟨_, rfl⟩
            have hb6 : Below W.heap.size W V6 := bthen hb5 (by rw [hV6]; exact (Below.refl _ _).drew)
            have hkb6 : V6.heap[W.heap.size]? = some (.cells (pcKd N.kr).toArray 38 (0, 0)) := by rw [hV6]; exact hkb
            obtain ⟨kb, hkbd⟩ : ∃ kb, kb = W.heap.size := ⟨_, rfl⟩
            rw [← hkbd] at hkb6 ⊢
            have hblk : ∀ d os, (grow (redrawn V6 d) os).heap[kb]? = some (.cells (pcKd N.kr).toArray 38 (0, 0)) := fun d os => ((below_regrown V6 d os).block kb (lt_of_block hkb6)).trans hkb6
            have g0 : ∀ d os, (grow (redrawn V6 d) os).cell? ⟨kb, 0, none⟩ = some (.int .i64 (N.kr.h : Int)) := fun d os => cell_row (hblk d os) 0 (.int .i64 (N.kr.h : Int)) rfl
            have g1 : ∀ d os, (grow (redrawn V6 d) os).cell? ⟨kb, 1, none⟩ = some (.string N.kr.lo) := fun d os => cell_row (hblk d os) 1 (.string N.kr.lo) rfl
            have g2 : ∀ d os, (grow (redrawn V6 d) os).cell? ⟨kb, 2, none⟩ = some (.string N.kr.hi) := fun d os => cell_row (hblk d os) 2 (.string N.kr.hi) rfl
            have g3 : ∀ d os, (grow (redrawn V6 d) os).cell? ⟨kb, 3, none⟩ = some (.bool N.kr.full) := fun d os => cell_row (hblk d os) 3 (.bool N.kr.full) rfl
            have g4 : ∀ d os, (grow (redrawn V6 d) os).cell? ⟨kb, 4, none⟩ = some (.bool N.kr.enough) := fun d os => cell_row (hblk d os) 4 (.bool N.kr.enough) rfl
            have HKB6 := Lib.hid hkb6
            have HV6 := Lib.hid hV6
            have HL6 := Lib.hid (HL5.out.next hb6)
            have HA6 := Lib.hid (HA5.out.below hb6)
            have HN6 := Lib.hid (HN5.out.below hb6)
            have HES6 := Lib.hid (HES5.out.below hb6)
            have HC6 := Lib.hid ((hb6.cell (p := ⟨wr.heap.size, 1, none⟩) hzW).trans HBX5.out)
            have HZ6 := Lib.hid (Nat.lt_of_lt_of_le hzW hb6.size)
            have HK1 := Lib.hid (show (Value.slice A1 n0 c1).ownBlock ≠ some kb from fun e => by have := HBN1.out kb e; omega)
            have HK2 := Lib.hid (show (Value.slice A2 n0 c2).ownBlock ≠ some kb from fun e => by have := HBN.out kb e; omega)
            clear hK K hw5 hb5 hkb hV6 hb6 hkb6 hblk f1 f2 f3 hkbd hzW hxW hlx HW HW5 HL5 HA5 HN5 HES5 HBX5 HBN HBN1
            refine Dc.wpSegs_last ?_
            simp only [Dc.pick]
            refine wpQuiet_nil ?_
            go_wp2_with fail
            refine wp_region_segs [([0, 1, 2, 3, 4], 5), ([6, 7, 8, 9, 11, 12, 13], 10), ([14, 15, 16, 17, 19, 20], 18), ([], 21), ([22, 23, 24, 25], 26)] [27, 28, 29] (by kernel_rfl) (by kernel_rfl) (by kernel_rfl) (by kernel_rfl) (by intro c a d v w h; cases d <;> exact h) ?_
            rw [← HV6.out]
            refine wpSegs_more ?_
            simp only [pick, List.getElem?_cons_zero, List.getElem?_cons_succ]
            repeat (first | go_big_quiet_step (fail) | quiet_step (fail))
            refine wpQuiet_nil ?_
            refine wpOp_heavy rfl (by rfl) (fun K hK => ?_)
            go_simp
            refine (known_any HN6.out N.kr rfl rfl rfl rfl).mono ?_
            rintro e w7 ⟨rfl, hb7⟩
            have c7 : ∀ d os, (grow (redrawn w7 d) os).cell? ⟨wr.heap.size, 1, none⟩ = some (.slice (some ax) on oc) := fun d os => ((bthen hb7 (below_regrown w7 d os)).cell (p := ⟨wr.heap.size, 1, none⟩) HZ6.out).trans HC6.out
            have HN7 := Lib.hid (HN6.out.below hb7)
            have HB7 := Lib.hid hb7
            refine hK _ _ hb7 ?_
            clear hK K g0 g1 g2 g3 g4 hb7 HN6
            have HSZ := Lib.hid (show N.en + N.kn = on by rw [HLR.out.en, HLR.out.kn, HAO.out.len]; omega)
            refine wpSegs_more ?_
            simp only [pick, List.getElem?_cons_zero, List.getElem?_cons_succ]
            repeat (first | go_big_quiet_step (fail) | quiet_step (fail))
            refine wpQuiet_nil ?_
            refine wpOp_heavy rfl (by rfl) (fun K hK => ?_)
            go_simp
            refine (size_any HN7.out (by rw [HSZ.out]; omega)).mono ?_
            rintro e w8 ⟨rfl, nq, rfl⟩
            rw [HSZ.out]
            have hb8 : Below w7.heap.size w7 (w7.drewN nq) := below_drewN (Below.refl _ _) nq
            have c8 : ∀ d os, (grow (redrawn (w7.drewN nq) d) os).cell? ⟨wr.heap.size, 1, none⟩ = some (.slice (some ax) on oc) := fun d os => ((bthen (bthen HB7.out hb8) (below_regrown _ d os)).cell (p := ⟨wr.heap.size, 1, none⟩) HZ6.out).trans HC6.out
            have HN8 := Lib.hid (HN7.out.below hb8)
            have HB8 := Lib.hid (bthen HB7.out hb8)
            refine hK _ _ hb8 ?_
            clear hK K c7 hb8 HN7 HB7
            generalize w7.drewN nq = w8 at *
            refine wpSegs_more ?_
            simp only [pick, List.getElem?_cons_zero, List.getElem?_cons_succ]
            repeat (first | go_big_quiet_step (fail) | quiet_step (fail))
            refine wpQuiet_nil ?_
            refine wpOp_heavy rfl (by rfl) (fun K hK => ?_)
            go_simp
            refine (entries_any HN8.out (HES6.out.below HB8.out) (by rw [HLR.out.en]) (by rw [HLR.out.en, HAO.out.len]; omega)).mono ?_
            rintro e w9 ⟨v9, rfl, hov9, hb9⟩
            obtain ⟨A9, c9, hv9, hc9, hes9⟩ := hov9.form
            rw [HAO.out.len] at hv9
            subst hv9
            have HES9 := Lib.hid hes9
            have HN9 := Lib.hid (HN8.out.below hb9)
            have HB9 := Lib.hid (bthen HB8.out hb9)
            refine hK _ _ hb9 ?_
            clear hK K c8 hov9 hb9 hes9 hc9 HN8 HB8
            refine wpSegs_more ?_
            simp only [pick]
            refine wpQuiet_nil ?_
            refine wpOp_heavy rfl (by rfl) (fun K hK => ?_)
            go_simp
            refine (same_any A9 (some ax) on c9 oc ol w9 HES9.out (HA6.out.below HB9.out).es HAO.out.len (by omega)).mono ?_
            rintro e w10 ⟨rfl, hb10⟩
            have HN10 := Lib.hid (HN9.out.below hb10)
            have HB10 := Lib.hid (bthen HB9.out hb10)
            refine hK _ _ hb10 ?_
            clear hK K hb10 HN9 HB9 HES9
            refine wpSegs_more ?_
            simp only [pick, List.getElem?_cons_zero, List.getElem?_cons_succ]
            repeat (first | go_big_quiet_step (fail) | quiet_step (fail))
            refine wpQuiet_nil ?_
            refine wpOp_heavy rfl (by rfl) (fun K hK => ?_)
            go_simp
            refine (kids_any HN10.out (l := []) (Ls.nil _ _) (by rw [HLR.out.kn]; rfl) (by rw [HLR.out.kn]; omega)).mono ?_
            rintro e w11 ⟨v11, rfl, hov11, hb11⟩
            obtain ⟨A11, c11, hv11, _, _⟩ := hov11.form
            subst hv11
            have HN11 := Lib.hid (HN10.out.below hb11)
            have HB11 := Lib.hid (bthen HB10.out hb11)
            refine hK _ _ hb11 ?_
            clear hK K hov11 hb11 HN10 HB10
            refine wpSegs_last ?_
            simp only [pick, List.getElem?_cons_zero, List.getElem?_cons_succ, List.length_nil]
            repeat (first | go_big_quiet_step (fail) | quiet_step (fail))
            refine wpQuiet_nil ?_
            go_wp2_with fail
            obtain ⟨w0, hw0⟩ : ∃ w0, w0 = w11.drew := ⟨_, rfl⟩
            have hb0 : Below V6.heap.size V6 w0 := bthen HB11.out (by rw [hw0]; exact (Below.refl _ _).drew)
            have HL0 := Lib.hid (HL6.out.next hb0)
            have HAT : Hid (At17 w0 w.heap.size (.slice A1 n0 c1) (.slice A2 n0 c2) L b N kb) := Lib.hid ⟨HL0.out.row, HL0.out.kids, (by rw [hw0]; exact HN11.out), (hb0.block kb (lt_of_block HKB6.out)).trans HKB6.out, (by rw [← HN0.out]; omega), HK1.out, HK2.out⟩
            have HW0 := Lib.hid hw0
            have HHH := Lib.hid (show 1 ≤ N.h ∧ N.h ≤ k + 1 ∧ N.en + N.kn ≤ 1000 by rw [HSZ.out, HLR.out.h]; omega)
            clear hb0 hw0
            refine Dx.wp_region_words (D17 w0 w.heap.size (.slice A1 n0 c1) (.slice A2 n0 c2) L b N) (d17_ok HAT.out _ (by kernel_rfl) (by kernel_rfl)) (by kernel_rfl) (by kernel_rfl) (by kernel_rfl) (by kernel_rfl) (by rw [← HW0.out]; exact G17.start _ _ _) (by rw [← HW0.out]; exact HAT.out.n) ?_ ?_
            · refine ⟨?_, ?_, ?_, ?_, ?_, ?_, ?_, ?_, ?_, ?_, trivial⟩
              · refine Dx.step_val fun a' w' hG hs hd hN => ⟨_, w', rfl, none_of_below (Below.refl _ _), ?_⟩
                exact hs 3 (by kernel_rfl)
              · refine Dx.step_val fun a' w' hG hs hd hN => ⟨_, w', rfl, none_of_below (Below.refl _ _), ?_⟩
                exact hs 7 (by kernel_rfl)
              · refine Dx.step_val fun a' w' hG hs hd hN => ?_
                have h1 : a'.eval (.tmp 102) = pn b := hd 1 (by decide)
                have hG : G17 w0 (.slice A1 n0 c1) (.slice A2 n0 c2) w' := hG
                have hr := ptr_row w' b
                refine ⟨_, _, ?_, grown_alloc w' _, Laid.new _ _ hG.size⟩
                clear hd hs hN hG
                simp only [execOp, List.map_toArray, List.map_cons, List.map_nil, h1, hr, Sem.run_bind, Sem.run_pure, Result.andThen_ok]
              · refine Dx.step_val fun a' w' hG hs hd hN => ?_
                have h1 : a'.eval (.tmp 101) = .slice A1 n0 c1 := hd 0 (by decide)
                have h2 : Laid w0 #[pn b] 30 (a'.eval (.tmp 103)) w' := hd 2 (by decide)
                obtain ⟨v', w'', hr, hg, hv⟩ := s17_nodes HAT.out hG hN h2
                refine ⟨v', w'', ?_, hg, hv⟩
                clear hd hs hN hG h2 hg hv
                simp only [execOp, resolve, invoke, builtin, Sem.run_bind, Sem.run_pure, Result.andThen_ok, List.map_toArray, List.map_cons, List.map_nil, h1, hr]
              · refine Dx.step_val fun a' w' hG hs hd hN => ⟨_, w', rfl, none_of_below (Below.refl _ _), ?_⟩
                exact hs 4 (by kernel_rfl)
              · refine Dx.step_val fun a' w' hG hs hd hN => ?_
                have h1 : a'.eval (.tmp 9) = .pointer (some ⟨kb, 0, none⟩) := hs 9 (by kernel_rfl)
                have hG : G17 w0 (.slice A1 n0 c1) (.slice A2 n0 c2) w' := hG
                have hr := kid_load (hG.kid HAT.out)
                refine ⟨_, w', ?_, none_of_below (Below.refl _ _), rfl⟩
                clear hd hs hN hG
                simp only [execOp, h1, hr, Sem.run_bind, Sem.run_pure, Result.andThen_ok]
              · refine Dx.step_val fun a' w' hG hs hd hN => ?_
                have h1 : a'.eval (.tmp 106) = kidV N.kr := hd 5 (by decide)
                have hG : G17 w0 (.slice A1 n0 c1) (.slice A2 n0 c2) w' := hG
                have hr := kid_row w' N.kr
                refine ⟨_, _, ?_, grown_alloc w' _, Laid.new _ _ hG.size⟩
                clear hd hs hN hG
                simp only [execOp, List.map_toArray, List.map_cons, List.map_nil, h1, hr, Sem.run_bind, Sem.run_pure, Result.andThen_ok]
              · refine Dx.step_val fun a' w' hG hs hd hN => ?_
                have h1 : a'.eval (.tmp 105) = .slice A2 n0 c2 := hd 4 (by decide)
                have h2 : Laid w0 (pcKd N.kr).toArray 38 (a'.eval (.tmp 107)) w' := hd 6 (by decide)
                obtain ⟨v', w'', hr, hg, hv⟩ := s17_kids HAT.out hG hN h2
                refine ⟨v', w'', ?_, hg, hv⟩
                clear hd hs hN hG h2 hg hv
                simp only [execOp, resolve, invoke, builtin, Sem.run_bind, Sem.run_pure, Result.andThen_ok, List.map_toArray, List.map_cons, List.map_nil, h1, hr]
              · refine Dx.step_val fun a' w' hG hs hd hN => ⟨_, w', rfl, none_of_below (Below.refl _ _), ?_⟩
                exact hd 3 (by decide)
              · refine Dx.step_val fun a' w' hG hs hd hN => ⟨_, w', rfl, none_of_below (Below.refl _ _), ?_⟩
                exact hd 7 (by decide)
            intro f wf hG hf
            have h8 : Row17 w0 w.heap.size (.slice A1 n0 c1) (L ++ [(b, N)]) (f 8) wf := hf 8 (by decide)
            have h9 : Kid17 w0 w.heap.size (.slice A2 n0 c2) (krs L ++ [N.kr]) (f 9) wf := hf 9 (by decide)
            have HDONE := Lib.hid (bld_done (kb := kb) HL0.out hG h8 h9 HHH.out)
            clear hf hG h8 h9
            simp only [Dv.putAll, Nat.zero_add, Nat.reduceAdd]
            generalize f 0 = f0
            generalize f 1 = f1
            generalize f 2 = f2
            generalize f 3 = f3
            generalize f 4 = f4
            generalize f 5 = f5
            generalize f 6 = f6
            generalize f 7 = f7
            generalize f 8 = f8 at HDONE ⊢
            generalize f 9 = f9 at HDONE ⊢
            go_wp2
            exact ⟨⟨k + 1, by omega, by go_num, Lib.hid ⟨_, HDONE.out⟩⟩, by simp [intOf]; omega⟩
          · have HNO := Lib.hid hno
            clear hb3 hno
            go_wp2_with fail
            refine (refLeaf_any oA on oc ol w3 HA3.out.es HAO.out.len (by omega) HAO.out.strs).mono ?_
            rintro e w4 ⟨rfl, hb4⟩
            rw [HNO.out]
            have HL4 := Lib.hid (HL3.out.next hb4)
            clear hb4 d13 d0 d1
            go_wp2
            exact ⟨⟨k + 1, by omega, by go_num, Lib.hid ⟨L, HL4.out.wait⟩⟩, by simp [intOf]; omega⟩
        · by_cases hnz : n0 = 0
          · subst hnz
            have hL0 : L = [] := List.eq_nil_of_length_eq_zero HN0.out.symm
            subst hL0
            have hqm : max (0 : Int) (((0 : Nat) : Int) - ot) = 0 := by omega
            have hqm2 : max (0 : Int) (0 - ot) = 0 := by omega
            have hqm3 : max (0 : Int) (-ot) = 0 := by omega
            go_wp2_with fail
            all_goals
              rw [← HWA.out]
              refine (branch_any _ _ _ [] wa (Ls.nil _ _) rfl (Nat.zero_le _) (Nat.zero_le _) (fun x hx => by cases hx) (fun x hx => by cases hx)).mono ?_
              rintro e w3 ⟨hb3, ⟨hok, _⟩ | ⟨_, rfl⟩⟩
              · cases hok
              have HL3 := Lib.hid (HLA.out.next hb3)
              clear hb3
              go_wp2_with fail
              all_goals
                refine (refBranch_any _ _ _ [] w3 (Ls.nil _ _) rfl (Nat.zero_le _) (fun x hx => by cases hx)).mono ?_
                rintro e w4 ⟨rfl, hb4⟩
                rw [show okBr [] = false from rfl]
                have HL4 := Lib.hid (HL3.out.next hb4)
                clear hb4
                go_wp2
                exact ⟨⟨k + 1, by omega, by go_num, Lib.hid ⟨_, HL4.out.wait⟩⟩, by simp [intOf]; omega⟩
          obtain ⟨a1, e1, hl1, _⟩ := HLS1.out (by rw [ptrs_len, ← HN0.out]; omega)
          subst e1
          obtain ⟨a2, e2, hl2, _⟩ := HLS2.out (by rw [krs_len, ← HN0.out]; omega)
          subst e2
          obtain ⟨q, hqd⟩ : ∃ q : Nat, q = ((n0 : Int) - ot).toNat := ⟨_, rfl⟩
          have hq0 : q < n0 := by omega
          have hqm : max (0 : Int) ((n0 : Int) - ot) = (q : Int) := by omega
          have hne1 : ¬ c1 = q := by omega
          have hne2 : ¬ c2 = q := by omega
          have hdl : (L.drop q).length = n0 - q := by rw [List.length_drop, ← HN0.out]
          have hlsB := (HLS1.out.below HBA.out).cut encP (k := q) (c := c1) (by rw [ptrs_len, ← HN0.out]; exact hc1)
          rw [← ptrs_drop, if_neg hne1, Option.map_some, Nat.mul_one] at hlsB
          have hlsK := (HLS2.out.below HBA.out).cut encKd (k := q) (c := c2) (by rw [krs_len, ← HN0.out]; exact hc2)
          rw [← krs_drop, if_neg hne2, Option.map_some] at hlsK
          have HLB := Lib.hid hlsB
          have HLK := Lib.hid hlsK
          have HDL := Lib.hid hdl
          have HOKL := Lib.hid (show ∀ x ∈ L.drop q, 1 ≤ x.2.h ∧ x.2.h ≤ k ∧ x.2.en + x.2.kn ≤ 1000 from fun x hx => HL.out.ok x (List.mem_of_mem_drop hx))
          have HAD := Lib.hid (show All wa (L.drop q) from fun x hx => HLA.out.row.all x (List.mem_of_mem_drop hx))
          clear hqd hlsB hlsK hdl
          go_wp2_with fail
          rw [← HWA.out]
          refine (branch_any (some (a1.add q)) (n0 - q) (c1 - q) (L.drop q) wa HLB.out HDL.out (by omega) (by omega) HAD.out (fun x hx => by have := HOKL.out x hx; omega)).mono ?_
          rintro e w3 ⟨hb3, hres⟩
          have HB3 := Lib.hid hb3
          clear hb3 q0 q1
          rcases hres with ⟨hok, b, N, rfl, hbb, hN, hBR, hlsN, haN⟩ | ⟨hno, rfl⟩
          · have HOK := Lib.hid hok
            clear hok
            go_wp2_with fail
            refine (refBranch_any (some (a2.add (q * 5))) (n0 - q) (c2 - q) (krs (L.drop q)) w3 (HLK.out.below HB3.out) ((krs_len _).trans HDL.out) (by omega) (fun y hy => ?_)).mono ?_
            · obtain ⟨x, hx, rfl⟩ := List.mem_map.1 hy
              exact (HOKL.out x hx).1
            rintro e w4 ⟨rfl, hb4⟩
            rw [HOK.out]
            have hM2 := okBr_len HOK.out
            rw [krs_len, HDL.out] at hM2
            have hm2 : 2 ≤ n0 - q := hM2.1
            have hm6 : n0 - q ≤ 6 := hM2.2
            have HKR := Lib.hid (kr_branch hBR (by rw [HDL.out]; exact hm2) (fun x hx => (HOKL.out x hx).1))
            have HSZ := Lib.hid (show N.en + N.kn = n0 - q by rw [hBR.en, hBR.kn, HDL.out]; omega)
            have HEN := Lib.hid hBR.en
            have HKN := Lib.hid (show (ptrs (L.drop q)).length = N.kn by rw [hBR.kn, ptrs_len])
            have HHH := Lib.hid (show 1 ≤ N.h ∧ N.h ≤ k + 1 ∧ N.en + N.kn ≤ 1000 by
              obtain ⟨x, hx⟩ : ∃ x, (L.drop q)[0]? = some x := ⟨_, List.getElem?_eq_getElem (by rw [HDL.out]; omega)⟩
              have h1 := hBR.h x hx
              have h2 := HOKL.out x (List.mem_of_getElem? hx)
              rw [HSZ.out, h1]
              omega)
            have HN4 := Lib.hid (hN.below hb4)
            have HLN4 := Lib.hid (hlsN.below hb4)
            have HLK4 := Lib.hid (HLK.out.below (bthen HB3.out hb4))
            have HL4 := Lib.hid (HLA.out.next (bthen HB3.out hb4))
            have HS1 := Lib.hid (HLS1.out.below (bthen HBA.out (bthen HB3.out hb4)))
            have HS2 := Lib.hid (HLS2.out.below (bthen HBA.out (bthen HB3.out hb4)))
            clear hM2 hb4 hbb hN hBR hlsN haN d0 d1 HLK HLB HAD
            go_wp2_with fail
            refine (of_any (some (a2.add (q * 5))) (n0 - q) (c2 - q) (krs (L.drop q)) w4 HLK4.out ((krs_len _).trans HDL.out) hm2 (by omega) (fun y hy => ?_)).mono ?_
            · obtain ⟨x, hx, rfl⟩ := List.mem_map.1 hy
              have := HOKL.out x hx
              show x.2.h ≤ 1000000
              omega
            rintro e w5 ⟨rfl, hb5⟩
            rw [← HKR.out]
            unfold kidV
            obtain ⟨V6, hV6⟩ : ∃ V6, V6 = w5.alloc (.cells (pcKd N.kr).toArray 38) := ⟨_, rfl⟩
            have hb6 : Below w5.heap.size w5 V6 := by rw [hV6]; exact (Below.refl _ _).alloc (Nat.le_refl _) _
            have hkb6 : V6.heap[w5.heap.size]? = some (.cells (pcKd N.kr).toArray 38 (0, 0)) := by rw [hV6]; exact heap_alloc_new w5 _
            have HV6 := Lib.hid (show w5.alloc (.cells #[.int .i64 (N.kr.h : Int), .string N.kr.lo, .string N.kr.hi, .bool N.kr.full, .bool N.kr.enough] 38) = V6 by rw [hV6]; rfl)
            have HKB6 := Lib.hid hkb6
            have hb46 := bthen hb5 hb6
            have HN6 := Lib.hid (HN4.out.below hb46)
            have HLN6 := Lib.hid (HLN4.out.below hb46)
            have HL6 := Lib.hid (HL4.out.next hb46)
            have HS16 := Lib.hid (HS1.out.below hb46)
            have HS26 := Lib.hid (HS2.out.below hb46)
            clear hV6 hkb6 hb5 hb6 hb46 HN4 HLN4 HL4 HS1 HS2 HLK4
            go_wp2_with fail
            rw [HV6.out]
            refine (known_any HN6.out N.kr rfl rfl rfl rfl).mono ?_
            rintro e w7 ⟨rfl, hb7⟩
            have HN7 := Lib.hid (HN6.out.below hb7)
            have HB7 := Lib.hid hb7
            clear hb7
            have hsub : ((n0 - q : Nat) : Int) = (n0 : Int) - (q : Int) := by omega
            go_wp2_with fail
            refine (size_any HN7.out (by rw [HSZ.out]; omega)).mono ?_
            rintro e w8 ⟨rfl, nq, rfl⟩
            rw [HSZ.out]
            have hb8 : Below w7.heap.size w7 (w7.drewN nq) := below_drewN (Below.refl _ _) nq
            have HN8 := Lib.hid (HN7.out.below hb8)
            have HB8 := Lib.hid (bthen HB7.out hb8)
            clear hb8 HN7 HB7
            generalize w7.drewN nq = w8 at *
            go_wp2_with fail
            refine (entries_any HN8.out (l := []) (Es.nil _ _) (by rw [HEN.out]; rfl) (by rw [HEN.out]; omega)).mono ?_
            rintro e w9 ⟨v9, rfl, hov9, hb9⟩
            obtain ⟨A9, c9, hv9, _, _⟩ := hov9.form
            subst hv9
            have HN9 := Lib.hid (HN8.out.below hb9)
            have HB9 := Lib.hid (bthen HB8.out hb9)
            clear hov9 hb9 HN8 HB8
            go_wp2_with fail
            refine (kids_any HN9.out (HLN6.out.below HB9.out) HKN.out (by have := HKN.out; rw [ptrs_len, HDL.out] at this; omega)).mono ?_
            rintro e w10 ⟨v10, rfl, hov10, hb10⟩
            obtain ⟨A10, c10, hv10, hc10, hls10⟩ := hov10.form
            rw [ptrs_len, HDL.out] at hv10
            subst hv10
            have HLS10 := Lib.hid hls10
            have HN10 := Lib.hid (HN9.out.below hb10)
            have HB10 := Lib.hid (bthen HB9.out hb10)
            clear hov10 hb10 hls10 hc10 HN9 HB9
            go_wp2_with fail
            refine (size_any HN10.out (by rw [HSZ.out]; omega)).mono ?_
            rintro e w11 ⟨rfl, mq, rfl⟩
            rw [HSZ.out]
            have hb11 : Below w10.heap.size w10 (w10.drewN mq) := below_drewN (Below.refl _ _) mq
            have HN11 := Lib.hid (HN10.out.below hb11)
            have HB11 := Lib.hid (bthen HB10.out hb11)
            have HLS11 := Lib.hid (HLS10.out.below hb11)
            clear hb11 HN10 HB10 HLS10
            generalize w10.drewN mq = w11 at *
            obtain ⟨d, hd⟩ : ∃ d, d = n0 - q := ⟨_, rfl⟩
            have HD := Lib.hid hd
            have hdd : q + d = n0 := by omega
            rw [← hd] at hm2 hm6 ⊢
            clear hd hsub
            go_wp2
            go_loopw [169] (fun i wq => ∃ j : Nat, j ≤ d ∧ i = .int .i64 j ∧ Hid (Below w11.heap.size w11 wq)) (fun i _ => d - (intOf i).toNat)
            case atStart => exact ⟨0, Nat.zero_le _, rfl, Lib.hid (Below.refl _ _)⟩
            case round =>
              obtain ⟨j, hj, rfl, HQ⟩ := hrel
              rename World => wq
              by_cases hlj : j < d
              · obtain ⟨aj, xj, rfl, hxj, hlaj, cj⟩ := (HLS11.out.below HQ.out).node_at (i := j) (by rw [HDL.out, ← HD.out]; exact hlj)
                obtain ⟨bj, yj, ej, hyj, _, ej2⟩ := (HS16.out.below (bthen HB11.out HQ.out)).node_at (i := q + j) (by rw [← HN0.out]; omega)
                cases ej
                rw [List.getElem?_drop, hyj] at hxj
                cases hxj
                have hqs := neq_ptr_same ⟨xj.1, 0, none⟩
                clear hyj
                go_wp2
                go_quiet (fail)
                go_wp2
                exact ⟨⟨j + 1, by omega, by go_num, Lib.hid (below_drewN HQ.out _)⟩, by simp [intOf]; omega⟩
              · obtain rfl : j = d := by omega
                obtain ⟨w0, hw0⟩ : ∃ w0, w0 = wq.drew := ⟨_, rfl⟩
                have hbq : Below w11.heap.size w11 w0 := bthen HQ.out (by rw [hw0]; exact (Below.refl _ _).drew)
                have hb0 := bthen HB11.out hbq
                have HL0 := Lib.hid (HL6.out.next hb0)
                have HN0' := Lib.hid (HN11.out.below hbq)
                have HAT : Hid (At35 w0 (some a1) (some a2) q (L.take q) b N w5.heap.size) := Lib.hid ⟨(by rw [ptrs_take]; exact (HS16.out.below hb0).take_ q), (by rw [krs_take]; exact (HS26.out.below hb0).take_ q), (by rw [List.length_take, ← HN0.out]; omega), (by omega), (hb0.block _ (lt_of_block HKB6.out)).trans HKB6.out⟩
                have HW0 := Lib.hid hw0
                clear hb0 hw0 hbq
                go_wp2_with fail
                refine Dx.wp_region_words (D35 w0 (.slice (some a1) n0 c1) (.slice (some a2) n0 c2) (some a1) (some a2) q (L.take q) b N) (d35_ok _ _ _ _ _ _ _ _ _ _) (by kernel_rfl) (by kernel_rfl) (by kernel_rfl) (by kernel_rfl) (by rw [← HW0.out]; exact Below.refl _ _) (fun _ => trivial) ?_ ?_
                · refine ⟨?_, ?_, ?_, ?_, ?_, ?_, ?_, ?_, ?_, ?_, ?_, ?_, ?_, ?_, ?_, ?_, trivial⟩
                  · refine Dx.step_val fun a' w' hG hs hd hN => ⟨_, w', rfl, Below.refl _ _, ?_⟩
                    exact hs 3 (by kernel_rfl)
                  · refine Dx.step_val fun a' w' hG hs hd hN => ⟨_, w', rfl, Below.refl _ _, ?_⟩
                    exact hs 10 (by kernel_rfl)
                  · refine Dx.step_val fun a' w' hG hs hd hN => ⟨_, w', rfl, Below.refl _ _, ?_⟩
                    exact hs 10 (by kernel_rfl)
                  · refine Dx.step_val fun a' w' hG hs hd hN => ?_
                    have h1 : a'.eval (.tmp 184) = .slice (some a1) n0 c1 := hd 0 (by decide)
                    have h2 : a'.eval (.tmp 185) = .int .i64 (q : Int) := hd 1 (by decide)
                    have h3 : a'.eval (.tmp 186) = .int .i64 (q : Int) := hd 2 (by decide)
                    have hr := cut_run (t := 25) (e := 30) ⟨_, Try.underlying25, rfl⟩ ptrInfo (some a1) n0 c1 q (by omega) (by omega) w'
                    refine ⟨_, w', ?_, Below.refl _ _, rfl⟩
                    clear hd hs hN hG
                    simp only [execOp, Option.map_some, Option.map_none, h1, h2, h3, hr, Sem.run_bind, Sem.run_pure, Result.andThen_ok]
                  · refine Dx.step_val fun a' w' hG hs hd hN => ⟨_, w', rfl, Below.refl _ _, ?_⟩
                    exact hs 11 (by kernel_rfl)
                  · refine Dx.step_val fun a' w' hG hs hd hN => ?_
                    have h1 : a'.eval (.tmp 188) = pn b := hd 4 (by decide)
                    have hG : Below w0.heap.size w0 w' := hG
                    have hr := ptr_row w' b
                    refine ⟨_, _, ?_, (Below.refl _ _).alloc (Nat.le_refl _) _, Laid.new _ _ hG.size⟩
                    clear hd hs hN hG
                    simp only [execOp, List.map_toArray, List.map_cons, List.map_nil, h1, hr, Sem.run_bind, Sem.run_pure, Result.andThen_ok]
                  · refine Dx.step_val fun a' w' hG hs hd hN => ?_
                    have h1 : a'.eval (.tmp 187) = .slice (some a1) q q := hd 3 (by decide)
                    have h2 : Laid w0 #[pn b] 30 (a'.eval (.tmp 189)) w' := hd 5 (by decide)
                    obtain ⟨v', w'', hr, hg, hv⟩ := s35_nodes HAT.out hG h2
                    refine ⟨v', w'', ?_, hg, hv⟩
                    clear hd hs hN hG h2 hg hv
                    simp only [execOp, resolve, invoke, builtin, Sem.run_bind, Sem.run_pure, Result.andThen_ok, List.map_toArray, List.map_cons, List.map_nil, h1, hr]
                  · refine Dx.step_val fun a' w' hG hs hd hN => ⟨_, w', rfl, Below.refl _ _, ?_⟩
                    exact hs 4 (by kernel_rfl)
                  · refine Dx.step_val fun a' w' hG hs hd hN => ⟨_, w', rfl, Below.refl _ _, ?_⟩
                    exact hs 10 (by kernel_rfl)
                  · refine Dx.step_val fun a' w' hG hs hd hN => ⟨_, w', rfl, Below.refl _ _, ?_⟩
                    exact hs 10 (by kernel_rfl)
                  · refine Dx.step_val fun a' w' hG hs hd hN => ?_
                    have h1 : a'.eval (.tmp 191) = .slice (some a2) n0 c2 := hd 7 (by decide)
                    have h2 : a'.eval (.tmp 192) = .int .i64 (q : Int) := hd 8 (by decide)
                    have h3 : a'.eval (.tmp 193) = .int .i64 (q : Int) := hd 9 (by decide)
                    have hr := cut_run (t := 26) (e := 38) ⟨_, Try.underlying26, rfl⟩ kidInfo (some a2) n0 c2 q (by omega) (by omega) w'
                    refine ⟨_, w', ?_, Below.refl _ _, rfl⟩
                    clear hd hs hN hG
                    simp only [execOp, Option.map_some, Option.map_none, h1, h2, h3, hr, Sem.run_bind, Sem.run_pure, Result.andThen_ok]
                  · refine Dx.step_val fun a' w' hG hs hd hN => ?_
                    have h1 : a'.eval (.tmp 13) = .pointer (some ⟨w5.heap.size, 0, none⟩) := hs 13 (by kernel_rfl)
                    have hG : Below w0.heap.size w0 w' := hG
                    have hr := kid_load (HAT.out.kid_later hG)
                    refine ⟨_, w', ?_, Below.refl _ _, rfl⟩
                    clear hd hs hN hG
                    simp only [execOp, h1, hr, Sem.run_bind, Sem.run_pure, Result.andThen_ok]
                  · refine Dx.step_val fun a' w' hG hs hd hN => ?_
                    have h1 : a'.eval (.tmp 195) = kidV N.kr := hd 11 (by decide)
                    have hG : Below w0.heap.size w0 w' := hG
                    have hr := kid_row w' N.kr
                    refine ⟨_, _, ?_, (Below.refl _ _).alloc (Nat.le_refl _) _, Laid.new _ _ hG.size⟩
                    clear hd hs hN hG
                    simp only [execOp, List.map_toArray, List.map_cons, List.map_nil, h1, hr, Sem.run_bind, Sem.run_pure, Result.andThen_ok]
                  · refine Dx.step_val fun a' w' hG hs hd hN => ?_
                    have h1 : a'.eval (.tmp 194) = .slice (some a2) q q := hd 10 (by decide)
                    have h2 : Laid w0 (pcKd N.kr).toArray 38 (a'.eval (.tmp 196)) w' := hd 12 (by decide)
                    obtain ⟨v', w'', hr, hg, hv⟩ := s35_kids HAT.out hG h2
                    refine ⟨v', w'', ?_, hg, hv⟩
                    clear hd hs hN hG h2 hg hv
                    simp only [execOp, resolve, invoke, builtin, Sem.run_bind, Sem.run_pure, Result.andThen_ok, List.map_toArray, List.map_cons, List.map_nil, h1, hr]
                  · refine Dx.step_val fun a' w' hG hs hd hN => ⟨_, w', rfl, Below.refl _ _, ?_⟩
                    exact hd 6 (by decide)
                  · refine Dx.step_val fun a' w' hG hs hd hN => ⟨_, w', rfl, Below.refl _ _, ?_⟩
                    exact hd 13 (by decide)
                intro f wf hG hf
                have h8 : OwnP wf w0.heap.size (f 14) (ptrs (L.take q ++ [(b, N)])) := hf 14 (by decide)
                have h9 : OwnK wf w0.heap.size (f 15) (krs (L.take q) ++ [N.kr]) := hf 15 (by decide)
                have HDONE := Lib.hid (bld_cut HL0.out HN0'.out hG h8 h9 HHH.out)
                clear hf hG h8 h9
                simp only [Dv.putAll, Nat.zero_add, Nat.reduceAdd]
                generalize f 0 = f0
                generalize f 1 = f1
                generalize f 2 = f2
                generalize f 3 = f3
                generalize f 4 = f4
                generalize f 5 = f5
                generalize f 6 = f6
                generalize f 7 = f7
                generalize f 8 = f8
                generalize f 9 = f9
                generalize f 10 = f10
                generalize f 11 = f11
                generalize f 12 = f12
                generalize f 13 = f13
                generalize f 14 = f14 at HDONE ⊢
                generalize f 15 = f15 at HDONE ⊢
                go_wp2
                exact ⟨⟨k + 1, by omega, by go_num, Lib.hid ⟨_, HDONE.out⟩⟩, by simp [intOf]; omega⟩
          · have HNO := Lib.hid hno
            clear hno
            go_wp2_with fail
            refine (refBranch_any (some (a2.add (q * 5))) (n0 - q) (c2 - q) (krs (L.drop q)) w3 (HLK.out.below HB3.out) ((krs_len _).trans HDL.out) (by omega) (fun y hy => ?_)).mono ?_
            · obtain ⟨x, hx, rfl⟩ := List.mem_map.1 hy
              exact (HOKL.out x hx).1
            rintro e w4 ⟨rfl, hb4⟩
            rw [HNO.out]
            have HL4 := Lib.hid (HLA.out.next (bthen HB3.out hb4))
            clear hb4 d0 d1
            go_wp2
            exact ⟨⟨k + 1, by omega, by go_num, Lib.hid ⟨L, HL4.out.wait⟩⟩, by simp [intOf]; omega⟩
      · have he : k = m := by omega
        subst he
        go_wp2
        go_ret
        exact ⟨by simp, HL.out.below⟩

end Go.Proofs.Ytabgbbfiggnanaa


namespace Go.Proofs.Ytabgbbfiggnanaa.nodeBuilds
open Go.ChangeShapes Go.WideShapes Go.ChangeAt Go.RowKit
open Go.ChangeMaps (open_string shut_string)
set_option linter.unusedVariables false

theorem own : ownKnob Try.prog.godebug = none := by kernel_rfl
theorem laidOut : laidOutB Try.prog = true := by kernel_rfl

set_option maxRecDepth 100000 in
theorem lifted (os : Os) (started : os.Started) (H : Type) (enc : TypeId × Value → H) :
    ReturnsInHanded {} Try.checked os 3 .any (Rows.nodeBuildsSpec.pre6 enc Try.prog Try.f3 Rows.nodeBuildsRow.domain false) (Rows.nodeBuildsSpec.post enc Try.prog Try.f3 false true false false) := by
  refine returnsInHanded_of_change_sized (C := Try.checked) own started (by kernel_rfl) Try.func3
    (ChangeSpec.witness6 (enc := enc) (C := Try.checked) false ⟨#[], #[.slice none 0 0], []⟩ 8 (by kernel_rfl) (by kernel_rfl) (by kernel_rfl) (by kernel_rfl)) ?_
  intro W base args ds gs before hval0 hW hcnd hsz0 _
  have hval : ∀ (j : Nat) t v, Try.f3.params[j]? = some t → args[j]? = some v → Value.okWide Try.prog W .any base t v := hval0
  have hsz : (DataW.weightsEach Try.prog (Try.f3.params.toList ++ Rows.nodeBuildsSpec.plain.varTypes Try.prog) (ds ++ gs)).all (· ≤ reachBytes) = true := hsz0
  have hW' := hW
  obtain ⟨p, q, hA0, hV, rfl, hfz, hnd⟩ := hW
  have hA : DataW.TrodAll enc Try.prog W 0 (fun _ => true) true Try.f3.params.toList args.toList ds p := hA0
  rw [Try.params3] at hA hval hsz
  obtain ⟨v0, vs0, d0, ds0, p0, q0, hargs, rfl, rfl, h0, r0⟩ := trodAll_cons hA
  obtain ⟨rfl, rfl, rfl⟩ := trodAll_nil r0
  obtain rfl : args = #[v0] := by cases args; simp_all
  obtain ⟨rfl, rfl⟩ := trodVars_none hV
  obtain ⟨A0, n0, c0, rfl⟩ := okWide_slice Try.underlying22 (hval 0 22 v0 rfl rfl)
  have k0 := h0
  have lt0 : ∀ x ∈ p0, x.block < W.heap.size := by obtain ⟨m, hm⟩ := k0; exact DataW.trod_lt m _ _ _ hm
  obtain ⟨l0, w0⟩ := open_nops h0 (fun m hm => of_decide_eq_true (List.all_eq_true.1 hsz _ (DataW.weights_mem_each (j := 0) (t := 22) rfl rfl m hm)))
  clear hA0 hval0 hsz hsz0
  refine (nodeBuilds_walk A0 n0 c0 l0 W w0).mono fun e W' ⟨he, bel⟩ => ?_
  subst he
  exact ⟨_, rfl, _, _, _, [], _, [], hW', trodAll_mk1 (shut_bool Try.underlying4 _), (trodAll_cons_mk (Below.trod laidOut (by kernel_rfl) (of_decide_eq_true (by kernel_rfl)) k0 bel lt0) trodAll_mk0), rfl, bel.frame _, fun h => by cases h⟩

theorem over : Rows.nodeBuildsRow.holds Try.pinned (OpenSpec.ofChange Rows.nodeBuildsSpec) :=
  OpenClaim.holds_of_wide 3 Try.f3 rfl rfl rfl rfl rfl rfl rfl ⟨rfl, rfl, rfl, rfl, rfl⟩ rfl rfl rfl rfl rfl (by kernel_rfl) Try.func3 (by kernel_rfl)
    (of_decide_eq_true (by kernel_rfl)) (by unfold Func.isWrapper; first | (rw [if_pos (by decide +kernel)]; kernel_rfl) | (rw [if_neg (by decide +kernel)]; exact ⟨rfl, rfl⟩))
    (fun os started H enc _ => lifted os started H enc)

theorem proved : Rows.NodeBuildsSaid := over
#print axioms proved

end Go.Proofs.Ytabgbbfiggnanaa.nodeBuilds
