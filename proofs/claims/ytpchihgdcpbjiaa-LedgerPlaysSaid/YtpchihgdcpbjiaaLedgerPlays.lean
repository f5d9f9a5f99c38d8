/-
  LedgerPlays: whatever is taken, committed, let go and set anew, each answer is the reference's, and so is which pages are in use; for every number of pages and every script; no condition beyond the row's.
-/
import Derived.Test.YtpchihgdcpbjiaaLedSet
namespace Go.Proofs.Ytpchihgdcpbjiaa
open Go.RowKit Go.Sort Go.ChangeShapes Go.WideShapes
set_option linter.unusedVariables false
set_option linter.unusedSimpArgs false

theorem small_of {k : IntKind} {x : Int} {b : Nat} (h : (Lit.int k x).wf = true) (hk : k.min = 0) (hb : k.max = (b : Int)) : ∃ y : Nat, y ≤ b ∧ x = (y : Int) := by
  have : k.min ≤ x ∧ x ≤ k.max := by simpa [Lit.wf] using h
  exact ⟨x.toNat, by omega, by omega⟩
/-- The ledger and the reference's, of the same lists. -/
structure Both (a w : World) (b r n : Nat) (lo ln lt : List Int) : Prop where
  led : Led w b n (memB n lo) (memB n ln) (memB n lt)
  ref : RefI a.heap.size w r n lo ln lt
  bel : Below a.heap.size a w
  abv : a.heap.size ≤ b
theorem Both.below {a w w' : World} {b r n : Nat} {lo ln lt : List Int} (h : Both a w b r n lo ln lt) (hb : Below w.heap.size w w') : Both a w' b r n lo ln lt := ⟨h.led.below hb, h.ref.below hb, bthen h.bel hb, h.abv⟩
/-- A step of the ledger's, then one of the reference's. -/
theorem Both.step {a w w1 w2 : World} {b r n : Nat} {lo ln lt l1 l2 l3 : List Int} (h : Both a w b r n lo ln lt) (h1 : Led w1 b n (memB n l1) (memB n l2) (memB n l3)) (hk : Keep (fun i => i = b) w w1) (h2 : RefI a.heap.size w2 r n l1 l2 l3) (hr : RK a.heap.size w1 w2) : Both a w2 b r n l1 l2 l3 := by
  have hb1 : Below a.heap.size a w1 := h.bel.trans (hk.below h.bel.size (by rintro i rfl; exact h.abv))
  exact ⟨hr.led h1, h2, hr.below hb1 hb1.size, h.abv⟩
theorem Both.ref1 {a w w1 : World} {b r n : Nat} {lo ln lt : List Int} (h : Both a w b r n lo ln lt) (hk : Keep (fun i => i = b) w w1) : RefI a.heap.size w1 r n lo ln lt ∧ a.heap.size ≤ w1.heap.size ∧ Below a.heap.size a w1 :=
  ⟨h.ref.led h.led hk, Nat.le_trans h.bel.size hk.size, h.bel.trans (hk.below h.bel.size (by rintro i rfl; exact h.abv))⟩
theorem in_low {n : Nat} {o v t : Nat → Bool} {x : Int} (h0 : 0 ≤ x) (h1 : x < (n : Int)) (h2 : x < 2) : inUse n o v t x = true := by
  have : ¬ 2 ≤ x.toNat := by omega
  simp [inUse, h0, h1, fr, this]
theorem in_high {n : Nat} {o v t : Nat → Bool} {x : Int} (h1 : ¬ x < (n : Int)) : inUse n o v t x = false := by simp [inUse, h1]
theorem in_neg {n : Nat} {o v t : Nat → Bool} {x : Int} (h0 : ¬ 0 ≤ x) : inUse n o v t x = false := by simp [inUse, h0]
theorem in_used {n : Nat} {lo ln lt : List Int} {x : Int} (h1 : x < (n : Int)) (h2 : ¬ x < 2) : inUse n (memB n lo) (memB n ln) (memB n lt) x = (decide (x ∈ lo) || decide (x ∈ ln) || decide (x ∈ lt)) := by
  obtain ⟨k, rfl⟩ : ∃ k : Nat, x = k := ⟨x.toNat, by omega⟩
  have h0 : (0 : Int) ≤ (k : Int) := by omega
  simp only [inUse, h0, h1, decide_true, Bool.true_and, Int.toNat_natCast]
  rw [fr_used (by omega) (by omega), Bool.not_not]

set_option maxRecDepth 100000 in
set_option maxHeartbeats 16000000 in
theorem ledgerPlays_walk (y0 : Int) (A : Option Addr) (m c : Nat) (l : List LOp) (w : World) (hy : (Lit.int .u8 y0).wf = true) (ha : ArgL w A m c l) :
    Calls Try.prog 3 #[.int .u8 y0, .slice A m c] w fun e w' => e = .returned (.bool true) ∧ Below w.heap.size w w' := by
  obtain ⟨y, hy2, rfl⟩ := small_of (b := 255) hy rfl rfl
  obtain ⟨n, hn⟩ : ∃ n : Nat, n = y % 40 := ⟨_, rfl⟩
  have hq1 : (y : Int).tmod 40 = (n : Int) := by rw [Int.tmod_eq_emod_of_nonneg (by omega)]; omega
  have hq2 : (y : Int) % 40 = (n : Int) := by omega
  have hn4 : n < 40 := by omega
  clear hn hy
  have hcap := ha.cap
  have hsm := ha.small
  have HA := Lib.hid ha
  clear ha
  go_enter Try.func3, Try.ntmps3
  go_wp2_with fail
  refine (ldAwake_any w).mono ?_
  rintro e w1 ⟨rfl, hb1⟩
  have HB1 := Lib.hid hb1
  clear hb1
  go_wp2_with fail
  refine (ldFew_any A m c l w1 (HA.out.below HB1.out)).mono ?_
  rintro e w2 ⟨hb2, f, rfl, hf⟩
  have HB2 := Lib.hid (bthen HB1.out hb2)
  clear hb2 HB1
  cases f
  · go_wp2_with fail
    refine (ldAwake_any _).mono ?_
    rintro e w3 ⟨rfl, hb3⟩
    go_wp2
    go_ret
    exact ⟨rfl, bthen HB2.out hb3⟩
  have HF := Lib.hid (hf rfl)
  have hm : m ≤ 150 := by rw [← HA.out.len]; exact HF.out.1
  clear hf
  go_wp2_with fail
  refine (ldNew_any (n : Int) w2).mono ?_
  rw [clampN_of n (by omega)]
  rintro e w3 ⟨b, rfl, hd3, hge, hb3⟩
  have HD3 := Lib.hid hd3
  have HB3 := Lib.hid (bthen HB2.out hb3)
  have HG := Lib.hid (Nat.le_trans HB2.out.size hge)
  clear hd3 hge hb3
  go_wp2_with fail
  refine (refNew_any (n : Int) w3 (B := w.heap.size) HB3.out.size).mono ?_
  rw [clampN_of n (by omega)]
  rintro e w4 ⟨r, rfl, hr4, hb4⟩
  have HT4 := Lib.hid (show Both w w4 b r n [] [] [] from ⟨by rw [memB_nil]; exact HD3.out.below hb4, hr4, bthen HB3.out hb4, HG.out⟩)
  clear hr4 hb4 HD3 HB3 HG HB2
  go_wp2
  go_loopw [35] (fun i wr => ∃ k : Nat, k ≤ m ∧ i = .int .i64 k ∧ Hid (∃ lo ln lt, Both w wr b r n lo ln lt ∧ lt.length ≤ k)) (fun i _ => m - (intOf i).toNat)
  case atStart => exact ⟨0, Nat.zero_le _, rfl, Lib.hid ⟨[], [], [], HT4.out, Nat.le_refl _⟩⟩
  case round =>
    obtain ⟨k, hk, rfl, HT⟩ := hrel
    clear HT4
    obtain ⟨lo, ln, lt, ht, hll⟩ := HT.out
    have HTT := Lib.hid ht
    clear ht HT
    by_cases hlt : k < m
    · obtain ⟨ad, op, rfl, hop, hl, g0, g1, g2⟩ := (HA.out.ls.below HTT.out.bel).atL (i := k) (by rw [HA.out.len]; exact hlt)
      have HO := Lib.hid (show OkL w op ∧ op.n + op.m ≤ 200 from ⟨HA.out.ok op (List.mem_of_getElem? hop), HF.out.2 op (List.mem_of_getElem? hop)⟩)
      clear hop
      have hn1 : op.n ≤ 200 := by have := HO.out.2; omega
      have hn2 : op.m ≤ 200 := by have := HO.out.2; omega
      obtain ⟨ok, oA, on, oc, ol, oB, om, od, orr⟩ := op
      simp only at g0 g1 g2 hn1 hn2
      obtain ⟨wa, hwa⟩ : ∃ wa, wa = wr.alloc (.cells #[.int .i64 ok, .slice oA on oc, .slice oB om od] 31) := ⟨_, rfl⟩
      have hba : Below wr.heap.size wr wa := by rw [hwa]; exact (Below.refl _ _).alloc (Nat.le_refl _) _
      have HX := Lib.hid (show BoxO wa wr.heap.size ⟨ok, oA, on, oc, ol, oB, om, od, orr⟩ by rw [hwa]; exact heap_alloc_new wr _)
      have c1 := cell_at HX.out 1 _ rfl
      have c2 := cell_at HX.out 2 _ rfl
      have HC1 := Lib.hid c1
      have HC2 := Lib.hid c2
      have HWA := Lib.hid hwa
      have HTA := Lib.hid (HTT.out.below hba)
      clear hwa hba HTT c1 c2
      by_cases h1 : ok = 1
      · subst h1
        go_wp2_with fail
        rw [← HWA.out]
        refine (ldTake_any HTA.out.led).mono ?_
        unfold TakePost
        have HRT := Lib.hid (fun w' (h : RefI w.heap.size w' r n lo ln lt) (hs : w.heap.size ≤ w'.heap.size) => refTake_any h (by omega) hs)
        unfold RTake at HRT
        cases hle : least (fr (memB n lo) (memB n ln) (memB n lt)) n with
        | none =>
          rw [hle] at HRT
          simp only at HRT ⊢
          rintro e w4 ⟨rfl, rfl⟩
          clear hle
          go_wp2_with fail
          refine (HRT.out _ HTA.out.ref HTA.out.bel.size).mono ?_
          rintro e w5 ⟨rfl, rfl⟩
          clear HRT
          go_wp2_with fail
          refine (ldCnt_any HTA.out.led).mono ?_
          rintro e w8 ⟨rfl, rfl⟩
          go_wp2_with fail
          refine (refFree_any HTA.out.ref).mono ?_
          rintro e w8 ⟨rfl, rfl⟩
          generalize cnt _ n = cf
          go_wp2
          go_loopw [14] (fun i wz => ∃ x : Int, -1 ≤ x ∧ x ≤ (n : Int) + 1 ∧ i = .int .i64 x ∧ wz = w8) (fun i _ => ((n : Int) + 1 - intOf i).toNat)
          case atStart => exact ⟨-1, by omega, by omega, rfl, rfl⟩
          case round =>
            obtain ⟨x, hx1, hx2, rfl, rfl⟩ := hrel
            by_cases hxn : x ≤ (n : Int)
            · by_cases h0 : 0 ≤ x
              · by_cases h1 : x < (n : Int)
                · by_cases h2 : x < 2
                  · go_wp2_with fail
                    refine (ldIn_any HTA.out.led x).mono ?_
                    rw [in_low h0 h1 h2]
                    rintro e w9 ⟨rfl, rfl⟩
                    go_wp2
                    exact ⟨⟨x + 1, by omega, by omega, by go_num, by trivial⟩, by simp [intOf]; omega⟩
                  · have hu := Lib.hid (refUsed_any HTA.out.ref x)
                    have hv := Lib.hid (ldIn_any HTA.out.led x)
                    rw [in_used h1 h2] at hv
                    generalize (decide (x ∈ lo) || decide (x ∈ ln) || decide (x ∈ lt)) = u at hu hv
                    go_wp2_with fail
                    refine hu.out.mono ?_
                    rintro e w9 ⟨rfl, rfl⟩
                    go_wp2_with fail
                    refine hv.out.mono ?_
                    rintro e w9 ⟨rfl, rfl⟩
                    go_wp2
                    exact ⟨⟨x + 1, by omega, by omega, by go_num, by trivial⟩, by simp [intOf]; omega⟩
                · go_wp2_with fail
                  refine (ldIn_any HTA.out.led x).mono ?_
                  rw [in_high (by omega)]
                  rintro e w9 ⟨rfl, rfl⟩
                  go_wp2
                  exact ⟨⟨x + 1, by omega, by omega, by go_num, by trivial⟩, by simp [intOf]; omega⟩
              · go_wp2_with fail
                refine (ldIn_any HTA.out.led x).mono ?_
                rw [in_neg (by omega)]
                rintro e w9 ⟨rfl, rfl⟩
                go_wp2
                exact ⟨⟨x + 1, by omega, by omega, by go_num, by trivial⟩, by simp [intOf]; omega⟩
            · go_wp2
              exact ⟨⟨k + 1, by omega, by go_num, Lib.hid ⟨_, _, _, HTA.out, by first | omega | (simp; done) | (rw [List.length_append, List.length_singleton]; omega)⟩⟩, by simp [intOf]; omega⟩
        | some i =>
          rw [hle] at HRT
          simp only at HRT ⊢
          rintro e w4 ⟨rfl, hd4, hk4⟩
          have HI := Lib.hid (least_is hle)
          have hi5 : i < 40 := by have := HI.out.1; omega
          have HD4 := Lib.hid (show Led w4 b n (memB n lo) (memB n ln) (memB n (lt ++ [(i : Int)])) by
            rw [memB_snoc_ok (by have h1 := HI.out.1; have h2 := fr_two HI.out.2.1; simp [okPg]; omega), Int.toNat_natCast]
            exact hd4)
          have HK4 := Lib.hid hk4
          clear hle hd4 hk4
          go_wp2_with fail
          refine (HRT.out w4 (HTA.out.ref1 HK4.out).1 (HTA.out.ref1 HK4.out).2.1).mono ?_
          rintro e w5 ⟨rfl, hr5, hrk5⟩
          have HT5 := Lib.hid (HTA.out.step HD4.out HK4.out hr5 hrk5)
          clear hr5 hrk5 HD4 HK4 HTA HRT HI
          go_wp2_with fail
          refine (ldCnt_any HT5.out.led).mono ?_
          rintro e w8 ⟨rfl, rfl⟩
          go_wp2_with fail
          refine (refFree_any HT5.out.ref).mono ?_
          rintro e w8 ⟨rfl, rfl⟩
          generalize cnt _ n = cf
          go_wp2
          go_loopw [14] (fun i wz => ∃ x : Int, -1 ≤ x ∧ x ≤ (n : Int) + 1 ∧ i = .int .i64 x ∧ wz = w8) (fun i _ => ((n : Int) + 1 - intOf i).toNat)
          case atStart => exact ⟨-1, by omega, by omega, rfl, rfl⟩
          case round =>
            obtain ⟨x, hx1, hx2, rfl, rfl⟩ := hrel
            by_cases hxn : x ≤ (n : Int)
            · by_cases h0 : 0 ≤ x
              · by_cases h1 : x < (n : Int)
                · by_cases h2 : x < 2
                  · go_wp2_with fail
                    refine (ldIn_any HT5.out.led x).mono ?_
                    rw [in_low h0 h1 h2]
                    rintro e w9 ⟨rfl, rfl⟩
                    go_wp2
                    exact ⟨⟨x + 1, by omega, by omega, by go_num, by trivial⟩, by simp [intOf]; omega⟩
                  · have hu := Lib.hid (refUsed_any HT5.out.ref x)
                    have hv := Lib.hid (ldIn_any HT5.out.led x)
                    rw [in_used h1 h2] at hv
                    generalize (decide (x ∈ lo) || decide (x ∈ ln) || decide (x ∈ lt ++ [(i : Int)])) = u at hu hv
                    go_wp2_with fail
                    refine hu.out.mono ?_
                    rintro e w9 ⟨rfl, rfl⟩
                    go_wp2_with fail
                    refine hv.out.mono ?_
                    rintro e w9 ⟨rfl, rfl⟩
                    go_wp2
                    exact ⟨⟨x + 1, by omega, by omega, by go_num, by trivial⟩, by simp [intOf]; omega⟩
                · go_wp2_with fail
                  refine (ldIn_any HT5.out.led x).mono ?_
                  rw [in_high (by omega)]
                  rintro e w9 ⟨rfl, rfl⟩
                  go_wp2
                  exact ⟨⟨x + 1, by omega, by omega, by go_num, by trivial⟩, by simp [intOf]; omega⟩
              · go_wp2_with fail
                refine (ldIn_any HT5.out.led x).mono ?_
                rw [in_neg (by omega)]
                rintro e w9 ⟨rfl, rfl⟩
                go_wp2
                exact ⟨⟨x + 1, by omega, by omega, by go_num, by trivial⟩, by simp [intOf]; omega⟩
            · go_wp2
              exact ⟨⟨k + 1, by omega, by go_num, Lib.hid ⟨_, _, _, HT5.out, by first | omega | (simp; done) | (rw [List.length_append, List.length_singleton]; omega)⟩⟩, by simp [intOf]; omega⟩
      by_cases h2 : ok = 2
      · subst h2
        have c1 := HC1.out
        rw [HWA.out] at c1
        go_wp2_with fail
        rw [← HWA.out]
        clear c1
        refine (ldCommit_any HTA.out.led (HO.out.1.below HTA.out.bel).fst).mono ?_
        rintro e w4 ⟨rfl, hd4, hk4⟩
        have HD4 := Lib.hid (show Led w4 b n (memB n ln) (memB n ol) (memB n []) by rw [memB_nil]; exact hd4)
        have HK4 := Lib.hid hk4
        have HX4 := Lib.hid (HX.out.led HTA.out.led hk4)
        clear hd4 hk4
        obtain ⟨wb, hwb⟩ : ∃ wb, wb = w4.alloc (.cells #[] 3) := ⟨_, rfl⟩
        have hbb : Below w4.heap.size w4 wb := by rw [hwb]; exact (Below.refl _ _).alloc (Nat.le_refl _) _
        have hhb : wb.heap[w4.heap.size]? = some (.cells #[] 3 (0, 0)) := by rw [hwb]; exact heap_alloc_new w4 _
        have HRB := Lib.hid (HTA.out.ref1 HK4.out)
        have HAL := Lib.hid (HO.out.1.below (bthen HRB.out.2.2 hbb)).fst
        obtain ⟨v', w5, hrun, hown, hb5⟩ := run_append_empty (B := w.heap.size) (c := oc) hhb HAL.out.ls HAL.out.len (by show on ≤ 1000; omega) HRB.out.2.1 (Nat.le_trans HRB.out.2.1 hbb.size)
        obtain ⟨A', c', hv', _⟩ := OwnL.form hown
        have hlen : ol.length = on := HO.out.1.fst.len
        rw [show (⟨2, oA, on, oc, ol, oB, om, od, orr⟩ : LOp).l.length = on from hlen] at hv'
        subst hv'
        have d1 := cell_at (HX4.out.below hbb) 1 _ rfl
        rw [hwb] at d1
        have HRUN := Lib.hid hrun
        have HOWN := Lib.hid hown
        have HWB := Lib.hid hwb
        have HBB := Lib.hid (bthen hbb hb5)
        have HLN := Lib.hid hlen
        clear hrun hown hwb hb5 hbb hhb hlen
        go_wp2_with (at_builtin; rw [← HWB.out]; refine wpList_append_ran rfl (.tmp 71) (.tmp 73) 29 rfl _ _ _ _ rfl rfl HRUN.out ?_)
        refine (refCommit_any (HRB.out.1.below HBB.out) HOWN.out (by show ol.length ≤ 1000; rw [HLN.out]; omega)).mono ?_
        rintro e w6 ⟨rfl, hr6, hrk6⟩
        have HT6 := Lib.hid (HTA.out.step HD4.out HK4.out hr6 ((RK.of_below HBB.out).trans hrk6))
        clear hr6 hrk6 HD4 HK4 HTA HRUN HOWN HWB HBB HLN HAL HRB HX4 d1
        go_wp2_with fail
        refine (ldCnt_any HT6.out.led).mono ?_
        rintro e w8 ⟨rfl, rfl⟩
        go_wp2_with fail
        refine (refFree_any HT6.out.ref).mono ?_
        rintro e w8 ⟨rfl, rfl⟩
        generalize cnt _ n = cf
        go_wp2
        go_loopw [14] (fun i wz => ∃ x : Int, -1 ≤ x ∧ x ≤ (n : Int) + 1 ∧ i = .int .i64 x ∧ wz = w8) (fun i _ => ((n : Int) + 1 - intOf i).toNat)
        case atStart => exact ⟨-1, by omega, by omega, rfl, rfl⟩
        case round =>
          obtain ⟨x, hx1, hx2, rfl, rfl⟩ := hrel
          by_cases hxn : x ≤ (n : Int)
          · by_cases h0 : 0 ≤ x
            · by_cases h1 : x < (n : Int)
              · by_cases h2 : x < 2
                · go_wp2_with fail
                  refine (ldIn_any HT6.out.led x).mono ?_
                  rw [in_low h0 h1 h2]
                  rintro e w9 ⟨rfl, rfl⟩
                  go_wp2
                  exact ⟨⟨x + 1, by omega, by omega, by go_num, by trivial⟩, by simp [intOf]; omega⟩
                · have hu := Lib.hid (refUsed_any HT6.out.ref x)
                  have hv := Lib.hid (ldIn_any HT6.out.led x)
                  rw [in_used h1 h2] at hv
                  generalize (decide (x ∈ ln) || decide (x ∈ ol) || decide (x ∈ [])) = u at hu hv
                  go_wp2_with fail
                  refine hu.out.mono ?_
                  rintro e w9 ⟨rfl, rfl⟩
                  go_wp2_with fail
                  refine hv.out.mono ?_
                  rintro e w9 ⟨rfl, rfl⟩
                  go_wp2
                  exact ⟨⟨x + 1, by omega, by omega, by go_num, by trivial⟩, by simp [intOf]; omega⟩
              · go_wp2_with fail
                refine (ldIn_any HT6.out.led x).mono ?_
                rw [in_high (by omega)]
                rintro e w9 ⟨rfl, rfl⟩
                go_wp2
                exact ⟨⟨x + 1, by omega, by omega, by go_num, by trivial⟩, by simp [intOf]; omega⟩
            · go_wp2_with fail
              refine (ldIn_any HT6.out.led x).mono ?_
              rw [in_neg (by omega)]
              rintro e w9 ⟨rfl, rfl⟩
              go_wp2
              exact ⟨⟨x + 1, by omega, by omega, by go_num, by trivial⟩, by simp [intOf]; omega⟩
          · go_wp2
            exact ⟨⟨k + 1, by omega, by go_num, Lib.hid ⟨_, _, _, HT6.out, by first | omega | (simp; done) | (rw [List.length_append, List.length_singleton]; omega)⟩⟩, by simp [intOf]; omega⟩
      by_cases h3 : ok = 3
      · subst h3
        go_wp2_with fail
        rw [← HWA.out]
        refine (ldAbort_any HTA.out.led).mono ?_
        rintro e w4 ⟨rfl, hd4, hk4⟩
        have HD4 := Lib.hid (show Led w4 b n (memB n lo) (memB n ln) (memB n []) by rw [memB_nil]; exact hd4)
        have HK4 := Lib.hid hk4
        clear hd4 hk4
        go_wp2_with fail
        refine (refAbort_any (HTA.out.ref1 HK4.out).1).mono ?_
        rintro e w5 ⟨rfl, hr5, hrk5⟩
        have HT5 := Lib.hid (HTA.out.step HD4.out HK4.out hr5 hrk5)
        clear hr5 hrk5 HD4 HK4 HTA
        go_wp2_with fail
        refine (ldCnt_any HT5.out.led).mono ?_
        rintro e w8 ⟨rfl, rfl⟩
        go_wp2_with fail
        refine (refFree_any HT5.out.ref).mono ?_
        rintro e w8 ⟨rfl, rfl⟩
        generalize cnt _ n = cf
        go_wp2
        go_loopw [14] (fun i wz => ∃ x : Int, -1 ≤ x ∧ x ≤ (n : Int) + 1 ∧ i = .int .i64 x ∧ wz = w8) (fun i _ => ((n : Int) + 1 - intOf i).toNat)
        case atStart => exact ⟨-1, by omega, by omega, rfl, rfl⟩
        case round =>
          obtain ⟨x, hx1, hx2, rfl, rfl⟩ := hrel
          by_cases hxn : x ≤ (n : Int)
          · by_cases h0 : 0 ≤ x
            · by_cases h1 : x < (n : Int)
              · by_cases h2 : x < 2
                · go_wp2_with fail
                  refine (ldIn_any HT5.out.led x).mono ?_
                  rw [in_low h0 h1 h2]
                  rintro e w9 ⟨rfl, rfl⟩
                  go_wp2
                  exact ⟨⟨x + 1, by omega, by omega, by go_num, by trivial⟩, by simp [intOf]; omega⟩
                · have hu := Lib.hid (refUsed_any HT5.out.ref x)
                  have hv := Lib.hid (ldIn_any HT5.out.led x)
                  rw [in_used h1 h2] at hv
                  generalize (decide (x ∈ lo) || decide (x ∈ ln) || decide (x ∈ [])) = u at hu hv
                  go_wp2_with fail
                  refine hu.out.mono ?_
                  rintro e w9 ⟨rfl, rfl⟩
                  go_wp2_with fail
                  refine hv.out.mono ?_
                  rintro e w9 ⟨rfl, rfl⟩
                  go_wp2
                  exact ⟨⟨x + 1, by omega, by omega, by go_num, by trivial⟩, by simp [intOf]; omega⟩
              · go_wp2_with fail
                refine (ldIn_any HT5.out.led x).mono ?_
                rw [in_high (by omega)]
                rintro e w9 ⟨rfl, rfl⟩
                go_wp2
                exact ⟨⟨x + 1, by omega, by omega, by go_num, by trivial⟩, by simp [intOf]; omega⟩
            · go_wp2_with fail
              refine (ldIn_any HT5.out.led x).mono ?_
              rw [in_neg (by omega)]
              rintro e w9 ⟨rfl, rfl⟩
              go_wp2
              exact ⟨⟨x + 1, by omega, by omega, by go_num, by trivial⟩, by simp [intOf]; omega⟩
          · go_wp2
            exact ⟨⟨k + 1, by omega, by go_num, Lib.hid ⟨_, _, _, HT5.out, by first | omega | (simp; done) | (rw [List.length_append, List.length_singleton]; omega)⟩⟩, by simp [intOf]; omega⟩
      by_cases h4 : ok = 4
      · subst h4
        have c1 := HC1.out
        have c2 := HC2.out
        rw [HWA.out] at c1 c2
        go_wp2_with fail
        rw [← HWA.out]
        clear c1 c2
        refine (ldReset_any HTA.out.led (HO.out.1.below HTA.out.bel).fst (HO.out.1.below HTA.out.bel).snd).mono ?_
        rintro e w4 ⟨rfl, hd4, hk4⟩
        have HD4 := Lib.hid (show Led w4 b n (memB n ol) (memB n orr) (memB n []) by rw [memB_nil]; exact hd4)
        have HK4 := Lib.hid hk4
        have HX4 := Lib.hid (HX.out.led HTA.out.led hk4)
        have HRB := Lib.hid (HTA.out.ref1 hk4)
        clear hd4 hk4
        obtain ⟨W, hW⟩ : ∃ W, W = w4.drew := ⟨_, rfl⟩
        have hbW : Below w4.heap.size w4 W := by rw [hW]; exact (Below.refl _ _).drew
        obtain ⟨g, hg⟩ : ∃ g, g = wr.heap.size := ⟨_, rfl⟩
        rw [← hg] at HX4
        obtain ⟨vO, vN, vT, hrl⟩ := HRB.out.1.below hbW
        obtain ⟨x, hx⟩ : ∃ x : KS, x = ⟨W, w.heap.size, r, n, g, ⟨4, oA, on, oc, ol, oB, om, od, orr⟩⟩ := ⟨_, rfl⟩
        have KB := Lib.hid (show x.b = r by rw [hx])
        have KG := Lib.hid (show x.g = g by rw [hx])
        have KO := Lib.hid (show x.o = ⟨4, oA, on, oc, ol, oB, om, od, orr⟩ by rw [hx])
        have KW := Lib.hid (show x.w0 = W by rw [hx])
        have KBB := Lib.hid (show x.B = w.heap.size by rw [hx])
        have KN := Lib.hid (show x.n = n by rw [hx])
        have KR := Lib.hid (show RefL x.B x.w0 x.b x.n vO vN vT lo ln lt by rw [hx]; exact hrl)
        have hg0 : x.G W := ⟨by rw [KW.out]; exact Keep.refl _ _, ⟨vO, vN, vT, by have := KR.out.box; rw [KW.out] at this; exact this⟩, by rw [KBB.out]; exact Nat.le_trans HRB.out.2.1 hbW.size⟩
        have KG0 := Lib.hid hg0
        have boxW := HX4.out.below hbW
        have hgr : g ≠ r := fun e => by
          have h1 := hrl.box
          rw [← e, show W.heap[g]? = _ from boxW] at h1
          cases h1
        have boxG : ∀ w', x.G w' → BoxO w' g ⟨4, oA, on, oc, ol, oB, om, od, orr⟩ := fun w' hG => by
          have hk := hG.keep
          rw [KW.out, KB.out] at hk
          exact (hk.block g (lt_of_block boxW) hgr).trans boxW
        have KC1 := Lib.hid (fun w' (hG : x.G w') => cell_at (boxG w' hG) 1 _ rfl)
        have KC2 := Lib.hid (fun w' (hG : x.G w') => cell_at (boxG w' hG) 2 _ rfl)
        have hbl : ∀ w', x.G w' → Below w.heap.size w w' := fun w' hG => by
          have hk := hG.keep
          rw [KW.out, KB.out] at hk
          exact (HRB.out.2.2.trans (hbW.mono HRB.out.2.1)).trans (hk.below (Nat.le_trans HRB.out.2.1 hbW.size) (by rintro i rfl; exact hrl.above))
        have KA1 := Lib.hid (fun w' (hG : x.G w') => (HO.out.1.below (hbl w' hG)).fst)
        have KA2 := Lib.hid (fun w' (hG : x.G w') => (HO.out.1.below (hbl w' hG)).snd)
        have HW := Lib.hid hW
        have HBW := Lib.hid hbW
        have HLL := Lib.hid (show x.o.l.length ≤ 1000 ∧ x.o.r.length ≤ 1000 by
          rw [KO.out]
          have h1 : ol.length = on := HO.out.1.fst.len
          have h2 : orr.length = om := HO.out.1.snd.len
          exact ⟨by show ol.length ≤ 1000; omega, by show orr.length ≤ 1000; omega⟩)
        have HGE := Lib.hid hg
        clear hW hbW hrl hx hg0 boxW hgr boxG hbl
        go_wp2
        rw [← HGE.out]
        clear hg
        refine Dx.wp_region_stores x.D (x.ok _) (by kernel_rfl) (by kernel_rfl) (by kernel_rfl) (by kernel_rfl) (x.none (by kernel_rfl)) (by rw [← HW.out]; exact KG0.out) (fun _ => trivial) ?_ ?_
        · refine ⟨?_, ?_, ?_, ?_, ?_, ?_, ?_, ?_, ?_, ?_, ?_, ?_, ?_, ?_, ?_, ?_, ?_, ?_, ?_, ?_, trivial⟩
          · refine Dx.step_val fun a' w' hG hs hd hN => ?_
            have h1 : a'.eval (.tmp 7) = .pointer (some ⟨r, 0, none⟩) := hs 7 (by kernel_rfl)
            refine ⟨.pointer (some ⟨r, 0, none⟩), w', ?_, x.quiet _ w', (by show _ = Value.pointer (some ⟨x.b, 0, none⟩); rw [KB.out])⟩
            clear hd hs hN hG
            simp only [execOp, h1]
            go_simp
          · refine Dx.step_val fun a' w' hG hs hd hN => ?_
            have h1 : a'.eval (.tmp 7) = .pointer (some ⟨r, 0, none⟩) := hs 7 (by kernel_rfl)
            refine ⟨.pointer (some ⟨r, 0, none⟩), w', ?_, x.quiet _ w', (by show _ = Value.pointer (some ⟨x.b, 0, none⟩); rw [KB.out])⟩
            clear hd hs hN hG
            simp only [execOp, h1]
            go_simp
          · refine Dx.step_val fun a' w' hG hs hd hN => ?_
            have h1 : a'.eval (.tmp 7) = .pointer (some ⟨r, 0, none⟩) := hs 7 (by kernel_rfl)
            refine ⟨.pointer (some ⟨r, 0, none⟩), w', ?_, x.quiet _ w', (by show _ = Value.pointer (some ⟨x.b, 0, none⟩); rw [KB.out])⟩
            clear hd hs hN hG
            simp only [execOp, h1]
            go_simp
          · refine Dx.step_val fun a' w' hG hs hd hN => ?_
            have hG : x.G w' := hG
            refine ⟨.slice (some ⟨w'.heap.size, 0, none⟩) 0 0, w'.alloc (.cells #[] 3), ?_, .inl ((Below.refl _ _).alloc (Nat.le_refl _) _), ⟨_, rfl, heap_alloc_new w' _, hG.base⟩⟩
            clear hd hs hN hG
            simp only [execOp, List.map_toArray, List.map_nil]
            go_simp
          · refine Dx.step_val fun a' w' hG hs hd hN => ?_
            have h1 : a'.eval (.tmp 9) = .pointer (some ⟨g, 0, none⟩) := hs 9 (by kernel_rfl)
            refine ⟨.pointer (some ⟨g, 1, none⟩), w', ?_, x.quiet _ w', (by show _ = Value.pointer (some ⟨x.g, 1, none⟩); rw [KG.out])⟩
            clear hd hs hN hG
            simp only [execOp, h1]
            go_simp
          · refine Dx.step_val fun a' w' hG hs hd hN => ?_
            have h1 : a'.eval (.tmp 94) = .pointer (some ⟨x.g, 1, none⟩) := hd 4 (by decide)
            rw [KG.out] at h1
            have hc := KC1.out w' hG
            refine ⟨.slice oA on oc, w', ?_, x.quiet _ w', (by show _ = Value.slice x.o.A x.o.n x.o.c; rw [KO.out])⟩
            clear hd hs hN hG
            simp only [execOp, h1]
            go_simp
          · refine Dx.step_val fun a' w' hG hs hd hN => ?_
            obtain ⟨h', h1, hh, hB⟩ : Emp x.B (a'.eval (.tmp 93)) w' := hd 3 (by decide)
            have h2 : a'.eval (.tmp 95) = .slice x.o.A x.o.n x.o.c := hd 5 (by decide)
            rw [KO.out] at h2
            have hG : x.G w' := hG
            obtain ⟨v', w'', hr, ho, hbl⟩ := run_append_empty (c := oc) hh (KA1.out w' hG).ls (KA1.out w' hG).len (by omega) hB hG.base
            refine ⟨v', w'', ?_, .inl hbl, ?_⟩
            · clear hd hs hN hG ho hbl hh hB
              simp only [execOp, resolve, invoke, builtin, Sem.run_bind, Sem.run_pure, Result.andThen_ok, List.map_toArray, List.map_cons, List.map_nil, h1, h2, hr]
            · show OwnI w'' x.B v' x.o.l
              rw [KO.out]
              exact ho
          · refine Dx.step_val fun a' w' hG hs hd hN => ?_
            have hG : x.G w' := hG
            refine ⟨.slice (some ⟨w'.heap.size, 0, none⟩) 0 0, w'.alloc (.cells #[] 3), ?_, .inl ((Below.refl _ _).alloc (Nat.le_refl _) _), ⟨_, rfl, heap_alloc_new w' _, hG.base⟩⟩
            clear hd hs hN hG
            simp only [execOp, List.map_toArray, List.map_nil]
            go_simp
          · refine Dx.step_val fun a' w' hG hs hd hN => ?_
            have h1 : a'.eval (.tmp 9) = .pointer (some ⟨g, 0, none⟩) := hs 9 (by kernel_rfl)
            refine ⟨.pointer (some ⟨g, 2, none⟩), w', ?_, x.quiet _ w', (by show _ = Value.pointer (some ⟨x.g, 2, none⟩); rw [KG.out])⟩
            clear hd hs hN hG
            simp only [execOp, h1]
            go_simp
          · refine Dx.step_val fun a' w' hG hs hd hN => ?_
            have h1 : a'.eval (.tmp 98) = .pointer (some ⟨x.g, 2, none⟩) := hd 8 (by decide)
            rw [KG.out] at h1
            have hc := KC2.out w' hG
            refine ⟨.slice oB om od, w', ?_, x.quiet _ w', (by show _ = Value.slice x.o.B x.o.m x.o.d; rw [KO.out])⟩
            clear hd hs hN hG
            simp only [execOp, h1]
            go_simp
          · refine Dx.step_val fun a' w' hG hs hd hN => ?_
            obtain ⟨h', h1, hh, hB⟩ : Emp x.B (a'.eval (.tmp 97)) w' := hd 7 (by decide)
            have h2 : a'.eval (.tmp 99) = .slice x.o.B x.o.m x.o.d := hd 9 (by decide)
            rw [KO.out] at h2
            have hG : x.G w' := hG
            obtain ⟨v', w'', hr, ho, hbl⟩ := run_append_empty (c := od) hh (KA2.out w' hG).ls (KA2.out w' hG).len (by omega) hB hG.base
            refine ⟨v', w'', ?_, .inl hbl, ?_⟩
            · clear hd hs hN hG ho hbl hh hB
              simp only [execOp, resolve, invoke, builtin, Sem.run_bind, Sem.run_pure, Result.andThen_ok, List.map_toArray, List.map_cons, List.map_nil, h1, h2, hr]
            · show OwnI w'' x.B v' x.o.r
              rw [KO.out]
              exact ho
          · refine Dx.step_val fun a' w' hG hs hd hN => ?_
            have h1 : a'.eval (.tmp 90) = .pointer (some ⟨x.b, 0, none⟩) := hd 0 (by decide)
            rw [KB.out] at h1
            refine ⟨.pointer (some ⟨r, 0, none⟩), w', ?_, x.quiet _ w', (by show _ = Value.pointer (some ⟨x.b, 0, none⟩); rw [KB.out])⟩
            clear hd hs hN hG
            simp only [execOp, h1]
            go_simp
          · refine Dx.step_val fun a' w' hG hs hd hN => ?_
            have h1 : a'.eval (.tmp 101) = .pointer (some ⟨x.b, 0, none⟩) := hd 11 (by decide)
            rw [KB.out] at h1
            refine ⟨.pointer (some ⟨r, 1, none⟩), w', ?_, x.quiet _ w', (by show _ = Value.pointer (some ⟨x.b, 1, none⟩); rw [KB.out])⟩
            clear hd hs hN hG
            simp only [execOp, h1]
            go_simp
          · refine Dx.step_skip fun a' w' hG hs hd hN => ?_
            have hG : x.G w' := hG
            have h1 : a'.eval (.tmp 102) = .pointer (some ⟨x.b, 1, none⟩) := hd 12 (by decide)
            rw [KB.out] at h1
            have ho : OwnI w' x.B (a'.eval (.tmp 96)) x.o.l := hd 6 (by decide)
            obtain ⟨A', c', h2, _⟩ := OwnL.form ho
            rw [h2] at ho
            obtain ⟨u1, u2, u3, hbx⟩ := hG.box
            refine ⟨w'.setCell ⟨r, 1, none⟩ (.slice A' x.o.l.length c'), ?_, .inr ⟨1, .slice A' x.o.l.length c', by omega, by rw [KB.out]⟩, ?_⟩
            · have hb0 : w'.heap[r]? = some (.cells #[.int .i64 (x.n : Int), u1, u2, u3] 40 (0, 0)) := by rw [← KB.out]; exact hbx
              have hc := cell_at hb0 1 _ rfl
              have hf := free_at hb0 1
              clear hd hs hN hG hb0 hbx ho
              simp only [execOp, h1, h2]
              go_simp
            · rw [← KB.out]
              exact ⟨_, _, _, hbx.set1 _, hbx.own ho _ _⟩
          · refine Dx.step_val fun a' w' hG hs hd hN => ?_
            have h1 : a'.eval (.tmp 91) = .pointer (some ⟨x.b, 0, none⟩) := hd 1 (by decide)
            rw [KB.out] at h1
            refine ⟨.pointer (some ⟨r, 0, none⟩), w', ?_, x.quiet _ w', (by show _ = Value.pointer (some ⟨x.b, 0, none⟩); rw [KB.out])⟩
            clear hd hs hN hG
            simp only [execOp, h1]
            go_simp
          · refine Dx.step_val fun a' w' hG hs hd hN => ?_
            have h1 : a'.eval (.tmp 103) = .pointer (some ⟨x.b, 0, none⟩) := hd 14 (by decide)
            rw [KB.out] at h1
            refine ⟨.pointer (some ⟨r, 2, none⟩), w', ?_, x.quiet _ w', (by show _ = Value.pointer (some ⟨x.b, 2, none⟩); rw [KB.out])⟩
            clear hd hs hN hG
            simp only [execOp, h1]
            go_simp
          · refine Dx.step_skip fun a' w' hG hs hd hN => ?_
            have hG : x.G w' := hG
            have h1 : a'.eval (.tmp 104) = .pointer (some ⟨x.b, 2, none⟩) := hd 15 (by decide)
            rw [KB.out] at h1
            have ho : OwnI w' x.B (a'.eval (.tmp 100)) x.o.r := hd 10 (by decide)
            obtain ⟨A', c', h2, _⟩ := OwnL.form ho
            rw [h2] at ho
            obtain ⟨u1, u2, u3, hbx⟩ := hG.box
            refine ⟨w'.setCell ⟨r, 2, none⟩ (.slice A' x.o.r.length c'), ?_, .inr ⟨2, .slice A' x.o.r.length c', by omega, by rw [KB.out]⟩, ?_⟩
            · have hb0 : w'.heap[r]? = some (.cells #[.int .i64 (x.n : Int), u1, u2, u3] 40 (0, 0)) := by rw [← KB.out]; exact hbx
              have hc := cell_at hb0 2 _ rfl
              have hf := free_at hb0 2
              clear hd hs hN hG hb0 hbx ho
              simp only [execOp, h1, h2]
              go_simp
            · rw [← KB.out]
              exact ⟨_, _, _, hbx.set2 _, hbx.own ho _ _⟩
          · refine Dx.step_val fun a' w' hG hs hd hN => ?_
            have h1 : a'.eval (.tmp 92) = .pointer (some ⟨x.b, 0, none⟩) := hd 2 (by decide)
            rw [KB.out] at h1
            refine ⟨.pointer (some ⟨r, 0, none⟩), w', ?_, x.quiet _ w', (by show _ = Value.pointer (some ⟨x.b, 0, none⟩); rw [KB.out])⟩
            clear hd hs hN hG
            simp only [execOp, h1]
            go_simp
          · refine Dx.step_val fun a' w' hG hs hd hN => ?_
            have h1 : a'.eval (.tmp 105) = .pointer (some ⟨x.b, 0, none⟩) := hd 17 (by decide)
            rw [KB.out] at h1
            refine ⟨.pointer (some ⟨r, 3, none⟩), w', ?_, x.quiet _ w', (by show _ = Value.pointer (some ⟨x.b, 3, none⟩); rw [KB.out])⟩
            clear hd hs hN hG
            simp only [execOp, h1]
            go_simp
          · refine Dx.step_skip fun a' w' hG hs hd hN => ?_
            have hG : x.G w' := hG
            have h1 : a'.eval (.tmp 106) = .pointer (some ⟨x.b, 3, none⟩) := hd 18 (by decide)
            rw [KB.out] at h1
            obtain ⟨u1, u2, u3, hbx⟩ := hG.box
            refine ⟨w'.setCell ⟨r, 3, none⟩ (.slice none 0 0), ?_, .inr ⟨3, .slice none 0 0, by omega, by rw [KB.out]⟩, ?_⟩
            · have hb0 : w'.heap[r]? = some (.cells #[.int .i64 (x.n : Int), u1, u2, u3] 40 (0, 0)) := by rw [← KB.out]; exact hbx
              have hc := cell_at hb0 3 _ rfl
              have hf := free_at hb0 3
              clear hd hs hN hG hb0 hbx
              simp only [execOp, h1]
              go_simp
            · rw [← KB.out]
              exact ⟨_, _, hbx.set3 _⟩
        intro f wf hG hf
        have HDN := Lib.hid (x.done (f := f) hG (hf 13 (by decide)) (hf 16 (by decide)) (hf 19 (by decide)) KR.out HLL.out.1 HLL.out.2)
        have HT6 := Lib.hid (show Both w wf b r n ol orr [] by
          have h := HDN.out
          rw [KB.out, KBB.out, KN.out, KO.out, KW.out] at h
          exact HTA.out.step HD4.out HK4.out h.1 ((RK.of_below HBW.out).trans h.2))
        clear hf hG HDN KB KG KO KW KBB KN KR KG0 KC1 KC2 KA1 KA2 HLL HD4 HK4 HTA HRB HX4
        simp only [Dv.putAll, Nat.zero_add, Nat.reduceAdd]
        generalize f 0 = f0
        generalize f 1 = f1
        generalize f 2 = f2
        generalize f 3 = f3
        generalize f 4 = f4
        generalize f 5 = f5
        generalize f 6 = f6
        generalize f 7 = f7
        generalize f 8 = f8
        generalize f 9 = f9
        generalize f 10 = f10
        generalize f 11 = f11
        generalize f 12 = f12
        generalize f 13 = f13
        generalize f 14 = f14
        generalize f 15 = f15
        generalize f 16 = f16
        generalize f 17 = f17
        generalize f 18 = f18
        generalize f 19 = f19
        go_wp2_with fail
        refine (ldCnt_any HT6.out.led).mono ?_
        rintro e w8 ⟨rfl, rfl⟩
        go_wp2_with fail
        refine (refFree_any HT6.out.ref).mono ?_
        rintro e w8 ⟨rfl, rfl⟩
        generalize cnt _ n = cf
        go_wp2
        go_loopw [14] (fun i wz => ∃ x : Int, -1 ≤ x ∧ x ≤ (n : Int) + 1 ∧ i = .int .i64 x ∧ wz = w8) (fun i _ => ((n : Int) + 1 - intOf i).toNat)
        case atStart => exact ⟨-1, by omega, by omega, rfl, rfl⟩
        case round =>
          obtain ⟨x, hx1, hx2, rfl, rfl⟩ := hrel
          by_cases hxn : x ≤ (n : Int)
          · by_cases h0 : 0 ≤ x
            · by_cases h1 : x < (n : Int)
              · by_cases h2 : x < 2
                · go_wp2_with fail
                  refine (ldIn_any HT6.out.led x).mono ?_
                  rw [in_low h0 h1 h2]
                  rintro e w9 ⟨rfl, rfl⟩
                  go_wp2
                  exact ⟨⟨x + 1, by omega, by omega, by go_num, by trivial⟩, by simp [intOf]; omega⟩
                · have hu := Lib.hid (refUsed_any HT6.out.ref x)
                  have hv := Lib.hid (ldIn_any HT6.out.led x)
                  rw [in_used h1 h2] at hv
                  generalize (decide (x ∈ ol) || decide (x ∈ orr) || decide (x ∈ [])) = u at hu hv
                  go_wp2_with fail
                  refine hu.out.mono ?_
                  rintro e w9 ⟨rfl, rfl⟩
                  go_wp2_with fail
                  refine hv.out.mono ?_
                  rintro e w9 ⟨rfl, rfl⟩
                  go_wp2
                  exact ⟨⟨x + 1, by omega, by omega, by go_num, by trivial⟩, by simp [intOf]; omega⟩
              · go_wp2_with fail
                refine (ldIn_any HT6.out.led x).mono ?_
                rw [in_high (by omega)]
                rintro e w9 ⟨rfl, rfl⟩
                go_wp2
                exact ⟨⟨x + 1, by omega, by omega, by go_num, by trivial⟩, by simp [intOf]; omega⟩
            · go_wp2_with fail
              refine (ldIn_any HT6.out.led x).mono ?_
              rw [in_neg (by omega)]
              rintro e w9 ⟨rfl, rfl⟩
              go_wp2
              exact ⟨⟨x + 1, by omega, by omega, by go_num, by trivial⟩, by simp [intOf]; omega⟩
          · go_wp2
            exact ⟨⟨k + 1, by omega, by go_num, Lib.hid ⟨_, _, _, HT6.out, by first | omega | (simp; done) | (rw [List.length_append, List.length_singleton]; omega)⟩⟩, by simp [intOf]; omega⟩
      go_wp2_with fail
      rw [← HWA.out]
      refine (ldCnt_any HTA.out.led).mono ?_
      rintro e w8 ⟨rfl, rfl⟩
      go_wp2_with fail
      refine (refFree_any HTA.out.ref).mono ?_
      rintro e w8 ⟨rfl, rfl⟩
      generalize cnt _ n = cf
      go_wp2
      go_loopw [14] (fun i wz => ∃ x : Int, -1 ≤ x ∧ x ≤ (n : Int) + 1 ∧ i = .int .i64 x ∧ wz = w8) (fun i _ => ((n : Int) + 1 - intOf i).toNat)
      case atStart => exact ⟨-1, by omega, by omega, rfl, rfl⟩
      case round =>
        obtain ⟨x, hx1, hx2, rfl, rfl⟩ := hrel
        by_cases hxn : x ≤ (n : Int)
        · by_cases h0 : 0 ≤ x
          · by_cases h1 : x < (n : Int)
            · by_cases h2 : x < 2
              · go_wp2_with fail
                refine (ldIn_any HTA.out.led x).mono ?_
                rw [in_low h0 h1 h2]
                rintro e w9 ⟨rfl, rfl⟩
                go_wp2
                exact ⟨⟨x + 1, by omega, by omega, by go_num, by trivial⟩, by simp [intOf]; omega⟩
              · have hu := Lib.hid (refUsed_any HTA.out.ref x)
                have hv := Lib.hid (ldIn_any HTA.out.led x)
                rw [in_used h1 h2] at hv
                generalize (decide (x ∈ lo) || decide (x ∈ ln) || decide (x ∈ lt)) = u at hu hv
                go_wp2_with fail
                refine hu.out.mono ?_
                rintro e w9 ⟨rfl, rfl⟩
                go_wp2_with fail
                refine hv.out.mono ?_
                rintro e w9 ⟨rfl, rfl⟩
                go_wp2
                exact ⟨⟨x + 1, by omega, by omega, by go_num, by trivial⟩, by simp [intOf]; omega⟩
            · go_wp2_with fail
              refine (ldIn_any HTA.out.led x).mono ?_
              rw [in_high (by omega)]
              rintro e w9 ⟨rfl, rfl⟩
              go_wp2
              exact ⟨⟨x + 1, by omega, by omega, by go_num, by trivial⟩, by simp [intOf]; omega⟩
          · go_wp2_with fail
            refine (ldIn_any HTA.out.led x).mono ?_
            rw [in_neg (by omega)]
            rintro e w9 ⟨rfl, rfl⟩
            go_wp2
            exact ⟨⟨x + 1, by omega, by omega, by go_num, by trivial⟩, by simp [intOf]; omega⟩
        · go_wp2
          exact ⟨⟨k + 1, by omega, by go_num, Lib.hid ⟨_, _, _, HTA.out, by first | omega | (simp; done) | (rw [List.length_append, List.length_singleton]; omega)⟩⟩, by simp [intOf]; omega⟩
    · have he : k = m := by omega
      subst he
      go_wp2_with fail
      refine (ldCnt_any HTT.out.led).mono ?_
      rintro e w8 ⟨rfl, rfl⟩
      go_wp2_with fail
      refine (refFree_any HTT.out.ref).mono ?_
      rintro e w8 ⟨rfl, rfl⟩
      generalize cnt _ n = cf
      go_wp2
      go_ret
      exact ⟨by simp, HTT.out.bel⟩

    end Go.Proofs.Ytpchihgdcpbjiaa

namespace Go.Proofs.Ytpchihgdcpbjiaa.ledgerPlays
open Go.ChangeShapes Go.WideShapes Go.ChangeAt Go.RowKit
open Go.ChangeMaps (open_string shut_string)
set_option linter.unusedVariables false

theorem own : ownKnob Try.prog.godebug = none := by kernel_rfl
theorem laidOut : laidOutB Try.prog = true := by kernel_rfl

set_option maxRecDepth 100000 in
theorem lifted (os : Os) (started : os.Started) (H : Type) (enc : TypeId × Value → H) :
    ReturnsInHanded {} Try.checked os 3 .any (Rows.ledgerPlaysSpec.pre6 enc Try.prog Try.f3 Rows.ledgerPlaysRow.domain false) (Rows.ledgerPlaysSpec.post enc Try.prog Try.f3 false true false false) := by
  refine returnsInHanded_of_change_sized (C := Try.checked) own started (by kernel_rfl) Try.func3
    (ChangeSpec.witness6 (enc := enc) (C := Try.checked) false ⟨#[], #[.int .u8 0, .slice none 0 0], []⟩ 8 (by kernel_rfl) (by kernel_rfl) (by kernel_rfl) (by kernel_rfl)) ?_
  intro W base args ds gs before hval0 hW hcnd hsz0 _
  have hval : ∀ (j : Nat) t v, Try.f3.params[j]? = some t → args[j]? = some v → Value.okWide Try.prog W .any base t v := hval0
  have hsz : (DataW.weightsEach Try.prog (Try.f3.params.toList ++ Rows.ledgerPlaysSpec.plain.varTypes Try.prog) (ds ++ gs)).all (· ≤ reachBytes) = true := hsz0
  have hW' := hW
  obtain ⟨p, q, hA0, hV, rfl, hfz, hnd⟩ := hW
  have hA : DataW.TrodAll enc Try.prog W 0 (fun _ => true) true Try.f3.params.toList args.toList ds p := hA0
  rw [Try.params3] at hA hval hsz
  obtain ⟨v0, vs0, d0, ds0, p0, q0, hargs, rfl, rfl, h0, r0⟩ := trodAll_cons hA
  obtain ⟨v1, vs1, d1, ds1, p1, q1, rfl, rfl, rfl, h1, r1⟩ := trodAll_cons r0
  obtain ⟨rfl, rfl, rfl⟩ := trodAll_nil r1
  obtain rfl : args = #[v0, v1] := by cases args; simp_all
  obtain ⟨rfl, rfl⟩ := trodVars_none hV
  obtain ⟨a0, rfl, rfl, rfl, w0⟩ := open_int Try.underlying5 (hval 0 5 v0 rfl rfl) h0
  obtain ⟨A1, n1, c1, rfl⟩ := okWide_slice Try.underlying22 (hval 1 22 v1 rfl rfl)
  have k1 := h1
  have lt1 : ∀ x ∈ p1, x.block < W.heap.size := by obtain ⟨m, hm⟩ := k1; exact DataW.trod_lt m _ _ _ hm
  obtain ⟨l1, w1⟩ := open_lops h1 (fun m hm => of_decide_eq_true (List.all_eq_true.1 hsz _ (DataW.weights_mem_each (j := 1) (t := 22) rfl rfl m hm)))
  clear hA0 hval0 hsz hsz0
  refine (ledgerPlays_walk a0 A1 n1 c1 l1 W w0 w1).mono fun e W' ⟨he, bel⟩ => ?_
  subst he
  exact ⟨_, rfl, _, _, _, [], _, [], hW', trodAll_mk1 (shut_bool Try.underlying4 _), (trodAll_cons_mk (shut_int Try.underlying5 w0) (trodAll_cons_mk (Below.trod laidOut (by kernel_rfl) (of_decide_eq_true (by kernel_rfl)) k1 bel lt1) trodAll_mk0)), rfl, bel.frame _, fun h => by cases h⟩

theorem over : Rows.ledgerPlaysRow.holds Try.pinned (OpenSpec.ofChange Rows.ledgerPlaysSpec) :=
  OpenClaim.holds_of_wide 3 Try.f3 rfl rfl rfl rfl rfl rfl rfl ⟨rfl, rfl, rfl, rfl, rfl⟩ rfl rfl rfl rfl rfl (by kernel_rfl) Try.func3 (by kernel_rfl)
    (of_decide_eq_true (by kernel_rfl)) (by unfold Func.isWrapper; first | (rw [if_pos (by decide +kernel)]; kernel_rfl) | (rw [if_neg (by decide +kernel)]; exact ⟨rfl, rfl⟩))
    (fun os started H enc _ => lifted os started H enc)

theorem proved : Rows.LedgerPlaysSaid := over
#print axioms proved

end Go.Proofs.Ytpchihgdcpbjiaa.ledgerPlays
