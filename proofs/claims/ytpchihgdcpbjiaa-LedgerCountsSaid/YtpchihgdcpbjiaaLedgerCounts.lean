/-
  LedgerCounts: what is free and what is in use is all, and each Take makes one fewer; for every number of pages, all lists and every number of takes; no condition beyond the row's.
-/
import Derived.Test.YtpchihgdcpbjiaaLedHelp
namespace Go.Proofs.Ytpchihgdcpbjiaa
open Go.RowKit Go.Sort Go.ChangeShapes Go.WideShapes
set_option linter.unusedVariables false
set_option linter.unusedSimpArgs false

theorem small_of {k : IntKind} {x : Int} {b : Nat} (h : (Lit.int k x).wf = true) (hk : k.min = 0) (hb : k.max = (b : Int)) : ∃ y : Nat, y ≤ b ∧ x = (y : Int) := by
  have : k.min ≤ x ∧ x ≤ k.max := by simpa [Lit.wf] using h
  exact ⟨x.toNat, by omega, by omega⟩
theorem cnt_shift (q r : Nat → Bool) (d : Nat) (h0 : ∀ j, j < d → q j = false) (h1 : ∀ i, q (d + i) = r i) : ∀ m, cnt q (d + m) = cnt r m
  | 0 => cnt_zero h0
  | m + 1 => by
    rw [show d + (m + 1) = (d + m) + 1 by omega]
    unfold cnt
    rw [cnt_shift q r d h0 h1 m, h1 m]
theorem cnt_cut (r : Nat → Bool) (n : Nat) (h : ∀ i, n ≤ i → r i = false) : ∀ m, cnt r (n + m) = cnt r n
  | 0 => rfl
  | m + 1 => by
    rw [show n + (m + 1) = (n + m) + 1 by omega, cnt_no (h _ (by omega)), cnt_cut r n h m]
/-- Is the page j - 5 in use? -/
def useAt (n : Nat) (o v t : Nat → Bool) : Nat → Bool := fun j => inUse n o v t ((j : Int) - 5)
theorem use_all (n : Nat) (o v t : Nat → Bool) : cnt (useAt n o v t) (n + 10) + cnt (fr o v t) n = n := by
  have h1 : cnt (useAt n o v t) (5 + (n + 5)) = cnt (fun i => decide (i < n) && !fr o v t i) (n + 5) := cnt_shift _ _ 5 (fun j hj => by simp [useAt, inUse]; omega) (fun i => by
    have e1 : ((5 + i : Nat) : Int) - 5 = (i : Int) := by omega
    unfold useAt
    rw [e1]
    simp [inUse]) _
  have h2 := cnt_cut (fun i => decide (i < n) && !fr o v t i) n (fun i hi => by simp; omega) 5
  have h3 : cnt (fun i => decide (i < n) && !fr o v t i) n = cnt (fun i => !fr o v t i) n := cnt_congr fun i hi => by simp [hi]
  have h4 := cnt_not (fr o v t) n
  rw [show n + 10 = 5 + (n + 5) by omega, h1, h2, h3]
  omega

set_option maxRecDepth 100000 in
set_option maxHeartbeats 4000000 in
theorem ledgerCounts_walk (y0 : Int) (A : Option Addr) (m c : Nat) (l : List Int) (C : Option Addr) (k d : Nat) (r : List Int) (z0 : Int) (w : World) (hy : (Lit.int .u16 y0).wf = true) (ha : ArgI w A m c l) (hc : ArgI w C k d r) (hz : (Lit.int .u8 z0).wf = true) :
    Calls Try.prog 7 #[.int .u16 y0, .slice A m c, .slice C k d, .int .u8 z0] w fun e w' => e = .returned (.bool true) ∧ Below w.heap.size w w' := by
  obtain ⟨y, hy2, rfl⟩ := small_of (b := 65535) hy rfl rfl
  obtain ⟨z, hz2, rfl⟩ := small_of (b := 255) hz rfl rfl
  obtain ⟨n, hn⟩ : ∃ n : Nat, n = y % 513 := ⟨_, rfl⟩
  have hq1 : (y : Int).tmod 513 = (n : Int) := by rw [Int.tmod_eq_emod_of_nonneg (by omega)]; omega
  have hq2 : (y : Int) % 513 = (n : Int) := by omega
  have hn5 : n ≤ 512 := by omega
  clear hn hy hz
  have hbd1 := ha.bd
  have hbd2 := hc.bd
  have HA := Lib.hid ha
  have HC := Lib.hid hc
  clear ha hc
  go_enter Try.func7, Try.ntmps7
  go_wp2_with fail
  refine (ldAwake_any w).mono ?_
  rintro e w1 ⟨rfl, hb1⟩
  by_cases hm : (300 : Int) < (m : Int) + (k : Int)
  · go_wp2_with fail
    refine (ldAwake_any _).mono ?_
    rintro e w3 ⟨rfl, hb3⟩
    go_wp2
    go_ret
    exact ⟨rfl, bthen hb1 hb3⟩
  have HB1 := Lib.hid hb1
  clear hb1
  go_wp2_with fail
  refine (ldNew_any (n : Int) w1).mono ?_
  rw [clampN_of n hn5]
  rintro e w2 ⟨b, rfl, hd2, hge, hb2⟩
  have HD2 := Lib.hid hd2
  have HB2 := Lib.hid (bthen HB1.out hb2)
  have HG := Lib.hid (show ∀ i, i = b → w.heap.size ≤ i by rintro i rfl; exact Nat.le_trans HB1.out.size hge)
  clear hd2 hb2 hge HB1 hm
  go_wp2_with fail
  refine (ldReset_any HD2.out (HA.out.below HB2.out) (HC.out.below HB2.out)).mono ?_
  rintro e w3 ⟨rfl, hd3, hk3⟩
  have HD3 := Lib.hid hd3
  have HB3 := Lib.hid (HB2.out.trans (hk3.below HB2.out.size HG.out))
  clear hd3 hk3 HD2 HB2
  generalize memB n l = o at HD3
  generalize memB n r = v at HD3
  go_wp2_with fail
  refine (ldCnt_any HD3.out).mono ?_
  rintro e w4 ⟨rfl, rfl⟩
  go_wp2
  go_loopw [11, 41] (fun f i wr => ∃ q : Nat, q ≤ z ∧ i = .int .u8 q ∧ ∃ t, f = .int .i64 (cnt (fr o v t) n : Nat) ∧ Hid (Led wr b n o v t) ∧ Hid (Below w.heap.size w wr)) (fun _ i _ => z - (intOf i).toNat)
  case atStart => exact ⟨0, Nat.zero_le _, rfl, noMark, rfl, HD3, HB3⟩
  case round =>
    obtain ⟨q, hq, rfl, t, rfl, HD, HB⟩ := hrel
    clear HD3 HB3
    by_cases hlt : q < z
    · have hcl := cnt_le (fr o v t) n
      go_wp2_with fail
      refine (ldTake_any HD.out).mono ?_
      unfold TakePost
      cases hl : least (fr o v t) n with
      | none =>
        simp only
        rintro e w5 ⟨rfl, rfl⟩
        have hc0 := least_cnt hl
        have HC0 := Lib.hid hc0
        rw [hc0]
        clear hl hc0 hcl
        go_wp2_with fail
        refine (ldCnt_any HD.out).mono ?_
        rw [HC0.out]
        rintro e w5 ⟨rfl, rfl⟩
        go_wp2
        exact ⟨⟨q + 1, by omega, by go_num, t, by rw [HC0.out]; rfl, HD, HB⟩, by simp [intOf]; omega⟩
      | some i =>
        simp only
        rintro e w5 ⟨rfl, hd5, hk5⟩
        have HD5 := Lib.hid hd5
        have HB5 := Lib.hid (HB.out.trans (hk5.below HB.out.size HG.out))
        have hcx := cnt_take hl
        have hi := (least_is hl).1
        clear hl hd5 hk5 HD HB
        obtain ⟨c1, hc1⟩ : ∃ c1, c1 = cnt (fr o v (mark1 t i)) n := ⟨_, rfl⟩
        rw [← hc1] at hcx
        rw [hcx] at hcl ⊢
        have HC1 := Lib.hid hc1
        have hmx : max (0 : Int) ((c1 : Int) + 1 - 1) = (c1 : Int) := by omega
        have hmx2 : max (0 : Int) (c1 : Int) = (c1 : Int) := by omega
        clear hc1 hcx
        go_wp2_with fail
        refine (ldCnt_any HD5.out).mono ?_
        rw [← HC1.out]
        rintro e w6 ⟨rfl, rfl⟩
        go_wp2
        exact ⟨⟨q + 1, by omega, by go_num, mark1 t i, by rw [← HC1.out], HD5, HB5⟩, by simp [intOf]; omega⟩
    · have he : q = z := by omega
      subst he
      have HU := Lib.hid (use_all n o v t)
      go_wp2
      go_loopw [14, 15] (fun u i wr => ∃ j : Nat, j ≤ n + 10 ∧ i = .int .i64 ((j : Int) - 5) ∧ u = .int .i64 (cnt (useAt n o v t) j : Nat) ∧ Hid (Led wr b n o v t) ∧ Hid (Below w.heap.size w wr)) (fun _ i _ => (n : Int) + 5 - intOf i |>.toNat)
      case atStart => exact ⟨0, Nat.zero_le _, rfl, rfl, HD, HB⟩
      case round =>
        obtain ⟨j, hj, rfl, rfl, HDD, HBB⟩ := hrel
        clear HD HB
        have hcu := cnt_le (useAt n o v t) j
        by_cases hjl : j < n + 10
        · have hj5 : ((j : Int) - 5) < (n : Int) + 5 := by omega
          go_wp2_with fail
          refine (ldIn_any HDD.out ((j : Int) - 5)).mono ?_
          rw [show inUse n o v t ((j : Int) - 5) = useAt n o v t j from rfl]
          rintro e w7 ⟨rfl, rfl⟩
          cases hu : useAt n o v t j
          · have HE := Lib.hid (cnt_no hu)
            generalize cnt (useAt n o v t) j = cu at HE hcu ⊢
            clear hu
            go_wp2
            exact ⟨⟨j + 1, by omega, by go_num, by rw [HE.out], HDD, HBB⟩, by simp [intOf]; omega⟩
          · have HE := Lib.hid (cnt_yes hu)
            generalize cnt (useAt n o v t) j = cu at HE hcu ⊢
            clear hu
            go_wp2
            exact ⟨⟨j + 1, by omega, by go_num, by rw [HE.out]; go_num, HDD, HBB⟩, by simp [intOf]; omega⟩
        · have he : j = n + 10 := by omega
          subst he
          have hj5 : ¬ (((n + 10 : Nat) : Int) - 5) < (n : Int) + 5 := by omega
          go_wp2_with fail
          refine (ldCnt_any HDD.out).mono ?_
          have hcv := cnt_le (fr o v t) n
          have hsum := HU.out
          generalize cnt (useAt n o v t) (n + 10) = cu at hsum hcu ⊢
          generalize cnt (fr o v t) n = cf at hsum hcv ⊢
          have hs2 : (cu : Int) + (cf : Int) = (n : Int) := by omega
          rintro e w7 ⟨rfl, rfl⟩
          clear hsum
          go_wp2
          go_ret
          exact ⟨by simp [hs2], HBB.out⟩

end Go.Proofs.Ytpchihgdcpbjiaa

namespace Go.Proofs.Ytpchihgdcpbjiaa.ledgerCounts
open Go.ChangeShapes Go.WideShapes Go.ChangeAt Go.RowKit
open Go.ChangeMaps (open_string shut_string)
set_option linter.unusedVariables false

theorem own : ownKnob Try.prog.godebug = none := by kernel_rfl
theorem laidOut : laidOutB Try.prog = true := by kernel_rfl

set_option maxRecDepth 100000 in
theorem lifted (os : Os) (started : os.Started) (H : Type) (enc : TypeId × Value → H) :
    ReturnsInHanded {} Try.checked os 7 .any (Rows.ledgerCountsSpec.pre6 enc Try.prog Try.f7 Rows.ledgerCountsRow.domain false) (Rows.ledgerCountsSpec.post enc Try.prog Try.f7 false true false false) := by
  refine returnsInHanded_of_change_sized (C := Try.checked) own started (by kernel_rfl) Try.func7
    (ChangeSpec.witness6 (enc := enc) (C := Try.checked) false ⟨#[], #[.int .u16 0, .slice none 0 0, .slice none 0 0, .int .u8 0], []⟩ 8 (by kernel_rfl) (by kernel_rfl) (by kernel_rfl) (by kernel_rfl)) ?_
  intro W base args ds gs before hval0 hW hcnd hsz0 _
  have hval : ∀ (j : Nat) t v, Try.f7.params[j]? = some t → args[j]? = some v → Value.okWide Try.prog W .any base t v := hval0
  have hsz : (DataW.weightsEach Try.prog (Try.f7.params.toList ++ Rows.ledgerCountsSpec.plain.varTypes Try.prog) (ds ++ gs)).all (· ≤ reachBytes) = true := hsz0
  have hW' := hW
  obtain ⟨p, q, hA0, hV, rfl, hfz, hnd⟩ := hW
  have hA : DataW.TrodAll enc Try.prog W 0 (fun _ => true) true Try.f7.params.toList args.toList ds p := hA0
  rw [Try.params7] at hA hval hsz
  obtain ⟨v0, vs0, d0, ds0, p0, q0, hargs, rfl, rfl, h0, r0⟩ := trodAll_cons hA
  obtain ⟨v1, vs1, d1, ds1, p1, q1, rfl, rfl, rfl, h1, r1⟩ := trodAll_cons r0
  obtain ⟨v2, vs2, d2, ds2, p2, q2, rfl, rfl, rfl, h2, r2⟩ := trodAll_cons r1
  obtain ⟨v3, vs3, d3, ds3, p3, q3, rfl, rfl, rfl, h3, r3⟩ := trodAll_cons r2
  obtain ⟨rfl, rfl, rfl⟩ := trodAll_nil r3
  obtain rfl : args = #[v0, v1, v2, v3] := by cases args; simp_all
  obtain ⟨rfl, rfl⟩ := trodVars_none hV
  obtain ⟨a0, rfl, rfl, rfl, w0⟩ := open_int Try.underlying44 (hval 0 44 v0 rfl rfl) h0
  obtain ⟨A1, n1, c1, rfl⟩ := okWide_slice Try.underlying29 (hval 1 29 v1 rfl rfl)
  have k1 := h1
  have lt1 : ∀ x ∈ p1, x.block < W.heap.size := by obtain ⟨m, hm⟩ := k1; exact DataW.trod_lt m _ _ _ hm
  obtain ⟨l1, w1⟩ := open_ints h1 (fun m hm => of_decide_eq_true (List.all_eq_true.1 hsz _ (DataW.weights_mem_each (j := 1) (t := 29) rfl rfl m hm)))
  obtain ⟨A2, n2, c2, rfl⟩ := okWide_slice Try.underlying29 (hval 2 29 v2 rfl rfl)
  have k2 := h2
  have lt2 : ∀ x ∈ p2, x.block < W.heap.size := by obtain ⟨m, hm⟩ := k2; exact DataW.trod_lt m _ _ _ hm
  obtain ⟨l2, w2⟩ := open_ints h2 (fun m hm => of_decide_eq_true (List.all_eq_true.1 hsz _ (DataW.weights_mem_each (j := 2) (t := 29) rfl rfl m hm)))
  obtain ⟨a3, rfl, rfl, rfl, w3⟩ := open_int Try.underlying5 (hval 3 5 v3 rfl rfl) h3
  clear hA0 hval0 hsz hsz0
  refine (ledgerCounts_walk a0 A1 n1 c1 l1 A2 n2 c2 l2 a3 W w0 w1 w2 w3).mono fun e W' ⟨he, bel⟩ => ?_
  subst he
  exact ⟨_, rfl, _, _, _, [], _, [], hW', trodAll_mk1 (shut_bool Try.underlying4 _), (trodAll_cons_mk (shut_int Try.underlying44 w0) (trodAll_cons_mk (Below.trod laidOut (by kernel_rfl) (of_decide_eq_true (by kernel_rfl)) k1 bel lt1) (trodAll_cons_mk (Below.trod laidOut (by kernel_rfl) (of_decide_eq_true (by kernel_rfl)) k2 bel lt2) (trodAll_cons_mk (shut_int Try.underlying5 w3) trodAll_mk0)))), rfl, bel.frame _, fun h => by cases h⟩

theorem over : Rows.ledgerCountsRow.holds Try.pinned (OpenSpec.ofChange Rows.ledgerCountsSpec) :=
  OpenClaim.holds_of_wide 7 Try.f7 rfl rfl rfl rfl rfl rfl rfl ⟨rfl, rfl, rfl, rfl, rfl⟩ rfl rfl rfl rfl rfl (by kernel_rfl) Try.func7 (by kernel_rfl)
    (of_decide_eq_true (by kernel_rfl)) (by unfold Func.isWrapper; first | (rw [if_pos (by decide +kernel)]; kernel_rfl) | (rw [if_neg (by decide +kernel)]; exact ⟨rfl, rfl⟩))
    (fun os started H enc _ => lifted os started H enc)

theorem proved : Rows.LedgerCountsSaid := over
#print axioms proved

end Go.Proofs.Ytpchihgdcpbjiaa.ledgerCounts
