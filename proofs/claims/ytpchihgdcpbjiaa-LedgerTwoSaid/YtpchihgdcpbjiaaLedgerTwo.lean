/-
  LedgerTwo: what a tree holds stays held through the next commit, and is free behind the one after that; for every list; no condition beyond the row's.
-/
import Derived.Test.YtpchihgdcpbjiaaLedHelp
namespace Go.Proofs.Ytpchihgdcpbjiaa
open Go.RowKit Go.Sort Go.ChangeShapes Go.WideShapes
set_option linter.unusedVariables false
set_option linter.unusedSimpArgs false

theorem fr_swap (M : Nat → Bool) : fr noMark M noMark = fr M noMark noMark := by
  funext i
  simp [fr, noMark]
theorem inUse_held {n : Nat} {l : List Int} {x : Int} (hx : x ∈ l) (h0 : 0 ≤ x) (h1 : x < (n : Int)) : inUse n (memB n l) noMark noMark x = true := by
  have e : fr (memB n l) noMark noMark x.toNat = false := by
    by_cases h2 : 2 ≤ x.toNat
    · have : memB n l x.toNat = true := by
        simp only [memB, Bool.and_eq_true, decide_eq_true_eq]
        exact ⟨⟨h2, by omega⟩, by rwa [Int.toNat_of_nonneg h0]⟩
      simp [fr, this]
    · simp [fr, h2]
  simp [inUse, h0, h1, e]

set_option maxRecDepth 100000 in
set_option maxHeartbeats 4000000 in
theorem ledgerTwo_walk (A : Option Addr) (m c : Nat) (l : List Int) (w : World) (ha : ArgI w A m c l) :
    Calls Try.prog 5 #[.slice A m c] w fun e w' => e = .returned (.bool true) ∧ Below w.heap.size w w' := by
  have hcap := ha.cap
  have hbd := ha.bd
  have HA := Lib.hid ha
  clear ha
  go_enter Try.func5, Try.ntmps5
  go_wp2_with fail
  refine (ldAwake_any w).mono ?_
  rintro e w1 ⟨rfl, hb1⟩
  by_cases hm : 300 < m
  · go_wp2_with fail
    refine (ldAwake_any _).mono ?_
    rintro e w3 ⟨rfl, hb3⟩
    go_wp2
    go_ret
    exact ⟨rfl, bthen hb1 hb3⟩
  have HB1 := Lib.hid hb1
  clear hb1
  go_wp2_with fail
  refine (ldNew_any 64 w1).mono ?_
  rintro e w2 ⟨b, rfl, hd2, hge, hb2⟩
  have HD2 := Lib.hid (show Led w2 b 64 noMark noMark noMark from hd2)
  have HB2 := Lib.hid (bthen HB1.out hb2)
  have HG := Lib.hid (show ∀ i, i = b → w.heap.size ≤ i by rintro i rfl; exact Nat.le_trans HB1.out.size hge)
  clear hd2 hb2 hge HB1
  go_wp2_with fail
  refine (ldCommit_any HD2.out (HA.out.below HB2.out)).mono ?_
  rintro e w3 ⟨rfl, hd3, hk3⟩
  have HD3 := Lib.hid hd3
  have HB3 := Lib.hid (HB2.out.trans (hk3.below HB2.out.size HG.out))
  clear hd3 hk3 HD2 HB2
  go_wp2_with fail
  refine (ldCnt_any HD3.out).mono ?_
  rw [fr_swap]
  rintro e w4 ⟨rfl, rfl⟩
  go_wp2_with fail
  refine (ldCommit_any HD3.out (ArgI.nil w4)).mono ?_
  rw [memB_nil]
  rintro e w5 ⟨rfl, hd5, hk5⟩
  have HD5 := Lib.hid hd5
  have HB5 := Lib.hid (HB3.out.trans (hk5.below HB3.out.size HG.out))
  clear hd5 hk5 HD3 HB3
  go_wp2_with fail
  refine (ldCnt_any HD5.out).mono ?_
  rintro e w6 ⟨rfl, rfl⟩
  have hcn := cnt_le (fr (memB 64 l) noMark noMark) 64
  generalize cnt (fr (memB 64 l) noMark noMark) 64 = cn at hcn ⊢
  go_wp2
  go_loopw [29] (fun i wr => ∃ k : Nat, k ≤ m ∧ i = .int .i64 k ∧ Hid (Led wr b 64 (memB 64 l) noMark noMark) ∧ Hid (Below w.heap.size w wr)) (fun i _ => m - (intOf i).toNat)
  case atStart => exact ⟨0, Nat.zero_le _, rfl, HD5, HB5⟩
  case round =>
    obtain ⟨k, hk, rfl, HD, HB⟩ := hrel
    clear HD5 HB5
    by_cases hlt : k < m
    · obtain ⟨ad, x, rfl, hx, hl, hc⟩ := (HA.out.below HB.out).ls.atI (i := k) (by rw [HA.out.len]; exact hlt)
      have HX := Lib.hid (List.mem_of_getElem? hx)
      clear hx
      by_cases h0 : 0 ≤ x
      · by_cases h1 : x < 64
        · go_wp2_with fail
          refine (ldIn_any HD.out x).mono ?_
          rw [inUse_held HX.out h0 h1]
          rintro e w7 ⟨rfl, rfl⟩
          go_wp2
          exact ⟨⟨k + 1, by omega, by go_num, HD, HB⟩, by simp [intOf]; omega⟩
        · go_wp2
          exact ⟨⟨k + 1, by omega, by go_num, HD, HB⟩, by simp [intOf]; omega⟩
      · go_wp2
        exact ⟨⟨k + 1, by omega, by go_num, HD, HB⟩, by simp [intOf]; omega⟩
    · have he : k = m := by omega
      subst he
      go_wp2_with fail
      refine (ldCommit_any HD.out (ArgI.nil wr)).mono ?_
      rw [memB_nil]
      rintro e w7 ⟨rfl, hd7, hk7⟩
      have HD7 := Lib.hid hd7
      have HB7 := Lib.hid (HB.out.trans (hk7.below HB.out.size HG.out))
      clear hd7 hk7 HD HB
      go_wp2_with fail
      refine (ldCnt_any HD7.out).mono ?_
      rw [show cnt (fr noMark noMark noMark) 64 = 62 from by decide]
      rintro e w8 ⟨rfl, rfl⟩
      go_wp2
      go_ret
      exact ⟨rfl, HB7.out⟩

end Go.Proofs.Ytpchihgdcpbjiaa

namespace Go.Proofs.Ytpchihgdcpbjiaa.ledgerTwo
open Go.ChangeShapes Go.WideShapes Go.ChangeAt Go.RowKit
open Go.ChangeMaps (open_string shut_string)
set_option linter.unusedVariables false

theorem own : ownKnob Try.prog.godebug = none := by kernel_rfl
theorem laidOut : laidOutB Try.prog = true := by kernel_rfl

set_option maxRecDepth 100000 in
theorem lifted (os : Os) (started : os.Started) (H : Type) (enc : TypeId × Value → H) :
    ReturnsInHanded {} Try.checked os 5 .any (Rows.ledgerTwoSpec.pre6 enc Try.prog Try.f5 Rows.ledgerTwoRow.domain false) (Rows.ledgerTwoSpec.post enc Try.prog Try.f5 false true false false) := by
  refine returnsInHanded_of_change_sized (C := Try.checked) own started (by kernel_rfl) Try.func5
    (ChangeSpec.witness6 (enc := enc) (C := Try.checked) false ⟨#[], #[.slice none 0 0], []⟩ 8 (by kernel_rfl) (by kernel_rfl) (by kernel_rfl) (by kernel_rfl)) ?_
  intro W base args ds gs before hval0 hW hcnd hsz0 _
  have hval : ∀ (j : Nat) t v, Try.f5.params[j]? = some t → args[j]? = some v → Value.okWide Try.prog W .any base t v := hval0
  have hsz : (DataW.weightsEach Try.prog (Try.f5.params.toList ++ Rows.ledgerTwoSpec.plain.varTypes Try.prog) (ds ++ gs)).all (· ≤ reachBytes) = true := hsz0
  have hW' := hW
  obtain ⟨p, q, hA0, hV, rfl, hfz, hnd⟩ := hW
  have hA : DataW.TrodAll enc Try.prog W 0 (fun _ => true) true Try.f5.params.toList args.toList ds p := hA0
  rw [Try.params5] at hA hval hsz
  obtain ⟨v0, vs0, d0, ds0, p0, q0, hargs, rfl, rfl, h0, r0⟩ := trodAll_cons hA
  obtain ⟨rfl, rfl, rfl⟩ := trodAll_nil r0
  obtain rfl : args = #[v0] := by cases args; simp_all
  obtain ⟨rfl, rfl⟩ := trodVars_none hV
  obtain ⟨A0, n0, c0, rfl⟩ := okWide_slice Try.underlying29 (hval 0 29 v0 rfl rfl)
  have k0 := h0
  have lt0 : ∀ x ∈ p0, x.block < W.heap.size := by obtain ⟨m, hm⟩ := k0; exact DataW.trod_lt m _ _ _ hm
  obtain ⟨l0, w0⟩ := open_ints h0 (fun m hm => of_decide_eq_true (List.all_eq_true.1 hsz _ (DataW.weights_mem_each (j := 0) (t := 29) rfl rfl m hm)))
  clear hA0 hval0 hsz hsz0
  refine (ledgerTwo_walk A0 n0 c0 l0 W w0).mono fun e W' ⟨he, bel⟩ => ?_
  subst he
  exact ⟨_, rfl, _, _, _, [], _, [], hW', trodAll_mk1 (shut_bool Try.underlying4 _), (trodAll_cons_mk (Below.trod laidOut (by kernel_rfl) (of_decide_eq_true (by kernel_rfl)) k0 bel lt0) trodAll_mk0), rfl, bel.frame _, fun h => by cases h⟩

theorem over : Rows.ledgerTwoRow.holds Try.pinned (OpenSpec.ofChange Rows.ledgerTwoSpec) :=
  OpenClaim.holds_of_wide 5 Try.f5 rfl rfl rfl rfl rfl rfl rfl ⟨rfl, rfl, rfl, rfl, rfl⟩ rfl rfl rfl rfl rfl (by kernel_rfl) Try.func5 (by kernel_rfl)
    (of_decide_eq_true (by kernel_rfl)) (by unfold Func.isWrapper; first | (rw [if_pos (by decide +kernel)]; kernel_rfl) | (rw [if_neg (by decide +kernel)]; exact ⟨rfl, rfl⟩))
    (fun os started H enc _ => lifted os started H enc)

theorem proved : Rows.LedgerTwoSaid := over
#print axioms proved

end Go.Proofs.Ytpchihgdcpbjiaa.ledgerTwo
