/-
  LedgerOnce: what was taken is never given again, till it is let go; nor is what the last two trees hold; for every number of pages and all lists; no condition beyond the row's.
-/
import Derived.Test.YtpchihgdcpbjiaaLedHelp
namespace Go.Proofs.Ytpchihgdcpbjiaa
open Go.RowKit Go.Sort Go.ChangeShapes Go.WideShapes
set_option linter.unusedVariables false
set_option linter.unusedSimpArgs false

theorem small_of {k : IntKind} {x : Int} {b : Nat} (h : (Lit.int k x).wf = true) (hk : k.min = 0) (hb : k.max = (b : Int)) : ∃ y : Nat, y ≤ b ∧ x = (y : Int) := by
  have : k.min ≤ x ∧ x ≤ k.max := by simpa [Lit.wf] using h
  exact ⟨x.toNat, by omega, by omega⟩
theorem not_held {N : Nat} {l : List Int} {v t : Nat → Bool} {i : Nat} (h : fr (memB N l) v t i = true) (hi : i < N) : (i : Int) ∉ l := fun hl => by
  have h2 := fr_two h
  have : memB N l i = true := by
    simp only [memB, Bool.and_eq_true, decide_eq_true_eq]
    exact ⟨⟨h2, hi⟩, hl⟩
  simp [fr, this] at h
theorem fr_comm (o v t : Nat → Bool) : fr o v t = fr v o t := by
  funext i
  unfold fr
  cases decide (2 ≤ i) <;> cases o i <;> cases v i <;> rfl

set_option maxRecDepth 100000 in
set_option maxHeartbeats 8000000 in
theorem ledgerOnce_walk (y0 : Int) (A : Option Addr) (m c : Nat) (l : List Int) (C : Option Addr) (k d : Nat) (r : List Int) (w : World) (hy : (Lit.int .u16 y0).wf = true) (ha : ArgI w A m c l) (hc : ArgI w C k d r) :
    Calls Try.prog 4 #[.int .u16 y0, .slice A m c, .slice C k d] w fun e w' => e = .returned (.bool true) ∧ Below w.heap.size w w' := by
  obtain ⟨y, hy2, rfl⟩ := small_of (b := 65535) hy rfl rfl
  obtain ⟨n, hn⟩ : ∃ n : Nat, n = y % 600 := ⟨_, rfl⟩
  have hq1 : (y : Int).tmod 600 = (n : Int) := by rw [Int.tmod_eq_emod_of_nonneg (by omega)]; omega
  have hq2 : (y : Int) % 600 = (n : Int) := by omega
  have hn6 : n < 600 := by omega
  clear hn hy
  obtain ⟨N, hN⟩ : ∃ N, N = clampN (n : Int) := ⟨_, rfl⟩
  have hmin : min (n : Int) 512 = (N : Int) := by rw [hN]; unfold clampN; omega
  have hN5 : N ≤ 512 := by rw [hN]; exact clampN_le _
  have HN := Lib.hid hN
  clear hN
  have hbd1 := ha.bd
  have hbd2 := hc.bd
  have HA := Lib.hid ha
  have HC := Lib.hid hc
  clear ha hc
  go_enter Try.func4, Try.ntmps4
  go_wp2_with fail
  refine (ldAwake_any w).mono ?_
  rintro e w1 ⟨rfl, hb1⟩
  by_cases hm : (300 : Int) < (m : Int) + (k : Int)
  · go_wp2_with fail
    refine (ldAwake_any _).mono ?_
    rintro e w3 ⟨rfl, hb3⟩
    go_wp2
    go_ret
    exact ⟨rfl, bthen hb1 hb3⟩
  have HB1 := Lib.hid hb1
  clear hb1
  go_wp2_with fail
  refine (ldNew_any (n : Int) w1).mono ?_
  rw [← HN.out]
  rintro e w2 ⟨b, rfl, hd2, hge, hb2⟩
  have HD2 := Lib.hid hd2
  have HB2 := Lib.hid (bthen HB1.out hb2)
  have HG := Lib.hid (show ∀ i, i = b → w.heap.size ≤ i by rintro i rfl; exact Nat.le_trans HB1.out.size hge)
  clear hd2 hb2 hge HB1 hm
  go_wp2_with fail
  refine (ldCommit_any HD2.out (HA.out.below HB2.out)).mono ?_
  rintro e w3 ⟨rfl, hd3, hk3⟩
  have HD3 := Lib.hid hd3
  have HB3 := Lib.hid (HB2.out.trans (hk3.below HB2.out.size HG.out))
  clear hd3 hk3 HD2 HB2
  go_wp2_with fail
  refine (ldCommit_any HD3.out (HC.out.below HB3.out)).mono ?_
  rintro e w4 ⟨rfl, hd4, hk4⟩
  have HD4 := Lib.hid hd4
  have HB4 := Lib.hid (HB3.out.trans (hk4.below HB3.out.size HG.out))
  clear hd4 hk4 HD3 HB3
  go_wp2_with fail
  refine (ldCnt_any HD4.out).mono ?_
  rintro e w5 ⟨rfl, rfl⟩
  obtain ⟨F, hF⟩ : ∃ F, F = cnt (fr (memB N l) (memB N r) noMark) N := ⟨_, rfl⟩
  have hFl : F ≤ 512 := by rw [hF]; exact Nat.le_trans (cnt_le _ _) hN5
  rw [← hF]
  have HF := Lib.hid hF
  clear hF
  go_wp2
  go_loopw [10, 44] (fun x i wr => ∃ q : Nat, q ≤ F ∧ i = .int .i64 q ∧ ∃ last : Nat, x = .int .i64 last ∧ ∃ t, Hid (cnt (fr (memB N l) (memB N r) t) N + q = F) ∧ Hid (∀ j, j ≤ last → fr (memB N l) (memB N r) t j = false) ∧ Hid (Led wr b N (memB N l) (memB N r) t) ∧ Hid (Below w.heap.size w wr)) (fun _ i _ => F - (intOf i).toNat)
  case atStart => exact ⟨0, Nat.zero_le _, rfl, 1, rfl, noMark, Lib.hid HF.out.symm, Lib.hid fun j hj => by
    cases h : fr (memB N l) (memB N r) noMark j with
    | false => rfl
    | true => have := fr_two h; omega, HD4, HB4⟩
  case round =>
    obtain ⟨q, hq, rfl, last, rfl, t, HC1, HL, HD, HB⟩ := hrel
    clear HD4 HB4
    by_cases hlt : q < F
    · obtain ⟨i, hl⟩ := least_of_pos (p := fr (memB N l) (memB N r) t) (k := N) (by have := HC1.out; omega)
      obtain ⟨hiN, hif, _⟩ := least_is hl
      have hil : last < i := by
        rcases Nat.lt_or_ge last i with h | h
        · exact h
        · have := HL.out i h
          rw [hif] at this
          cases this
      have HIF := Lib.hid hif
      have HLE := Lib.hid hl
      clear hif
      go_wp2_with fail
      refine (ldTake_any HD.out).mono ?_
      unfold TakePost
      rw [hl]
      clear hl
      simp only
      rintro e w6 ⟨rfl, hd6, hk6⟩
      have HD6 := Lib.hid hd6
      have HB6 := Lib.hid (HB.out.trans (hk6.below HB.out.size HG.out))
      have HX := Lib.hid (show (i : Int) ∉ l ∧ (i : Int) ∉ r from ⟨not_held HIF.out hiN, not_held (by rw [fr_comm]; exact HIF.out) hiN⟩)
      clear hd6 hk6 HD HB
      have h1 : ¬ (i : Int) ≤ (last : Int) := by omega
      have h2 : ¬ (N : Int) ≤ (i : Int) := by omega
      go_wp2
      go_loopw [66] (fun j wr => ∃ s : Nat, s ≤ m ∧ j = .int .i64 s ∧ wr = w6) (fun j _ => m - (intOf j).toNat)
      case atStart => exact ⟨0, Nat.zero_le _, rfl, rfl⟩
      case round =>
        obtain ⟨s, hs, rfl, rfl⟩ := hrel
        by_cases hsl : s < m
        · obtain ⟨ad, x, rfl, hx, hlx, hcx⟩ := (HA.out.below HB6.out).ls.atI (i := s) (by rw [HA.out.len]; exact hsl)
          have hne : ¬ x = (i : Int) := fun e => HX.out.1 (e ▸ List.mem_of_getElem? hx)
          clear hx
          go_wp2
          exact ⟨⟨s + 1, by omega, by go_num, by trivial⟩, by simp [intOf]; omega⟩
        · have he : s = m := by omega
          subst he
          go_wp2
          go_loopw [78] (fun j wr' => ∃ s : Nat, s ≤ k ∧ j = .int .i64 s ∧ wr' = wr) (fun j _ => k - (intOf j).toNat)
          case atStart => exact ⟨0, Nat.zero_le _, rfl, rfl⟩
          case round =>
            obtain ⟨s2, hs2, rfl, rfl⟩ := hrel
            by_cases hsl2 : s2 < k
            · obtain ⟨ad, x, rfl, hx, hlx, hcx⟩ := (HC.out.below HB6.out).ls.atI (i := s2) (by rw [HC.out.len]; exact hsl2)
              have hne : ¬ x = (i : Int) := fun e => HX.out.2 (e ▸ List.mem_of_getElem? hx)
              clear hx
              go_wp2
              exact ⟨⟨s2 + 1, by omega, by go_num, by trivial⟩, by simp [intOf]; omega⟩
            · have he : s2 = k := by omega
              subst he
              go_wp2
              exact ⟨⟨q + 1, by omega, by go_num, i, rfl, mark1 t i, Lib.hid (by have := HC1.out; have h3 := cnt_take HLE.out; omega), Lib.hid fun j hj => by
                by_cases hji : j = i
                · subst hji
                  exact fr_mark_same _ _ _ _
                · rw [fr_mark_other _ _ _ hji]
                  exact (least_is HLE.out).2.2 j (by omega), HD6, HB6⟩, by simp [intOf]; omega⟩
    · have he : q = F := by omega
      subst he
      have hnone : least (fr (memB N l) (memB N r) t) N = none := by
        cases hl : least (fr (memB N l) (memB N r) t) N with
        | none => rfl
        | some i =>
          have h1 := least_cnt_pos hl
          have h2 := HC1.out
          omega
      go_wp2_with fail
      refine (ldTake_any HD.out).mono ?_
      unfold TakePost
      rw [hnone]
      clear hnone
      simp only
      rintro e w6 ⟨rfl, rfl⟩
      go_wp2_with fail
      refine (ldAbort_any HD.out).mono ?_
      rintro e w7 ⟨rfl, hd7, hk7⟩
      have HD7 := Lib.hid hd7
      have HB7 := Lib.hid (HB.out.trans (hk7.below HB.out.size HG.out))
      clear hd7 hk7 HD HB
      go_wp2_with fail
      refine (ldCnt_any HD7.out).mono ?_
      rw [← HF.out]
      rintro e w8 ⟨rfl, rfl⟩
      go_wp2
      go_ret
      exact ⟨rfl, HB7.out⟩

end Go.Proofs.Ytpchihgdcpbjiaa

namespace Go.Proofs.Ytpchihgdcpbjiaa.ledgerOnce
open Go.ChangeShapes Go.WideShapes Go.ChangeAt Go.RowKit
open Go.ChangeMaps (open_string shut_string)
set_option linter.unusedVariables false

theorem own : ownKnob Try.prog.godebug = none := by kernel_rfl
theorem laidOut : laidOutB Try.prog = true := by kernel_rfl

set_option maxRecDepth 100000 in
theorem lifted (os : Os) (started : os.Started) (H : Type) (enc : TypeId × Value → H) :
    ReturnsInHanded {} Try.checked os 4 .any (Rows.ledgerOnceSpec.pre6 enc Try.prog Try.f4 Rows.ledgerOnceRow.domain false) (Rows.ledgerOnceSpec.post enc Try.prog Try.f4 false true false false) := by
  refine returnsInHanded_of_change_sized (C := Try.checked) own started (by kernel_rfl) Try.func4
    (ChangeSpec.witness6 (enc := enc) (C := Try.checked) false ⟨#[], #[.int .u16 0, .slice none 0 0, .slice none 0 0], []⟩ 8 (by kernel_rfl) (by kernel_rfl) (by kernel_rfl) (by kernel_rfl)) ?_
  intro W base args ds gs before hval0 hW hcnd hsz0 _
  have hval : ∀ (j : Nat) t v, Try.f4.params[j]? = some t → args[j]? = some v → Value.okWide Try.prog W .any base t v := hval0
  have hsz : (DataW.weightsEach Try.prog (Try.f4.params.toList ++ Rows.ledgerOnceSpec.plain.varTypes Try.prog) (ds ++ gs)).all (· ≤ reachBytes) = true := hsz0
  have hW' := hW
  obtain ⟨p, q, hA0, hV, rfl, hfz, hnd⟩ := hW
  have hA : DataW.TrodAll enc Try.prog W 0 (fun _ => true) true Try.f4.params.toList args.toList ds p := hA0
  rw [Try.params4] at hA hval hsz
  obtain ⟨v0, vs0, d0, ds0, p0, q0, hargs, rfl, rfl, h0, r0⟩ := trodAll_cons hA
  obtain ⟨v1, vs1, d1, ds1, p1, q1, rfl, rfl, rfl, h1, r1⟩ := trodAll_cons r0
  obtain ⟨v2, vs2, d2, ds2, p2, q2, rfl, rfl, rfl, h2, r2⟩ := trodAll_cons r1
  obtain ⟨rfl, rfl, rfl⟩ := trodAll_nil r2
  obtain rfl : args = #[v0, v1, v2] := by cases args; simp_all
  obtain ⟨rfl, rfl⟩ := trodVars_none hV
  obtain ⟨a0, rfl, rfl, rfl, w0⟩ := open_int Try.underlying44 (hval 0 44 v0 rfl rfl) h0
  obtain ⟨A1, n1, c1, rfl⟩ := okWide_slice Try.underlying29 (hval 1 29 v1 rfl rfl)
  have k1 := h1
  have lt1 : ∀ x ∈ p1, x.block < W.heap.size := by obtain ⟨m, hm⟩ := k1; exact DataW.trod_lt m _ _ _ hm
  obtain ⟨l1, w1⟩ := open_ints h1 (fun m hm => of_decide_eq_true (List.all_eq_true.1 hsz _ (DataW.weights_mem_each (j := 1) (t := 29) rfl rfl m hm)))
  obtain ⟨A2, n2, c2, rfl⟩ := okWide_slice Try.underlying29 (hval 2 29 v2 rfl rfl)
  have k2 := h2
  have lt2 : ∀ x ∈ p2, x.block < W.heap.size := by obtain ⟨m, hm⟩ := k2; exact DataW.trod_lt m _ _ _ hm
  obtain ⟨l2, w2⟩ := open_ints h2 (fun m hm => of_decide_eq_true (List.all_eq_true.1 hsz _ (DataW.weights_mem_each (j := 2) (t := 29) rfl rfl m hm)))
  clear hA0 hval0 hsz hsz0
  refine (ledgerOnce_walk a0 A1 n1 c1 l1 A2 n2 c2 l2 W w0 w1 w2).mono fun e W' ⟨he, bel⟩ => ?_
  subst he
  exact ⟨_, rfl, _, _, _, [], _, [], hW', trodAll_mk1 (shut_bool Try.underlying4 _), (trodAll_cons_mk (shut_int Try.underlying44 w0) (trodAll_cons_mk (Below.trod laidOut (by kernel_rfl) (of_decide_eq_true (by kernel_rfl)) k1 bel lt1) (trodAll_cons_mk (Below.trod laidOut (by kernel_rfl) (of_decide_eq_true (by kernel_rfl)) k2 bel lt2) trodAll_mk0))), rfl, bel.frame _, fun h => by cases h⟩

theorem over : Rows.ledgerOnceRow.holds Try.pinned (OpenSpec.ofChange Rows.ledgerOnceSpec) :=
  OpenClaim.holds_of_wide 4 Try.f4 rfl rfl rfl rfl rfl rfl rfl ⟨rfl, rfl, rfl, rfl, rfl⟩ rfl rfl rfl rfl rfl (by kernel_rfl) Try.func4 (by kernel_rfl)
    (of_decide_eq_true (by kernel_rfl)) (by unfold Func.isWrapper; first | (rw [if_pos (by decide +kernel)]; kernel_rfl) | (rw [if_neg (by decide +kernel)]; exact ⟨rfl, rfl⟩))
    (fun os started H enc _ => lifted os started H enc)

theorem proved : Rows.LedgerOnceSaid := over
#print axioms proved

end Go.Proofs.Ytpchihgdcpbjiaa.ledgerOnce
