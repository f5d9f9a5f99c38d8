/-
  ShadowFull: where pages run out a plan tells the error and nothing else, with just enough it is planned; for every list and every lack; no condition beyond the row's.
-/
import Derived.Test.YtmpmeifpfmobfaaGreatDoorShCount
import Derived.Test.YtmpmeifpfmobfaaGreatDoorTie
import Derived.Test.YtmpmeifpfmobfaaGreatDoorCards
import Derived.SevenTiedAt
namespace Go.Proofs.YtmpmeifpfmobfaaGreatDoor
open Go.RowKit Go.Sort
set_option linter.unusedVariables false
set_option linter.unusedSimpArgs false

set_option maxRecDepth 100000 in
set_option maxHeartbeats 4000000 in
theorem shadowFull_walk (A : Option Addr) (n c : Nat) (l : List TOp) (lack : Int) (w : World) (hh : Half w) (ha : ArgT w A n c l) (hk : (Lit.int .u8 lack).wf = true) :
    Calls Tryz.prog 5 #[.slice A n c, .int .u8 lack] w fun e w' => e = .returned (.bool true) ∧ Below w.heap.size w w' := by
  have hk' : 0 ≤ lack ∧ lack ≤ 255 := by simpa [Lit.wf, IntKind.min, IntKind.max, IntKind.signed, IntKind.bits] using hk
  obtain ⟨hk0, hk1⟩ := hk'
  have HH := Lib.hid hh
  have HA := Lib.hid ha
  clear hh ha hk
  go_enter Tryz.func5, Tryz.ntmps5
  go_wp2_with fail
  refine (shAwake_any w HH.out).mono ?_
  rintro e w1 ⟨rfl, hb1⟩
  have HB1 := Lib.hid hb1
  clear hb1
  go_wp2_with fail
  refine (fewT_any A n c l w1 (HA.out.below HB1.out)).mono ?_
  rintro e w2 ⟨hb2, r, rfl, hr⟩
  have HB2 := Lib.hid (bthen HB1.out hb2)
  clear hb2
  cases r with
  | false =>
    go_wp2_with fail
    refine (shAwake_any w2 (HH.out.below HB2.out)).mono ?_
    rintro e w3 ⟨rfl, hb3⟩
    have HB3 := Lib.hid (bthen HB2.out hb3)
    clear hb3 hr
    go_wp2
    go_ret
    exact ⟨rfl, HB3.out⟩
  | true =>
    have hn60 : n ≤ 60 := by rw [← HA.out.len]; exact hr rfl
    clear hr
    go_wp2_with fail
    refine (shBuilt_any none A n c l w2 (HA.out.below HB2.out) (by omega) (TreeIs.none _) (by simp [tl])).mono ?_
    rintro e w3 ⟨T, rfl, ht, hlen, hb3, _⟩
    obtain ⟨L, hL⟩ := ht.pr
    have hle := hL.le
    have hlen : (tl T).length ≤ 0 + n := hlen
    obtain ⟨k, hkk⟩ : ∃ k, k = costs L := ⟨_, rfl⟩
    have hk165 : k ≤ 165 := by omega
    have HK : Hid (newC [] L = k) := Lib.hid (by rw [newC_nil, hkk])
    have HKC := Lib.hid hkk.symm
    have HL := Lib.hid hL
    have HTL : Hid ((tl T).length ≤ 4000) := Lib.hid (by omega)
    have HLL : Hid (L.length ≤ 1000) := Lib.hid (by omega)
    have HB3 := Lib.hid (bthen HB2.out hb3)
    have HH3 := Lib.hid (HH.out.below HB3.out)
    obtain ⟨tv, htv⟩ : ∃ tv, tv = tb T := ⟨_, rfl⟩
    rw [← htv]
    have HTV := Lib.hid htv
    clear ht hlen hb3 hL hle hkk htv
    go_wp2_with fail
    refine (ldNew_any 512 w3).mono ?_
    rintro e w4 ⟨b, rfl, hd4, hge, hb4⟩
    have HD4 := Lib.hid (show Led w4 b 512 noMark noMark noMark from hd4)
    have HB4 := Lib.hid hb4
    have HG := Lib.hid hge
    clear hd4 hb4 hge
    go_wp2_with fail
    rw [HTV.out]
    refine (planL_ok (j := 0) HL.out HB4.out HG.out (by rw [tkn_zero]; exact HD4.out) (pgIs_nil w4) few_nil HH3.out HTL.out (by rw [HK.out]; omega)).mono ?_
    intro r w5 hpo
    obtain ⟨v, g, m, R, ws, rfl, hp1, hp2, _, _, hw1, hw2, _⟩ := hpo.out
    have hwl := wr_len HL.out hw2
    rw [HK.out] at hwl
    obtain ⟨A5, c5, rfl, hc5, _⟩ := hw1.form
    rw [hwl] at hc5 ⊢
    have HPG : Hid (PgIs w5 (.pointer (some ⟨g, 0, none⟩)) (layM [] L 0)) := Lib.hid (.inr ⟨g, some m, R, rfl, hp1, hp2.symm⟩)
    have HB5 := Lib.hid hpo.bel
    generalize rootP (layM [] L 0) (tn T) = rt
    clear hpo hp1 hp2 hw1 hw2 hwl
    go_wp2_with fail
    refine (all_any HPG.out (lay_sum HL.out (fun k => Nat.zero_le _) HLL.out)).mono ?_
    intro e w6 hall
    obtain ⟨A6, c6, rfl, hc6, _, hb6⟩ := lay_all hall
    rw [HKC.out] at hc6 ⊢
    have HB6 := Lib.hid (bthen HB5.out hb6)
    clear hall hb6
    go_wp2_with fail
    refine (ldNew_any _ w6).mono ?_
    rintro e w7 ⟨b', rfl, hd7, hge7, hb7⟩
    obtain ⟨q, hq⟩ : ∃ q, q = clampN (2 + (k : Int) - min lack (k : Int)) := ⟨_, rfl⟩
    have hq2 : (q : Int) = 2 + (k : Int) - min lack (k : Int) := by
      rw [hq]
      unfold clampN
      omega
    have hd7 : Led w7 b' q noMark noMark noMark := by
      rw [hq]
      exact hd7
    have HD7 := Lib.hid hd7
    have HB7 := Lib.hid (bthen HB6.out hb7)
    have HG7 := Lib.hid (Nat.le_trans HB6.out.size hge7)
    have HQ := Lib.hid hq2
    clear hd7 hge7 hb7 hq hq2
    by_cases h0 : lack = 0 ∨ k = 0
    · have hqk : k + 2 ≤ q := by
        have := HQ.out
        omega
      have HQK := Lib.hid hqk
      clear hqk
      go_wp2_with fail
      refine (planL_ok (j := 0) HL.out HB7.out HG7.out (by rw [tkn_zero]; exact HD7.out) (pgIs_nil w7) few_nil HH3.out HTL.out (by rw [HK.out]; have := HQK.out; omega)).mono ?_
      intro r w8 hpo
      obtain ⟨v, g8, m8, R8, ws8, rfl, hp1, hp2, _, _, hw1, hw2, _⟩ := hpo.out
      have hwl := wr_len HL.out hw2
      rw [HK.out] at hwl
      obtain ⟨A8, c8, rfl, hc8, _⟩ := hw1.form
      rw [hwl] at hc8 ⊢
      have HB8 := Lib.hid (HB3.out.trans (hpo.bel.mono HB3.out.size))
      generalize rootP (layM [] L 0) (tn T) = rt8
      clear hpo hp1 hp2 hw1 hw2 hwl
      by_cases hl0 : lack = 0
      · subst hl0
        clear h0
        go_wp2
        go_ret
        exact ⟨rfl, HB8.out⟩
      · have hk0' : k = 0 := h0.resolve_left hl0
        subst hk0'
        have hlb : (lack == 0) = false := by simpa using hl0
        clear h0
        go_wp2
        go_ret
        exact ⟨rfl, HB8.out⟩
    · have hl0 : lack ≠ 0 := fun h => h0 (.inl h)
      have hk0' : k ≠ 0 := fun h => h0 (.inr h)
      have hqk : q < k + 2 := by
        have := HQ.out
        omega
      have HQK := Lib.hid hqk
      clear hqk h0
      go_wp2_with fail
      refine (planL_no (j := 0) HL.out HB7.out HG7.out (by rw [tkn_zero]; exact HD7.out) (pgIs_nil w7) few_nil HH3.out HTL.out (by rw [HK.out]; have := HQK.out; omega) (by rw [HK.out]; omega)).mono ?_
      intro r w8 hpo
      rw [hpo.out]
      have HB8 := Lib.hid (HB3.out.trans (hpo.bel.mono HB3.out.size))
      have hlb : (lack == 0) = false := by simpa using hl0
      have hkb : ((k : Int) == 0) = false := by simpa using hk0'
      clear hpo
      go_wp2_with fail
      refine (all_nil w8).mono ?_
      rintro r w9 ⟨v9, l9, rfl, ho9, _, hm9, hb9⟩
      have hl9 : l9 = [] := List.eq_nil_iff_forall_not_mem.2 fun x hx => by
        obtain ⟨y, hy, _⟩ := (hm9 x).1 hx
        cases hy
      subst hl9
      obtain ⟨A9, c9, rfl, hc9, _⟩ := ho9.form
      have HB9 := Lib.hid (bthen HB8.out hb9)
      clear ho9 hm9 hb9
      go_wp2
      go_ret
      exact ⟨rfl, HB9.out⟩

end Go.Proofs.YtmpmeifpfmobfaaGreatDoor

namespace Go.Proofs.YtmpmeifpfmobfaaGreatDoor.shadowFull
open Go Go.ChangeShapes Go.WideShapes Go.ChangeAt Go.RowKit
open Go.ChangeMaps (open_string shut_string)
set_option linter.unusedVariables false

theorem own : ownKnob Tryz.prog.godebug = none := by kernel_rfl

theorem laidOut : laidOutB Tryz.prog = true := by kernel_rfl

set_option maxRecDepth 100000 in
theorem lifted (os : Os) (started : os.Started) (H : Type) (enc : TypeId × Value → H) :
    ReturnsInHanded {} Tryz.checked os 5 .any (fun w args => (Rows.shadowFullSpec.pre enc Tryz.prog Tryz.f5 [] false w args ∧ laidMetH Tryz.prog laidL w) ∧ sizedMet enc Tryz.prog Tryz.f5 (OpenSpec.ofChange Rows.shadowFullSpec) false w args)
      (Rows.shadowFullSpec.post enc Tryz.prog Tryz.f5 false true false false) := by
  refine returnsInHanded_of_change_and (C := Tryz.checked) (X := fun w _ => laidMetH Tryz.prog laidL w) (fun _ _ _ hh h => h.of_heap hh) own started (by kernel_rfl) Tryz.func5
    (ChangeSpec.witness_shaped (enc := enc) (C := Tryz.checked) (os := os) (X := fun w _ => laidMetH Tryz.prog laidL w) false (World.doorLaid Tryz.prog 14 os) #[.slice none 0 0, .int .u8 0] 8 rfl (World.shaped_of_RefB (by kernel_rfl) (by kernel_rfl)) (by kernel_rfl) (by kernel_rfl) (by kernel_rfl) (door_met os _)) ?_
  intro W base args ds gs before hval0 hW hcnd hsz0 hL _
  have hval : ∀ (j : Nat) t v, Tryz.f5.params[j]? = some t → args[j]? = some v → Value.okWide Tryz.prog W .any base t v := hval0
  have hsz : (DataW.weightsEach Tryz.prog (Tryz.f5.params.toList ++ Rows.shadowFullSpec.plain.varTypes Tryz.prog) (ds ++ gs)).all (· ≤ reachBytes) = true := hsz0
  have hW' := hW
  obtain ⟨p, q, hA0, hV, rfl, hfz, hnd⟩ := hW
  have hA : DataW.TrodAll enc Tryz.prog W 0 (fun _ => true) true Tryz.f5.params.toList args.toList ds p := hA0
  rw [Tryz.params5] at hA hval hsz
  obtain ⟨v0, vs0, d0, ds0, p0, q0, hargs, rfl, rfl, h0, r0⟩ := trodAll_cons hA
  obtain ⟨v1, vs1, d1, ds1, p1, q1, rfl, rfl, rfl, h1, r1⟩ := trodAll_cons r0
  obtain ⟨rfl, rfl, rfl⟩ := trodAll_nil r1
  obtain rfl : args = #[v0, v1] := by cases args; simp_all
  obtain ⟨rfl, rfl⟩ := trodVars_none hV
  have k0 := h0
  have lt0 : ∀ x ∈ p0, x.block < W.heap.size := by obtain ⟨m, hm⟩ := k0; exact DataW.trod_lt m _ _ _ hm
  obtain ⟨A0, n0, c0, rfl⟩ := okWide_slice Tryz.underlying22 (hval 0 22 v0 rfl rfl)
  obtain ⟨l0, w0⟩ := open_tops h0 (fun m hm => of_decide_eq_true (List.all_eq_true.1 hsz _ (DataW.weights_mem_each (j := 0) (t := 22) rfl rfl m hm)))
  obtain ⟨a1, rfl, rfl, rfl, w1⟩ := open_int Tryz.underlying5 (hval 1 5 v1 rfl rfl) h1
  clear hA0 hval0 hsz hsz0
  refine (shadowFull_walk A0 n0 c0 l0 a1 W (half_of_laid hL) w0 w1).mono fun e W' ⟨he, bel⟩ => ?_
  subst he
  exact ⟨_, rfl, _, _, _, [], _, [], hW', trodAll_mk1 (shut_bool Tryz.underlying4 _), (trodAll_cons_mk (Below.trod laidOut (by kernel_rfl) (of_decide_eq_true (by kernel_rfl)) k0 bel lt0) (trodAll_cons_mk (shut_int Tryz.underlying5 w1) trodAll_mk0)), rfl, bel.frame _, fun h => by cases h⟩

theorem over : Rows.ShadowFullSaid :=
  OpenClaim.holds_of_wide 5 Tryz.f5 rfl rfl rfl rfl rfl rfl rfl ⟨rfl, rfl, rfl, rfl, rfl⟩ rfl rfl rfl rfl rfl (by kernel_rfl) Tryz.func5 (by kernel_rfl)
    (of_decide_eq_true (by kernel_rfl)) (by unfold Func.isWrapper; first | (rw [if_pos (by decide +kernel)]; kernel_rfl) | (rw [if_neg (by decide +kernel)]; exact ⟨rfl, rfl⟩))
    (fun os started H enc _ => lifted os started H enc)

theorem proved : Rows.ShadowFullCardSaid :=
  Claim7.holds_tied_plain_at .later [] [.data] true (true, "1a050d4e79ea44ac8259af8edcd1acaf85ecd57fc3629b5714598d0c6a657e50") false
    over (fun _ h => by cases h) (by kernel_rfl) (fun _ h => by cases h) shadowFull_row_tie rfl ⟨rfl, rfl⟩ (by kernel_rfl) rfl
    (fun f fn hf hfn => by
      obtain rfl : f = 5 := Option.some.inj ((show Tryz.prog.funcNamed "sapwood/sapwoodlaw14.ShadowFull" = some 5 by kernel_rfl).symm.trans hf) |>.symm
      obtain rfl : fn = Tryz.f5 := (Option.some.inj (Tryz.func5.symm.trans hfn)).symm
      exact ⟨by kernel_rfl, fun j t ht => by
        rw [Tryz.params5] at ht
        have hm : t ∈ [22, 5] := by simpa using Array.mem_of_getElem? ht
        have hall : ([22, 5].all fun u => !Tryz.prog.wantsStandIn u) = true := by kernel_rfl
        exact (show Tryz.prog.wantsStandIn t = false by simpa using List.all_eq_true.1 hall t hm)⟩)
    (by kernel_rfl)
#print axioms proved

end Go.Proofs.YtmpmeifpfmobfaaGreatDoor.shadowFull
