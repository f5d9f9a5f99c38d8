/-
  MetaDecodes: any bytes are the meta page that the document says, or none, and of any two the newest are those that it says, for every two texts that the statement allows; no condition beyond the row's.
-/
import Derived.Test.YtcgmaiadipiegaaDoorMetaRefN
import Derived.Test.YtcgmaiadipiegaaDoorMetaAwake
import Derived.Test.YtcgmaiadipiegaaDoorSumLaid
import Derived.Test.YtcgmaiadipiegaaDoorTie
import Derived.Test.YtcgmaiadipiegaaDoorCards
import Derived.SevenTiedAt
namespace Go.Proofs.YtcgmaiadipiegaaDoor
open Go.RowKit Go.Sort
set_option linter.unusedVariables false
set_option linter.unusedSimpArgs false

theorem turn_len (l : List MT) : (turnM l).length = l.length := by
  unfold turnM
  split
  · split <;> rfl
  · rfl
theorem new_len (la lb : List UInt8) : (newM la lb).length ≤ 2 := by
  rw [newM, turn_len, List.length_append]
  have := pick_len 0 la
  have := pick_len 1 lb
  omega

set_option maxRecDepth 100000 in
set_option maxHeartbeats 2000000 in
theorem metaDecodes_walk (a b : ByteArray) (w : World) (hh : Half w) (hsa : a.size ≤ 140737488351232) (hsb : b.size ≤ 140737488351232) :
    Calls Tryd.prog 4 #[.string a, .string b] w fun e w' => e = .returned (.bool true) ∧ Below w.heap.size w w' := by
  obtain ⟨Ca, Fa, hcva, hFa⟩ := bytes_of a
  obtain ⟨Cb, Fb, hcvb, hFb⟩ := bytes_of b
  go_enter Tryd.func4, Tryd.ntmps4
  go_wp2_with fail
  refine (mtAwake_any w hh).mono ?_
  rintro e w1 ⟨rfl, hb1⟩
  by_cases hla : 2000 < a.size
  · go_wp2_with fail
    refine (mtAwake_any w1 (hh.below hb1)).mono ?_
    rintro e w2 ⟨rfl, hb2⟩
    go_wp2
    go_ret
    exact ⟨rfl, bthen hb1 hb2⟩
  by_cases hlb : 2000 < b.size
  · go_wp2_with fail
    refine (mtAwake_any w1 (hh.below hb1)).mono ?_
    rintro e w2 ⟨rfl, hb2⟩
    go_wp2
    go_ret
    exact ⟨rfl, bthen hb1 hb2⟩
  obtain ⟨hr1, hc1, hbF1⟩ := hFa w1
  have hb01 := bthen hb1 hbF1
  clear hb1
  go_wp2_with fail
  refine (mtDecode_any _ a.size (Ca w1) a.data.toList (Fa w1) (hh.below hb01) hr1 rfl (by omega)).mono ?_
  rintro e w2 ⟨rfl, hb2⟩
  have hb02 := bthen hb01 hb2
  clear hr1 hc1 hbF1 hb01 hb2
  obtain ⟨E, hE⟩ : ∃ E, E = decE a.data.toList := ⟨_, rfl⟩
  obtain ⟨x, y, hxy⟩ : ∃ x y, decV a.data.toList = ⟨x, y⟩ := ⟨_, _, rfl⟩
  rw [← hE, hxy]
  have HE := Lib.hid hE
  have HX := Lib.hid hxy
  clear hE hxy
  unfold metaV
  simp only
  obtain ⟨U, hU⟩ : ∃ U, U = w2.alloc (.cells #[.int .i64 x, .int .i64 y] 29) := ⟨_, rfl⟩
  have hbU : Below w.heap.size w U := by
    rw [hU]
    exact bthen hb02 ((Below.refl _ _).alloc (Nat.le_refl _) _)
  have HU := Lib.hid hU
  clear hU hb02
  go_wp2_with fail
  rw [← HU.out]
  refine (mtRefDecode_any a U (by omega)).mono ?_
  rintro e w3 ⟨rfl, hb3⟩
  rw [← HE.out, HX.out]
  unfold metaV
  simp only
  obtain ⟨V, hV⟩ : ∃ V, V = w3.alloc (.cells #[.int .i64 x, .int .i64 y] 23) := ⟨_, rfl⟩
  have hbV : Below w.heap.size w V := by
    rw [hV]
    exact bthen (bthen hbU hb3) ((Below.refl _ _).alloc (Nat.le_refl _) _)
  have HS : Hid (V.heap.size = w3.heap.size + 1) := by
    show V.heap.size = w3.heap.size + 1
    rw [hV]
    simp
  have hs23 : w2.heap.size < w3.heap.size := box_lt (w := w2) (x := .cells #[.int .i64 x, .int .i64 y] 29) (by rw [← HU.out]; exact hb3)
  have p0 : w3.cell? ⟨w2.heap.size, 0, none⟩ = some (.int .i64 x) := box_at (w := w2) (cs := #[.int .i64 x, .int .i64 y]) (t := 29) (by rw [← HU.out]; exact hb3) 0 _ rfl
  have p1 : w3.cell? ⟨w2.heap.size, 1, none⟩ = some (.int .i64 y) := box_at (w := w2) (cs := #[.int .i64 x, .int .i64 y]) (t := 29) (by rw [← HU.out]; exact hb3) 1 _ rfl
  have HV := Lib.hid hV
  clear hV hbU hb3 HU HE HX
  obtain ⟨hr4, hc4, hb4⟩ := hFa V
  rw [HS.out] at hr4
  obtain ⟨hr5, hc5, hb5⟩ := hFb (Fa V)
  have hb05 := bthen (bthen hbV hb4) hb5
  have hr45 := hr4.below hb5
  clear hr4 hb4 hb5 hbV
  go_wp2_with fail
  simp only [← HV.out]
  refine (mtNewest_any _ _ a.size (Ca V) b.size (Cb (Fa V)) a.data.toList b.data.toList (Fb (Fa V)) (hh.below hb05) hr45 rfl hr5 rfl (by omega) (by omega)).mono ?_
  rintro e w6 ⟨v6, rfl, ho6, hb6⟩
  have hb06 := bthen hb05 hb6
  obtain ⟨A6, c6, rfl, hc6, hl6⟩ := ho6.form
  obtain ⟨n, hn⟩ : ∃ n, (newM a.data.toList b.data.toList).length = n := ⟨_, rfl⟩
  have hn2 : n ≤ 2 := by rw [← hn]; exact new_len _ _
  rw [hn] at hc6 ⊢
  have HN := Lib.hid hn
  clear hr45 hr5 hb05 hb6 ho6 hn hc4 hc5
  go_wp2_with fail
  refine (mtList_any A6 n c6 _ w6 hl6 HN.out (by omega)).mono ?_
  rintro e w7 ⟨v7, rfl, ho7, hb7⟩
  have hb07 := bthen hb06 hb7
  obtain ⟨A7, c7, rfl, hc7, hl7⟩ := ho7.form
  rw [HN.out] at hc7 ⊢
  clear hb06 hb7 ho7 hl6
  go_wp2_with fail
  refine (mtRefNewest_any a b w7 (by omega) (by omega)).mono ?_
  rintro e w8 ⟨v8, rfl, ho8, hb8⟩
  have hb08 := bthen hb07 hb8
  have hl78 := hl7.below hb8
  obtain ⟨A8, c8, rfl, hc8, hl8⟩ := ho8.form
  rw [HN.out] at hc8 ⊢
  clear hb07 hb8 ho8 hl7
  go_wp2_with fail
  refine (mtSame_any A7 A8 n c7 c8 _ w8 hl78 hl8 HN.out (by omega)).mono ?_
  rintro e w9 ⟨rfl, hb9⟩
  have hb09 := bthen hb08 hb9
  go_wp2
  go_ret
  exact ⟨rfl, hb09⟩

end Go.Proofs.YtcgmaiadipiegaaDoor

namespace Go.Proofs.YtcgmaiadipiegaaDoor.metaDecodes
open Go Go.ChangeShapes Go.WideShapes Go.ChangeAt Go.RowKit
open Go.ChangeMaps (open_string shut_string)
set_option linter.unusedVariables false

theorem own : ownKnob Tryd.prog.godebug = none := by kernel_rfl

set_option maxRecDepth 100000 in
theorem lifted (os : Os) (started : os.Started) (H : Type) (enc : TypeId × Value → H) :
    ReturnsInHanded {} Tryd.checked os 4 .any (fun w args => (Rows.metaDecodesSpec.pre enc Tryd.prog Tryd.f4 [] false w args ∧ laidMetH Tryd.prog laidL w) ∧ sizedMet enc Tryd.prog Tryd.f4 (OpenSpec.ofChange Rows.metaDecodesSpec) false w args)
      (Rows.metaDecodesSpec.post enc Tryd.prog Tryd.f4 false true false false) := by
  refine returnsInHanded_of_change_and (C := Tryd.checked) (X := fun w _ => laidMetH Tryd.prog laidL w) (fun _ _ _ hh h => h.of_heap hh) own started (by kernel_rfl) Tryd.func4
    (ChangeSpec.witness_shaped (enc := enc) (C := Tryd.checked) (os := os) (X := fun w _ => laidMetH Tryd.prog laidL w) false (World.doorLaid Tryd.prog 14 os) #[.string ByteArray.empty, .string ByteArray.empty] 8 rfl (World.shaped_of_RefB (by kernel_rfl) (by kernel_rfl)) (by kernel_rfl) (by kernel_rfl) (by kernel_rfl) (door_met os _)) ?_
  intro W base args ds gs before hval0 hW hcnd hsz0 hL _
  have hval : ∀ (j : Nat) t v, Tryd.f4.params[j]? = some t → args[j]? = some v → Value.okWide Tryd.prog W .any base t v := hval0
  have hsz : (DataW.weightsEach Tryd.prog (Tryd.f4.params.toList ++ Rows.metaDecodesSpec.plain.varTypes Tryd.prog) (ds ++ gs)).all (· ≤ reachBytes) = true := hsz0
  have hW' := hW
  obtain ⟨p, q, hA0, hV, rfl, hfz, hnd⟩ := hW
  have hA : DataW.TrodAll enc Tryd.prog W 0 (fun _ => true) true Tryd.f4.params.toList args.toList ds p := hA0
  rw [Tryd.params4] at hA hval hsz
  obtain ⟨v0, vs0, d0, ds0, p0, q0, hargs, rfl, rfl, h0, r0⟩ := trodAll_cons hA
  obtain ⟨v1, vs1, d1, ds1, p1, q1, rfl, rfl, rfl, h1, r1⟩ := trodAll_cons r0
  obtain ⟨rfl, rfl, rfl⟩ := trodAll_nil r1
  obtain rfl : args = #[v0, v1] := by cases args; simp_all
  obtain ⟨rfl, rfl⟩ := trodVars_none hV
  obtain ⟨a0, rfl, rfl, rfl, w0⟩ := open_string Tryd.underlying9 (hval 0 9 v0 rfl rfl) h0
  obtain ⟨a1, rfl, rfl, rfl, w1⟩ := open_string Tryd.underlying9 (hval 1 9 v1 rfl rfl) h1
  have z0 : a0.data.toList.length ≤ reachBytes := sized_string hsz (j := 0) (t := 9) rfl rfl
  have y0 : a0.size ≤ 140737488351232 := z0
  have z1 : a1.data.toList.length ≤ reachBytes := sized_string hsz (j := 1) (t := 9) rfl rfl
  have y1 : a1.size ≤ 140737488351232 := z1
  clear hA0 hval0 hsz hsz0
  simp only [List.append_nil] at hW'
  refine (metaDecodes_walk a0 a1 W (half_of_laid hL) y0 y1).mono fun e W' ⟨he, bel⟩ => ?_
  subst he
  exact ⟨_, rfl, _, _, _, [], [], [], hW', trodAll_mk1 (shut_bool Tryd.underlying4 _), (trodAll_cons_mk (shut_string Tryd.underlying9 w0) (trodAll_cons_mk (shut_string Tryd.underlying9 w1) trodAll_mk0)), rfl, bel.frame _, fun h => by cases h⟩

theorem over : Rows.MetaDecodesSaid :=
  OpenClaim.holds_of_wide 4 Tryd.f4 rfl rfl rfl rfl rfl rfl rfl ⟨rfl, rfl, rfl, rfl, rfl⟩ rfl rfl rfl rfl rfl (by kernel_rfl) Tryd.func4 (by kernel_rfl)
    (of_decide_eq_true (by kernel_rfl)) (by unfold Func.isWrapper; first | (rw [if_pos (by decide +kernel)]; kernel_rfl) | (rw [if_neg (by decide +kernel)]; exact ⟨rfl, rfl⟩))
    (fun os started H enc _ => lifted os started H enc)

theorem proved : Rows.MetaDecodesCardSaid :=
  Claim7.holds_tied_plain_at .later [] [.data] true (true, "ff6571c9258cc5ae1a33e9450d62fd3a3d2abbbe87473920b80c14b5ab16f570") false
    over (fun _ h => by cases h) (by kernel_rfl) (fun _ h => by cases h) metaDecodes_row_tie rfl ⟨rfl, rfl⟩ (by kernel_rfl) rfl
    (fun f fn hf hfn => by
      obtain rfl : f = 4 := Option.some.inj ((show Tryd.prog.funcNamed "sapwood/sapwoodlaw06.MetaDecodes" = some 4 by kernel_rfl).symm.trans hf) |>.symm
      obtain rfl : fn = Tryd.f4 := (Option.some.inj (Tryd.func4.symm.trans hfn)).symm
      exact ⟨by kernel_rfl, fun j t ht => by
        rw [Tryd.params4] at ht
        have hm : t ∈ [9, 9] := by simpa using Array.mem_of_getElem? ht
        have hall : ([9, 9].all fun u => !Tryd.prog.wantsStandIn u) = true := by kernel_rfl
        exact (show Tryd.prog.wantsStandIn t = false by simpa using List.all_eq_true.1 hall t hm)⟩)
    (by kernel_rfl)
#print axioms proved

end Go.Proofs.YtcgmaiadipiegaaDoor.metaDecodes
