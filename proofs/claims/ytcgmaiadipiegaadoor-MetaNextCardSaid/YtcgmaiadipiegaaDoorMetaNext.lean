/-
  MetaNext: the next epoch is above all, and never on the page of the one that is kept, for every kept and every list that the statement allows; no condition beyond the row's.
-/
import Derived.Test.YtcgmaiadipiegaaDoorMetaNextC
import Derived.Test.YtcgmaiadipiegaaDoorMetaAwake
import Derived.Test.YtcgmaiadipiegaaDoorSumLaid
import Derived.Test.YtcgmaiadipiegaaDoorTie
import Derived.Test.YtcgmaiadipiegaaDoorCards
import Derived.SevenTiedAt
namespace Go.Proofs.YtcgmaiadipiegaaDoor
open Go.RowKit Go.Sort
set_option linter.unusedVariables false
set_option linter.unusedSimpArgs false

theorem infoMM : (Tryd.prog.info? 29).map (fun i => (i.zero, i.size, i.bytes)) = some (some (.agg #[.int .i64 0, .int .i64 0]), 2, 16) := by kernel_rfl
/-- append(l, m), of meta pages. -/
theorem append_meta (ty : TypeId) {W : World} {base : Nat} {v : Value} {l : List MT} (h : OwnL pcM 29 2 W base v l) (hs : base ≤ W.heap.size) (x y : Int) (hl : l.length ≤ 1000000) :
    ∃ v' w', (Builtin.append_ #[42, 42] ty #[v, .slice (some ⟨W.heap.size, 0, none⟩) 1 1]).run Tryd.prog (W.alloc (.cells #[.int .i64 x, .int .i64 y] 29)) = .ok v' w' ∧ OwnL pcM 29 2 w' base v' (l ++ [⟨x, y⟩]) ∧ (W.alloc (.cells #[.int .i64 x, .int .i64 y] 29)).grownBy w' v.ownBlock :=
  run_append_one encPM 42 29 ty (.agg #[.int .i64 0, .int .i64 0]) 16 ⟨_, Tryd.underlying42, rfl⟩ infoMM rfl (by omega) (by omega) (by omega) h ⟨x, y⟩ hl hs
theorem most_le (kept B : Int) (l : List MT) (h : kept ≤ B) (hl : ∀ x ∈ l, x.e ≤ B) : mostI kept l ≤ B := by
  induction l generalizing kept with
  | nil => exact h
  | cons x l ih =>
    have h1 := hl x (by simp)
    exact ih (max kept x.e) (by omega) (fun z hz => hl z (by simp [hz]))
theorem next_le (kept B : Int) (l : List MT) (h : kept ≤ B) (hl : ∀ x ∈ l, x.e ≤ B) : nextI kept l ≤ B + 2 := by
  have := most_le kept B l h hl
  unfold nextI
  split <;> omega
theorem take_snoc {α : Type} {l : List α} {k : Nat} {x : α} (h : l[k]? = some x) : l.take (k + 1) = l.take k ++ [x] := by
  obtain ⟨hk, hx⟩ := List.getElem?_eq_some_iff.1 h
  rw [List.take_succ_eq_append_getElem hk, hx]

set_option maxRecDepth 100000 in
set_option maxHeartbeats 4000000 in
theorem metaNext_walk (kept : Int) (A : Option Addr) (n c : Nat) (l : List MT) (w : World) (hh : Half w) (hk : (Lit.int .u16 kept).wf = true) (hl : ArgM w A n c l) :
    Calls Tryd.prog 9 #[.int .u16 kept, .slice A n c] w fun e w' => e = .returned (.bool true) ∧ Below w.heap.size w w' := by
  have hk' : 0 ≤ kept ∧ kept ≤ 65535 := by simpa [Lit.wf, IntKind.min, IntKind.max, IntKind.signed, IntKind.bits] using hk
  obtain ⟨hk0, hk1⟩ := hk'
  have Hn := Lib.hid hl.len
  have hbd := hl.bd
  have hr := hl.ls
  have HM := Lib.hid hl.mi
  clear hl hk
  go_enter Tryd.func9, Tryd.ntmps9
  go_wp2_with fail
  refine (mtAwake_any w hh).mono ?_
  rintro e w1 ⟨rfl, hb1⟩
  by_cases hbig : 300 < n
  · go_wp2_with fail
    refine (mtAwake_any w1 (hh.below hb1)).mono ?_
    rintro e w2 ⟨rfl, hb2⟩
    go_wp2
    go_ret
    exact ⟨rfl, bthen hb1 hb2⟩
  have hr1 := hr.below hb1
  clear hr
  go_wp2
  simp only [show decide (300 < (n : Int)) = false from decide_eq_false (by omega)]
  go_loopw [5, 19] (fun v i wr => ∃ k : Nat, k ≤ n ∧ i = .int .i64 k ∧ Hid (OwnL pcM 29 2 wr w1.heap.size v (l.take k)) ∧ Hid (MSm (l.take k)) ∧ Below w1.heap.size w1 wr) (fun _ i _ => n - (intOf i).toNat)
  case atStart => exact ⟨0, Nat.zero_le _, rfl, OwnL.nil_ _ _ _, fun x hx => by simp at hx, Below.refl _ _⟩
  case round =>
    obtain ⟨k, hkn, rfl, HO, HS, hbw⟩ := hrel
    by_cases hlt : k < n
    · obtain ⟨ad, x, rfl, hx, hlb, c1, c2⟩ := (hr1.below hbw).atM (i := k) (by rw [Hn.out]; exact hlt)
      have hmi := HM.out x (List.mem_of_getElem? hx)
      obtain ⟨xe, xr⟩ := x
      simp only at c1 c2
      have hx0 : -9223372036854775808 ≤ xe := hmi.1.1
      have hx1 : xe ≤ 9223372036854775807 := hmi.1.2
      have HX := Lib.hid hx
      clear hx hmi
      by_cases hneg : xe < 0
      · go_wp2
        go_ret
        exact ⟨rfl, bthen hb1 hbw⟩
      · by_cases hgt : 1073741824 < xe
        · go_wp2
          go_ret
          exact ⟨rfl, bthen hb1 hbw⟩
        · obtain ⟨v', w2, hrun, ho2, hg2⟩ := append_meta 42 HO.out hbw.size xe xr (by rw [List.length_take]; omega)
          have hba : Below wr.heap.size wr (wr.alloc (.cells #[.int .i64 xe, .int .i64 xr] 29)) := (Below.refl _ _).alloc (Nat.le_refl _) _
          have hbwa := bthen hbw hba
          have HG := Lib.hid ((HO.out.below hba).grow_below hbwa hbwa.size hg2)
          have HR := Lib.hid hrun
          have HO2 : Hid (OwnL pcM 29 2 w2 w1.heap.size v' (l.take (k + 1))) := by rw [take_snoc HX.out]; exact ho2
          have HS2 : Hid (MSm (l.take (k + 1))) := by
            rw [take_snoc HX.out]
            intro z hz
            rcases List.mem_append.1 hz with hz | hz
            · exact HS.out z hz
            · rw [List.mem_singleton] at hz
              subst hz
              exact ⟨by simp only; omega, by simp only; omega⟩
          clear hrun ho2 hg2 hba hbwa HO HS
          go_wp2_with (at_builtin; refine wpList_append_ran rfl (.tmp 36) (.tmp 41) 42 rfl _ _ _ _ rfl rfl HR.out ?_)
          exact ⟨⟨k + 1, by omega, by go_num, HO2, HS2, HG.out⟩, by simp [intOf]; omega⟩
    · have hkn' : k = n := by omega
      subst hkn'
      have htl : l.take k = l := List.take_of_length_le (by rw [Hn.out]; exact Nat.le_refl _)
      rw [htl] at HO HS
      obtain ⟨A2, c2, rfl, hc2, hls2⟩ := HO.out.form
      have hkn2 : l.length = k := Hn.out
      rw [hkn2] at hc2
      have HLS := Lib.hid hls2
      have hb01 := bthen hb1 hbw
      have hab := next_above kept l
      obtain ⟨nx, hnx⟩ : ∃ nx, nx = nextI kept l := ⟨_, rfl⟩
      rw [← hnx] at hab
      have HNX := Lib.hid hnx
      have hnx0 := hab.1
      have HAB := Lib.hid hab.2.1
      have HSL := Lib.hid hab.2.2
      have hnx1 : nx ≤ 1073741826 := by
        rw [hnx]
        exact next_le kept 1073741824 l (by omega) (fun x hx => (HS.out x hx).2)
      clear hab hnx hls2 htl HO
      go_wp2_with fail
      rw [hkn2]
      refine (mtNext_any kept A2 k c2 l wr HLS.out Hn.out (by omega) (by omega) (by omega) HS.out).mono ?_
      rintro e w2 ⟨rfl, hb2⟩
      rw [← HNX.out]
      have hb12 := bthen hbw hb2
      have hb02 := bthen hb1 hb12
      clear HLS hb2 hbw hb01 hkn2
      go_wp2
      go_loopw [50] (fun i wr' => ∃ j : Nat, j ≤ k ∧ i = .int .i64 j ∧ wr' = w2) (fun i _ => k - (intOf i).toNat)
      case atStart => exact ⟨0, Nat.zero_le _, rfl, rfl⟩
      case round =>
        rename_i wr2
        obtain ⟨j, hj, rfl, rfl⟩ := hrel
        by_cases hjk : j < k
        · obtain ⟨ad, x, rfl, hx, hlb, c1, c2'⟩ := (hr1.below hb12).atM (i := j) (by rw [Hn.out]; exact hjk)
          have hxm := List.mem_of_getElem? hx
          have hx2 := HAB.out x hxm
          have hx3 := (HS.out x hxm).1
          obtain ⟨xe, hxe⟩ : ∃ xe, xe = x.e := ⟨_, rfl⟩
          rw [← hxe] at hx2 hx3 c1
          clear hx hxm hxe
          go_wp2
          exact ⟨⟨j + 1, by omega, by go_num, trivial⟩, by simp [intOf]; omega⟩
        · have hjk' : j = k := by omega
          subst hjk'
          have hr2 := hr1.below hb12
          have hsne : slotI nx ≠ slotI kept := HSL.out
          obtain ⟨s1, hs1⟩ : ∃ s, s = slotI nx := ⟨_, rfl⟩
          obtain ⟨s2, hs2⟩ : ∃ s, s = slotI kept := ⟨_, rfl⟩
          rw [← hs1, ← hs2] at hsne
          have hne : (s1 != s2) = true := by simpa using hsne
          have HS1 := Lib.hid hs1
          have HS2 := Lib.hid hs2
          clear hs1 hs2 hsne hr1 hb12
          go_wp2_with fail
          refine (mtRefNext_any kept A j c l _ hr2 Hn.out (by omega) (by omega) (by omega) HS.out).mono ?_
          rintro e w3 ⟨rfl, hb3⟩
          rw [← HNX.out]
          have hb03 := bthen hb02 hb3
          clear hb3 hr2
          go_wp2_with fail
          refine (mtSlot_any nx w3 ⟨by omega, by omega⟩).mono ?_
          rintro e w4 ⟨rfl, rfl⟩
          rw [← HS1.out]
          go_wp2_with fail
          refine (mtSlot_any kept w3 ⟨by omega, by omega⟩).mono ?_
          rintro e w4 ⟨rfl, rfl⟩
          rw [← HS2.out]
          go_wp2
          go_ret
          exact ⟨rfl, hb03⟩

end Go.Proofs.YtcgmaiadipiegaaDoor

namespace Go.Proofs.YtcgmaiadipiegaaDoor.metaNext
open Go Go.ChangeShapes Go.WideShapes Go.ChangeAt Go.RowKit
open Go.ChangeMaps (open_string shut_string)
set_option linter.unusedVariables false

theorem own : ownKnob Tryd.prog.godebug = none := by kernel_rfl

theorem laidOut : laidOutB Tryd.prog = true := by kernel_rfl

set_option maxRecDepth 100000 in
theorem lifted (os : Os) (started : os.Started) (H : Type) (enc : TypeId × Value → H) :
    ReturnsInHanded {} Tryd.checked os 9 .any (fun w args => (Rows.metaNextSpec.pre enc Tryd.prog Tryd.f9 [] false w args ∧ laidMetH Tryd.prog laidL w) ∧ sizedMet enc Tryd.prog Tryd.f9 (OpenSpec.ofChange Rows.metaNextSpec) false w args)
      (Rows.metaNextSpec.post enc Tryd.prog Tryd.f9 false true false false) := by
  refine returnsInHanded_of_change_and (C := Tryd.checked) (X := fun w _ => laidMetH Tryd.prog laidL w) (fun _ _ _ hh h => h.of_heap hh) own started (by kernel_rfl) Tryd.func9
    (ChangeSpec.witness_shaped (enc := enc) (C := Tryd.checked) (os := os) (X := fun w _ => laidMetH Tryd.prog laidL w) false (World.doorLaid Tryd.prog 14 os) #[.int .u16 0, .slice none 0 0] 8 rfl (World.shaped_of_RefB (by kernel_rfl) (by kernel_rfl)) (by kernel_rfl) (by kernel_rfl) (by kernel_rfl) (door_met os _)) ?_
  intro W base args ds gs before hval0 hW hcnd hsz0 hL _
  have hval : ∀ (j : Nat) t v, Tryd.f9.params[j]? = some t → args[j]? = some v → Value.okWide Tryd.prog W .any base t v := hval0
  have hsz : (DataW.weightsEach Tryd.prog (Tryd.f9.params.toList ++ Rows.metaNextSpec.plain.varTypes Tryd.prog) (ds ++ gs)).all (· ≤ reachBytes) = true := hsz0
  have hW' := hW
  obtain ⟨p, q, hA0, hV, rfl, hfz, hnd⟩ := hW
  have hA : DataW.TrodAll enc Tryd.prog W 0 (fun _ => true) true Tryd.f9.params.toList args.toList ds p := hA0
  rw [Tryd.params9] at hA hval hsz
  obtain ⟨v0, vs0, d0, ds0, p0, q0, hargs, rfl, rfl, h0, r0⟩ := trodAll_cons hA
  obtain ⟨v1, vs1, d1, ds1, p1, q1, rfl, rfl, rfl, h1, r1⟩ := trodAll_cons r0
  obtain ⟨rfl, rfl, rfl⟩ := trodAll_nil r1
  obtain rfl : args = #[v0, v1] := by cases args; simp_all
  obtain ⟨rfl, rfl⟩ := trodVars_none hV
  obtain ⟨a0, rfl, rfl, rfl, w0⟩ := open_int Tryd.underlying47 (hval 0 47 v0 rfl rfl) h0
  have k1 := h1
  have lt1 : ∀ x ∈ p1, x.block < W.heap.size := by obtain ⟨m, hm⟩ := k1; exact DataW.trod_lt m _ _ _ hm
  obtain ⟨A1, n1, c1, l1, rfl, w1⟩ := open_metas (hval 1 40 v1 rfl rfl) h1 (fun m hm => of_decide_eq_true (List.all_eq_true.1 hsz _ (DataW.weights_mem_each (j := 1) (t := 40) rfl rfl m hm)))
  clear hA0 hval0 hsz hsz0
  refine (metaNext_walk a0 A1 n1 c1 l1 W (half_of_laid hL) w0 w1).mono fun e W' ⟨he, bel⟩ => ?_
  subst he
  exact ⟨_, rfl, _, _, _, [], _, [], hW', trodAll_mk1 (shut_bool Tryd.underlying4 _), (trodAll_cons_mk (shut_int Tryd.underlying47 w0) (trodAll_cons_mk (Below.trod laidOut (by kernel_rfl) (of_decide_eq_true (by kernel_rfl)) k1 bel lt1) trodAll_mk0)), rfl, bel.frame _, fun h => by cases h⟩

theorem over : Rows.MetaNextSaid :=
  OpenClaim.holds_of_wide 9 Tryd.f9 rfl rfl rfl rfl rfl rfl rfl ⟨rfl, rfl, rfl, rfl, rfl⟩ rfl rfl rfl rfl rfl (by kernel_rfl) Tryd.func9 (by kernel_rfl)
    (of_decide_eq_true (by kernel_rfl)) (by unfold Func.isWrapper; first | (rw [if_pos (by decide +kernel)]; kernel_rfl) | (rw [if_neg (by decide +kernel)]; exact ⟨rfl, rfl⟩))
    (fun os started H enc _ => lifted os started H enc)

theorem proved : Rows.MetaNextCardSaid :=
  Claim7.holds_tied_plain_at .later [] [.data] true (true, "ff6571c9258cc5ae1a33e9450d62fd3a3d2abbbe87473920b80c14b5ab16f570") false
    over (fun _ h => by cases h) (by kernel_rfl) (fun _ h => by cases h) metaNext_row_tie rfl ⟨rfl, rfl⟩ (by kernel_rfl) rfl
    (fun f fn hf hfn => by
      obtain rfl : f = 9 := Option.some.inj ((show Tryd.prog.funcNamed "sapwood/sapwoodlaw06.MetaNext" = some 9 by kernel_rfl).symm.trans hf) |>.symm
      obtain rfl : fn = Tryd.f9 := (Option.some.inj (Tryd.func9.symm.trans hfn)).symm
      exact ⟨by kernel_rfl, fun j t ht => by
        rw [Tryd.params9] at ht
        have hm : t ∈ [47, 40] := by simpa using Array.mem_of_getElem? ht
        have hall : ([47, 40].all fun u => !Tryd.prog.wantsStandIn u) = true := by kernel_rfl
        exact (show Tryd.prog.wantsStandIn t = false by simpa using List.all_eq_true.1 hall t hm)⟩)
    (by kernel_rfl)
#print axioms proved

end Go.Proofs.YtcgmaiadipiegaaDoor.metaNext
