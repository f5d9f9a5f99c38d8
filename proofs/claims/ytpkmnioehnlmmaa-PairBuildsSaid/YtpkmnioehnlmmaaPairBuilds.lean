/-
  PairBuilds: a list that was built of any entries rises and has of each key the last one, for every slice; no condition beyond the row's.
-/
import Derived.Test.YtpkmnioehnlmmaaPairAwake
import Derived.Test.YtpkmnioehnlmmaaPairBuilt
import Derived.Test.YtpkmnioehnlmmaaPairOpen
namespace Go.Proofs.Ytpkmnioehnlmmaa
open Go.RowKit
set_option linter.unusedVariables false

/-- An entry in a block of its own that may be written. -/
def Bx (w : World) (g : Nat) (z : Ent) : Prop := w.heap[g]? = some (.cells #[.string z.k, .string z.v] 30 (0, 0))
theorem Bx.new (w : World) (z : Ent) : Bx (w.alloc (.cells #[.string z.k, .string z.v] 30)) w.heap.size z := heap_alloc_new w _
theorem Bx.cells {w : World} {g : Nat} {z : Ent} (h : Bx w g z) : w.cell? ⟨g, 0, none⟩ = some (.string z.k) ∧ w.cell? ⟨g, 1, none⟩ = some (.string z.v) ∧ w.frozen? ⟨g, 0, none⟩ = false ∧ w.frozen? ⟨g, 1, none⟩ = false := by
  unfold Bx at h
  refine ⟨?_, ?_, by simp [World.frozen?, h], by simp [World.frozen?, h]⟩
  · rw [cell_of_row w g 0 _ _ _ h]; rfl
  · rw [cell_of_row w g 1 _ _ _ h]; rfl
theorem Bx.set {w : World} {g : Nat} {z : Ent} (h : Bx w g z) (y : Ent) : Bx ((w.setCell ⟨g, 0, none⟩ (.string y.k)).setCell ⟨g, 1, none⟩ (.string y.v)) g y := by
  unfold Bx at h ⊢
  simp [World.setCell, Array.getElem?_modify, h]
theorem below_set {B : Nat} {a w : World} (h : Below B a w) {p : Addr} (hp : B ≤ p.block) (u : Value) : Below B a (w.setCell p u) :=
  ⟨h.os, h.tape, h.output, by simpa [World.setCell] using h.size, fun i hi => (Below.heap_setCell w p u i (by omega)).trans (h.block i hi)⟩

set_option maxRecDepth 100000 in
set_option maxHeartbeats 4000000 in
theorem pairBuilds_walk (A : Option Addr) (n c : Nat) (l : List Ent) (w : World) (ha : Arg w A n c l) :
    Calls Try.prog 5 #[.slice A n c] w fun e w' => e = .returned (.bool true) ∧ Below w.heap.size w w' := by
  obtain ⟨hlen, hcap, hsm, hes, hstr⟩ := ha
  have Hl := Lib.hid hlen
  have HS := Lib.hid hstr
  clear hlen hstr
  go_enter Try.func5, Try.ntmps5
  go_wp2_with fail
  refine (awake_any w).mono ?_
  rintro e w1 ⟨rfl, hb1⟩
  go_wp2_with fail
  refine (few_any A n c l w1 (hes.below hb1) Hl.out hsm HS.out).mono ?_
  rintro e w2 ⟨rfl, hb2⟩
  have hb02 := bthen hb1 hb2
  clear hb1 hb2
  by_cases hf : Few l
  case neg =>
    rw [decide_eq_false hf]
    go_wp2_with fail
    refine (awake_any w2).mono ?_
    rintro e w3 ⟨rfl, hb3⟩
    go_wp2
    go_ret
    exact ⟨rfl, bthen hb02 hb3⟩
  rw [decide_eq_true hf]
  have hn : n ≤ 300 := by have := hf.1; rw [Hl.out] at this; exact this
  go_wp2_with fail
  refine (built_any A n c l w2 (hes.below hb02) Hl.out hn).mono ?_
  rintro e w3 ⟨v, rfl, hown, hb3⟩
  have hs := sorted_builtOf l
  have hmem := mem_builtOf l
  have HMB := Lib.hid hmem
  have hlen : (builtOf l).length ≤ n := by
    have := builtOf_len_take l l.length
    rw [List.take_length, Hl.out] at this
    exact this
  have hb03 := bthen hb02 hb3
  obtain ⟨B, d, rfl, hd, hesb⟩ := hown.form
  generalize builtOf l = a at *
  obtain ⟨m, hm⟩ : ∃ m, a.length = m := ⟨_, rfl⟩
  rw [hm] at hd hlen ⊢
  have Hm := Lib.hid hm
  clear hm hown hb02 hb3 hf hmem
  go_wp2_with fail
  refine (rise_any B m d a w3 hesb Hm.out (by omega)).mono ?_
  rintro e w4 ⟨rfl, hb4⟩
  rw [decide_eq_true hs]
  replace hesb := hesb.below hb4
  have hb04 := bthen hb03 hb4
  have hes4 := hes.below hb04
  clear hb03 hb4 hes
  go_wp2
  simp only [show decide (n < m) = false from decide_eq_false (by omega)]
  go_loopw [31] (fun i wr => ∃ k : Nat, k ≤ n ∧ i = .int .i64 k ∧ Below w4.heap.size w4 wr) (fun i _ => n - (intOf i).toNat)
  case atStart => exact ⟨0, Nat.zero_le _, rfl, Below.refl _ _⟩
  case round =>
    obtain ⟨k, hk, rfl, hbr⟩ := hrel
    by_cases hlt : k < n
    · generalize wr = wo at *
      obtain ⟨ad, y, rfl, hy, hl, h1, h2⟩ := (hes4.below hbr).at_ (i := k) (by rw [Hl.out]; exact hlt)
      have Hy := Lib.hid hy
      clear hy
      go_wp2
      have hbx0 := Bx.new wo y
      have hbq0 : Below wo.heap.size wo (wo.alloc (.cells #[.string y.k, .string y.v] 30)) := (Below.refl _ _).alloc (Nat.le_refl _) _
      have hla : lastOf (l.take (k + 1)) y.k = some y := by rw [take_snoc Hy.out, lastOf_snoc, if_pos rfl]
      generalize wo.alloc (.cells #[.string y.k, .string y.v] 30) = wz at *
      have HLA := Lib.hid hla
      have HBX := Lib.hid hbx0
      have HBQ := Lib.hid hbq0
      clear hla hbx0 hbq0 h1 h2
      go_loopw [6] (fun i wq => ∃ (j : Nat) (z : Ent), k + 1 ≤ j ∧ j ≤ n ∧ i = .int .i64 j ∧ Bx wq wo.heap.size z ∧ Hid (lastOf (l.take j) y.k = some z) ∧ Below wo.heap.size wo wq) (fun i _ => n - (intOf i).toNat)
      case atStart => exact ⟨k + 1, y, Nat.le_refl _, by omega, by go_num, HBX.out, HLA, HBQ.out⟩
      case round =>
        obtain ⟨j, z, hkj, hjn, rfl, hbx, HL, hbq⟩ := hrel
        have HB := Lib.hid hbx
        obtain ⟨q0, q1, f0, f1⟩ := hbx.cells
        clear hbx
        have hb4q := bthen hbr hbq
        by_cases hj : j < n
        · obtain ⟨ad', u, e', hu, hul, h1, h2⟩ := (hes4.below hb4q).at_ (i := j) (by rw [Hl.out]; exact hj)
          cases e'
          have Hu := Lib.hid hu
          clear hu
          have hzk := lastOf_key HL.out
          have hsm2 := same_eq u.k z.k
          by_cases hk2 : u.k = y.k
          · have hsm3 : (u.k.toList == z.k.toList) = true := by rw [hsm2]; simp [hzk, hk2]
            have HNL : Hid (lastOf (l.take (j + 1)) y.k = some u) := Lib.hid (by rw [take_snoc Hu.out, lastOf_snoc, if_pos hk2])
            clear hsm2 hzk hk2
            go_wp2
            go_quiet (fail)
            go_wp2
            have hbo := HB.out
            exact ⟨⟨j + 1, u, by omega, by omega, by go_num, Bx.set (w := wr.drewN nq) hbo u, HNL, below_set (below_set (below_drewN hbq nq) (Nat.le_refl _) _) (Nat.le_refl _) _⟩, by simp [intOf]; omega⟩
          · have hsm3 : (u.k.toList == z.k.toList) = false := by rw [hsm2]; simp [hzk, hk2]
            have HNL : Hid (lastOf (l.take (j + 1)) y.k = some z) := Lib.hid (by rw [take_snoc Hu.out, lastOf_snoc, if_neg hk2]; exact HL.out)
            clear hsm2 hzk hk2
            go_wp2
            go_quiet (fail)
            go_wp2
            exact ⟨⟨j + 1, z, by omega, by omega, by go_num, HB.out, HNL, below_drewN hbq _⟩, by simp [intOf]; omega⟩
        · have he : j = n := by omega
          subst he
          have hl0 := HL.out
          rw [List.take_of_length_le (by rw [Hl.out]; exact Nat.le_refl _)] at hl0
          have HL0 := Lib.hid hl0
          clear hl0 HL
          obtain ⟨ad', y', e', hy', _, h1, h2⟩ := (hes4.below hb4q).at_ (i := k) (by rw [Hl.out]; exact hlt)
          cases e'
          obtain rfl : y = y' := Option.some.inj (Hy.out.symm.trans hy')
          clear hy'
          go_wp2_with fail
          refine (find_any B m d a y.k wr (hesb.below hb4q) Hm.out (by omega)).mono ?_
          rintro e w5 ⟨i, f, rfl, hp, hb5⟩
          have hzk := lastOf_key HL0.out
          have hf : f = true := (hp.mem hs).2 ⟨z, (HMB.out z).2 (by rw [hzk]; exact HL0.out), hzk⟩
          subst hf
          obtain ⟨z', hz', hzk'⟩ := hp.found.1 rfl
          have hzz : z' = z := by
            have := (HMB.out z').1 (List.mem_of_getElem? hz')
            rw [hzk', HL0.out] at this
            exact (Option.some.inj this).symm
          subst hzz
          have him : i < m := by have := hp.lt; rw [Hm.out] at this; exact this
          have hb45 := bthen hb4q hb5
          obtain ⟨ad2, z2, e2, hz2, _, h12, h22⟩ := (hesb.below hb45).at_ (i := i) (by rw [Hm.out]; exact him)
          subst e2
          obtain rfl : z' = z2 := Option.some.inj (hz'.symm.trans hz2)
          have hgl := lt_of_block HB.out
          have q05 := (hb5.cell (p := ⟨wo.heap.size, 0, none⟩) hgl).trans q0
          have q15 := (hb5.cell (p := ⟨wo.heap.size, 1, none⟩) hgl).trans q1
          have hq := neq_same z'.k z'.v
          have hd1 : decide ((m : Int) ≤ (i : Int)) = false := decide_eq_false (by omega)
          clear hz' hz2 hzk hzk' hp HB HL0 q0 q1 f0 f1 h1 h2
          go_wp2
          go_quiet (fail)
          go_wp2
          go_roundw
          case rel => exact ⟨k + 1, by omega, by go_num, below_drewN hb45 _⟩
          case measure => simp [intOf]; omega
    · go_wp2
      go_ret
      exact ⟨rfl, bthen hb04 hbr⟩

end Go.Proofs.Ytpkmnioehnlmmaa

namespace Go.Proofs.Ytpkmnioehnlmmaa.pairBuilds
open Go.ChangeShapes Go.WideShapes Go.ChangeAt Go.RowKit
open Go.ChangeMaps (open_string shut_string)
set_option linter.unusedVariables false

theorem own : ownKnob Try.prog.godebug = none := by kernel_rfl
theorem laidOut : laidOutB Try.prog = true := by kernel_rfl

set_option maxRecDepth 100000 in
theorem lifted (os : Os) (started : os.Started) (H : Type) (enc : TypeId × Value → H) :
    ReturnsInHanded {} Try.checked os 5 .any (Rows.pairBuildsSpec.pre6 enc Try.prog Try.f5 Rows.pairBuildsRow.domain false) (Rows.pairBuildsSpec.post enc Try.prog Try.f5 false true false false) := by
  refine returnsInHanded_of_change_sized (C := Try.checked) own started (by kernel_rfl) Try.func5
    (ChangeSpec.witness6 (enc := enc) (C := Try.checked) false ⟨#[], #[.slice none 0 0], []⟩ 8 (by kernel_rfl) (by kernel_rfl) (by kernel_rfl) (by kernel_rfl)) ?_
  intro W base args ds gs before hval0 hW hcnd hsz0 _
  have hval : ∀ (j : Nat) t v, Try.f5.params[j]? = some t → args[j]? = some v → Value.okWide Try.prog W .any base t v := hval0
  have hsz : (DataW.weightsEach Try.prog (Try.f5.params.toList ++ Rows.pairBuildsSpec.plain.varTypes Try.prog) (ds ++ gs)).all (· ≤ reachBytes) = true := hsz0
  have hW' := hW
  obtain ⟨p, q, hA0, hV, rfl, hfz, hnd⟩ := hW
  have hA : DataW.TrodAll enc Try.prog W 0 (fun _ => true) true Try.f5.params.toList args.toList ds p := hA0
  rw [Try.params5] at hA hval hsz
  obtain ⟨v0, vs0, d0, ds0, p0, q0, hargs, rfl, rfl, h0, r0⟩ := trodAll_cons hA
  obtain ⟨rfl, rfl, rfl⟩ := trodAll_nil r0
  obtain rfl : args = #[v0] := by cases args; simp_all
  obtain ⟨rfl, rfl⟩ := trodVars_none hV
  obtain ⟨A0, n0, c0, rfl⟩ := okWide_slice Try.underlying22 (hval 0 22 v0 rfl rfl)
  have k0 := h0
  have lt0 : ∀ x ∈ p0, x.block < W.heap.size := by obtain ⟨m, hm⟩ := k0; exact DataW.trod_lt m _ _ _ hm
  obtain ⟨l0, w0⟩ := open_ents h0 (fun m hm => of_decide_eq_true (List.all_eq_true.1 hsz _ (DataW.weights_mem_each (j := 0) (t := 22) rfl rfl m hm)))
  clear hA0 hval0 hsz hsz0
  refine (pairBuilds_walk A0 n0 c0 l0 W w0).mono fun e W' ⟨he, bel⟩ => ?_
  subst he
  exact ⟨_, rfl, _, _, _, [], _, [], hW', trodAll_mk1 (shut_bool Try.underlying4 _), (trodAll_cons_mk (Below.trod laidOut (by kernel_rfl) (of_decide_eq_true (by kernel_rfl)) k0 bel lt0) trodAll_mk0), rfl, bel.frame _, fun h => by cases h⟩

theorem over : Rows.pairBuildsRow.holds Try.pinned (OpenSpec.ofChange Rows.pairBuildsSpec) :=
  OpenClaim.holds_of_wide 5 Try.f5 rfl rfl rfl rfl rfl rfl rfl ⟨rfl, rfl, rfl, rfl, rfl⟩ rfl rfl rfl rfl rfl (by kernel_rfl) Try.func5 (by kernel_rfl)
    (of_decide_eq_true (by kernel_rfl)) (by unfold Func.isWrapper; first | (rw [if_pos (by decide +kernel)]; kernel_rfl) | (rw [if_neg (by decide +kernel)]; exact ⟨rfl, rfl⟩))
    (fun os started H enc _ => lifted os started H enc)

theorem proved : Rows.PairBuildsSaid := over
#print axioms proved

end Go.Proofs.Ytpkmnioehnlmmaa.pairBuilds
