/-
  NodeNil: a nil node, and the zero one, have nothing; and a branch of nil nodes can't be; for both, and every number; no condition beyond the row's.
-/
import Derived.Test.YtabgbbfiggnanaaNodeHelp
import Derived.SizedLaws
import Derived.ProofKit
import Derived.Lib.SmallJoins
namespace Go.Proofs.Ytabgbbfiggnanaa
open Go.RowKit Go.Sort Go.ChangeShapes Go.WideShapes
set_option linter.unusedVariables false
set_option linter.unusedSimpArgs false

set_option maxRecDepth 100000 in
set_option maxHeartbeats 2000000 in
theorem nodeNil_walk (z : Bool) (y0 : Int) (w : World) (hy : (Lit.int .u8 y0).wf = true) :
    Calls Try.prog 5 #[.bool z, .int .u8 y0] w fun e w' => e = .returned (.bool true) ∧ Below w.heap.size w w' := by
  obtain ⟨y, hy2, rfl⟩ := byte_of hy
  clear hy
  obtain ⟨n, hn⟩ : ∃ n, n = y % 8 := ⟨_, rfl⟩
  have hn8 : n < 8 := by omega
  have hmk := run_make_nils n (by omega)
  have hyn : ((y : Int) % 8) = (n : Int) := by omega
  have hyt : (y : Int).tmod 8 = (n : Int) := by rw [Int.tmod_eq_emod_of_nonneg (by omega)]; exact hyn
  have hls := ls_nils n
  have HLS := Lib.hid hls
  clear hn hls
  go_enter Try.func5, Try.ntmps5
  go_wp2_with fail
  refine (ndAwake_any w).mono ?_
  rintro e w1 ⟨rfl, hb1⟩
  have HB := Lib.hid hb1
  clear hb1
  cases z
  · go_wp2_with fail
    refine (ends_nil w1).mono ?_
    rintro e w2 ⟨rfl, rfl⟩
    go_wp2_with fail
    refine (branch_nil (some ⟨w1.heap.size, 0, none⟩) n n (List.replicate n none) _ (HLS.out w1) (by simp) (by omega) ?_).mono ?_
    · rcases Nat.lt_or_ge n 2 with h | h
      · exact .inl h
      · exact .inr (List.mem_replicate.2 ⟨by omega, rfl⟩)
    rintro e w3 ⟨rfl, rfl⟩
    have hb3 : Below w1.heap.size w1 (w1.alloc (.cells (List.replicate n (.pointer none)).toArray 30)) := (Below.refl _ _).alloc (Nat.le_refl _) _
    have HB3 := Lib.hid (bthen HB.out hb3)
    clear hb3 HB hmk
    generalize w1.alloc (.cells (List.replicate n (.pointer none)).toArray 30) = w3 at *
    go_wp2_with fail
    refine (height_nil w3).mono ?_
    rintro e w4 ⟨rfl, rfl⟩
    go_wp2_with fail
    refine (size_nil w3).mono ?_
    rintro e w4 ⟨rfl, rfl⟩
    go_wp2_with fail
    refine (entries_nil w3).mono ?_
    rintro e w4 ⟨rfl, rfl⟩
    go_wp2_with fail
    refine (kids_nil w3).mono ?_
    rintro e w4 ⟨rfl, rfl⟩
    go_wp2_with fail
    refine (full_nil w3).mono ?_
    rintro e w4 ⟨rfl, rfl⟩
    go_wp2
    go_ret
    exact ⟨rfl, HB3.out⟩
  · obtain ⟨wa, hwa⟩ : ∃ wa, wa = w1.alloc (.cells (NR.cells NR.zero) 48) := ⟨_, rfl⟩
    have hba : Below w1.heap.size w1 wa := by rw [hwa]; exact (Below.refl _ _).alloc (Nat.le_refl _) _
    have HN := Lib.hid (show NodeAt wa w1.heap.size NR.zero by rw [hwa]; exact NodeAt.new w1 _)
    have HBA := Lib.hid (bthen HB.out hba)
    have HWA := Lib.hid (show w1.alloc (.cells #[.slice none 0 0, .slice none 0 0, .int .i64 0, .string ⟨#[]⟩, .string ⟨#[]⟩, .bool false] 48) = wa by rw [hwa]; rfl)
    clear hwa hba HB
    go_wp2_with fail
    rw [HWA.out]
    refine (ends_any HN.out).mono ?_
    rintro e w2 ⟨rfl, nq, rfl⟩
    simp only [show NR.zero.lo = ByteArray.empty from rfl, show NR.zero.hi = ByteArray.empty from rfl]
    have HN2 := Lib.hid (HN.out.drewN nq)
    have HB2 := Lib.hid (below_drewN HBA.out nq)
    clear HN HBA HWA
    generalize wa.drewN nq = w2 at *
    go_wp2_with fail
    refine (branch_nil (some ⟨w2.heap.size, 0, none⟩) n n (List.replicate n none) _ (HLS.out w2) (by simp) (by omega) ?_).mono ?_
    · rcases Nat.lt_or_ge n 2 with h | h
      · exact .inl h
      · exact .inr (List.mem_replicate.2 ⟨by omega, rfl⟩)
    rintro e w3 ⟨rfl, rfl⟩
    have hb3 : Below w2.heap.size w2 (w2.alloc (.cells (List.replicate n (.pointer none)).toArray 30)) := (Below.refl _ _).alloc (Nat.le_refl _) _
    have HB3 := Lib.hid (bthen HB2.out hb3)
    have HN3 := Lib.hid (HN2.out.below hb3)
    clear hb3 HB2 HN2 hmk
    generalize w2.alloc (.cells (List.replicate n (.pointer none)).toArray 30) = w3 at *
    go_wp2_with fail
    refine (height_any HN3.out).mono ?_
    rintro e w4 ⟨rfl, rfl⟩
    simp only [show NR.zero.h = 0 from rfl]
    go_wp2_with fail
    refine (size_any HN3.out (by decide)).mono ?_
    rintro e w4 ⟨rfl, mq, rfl⟩
    simp only [show NR.zero.en + NR.zero.kn = 0 from rfl]
    have HN4 := Lib.hid (HN3.out.drewN mq)
    have HB4 := Lib.hid (below_drewN HB3.out mq)
    clear HN3 HB3
    generalize w3.drewN mq = w4 at *
    go_wp2_with fail
    refine (entries_any HN4.out (l := []) (Es.nil _ _) rfl (by decide)).mono ?_
    rintro e w5 ⟨v, rfl, hov, hb5⟩
    obtain ⟨A5, c5, rfl, _⟩ := hov.form
    have HN5 := Lib.hid (HN4.out.below hb5)
    have HB5 := Lib.hid (bthen HB4.out hb5)
    clear HN4 HB4 hb5 hov
    go_wp2_with fail
    refine (kids_any HN5.out (l := []) (Ls.nil _ _) rfl (by decide)).mono ?_
    rintro e w6 ⟨v, rfl, hov, hb6⟩
    obtain ⟨A6, c6, rfl, _⟩ := hov.form
    have HN6 := Lib.hid (HN5.out.below hb6)
    have HB6 := Lib.hid (bthen HB5.out hb6)
    clear HN5 HB5 hb6 hov
    go_wp2_with fail
    refine (full_any HN6.out).mono ?_
    rintro e w7 ⟨rfl, rfl⟩
    simp only [show (!NR.zero.lk) = true from rfl]
    go_wp2
    go_ret
    exact ⟨rfl, HB6.out⟩

end Go.Proofs.Ytabgbbfiggnanaa

namespace Go.Proofs.Ytabgbbfiggnanaa.nodeNil
open Go.ChangeShapes Go.WideShapes Go.ChangeAt Go.RowKit
open Go.ChangeMaps (open_string shut_string)
set_option linter.unusedVariables false

theorem own : ownKnob Try.prog.godebug = none := by kernel_rfl
theorem laidOut : laidOutB Try.prog = true := by kernel_rfl

set_option maxRecDepth 100000 in
theorem lifted (os : Os) (started : os.Started) (H : Type) (enc : TypeId × Value → H) :
    ReturnsInHanded {} Try.checked os 5 .any (Rows.nodeNilSpec.pre6 enc Try.prog Try.f5 Rows.nodeNilRow.domain false) (Rows.nodeNilSpec.post enc Try.prog Try.f5 false true false false) := by
  refine returnsInHanded_of_change_sized (C := Try.checked) own started (by kernel_rfl) Try.func5
    (ChangeSpec.witness6 (enc := enc) (C := Try.checked) false ⟨#[], #[.bool false, .int .u8 0], []⟩ 8 (by kernel_rfl) (by kernel_rfl) (by kernel_rfl) (by kernel_rfl)) ?_
  intro W base args ds gs before hval0 hW hcnd hsz0 _
  have hval : ∀ (j : Nat) t v, Try.f5.params[j]? = some t → args[j]? = some v → Value.okWide Try.prog W .any base t v := hval0
  have hsz : (DataW.weightsEach Try.prog (Try.f5.params.toList ++ Rows.nodeNilSpec.plain.varTypes Try.prog) (ds ++ gs)).all (· ≤ reachBytes) = true := hsz0
  have hW' := hW
  obtain ⟨p, q, hA0, hV, rfl, hfz, hnd⟩ := hW
  have hA : DataW.TrodAll enc Try.prog W 0 (fun _ => true) true Try.f5.params.toList args.toList ds p := hA0
  rw [Try.params5] at hA hval hsz
  obtain ⟨v0, vs0, d0, ds0, p0, q0, hargs, rfl, rfl, h0, r0⟩ := trodAll_cons hA
  obtain ⟨v1, vs1, d1, ds1, p1, q1, rfl, rfl, rfl, h1, r1⟩ := trodAll_cons r0
  obtain ⟨rfl, rfl, rfl⟩ := trodAll_nil r1
  obtain rfl : args = #[v0, v1] := by cases args; simp_all
  obtain ⟨rfl, rfl⟩ := trodVars_none hV
  obtain ⟨a0, rfl, rfl, rfl⟩ := open_bool Try.underlying4 (hval 0 4 v0 rfl rfl) h0
  obtain ⟨a1, rfl, rfl, rfl, w1⟩ := open_int Try.underlying5 (hval 1 5 v1 rfl rfl) h1
  clear hA0 hval0 hsz hsz0
  simp only [List.append_nil] at hW'
  refine (nodeNil_walk a0 a1 W w1).mono fun e W' ⟨he, bel⟩ => ?_
  subst he
  exact ⟨_, rfl, _, _, _, [], [], [], hW', trodAll_mk1 (shut_bool Try.underlying4 _), (trodAll_cons_mk (shut_bool Try.underlying4 _) (trodAll_cons_mk (shut_int Try.underlying5 w1) trodAll_mk0)), rfl, bel.frame _, fun h => by cases h⟩

theorem over : Rows.nodeNilRow.holds Try.pinned (OpenSpec.ofChange Rows.nodeNilSpec) :=
  OpenClaim.holds_of_wide 5 Try.f5 rfl rfl rfl rfl rfl rfl rfl ⟨rfl, rfl, rfl, rfl, rfl⟩ rfl rfl rfl rfl rfl (by kernel_rfl) Try.func5 (by kernel_rfl)
    (of_decide_eq_true (by kernel_rfl)) (by unfold Func.isWrapper; first | (rw [if_pos (by decide +kernel)]; kernel_rfl) | (rw [if_neg (by decide +kernel)]; exact ⟨rfl, rfl⟩))
    (fun os started H enc _ => lifted os started H enc)

theorem proved : Rows.NodeNilSaid := over
#print axioms proved

end Go.Proofs.Ytabgbbfiggnanaa.nodeNil
