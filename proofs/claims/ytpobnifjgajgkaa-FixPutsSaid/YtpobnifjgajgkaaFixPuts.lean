/-
  The law FixPuts answers true for all bytes, every number and every text: they are put as the document's answer has them; no conditions but the form's own reach (a string of at most 2^47 - 4096 bytes).
-/
import Derived.Test.YtpobnifjgajgkaaFixConv
import Derived.ProofKit
import Derived.OpenShut
import Derived.Carry
import Derived.ShutString
import Derived.SizedLaws
namespace Go.Proofs.Ytpobnifjgajgkaa
open Go.RowKit Go.Sort
set_option linter.unusedVariables false

set_option maxHeartbeats 1000000 in
theorem fixPuts_walk (b : ByteArray) (n : Int) (t : ByteArray) (hbs : b.size ≤ 140737488351232) (h1 : -9223372036854775808 ≤ n) (h2 : n ≤ 9223372036854775807) (ht : t.size ≤ 140737488351232) (w : World) :
    Calls Try.prog 3 #[.string b, .int .i64 n, .string t] w fun e w' => e = .returned (.bool true) ∧ Below w.heap.size w w' := by
  obtain ⟨C, F, hcv, hF⟩ := bytes_of b
  have HF := Lib.hid hF
  clear hF
  have l2 := be16_len n
  have l4 := be32_len n
  have hbl : b.data.toList.length = b.size := rfl
  have Hbl := Lib.hid hbl
  clear hbl
  have q16 := put_eq b (be16 n)
  have q32 := put_eq b (be32 n)
  have hu := textB_size t
  obtain ⟨u, hu0⟩ : ∃ u, u = textB t := ⟨_, rfl⟩
  rw [← hu0] at hu
  have HU := Lib.hid hu0
  clear hu0
  have qt := put_eq b (be16 u.size ++ u.data.toList)
  have lt : (be16 (u.size : Int) ++ u.data.toList).length = 2 + u.size := by rw [List.length_append, be16_len]; rfl
  generalize hT : be16 (u.size : Int) ++ u.data.toList = T at *
  have HT := Lib.hid hT
  clear hT
  go_enter Try.func3, Try.ntmps3
  go_wp2_with fail
  refine (awake_any _).mono ?_
  rintro x w1 ⟨rfl, hb1⟩
  go_wp2_with fail
  refine wp_region_segs [([0, 2, 5, 6], 1), ([], 3), ([4], 7), ([8, 9, 10, 11, 13, 16, 17], 12), ([], 14), ([15], 18), ([19, 20, 21, 22, 23, 25, 28, 29], 24), ([], 26), ([27], 30)] [31, 32, 33, 34] (by kernel_rfl) (by kernel_rfl) (by kernel_rfl) (by kernel_rfl) (by intro c a d v w h; cases d <;> exact h) ?_
  have hs1 := hb1.drew
  generalize w1.drew = u1 at *
  clear hb1
  -- []byte(b)
  refine wpSegs_more ?_
  simp only [pick, List.getElem?_cons_zero, List.getElem?_cons_succ]
  repeat (first | go_big_quiet_step (fail) | quiet_step (fail))
  refine wpQuiet_nil ?_
  refine wpOp_heavy rfl (by rfl) (fun K hK => ?_)
  go_simp
  have hF2 := HF.out u1
  generalize F u1 = w2 at *
  refine hK _ _ hF2.2 ?_
  clear hK K
  -- Put16
  refine wpSegs_more ?_
  simp only [pick]
  refine wpQuiet_nil ?_
  refine wpOp_heavy rfl (by rfl) (fun K hK => ?_)
  go_simp
  refine (put16_any _ b.size _ b.data.toList n _ hF2.1 Hbl.out (by omega) h1 h2).mono ?_
  rintro x w3 ⟨rfl, hown3, hb3⟩
  have cv3 : ∀ d os, (convert 23 9 (.slice (some ⟨w2.heap.size, 0, none⟩) (b.size + 2) (b.size + 2))).run Try.prog (grow (redrawn w3 d) os) = .ok (.string ⟨(b.data.toList ++ be16 n).toArray⟩) (grow (redrawn w3 d) os) := conv_later hown3
  refine hK _ _ hb3 ?_
  clear hK K hown3
  refine wpSegs_more ?_
  simp only [pick, List.getElem?_cons_zero, List.getElem?_cons_succ]
  repeat (first | go_big_quiet_step (fail) | quiet_step (fail))
  refine wpQuiet_nil ?_
  clear cv3
  -- Number(n, 2)
  refine wpOp_heavy rfl (by rfl) (fun K hK => ?_)
  go_simp
  refine (number_any _ n 2 (by omega) (by omega) h1 h2).mono ?_
  rintro x w4 ⟨rfl, hb4⟩
  rw [show numL n (Int.toNat 2) = be16 n from numL_2 n]
  refine hK _ _ hb4 ?_
  clear hK K
  refine wpSegs_more ?_
  simp only [pick, List.getElem?_cons_zero, List.getElem?_cons_succ]
  repeat (first | go_big_quiet_step (fail) | quiet_step (fail))
  refine wpQuiet_nil ?_
  -- the second group: []byte(b)
  refine wpOp_heavy rfl (by rfl) (fun K hK => ?_)
  go_simp
  have hF5 := HF.out w4
  generalize F w4 = w5 at *
  refine hK _ _ hF5.2 ?_
  clear hK K
  -- Put32
  refine wpSegs_more ?_
  simp only [pick]
  refine wpQuiet_nil ?_
  refine wpOp_heavy rfl (by rfl) (fun K hK => ?_)
  go_simp
  refine (put32_any _ b.size _ b.data.toList n _ hF5.1 Hbl.out (by omega) h1 h2).mono ?_
  rintro x w6 ⟨rfl, hown6, hb6⟩
  have cv6 : ∀ d os, (convert 23 9 (.slice (some ⟨w5.heap.size, 0, none⟩) (b.size + 4) (b.size + 4))).run Try.prog (grow (redrawn w6 d) os) = .ok (.string ⟨(b.data.toList ++ be32 n).toArray⟩) (grow (redrawn w6 d) os) := conv_later hown6
  refine hK _ _ hb6 ?_
  clear hK K hown6
  refine wpSegs_more ?_
  simp only [pick, List.getElem?_cons_zero, List.getElem?_cons_succ]
  repeat (first | go_big_quiet_step (fail) | quiet_step (fail))
  refine wpQuiet_nil ?_
  clear cv6
  -- Number(n, 4)
  refine wpOp_heavy rfl (by rfl) (fun K hK => ?_)
  go_simp
  refine (number_any _ n 4 (by omega) (by omega) h1 h2).mono ?_
  rintro x w7 ⟨rfl, hb7⟩
  rw [show numL n (Int.toNat 4) = be32 n from numL_4 n]
  refine hK _ _ hb7 ?_
  clear hK K
  refine wpSegs_more ?_
  simp only [pick, List.getElem?_cons_zero, List.getElem?_cons_succ]
  repeat (first | go_big_quiet_step (fail) | quiet_step (fail))
  refine wpQuiet_nil ?_
  -- the third group: []byte(b)
  refine wpOp_heavy rfl (by rfl) (fun K hK => ?_)
  go_simp
  have hF8 := HF.out w7
  generalize F w7 = w8 at *
  refine hK _ _ hF8.2 ?_
  clear hK K
  -- PutText
  refine wpSegs_more ?_
  simp only [pick]
  refine wpQuiet_nil ?_
  refine wpOp_heavy rfl (by rfl) (fun K hK => ?_)
  go_simp
  refine (putText_any _ b.size _ b.data.toList t _ hF8.1 Hbl.out (by omega) (by omega)).mono ?_
  rintro x w9 ⟨rfl, hown9, hb9⟩
  rw [← HU.out] at hown9 ⊢
  rw [List.append_assoc, HT.out] at hown9
  have cv9 : ∀ d os, (convert 23 9 (.slice (some ⟨w8.heap.size, 0, none⟩) (b.size + 2 + u.size) (b.size + (2 + u.size)))).run Try.prog (grow (redrawn w9 d) os) = .ok (.string ⟨(b.data.toList ++ T).toArray⟩) (grow (redrawn w9 d) os) := conv_later hown9
  refine hK _ _ hb9 ?_
  clear hK K hown9
  refine wpSegs_more ?_
  simp only [pick, List.getElem?_cons_zero, List.getElem?_cons_succ]
  repeat (first | go_big_quiet_step (fail) | quiet_step (fail))
  refine wpQuiet_nil ?_
  clear cv9
  -- Text(t)
  refine wpOp_heavy rfl (by rfl) (fun K hK => ?_)
  go_simp
  refine (refText_any _ t (by omega)).mono ?_
  rintro x w10 ⟨rfl, hb10⟩
  rw [← HU.out, HT.out]
  refine hK _ _ hb10 ?_
  clear hK K
  refine wpSegs_last ?_
  simp only [pick, List.getElem?_cons_zero, List.getElem?_cons_succ]
  repeat (first | go_big_quiet_step (fail) | quiet_step (fail))
  refine wpQuiet_nil ?_
  go_wp2
  go_ret
  exact ⟨rfl, bthen (bthen (bthen (bthen (bthen (bthen (bthen (bthen (bthen hs1 hF2.2) hb3) hb4) hF5.2) hb6) hb7) hF8.2) hb9) hb10⟩

theorem i64_bounds {n : Int} (h : (Lit.int .i64 n).wf = true) : -9223372036854775808 ≤ n ∧ n ≤ 9223372036854775807 := by
  simpa [Lit.wf, IntKind.min, IntKind.max, IntKind.signed, IntKind.bits] using h
theorem fixPuts_row (b : ByteArray) (n : Int) (t : ByteArray) (hbs : b.size ≤ 140737488351232) (wn : (Lit.int .i64 n).wf = true) (ht : t.size ≤ 140737488351232) (w : World) :
    Calls Try.prog 3 #[.string b, .int .i64 n, .string t] w fun e w' => e = .returned (.bool true) ∧ Below w.heap.size w w' :=
  fixPuts_walk b n t hbs (i64_bounds wn).1 (i64_bounds wn).2 ht w

end Go.Proofs.Ytpobnifjgajgkaa

namespace Go.Proofs.Ytpobnifjgajgkaa.fixPuts
open Go.ChangeShapes Go.WideShapes Go.ChangeAt Go.RowKit
open Go.ChangeMaps (open_string shut_string)
set_option linter.unusedVariables false

theorem own : ownKnob Try.prog.godebug = none := by kernel_rfl

set_option maxRecDepth 100000 in
theorem lifted (os : Os) (started : os.Started) (H : Type) (enc : TypeId × Value → H) :
    ReturnsInHanded {} Try.checked os 3 .any (Rows.fixPutsSpec.pre6 enc Try.prog Try.f3 Rows.fixPutsRow.domain false) (Rows.fixPutsSpec.post enc Try.prog Try.f3 false true false false) := by
  refine returnsInHanded_of_change_sized (C := Try.checked) own started (by kernel_rfl) Try.func3
    (ChangeSpec.witness6 (enc := enc) (C := Try.checked) false ⟨#[], #[.string ByteArray.empty, .int .i64 0, .string ByteArray.empty], []⟩ 8 (by kernel_rfl) (by kernel_rfl) (by kernel_rfl) (by kernel_rfl)) ?_
  intro W base args ds gs before hval0 hW hcnd hsz0 _
  have hval : ∀ (j : Nat) t v, Try.f3.params[j]? = some t → args[j]? = some v → Value.okWide Try.prog W .any base t v := hval0
  have hsz : (DataW.weightsEach Try.prog (Try.f3.params.toList ++ Rows.fixPutsSpec.plain.varTypes Try.prog) (ds ++ gs)).all (· ≤ reachBytes) = true := hsz0
  have hW' := hW
  obtain ⟨p, q, hA0, hV, rfl, hfz, hnd⟩ := hW
  have hA : DataW.TrodAll enc Try.prog W 0 (fun _ => true) true Try.f3.params.toList args.toList ds p := hA0
  rw [Try.params3] at hA hval hsz
  obtain ⟨v0, vs0, d0, ds0, p0, q0, hargs, rfl, rfl, h0, r0⟩ := trodAll_cons hA
  obtain ⟨v1, vs1, d1, ds1, p1, q1, rfl, rfl, rfl, h1, r1⟩ := trodAll_cons r0
  obtain ⟨v2, vs2, d2, ds2, p2, q2, rfl, rfl, rfl, h2, r2⟩ := trodAll_cons r1
  obtain ⟨rfl, rfl, rfl⟩ := trodAll_nil r2
  obtain rfl : args = #[v0, v1, v2] := by cases args; simp_all
  obtain ⟨rfl, rfl⟩ := trodVars_none hV
  obtain ⟨a0, rfl, rfl, rfl, w0⟩ := open_string Try.underlying9 (hval 0 9 v0 rfl rfl) h0
  obtain ⟨a1, rfl, rfl, rfl, w1⟩ := open_int Try.underlying3 (hval 1 3 v1 rfl rfl) h1
  obtain ⟨a2, rfl, rfl, rfl, w2⟩ := open_string Try.underlying9 (hval 2 9 v2 rfl rfl) h2
  have z0 : a0.data.toList.length ≤ reachBytes := sized_string hsz (j := 0) (t := 9) rfl rfl
  have y0 : a0.size ≤ 140737488351232 := z0
  have z2 : a2.data.toList.length ≤ reachBytes := sized_string hsz (j := 2) (t := 9) rfl rfl
  have y2 : a2.size ≤ 140737488351232 := z2
  clear hA0 hval0 hsz hsz0
  simp only [List.append_nil] at hW'
  refine (fixPuts_row a0 a1 a2 y0 w1 y2 W).mono fun e W' ⟨he, bel⟩ => ?_
  subst he
  exact ⟨_, rfl, _, _, _, [], [], [], hW', trodAll_mk1 (shut_bool Try.underlying4 _), (trodAll_cons_mk (shut_string Try.underlying9 w0) (trodAll_cons_mk (shut_int Try.underlying3 w1) (trodAll_cons_mk (shut_string Try.underlying9 w2) trodAll_mk0))), rfl, bel.frame _, fun h => by cases h⟩

theorem over : Rows.fixPutsRow.holds Try.pinned (OpenSpec.ofChange Rows.fixPutsSpec) :=
  OpenClaim.holds_of_wide 3 Try.f3 rfl rfl rfl rfl rfl rfl rfl ⟨rfl, rfl, rfl, rfl, rfl⟩ rfl rfl rfl rfl rfl (by kernel_rfl) Try.func3 (by kernel_rfl)
    (of_decide_eq_true (by kernel_rfl)) (by unfold Func.isWrapper; first | (rw [if_pos (by decide +kernel)]; kernel_rfl) | (rw [if_neg (by decide +kernel)]; exact ⟨rfl, rfl⟩))
    (fun os started H enc _ => lifted os started H enc)

theorem proved : Rows.FixPutsSaid := over
#print axioms proved

end Go.Proofs.Ytpobnifjgajgkaa.fixPuts
