/-
  DeviceKeeps: what goes in and comes out is memory of its own; a nil device has nothing; for every page, byte and call; no condition beyond the row's.
-/
import Derived.Test.YthjgcbpanfiacaaDevAwake
namespace Go.Proofs.Ythjgcbpanfiacaa
open Go.RowKit Go.Sort Go.ChangeShapes Go.WideShapes
set_option linter.unusedVariables false

/-- A call by value. -/
def opV (o : OP) : Value := .agg #[.int .i64 o.kind, .int .i64 o.i, .int .i64 o.n, .int .u64 (o.keep : Int), .string o.b]
theorem open_op {H : Type} {enc : TypeId × Value → H} {W : World} {base : Nat} {v : Value} {d : DataW H} {p : List MemPlace} (hv : Value.okWide Try.prog W .any base 32 v)
    (h : DataW.Trod enc Try.prog W 0 (fun _ => true) true 32 v d p) (hsz : ∀ m ∈ d.weights Try.prog 32, m ≤ reachBytes) : ∃ x : OP, v = opV x ∧ OkO x := by
  obtain ⟨f0, f1, f2, f3, f4, he, _⟩ := fields_op
  obtain ⟨cs, rfl, hcs⟩ := okWide_struct he hv
  obtain ⟨fuel, hf⟩ := h
  obtain ⟨z, hz, hok⟩ := elemO fuel _ _ hf hsz
  refine ⟨z, ?_, hok⟩
  have : cs = (ocells z).toArray := Array.toList_inj.1 (by simpa [Value.cells] using hz)
  rw [this]
  rfl
theorem conv_rd_later {w : World} {A : Option Addr} {n c : Nat} {l : List UInt8} (h : Rd w A l) (hn : l.length = n) (d : Nat) (os : Array Obj) :
    (convert 35 9 (.slice A n c)).run Try.prog (grow (redrawn w d) os) = .ok (.string ⟨l.toArray⟩) (grow (redrawn w d) os) := conv_rd (h.below (below_regrown w d os)) hn
theorem byte_of {x : Int} (h : (Lit.int .u8 x).wf = true) : ∃ y : UInt8, x = (y.toNat : Int) := by
  have : 0 ≤ x ∧ x ≤ 255 := by simpa [Lit.wf, IntKind.min, IntKind.max, IntKind.signed, IntKind.bits] using h
  refine ⟨UInt8.ofNat x.toNat, ?_⟩
  rw [UInt8.toNat_ofNat']
  omega

set_option maxRecDepth 100000 in
set_option maxHeartbeats 4000000 in
theorem deviceKeeps_walk (i0 c0 : Int) (o : OP) (w : World) (hi0 : (Lit.int .u8 i0).wf = true) (hc0 : (Lit.int .u8 c0).wf = true) (ho : OkO o) :
    Calls Try.prog 7 #[.int .u8 i0, .int .u8 c0, opV o] w fun e w' => e = .returned (.bool true) ∧ Below w.heap.size w w' := by
  obtain ⟨y, rfl⟩ := byte_of hi0
  obtain ⟨c, rfl⟩ := byte_of hc0
  obtain ⟨p, hp⟩ : ∃ p, p = y.toNat := ⟨_, rfl⟩
  have hpl : p < 256 := by rw [hp]; exact y.toNat_lt
  rw [← hp]
  clear hp hi0 hc0
  obtain ⟨C, F, hcv, hF⟩ := bytes_of o.b
  obtain ⟨okind, oi, on, okeep, ob⟩ := o
  have HO := Lib.hid ho
  have HF := Lib.hid hF
  simp only at hcv
  unfold opV
  simp only
  clear ho hF
  have hb0 : Below w.heap.size w (w.alloc (.cells #[.int .i64 okind, .int .i64 oi, .int .i64 on, .int .u64 (okeep : Int), .string ob] 32)) := (Below.refl _ _).alloc (Nat.le_refl _) _
  go_enter Try.func7, Try.ntmps7
  go_wp2_with fail
  refine (devAwake_any _).mono ?_
  rintro e w1 ⟨rfl, hb1⟩
  have c0 := box_at hb1 0 (.int .i64 okind) rfl
  have c1 := box_at hb1 1 (.int .i64 oi) rfl
  have c2 := box_at hb1 2 (.int .i64 on) rfl
  have c3 := box_at hb1 3 (.int .u64 (okeep : Int)) rfl
  have c4 := box_at hb1 4 (.string ob) rfl
  have hb01 := bthen hb0 hb1
  have hs1 := box_lt hb1
  clear hb0 hb1
  have HB := Lib.hid hb01
  clear hb01
  go_wp2_with fail
  have hbA : Below w1.heap.size w1 (w1.alloc (.cells #[.int .i64 okind, .int .i64 oi, .int .i64 on, .int .u64 (okeep : Int), .string ob] 32)) := (Below.refl _ _).alloc (Nat.le_refl _) _
  have hls : Ls ocells (w1.alloc (.cells #[.int .i64 okind, .int .i64 oi, .int .i64 on, .int .u64 (okeep : Int), .string ob] 32)) (some ⟨w1.heap.size, 0, none⟩) [⟨okind, oi, on, okeep, ob⟩] := fun _ => ⟨_, rfl, by simp, fun j u hu => new_row w1 _ _ j u (by simpa [ocells] using hu)⟩
  refine (fewO_any _ 1 1 [⟨okind, oi, on, okeep, ob⟩] _ hls rfl (by omega) (fun z hz => by rw [List.mem_singleton.1 hz]; exact HO.out.b)).mono ?_
  rintro e w2 ⟨rfl, rfl⟩
  have HB2 := Lib.hid (bthen HB.out hbA)
  clear hls
  by_cases hf : FewO [⟨okind, oi, on, okeep, ob⟩]
  case neg =>
    rw [decide_eq_false hf]
    go_wp2_with fail
    refine (devAwake_any _).mono ?_
    rintro e w3 ⟨rfl, hb3⟩
    go_wp2
    go_ret
    exact ⟨rfl, bthen HB2.out hb3⟩
  rw [decide_eq_true hf]
  obtain ⟨w2, hw2⟩ : ∃ w2, w2 = w1.alloc (.cells #[.int .i64 okind, .int .i64 oi, .int .i64 on, .int .u64 (okeep : Int), .string ob] 32) := ⟨_, rfl⟩
  rw [← hw2] at hbA HB2 ⊢
  replace c1 := (hbA.cell hs1).trans c1
  replace c2 := (hbA.cell hs1).trans c2
  replace c3 := (hbA.cell hs1).trans c3
  replace c4 := (hbA.cell hs1).trans c4
  have hs2 := Nat.lt_of_lt_of_le hs1 hbA.size
  clear hw2 hbA hf HB c0 hs1
  go_wp2_with fail
  refine (sync_nil w2).mono ?_
  rintro e w1 ⟨rfl, rfl⟩
  go_wp2_with fail
  refine (crash_nil _ _ _ w1).mono ?_
  rintro e w2 ⟨rfl, rfl⟩
  go_wp2_with fail
  refine (read_nil _ w2).mono ?_
  rintro e w1 ⟨rfl, rfl⟩
  go_wp2_with fail
  refine (write_nil _ _ _ _ (F w1)).mono ?_
  rintro e w2 ⟨rfl, rfl⟩
  have HB3 := Lib.hid (bthen HB2.out (HF.out w1).2.2)
  clear hcv HF HB2 c1 c2 c3 c4 HO hs2
  generalize F w1 = w2 at *
  go_wp2_with fail
  refine (pages_nil w2).mono ?_
  rintro e w1 ⟨rfl, rfl⟩
  go_wp2_with fail
  refine (waiting_nil w1).mono ?_
  rintro e w2 ⟨rfl, rfl⟩
  go_wp2_with fail
  refine (devBytes_nil w2).mono ?_
  rintro e w1 ⟨rfl, rfl⟩
  go_wp2_with fail
  refine (new_any 256 w1).mono ?_
  rintro e w2 ⟨b, rfl, hd2, hb2⟩
  rw [show pagesN 256 = 256 from rfl] at hd2
  have HD2 := Lib.hid hd2.tight
  have HB4 := Lib.hid (bthen HB3.out hb2)
  have hbl := HB3.out.size
  clear hd2 hb2 HB3
  generalize w1.heap.size = N at *
  generalize List.replicate (256 * 256) (0 : UInt8) = st at HD2
  go_wp2_with fail
  refine (full_any c w2).mono ?_
  rintro e w3 ⟨g, rfl, hg, hrow, hb3⟩
  have HD3 := Lib.hid (HD2.out.below hb3)
  have HB5 := Lib.hid (bthen HB4.out hb3)
  have hg3 : ¬ (N ≤ g ∧ g < w2.heap.size) := by omega
  have hgw : w.heap.size ≤ g := Nat.le_trans HB4.out.size hg
  have HR3 := Lib.hid hrow
  have HG3 := Lib.hid hg3
  have hgl := lt_of_block hrow
  clear hb3 hrow HD2 HB4 hg hg3
  generalize w2.heap.size = M at *
  go_wp2_with fail
  refine (writeFull_any p c g 256 HD3.out hpl HR3.out (by simp)).mono ?_
  rintro e w4 ⟨rfl, hd4, hk4⟩
  have hrow4 := (hk4.block g hgl HG3.out).trans HR3.out
  have hG4 : ¬ Grew (fun i => N ≤ i ∧ i < M) w3.heap.size g := fun h => h.elim HG3.out (fun h => by omega)
  have HB6 := Lib.hid (HB5.out.trans (hk4.below HB5.out.size (fun i hi => Nat.le_trans hbl hi.1)))
  have HD4 := Lib.hid hd4
  have HR4 := Lib.hid hrow4
  have HG4 := Lib.hid hG4
  have hgl4 := lt_of_block hrow4
  have hc4 := full_cell hrow4 (j := 5) (by omega)
  have hf4 := free_at hrow4 5
  have hsz3 := HB5.out.size
  clear hk4 hrow4 hG4 hd4 HG3 HR3 hgl HD3 HB5 
  have HGw := Lib.hid (show ∀ i, Grew (fun i => N ≤ i ∧ i < M) w3.heap.size i → w.heap.size ≤ i from fun i hi => hi.elim (fun h => Nat.le_trans hbl h.1) (fun h => Nat.le_trans hsz3 h))
  generalize Grew (fun i => N ≤ i ∧ i < M) w3.heap.size = G at *
  go_wp2_with fail
  clear hc4 hf4
  generalize Value.int IntKind.u8 (bits BinOp.xor IntKind.u8 (c.toNat : Int) 255) = v5
  have hd5 := (HD4.out.set (p := ⟨g, 5, none⟩) HG4.out v5).tight
  have HB7 := Lib.hid (below_set HB6.out HB6.out.size (p := ⟨g, 5, none⟩) hgw v5)
  generalize hw5 : w4.setCell ⟨g, 5, none⟩ v5 = w5 at *
  clear hw5 HB6 HD4 HG4 HR4
  have HD5 := Lib.hid hd5
  clear hd5
  obtain ⟨K, hK⟩ : ∃ K, K = w5.heap.size := ⟨_, rfl⟩
  rw [← hK] at HD5
  have HK := Lib.hid hK
  clear hK
  refine (read_any p HD5.out hpl (by simp)).mono ?_
  rintro e w6 ⟨g6, rfl, hg6, hrow6, hb6⟩
  rw [cur_snoc, if_pos (by rfl)] at hrow6
  have hc6 := full_cell hrow6 (j := 6) (by omega)
  have hf6 := free_at hrow6 6
  have HD6 := Lib.hid (HD5.out.below hb6)
  have HB8 := Lib.hid (bthen HB7.out hb6)
  have hg6w : w.heap.size ≤ g6 := Nat.le_trans HB7.out.size hg6
  have hK6 : K ≤ w6.heap.size := by rw [HK.out]; exact hb6.size
  have HG6 := Lib.hid (show ¬ (G g6 ∧ g6 < K) by rw [HK.out]; omega)
  clear hrow6 hb6 HB7 HD5 hg6
  go_wp2_with fail
  clear hc6 hf6
  generalize Value.int IntKind.u8 (bits BinOp.xor IntKind.u8 (c.toNat : Int) 255) = v6
  have HD7 := Lib.hid (HD6.out.set (p := ⟨g6, 6, none⟩) HG6.out v6)
  have HB9 := Lib.hid (below_set HB8.out HB8.out.size (p := ⟨g6, 6, none⟩) hg6w v6)
  have hK7 : K ≤ (w6.setCell ⟨g6, 6, none⟩ v6).heap.size := by simpa [World.setCell] using hK6
  generalize hw7 : w6.setCell ⟨g6, 6, none⟩ v6 = w7 at *
  clear hw7 HB8 HD6 HG6 hK6
  refine (sync_any HD7.out (by simp)).mono ?_
  rintro e w8 ⟨rfl, hd8, hk8⟩
  have HD8 := Lib.hid hd8
  have hK8 : K ≤ w8.heap.size := Nat.le_trans hK7 hk8.size
  have HB10 := Lib.hid (HB9.out.trans (hk8.below HB9.out.size (fun i hi => HGw.out i hi.1)))
  have HCUR := Lib.hid (cur_synced HD7.out.lens.1 HD7.out.lens.2.2 hpl)
  clear hd8 hk8 hK7 HB9 HD7
  go_wp2_with fail
  refine (read_any p HD8.out hpl (by simp)).mono ?_
  rintro e w9 ⟨g9, rfl, hg9, hrow9, hb9⟩
  rw [HCUR.out, cur_snoc, if_pos (by rfl)] at hrow9
  have hc9 := full_cell hrow9 (j := 7) (by omega)
  have hf9 := free_at hrow9 7
  have HD9 := Lib.hid (HD8.out.below hb9)
  have HB11 := Lib.hid (bthen HB10.out hb9)
  have hg9w : w.heap.size ≤ g9 := Nat.le_trans HB10.out.size hg9
  have HG9 := Lib.hid (show ¬ (G g9 ∧ g9 < K) by omega)
  clear hrow9 hb9 HB10 HD8 hg9 hK8
  go_wp2_with fail
  clear hc9 hf9
  generalize Value.int IntKind.u8 (bits BinOp.xor IntKind.u8 (c.toNat : Int) 255) = v9
  have HD10 := Lib.hid (HD9.out.set (p := ⟨g9, 7, none⟩) HG9.out v9)
  have HB12 := Lib.hid (below_set HB11.out HB11.out.size (p := ⟨g9, 7, none⟩) hg9w v9)
  generalize hw10 : w9.setCell ⟨g9, 7, none⟩ v9 = w10 at *
  clear hw10 HB11 HD9 HG9
  refine (read_any p HD10.out hpl (by simp)).mono ?_
  rintro e w11 ⟨g11, rfl, hg11, hrow11, hb11⟩
  rw [HCUR.out, cur_snoc, if_pos (by rfl)] at hrow11
  have hd11 : Below w11.heap.size w11 w11.drew := (Below.refl _ _).drew
  have HB13 := Lib.hid (bthen (bthen HB12.out hb11) hd11)
  have hr11 : Rd w11.drew (some ⟨g11, 0, none⟩) (fullW p c).bytes := (rd_whole hrow11).below hd11
  have cv11 := conv_rd_later (c := 256) hr11 (fullW p c).len
  have hfull := full_any c w11.drew
  unfold FullPost at hfull
  rw [show List.replicate 256 c = (fullW p c).bytes from rfl] at hfull
  have hpn := (fullW p c).len
  generalize (fullW p c).bytes = pg at *
  have HFL := Lib.hid hfull
  have HPN := Lib.hid hpn
  clear hrow11 hb11 hr11 hd11 HB12 HD10 HCUR hfull hpn
  go_wp2_with fail
  refine wp_region_segs [([0, 1, 2, 3, 4, 5], 6)] [7, 8, 9, 10] (by kernel_rfl) (by kernel_rfl) (by kernel_rfl) (by kernel_rfl) (by intro c a d v w h; cases d <;> exact h) ?_
  refine wpSegs_more ?_
  simp only [pick, List.getElem?_cons_zero, List.getElem?_cons_succ]
  repeat (first | go_big_quiet_step (fail) | quiet_step (fail))
  refine wpQuiet_nil ?_
  refine wpOp_heavy rfl (by rfl) (fun K hK => ?_)
  go_simp
  clear cv11
  refine HFL.out.mono ?_
  rintro e w12 ⟨g12, rfl, hg12, hrow12, hb12⟩
  have cv12 := conv_rd_later (c := 256) (rd_whole hrow12) HPN.out
  refine hK _ _ hb12 ?_
  clear hK K hrow12
  refine wpSegs_last ?_
  simp only [pick, List.getElem?_cons_zero, List.getElem?_cons_succ]
  repeat (first | go_big_quiet_step (fail) | quiet_step (fail))
  refine wpQuiet_nil ?_
  clear cv12
  go_wp2
  go_ret
  exact ⟨rfl, bthen HB13.out hb12⟩

end Go.Proofs.Ythjgcbpanfiacaa

namespace Go.Proofs.Ythjgcbpanfiacaa.deviceKeeps
open Go.ChangeShapes Go.WideShapes Go.ChangeAt Go.RowKit
open Go.ChangeMaps (open_string shut_string)
set_option linter.unusedVariables false

theorem own : ownKnob Try.prog.godebug = none := by kernel_rfl
theorem laidOut : laidOutB Try.prog = true := by kernel_rfl

set_option maxRecDepth 100000 in
theorem lifted (os : Os) (started : os.Started) (H : Type) (enc : TypeId × Value → H) :
    ReturnsInHanded {} Try.checked os 7 .any (Rows.deviceKeepsSpec.pre6 enc Try.prog Try.f7 Rows.deviceKeepsRow.domain false) (Rows.deviceKeepsSpec.post enc Try.prog Try.f7 false true false false) := by
  refine returnsInHanded_of_change_sized (C := Try.checked) own started (by kernel_rfl) Try.func7
    (ChangeSpec.witness6 (enc := enc) (C := Try.checked) false ⟨#[], #[.int .u8 0, .int .u8 0, .agg #[.int .i64 0, .int .i64 0, .int .i64 0, .int .u64 0, .string ByteArray.empty]], []⟩ 8 (by kernel_rfl) (by kernel_rfl) (by kernel_rfl) (by kernel_rfl)) ?_
  intro W base args ds gs before hval0 hW hcnd hsz0 _
  have hval : ∀ (j : Nat) t v, Try.f7.params[j]? = some t → args[j]? = some v → Value.okWide Try.prog W .any base t v := hval0
  have hsz : (DataW.weightsEach Try.prog (Try.f7.params.toList ++ Rows.deviceKeepsSpec.plain.varTypes Try.prog) (ds ++ gs)).all (· ≤ reachBytes) = true := hsz0
  have hW' := hW
  obtain ⟨p, q, hA0, hV, rfl, hfz, hnd⟩ := hW
  have hA : DataW.TrodAll enc Try.prog W 0 (fun _ => true) true Try.f7.params.toList args.toList ds p := hA0
  rw [Try.params7] at hA hval hsz
  obtain ⟨v0, vs0, d0, ds0, p0, q0, hargs, rfl, rfl, h0, r0⟩ := trodAll_cons hA
  obtain ⟨v1, vs1, d1, ds1, p1, q1, rfl, rfl, rfl, h1, r1⟩ := trodAll_cons r0
  obtain ⟨v2, vs2, d2, ds2, p2, q2, rfl, rfl, rfl, h2, r2⟩ := trodAll_cons r1
  obtain ⟨rfl, rfl, rfl⟩ := trodAll_nil r2
  obtain rfl : args = #[v0, v1, v2] := by cases args; simp_all
  obtain ⟨rfl, rfl⟩ := trodVars_none hV
  obtain ⟨a0, rfl, rfl, rfl, w0⟩ := open_int Try.underlying5 (hval 0 5 v0 rfl rfl) h0
  obtain ⟨a1, rfl, rfl, rfl, w1⟩ := open_int Try.underlying5 (hval 1 5 v1 rfl rfl) h1
  have k2 := h2
  have lt2 : ∀ x ∈ p2, x.block < W.heap.size := by obtain ⟨m, hm⟩ := k2; exact DataW.trod_lt m _ _ _ hm
  obtain ⟨a2, rfl, w2⟩ := open_op (hval 2 32 v2 rfl rfl) h2 (fun m hm => of_decide_eq_true (List.all_eq_true.1 hsz _ (DataW.weights_mem_each (j := 2) (t := 32) rfl rfl m hm)))
  clear hA0 hval0 hsz hsz0
  refine (deviceKeeps_walk a0 a1 a2 W w0 w1 w2).mono fun e W' ⟨he, bel⟩ => ?_
  subst he
  exact ⟨_, rfl, _, _, _, [], _, [], hW', trodAll_mk1 (shut_bool Try.underlying4 _), (trodAll_cons_mk (shut_int Try.underlying5 w0) (trodAll_cons_mk (shut_int Try.underlying5 w1) (trodAll_cons_mk (Below.trod laidOut (by kernel_rfl) (of_decide_eq_true (by kernel_rfl)) k2 bel lt2) trodAll_mk0))), rfl, bel.frame _, fun h => by cases h⟩

theorem over : Rows.deviceKeepsRow.holds Try.pinned (OpenSpec.ofChange Rows.deviceKeepsSpec) :=
  OpenClaim.holds_of_wide 7 Try.f7 rfl rfl rfl rfl rfl rfl rfl ⟨rfl, rfl, rfl, rfl, rfl⟩ rfl rfl rfl rfl rfl (by kernel_rfl) Try.func7 (by kernel_rfl)
    (of_decide_eq_true (by kernel_rfl)) (by unfold Func.isWrapper; first | (rw [if_pos (by decide +kernel)]; kernel_rfl) | (rw [if_neg (by decide +kernel)]; exact ⟨rfl, rfl⟩))
    (fun os started H enc _ => lifted os started H enc)

theorem proved : Rows.DeviceKeepsSaid := over
#print axioms proved

end Go.Proofs.Ythjgcbpanfiacaa.deviceKeeps
