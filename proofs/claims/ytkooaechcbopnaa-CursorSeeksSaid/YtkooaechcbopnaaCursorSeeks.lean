/-
  CursorSeeks: Seek stands at the least key that is not ahead; Prev, from there, at the greatest one that is; for every list and every key; no condition beyond the row's.
-/
import Derived.Test.YtkooaechcbopnaaCurHelp
import Derived.SizedLaws
import Derived.ProofKit
import Derived.Lib.SmallJoins
namespace Go.Proofs.Ytkooaechcbopnaa
open Go.RowKit Go.Sort Go.ChangeShapes Go.WideShapes Rt
set_option linter.unusedVariables false
set_option linter.unusedSimpArgs false

theorem seek_at {l : List Ent} {key : ByteArray} (hs : Sorted l) {i : Nat} (h : mvSeek l key = some i) : ∃ e, l[i]? = some e ∧ ¬ kl e.k key ∧ l.filter (ge key) = e :: l.drop (i + 1) ∧ (lows l key).length = i := by
  unfold mvSeek inL at h
  split at h
  · rename_i hlt
    cases h
    have hd : l.filter (ge key) = l[(lows l key).length] :: l.drop ((lows l key).length + 1) := by rw [ge_drop hs, List.drop_eq_getElem_cons hlt]
    refine ⟨_, List.getElem?_eq_getElem hlt, ?_, hd, rfl⟩
    have : l[(lows l key).length] ∈ l.filter (ge key) := by rw [hd]; exact List.mem_cons_self ..
    simpa [ge] using (List.mem_filter.1 this).2
  · cases h
theorem seek_none {l : List Ent} {key : ByteArray} (hs : Sorted l) (h : mvSeek l key = none) : ∀ e ∈ l, kl e.k key := by
  intro e he
  unfold mvSeek inL at h
  split at h
  · cases h
  · rename_i hlt
    have hf : l.filter (ge key) = [] := by rw [ge_drop hs, List.drop_eq_nil_of_le (by omega)]
    have := List.filter_eq_nil_iff.1 hf e he
    simpa [ge] using this
theorem lows_take_succ {l : List Ent} {key : ByteArray} {k : Nat} {x : Ent} (h : l[k]? = some x) : (lows (l.take (k + 1)) key).length = (lows (l.take k) key).length + (if kl x.k key then 1 else 0) := by
  obtain ⟨hi, rfl⟩ := List.getElem?_eq_some_iff.1 h
  rw [List.take_succ_eq_append_getElem hi]
  unfold lows
  rw [List.filter_append, List.length_append]
  by_cases hk : kl l[k].k key <;> simp [hk]
theorem lows_take_le (l : List Ent) (key : ByteArray) (k : Nat) : (lows (l.take k) key).length ≤ k := Nat.le_trans (List.length_filter_le _ _) (by rw [List.length_take]; omega)

set_option maxRecDepth 100000 in
set_option maxHeartbeats 16000000 in
theorem cursorSeeks_walk (A : Option Addr) (n c : Nat) (l : List Ent) (key : ByteArray) (w : World) (ha : Arg w A n c l) (hkk : key.size ≤ 140737488351232) :
    Calls Try.prog 7 #[.slice A n c, .string key] w fun e w' => e = .returned (.bool true) ∧ Below w.heap.size w w' := by
  have HA := Lib.hid ha
  clear ha
  go_enter Try.func7, Try.ntmps7
  go_wp2_with fail
  refine (cuAwake_any w).mono ?_
  rintro e w1 ⟨rfl, hb1⟩
  have HB1 := Lib.hid hb1
  clear hb1
  by_cases hbig : 2000 < key.size
  · go_wp2_with fail
    refine (cuAwake_any w1).mono ?_
    rintro e w3 ⟨rfl, hb3⟩
    have HB3 := Lib.hid (bthen HB1.out hb3)
    clear hb3
    go_wp2
    go_ret
    exact ⟨rfl, HB3.out⟩
  go_wp2_with fail
  refine (cuBuilt_any A n c l w1 (show Arg w1 A n c l from ⟨HA.out.len, HA.out.cap, HA.out.small, HA.out.es.below HB1.out, HA.out.strs⟩)).mono ?_
  rintro r w2 ⟨T, v, ⟨q, rfl⟩, ht, ho, hl, hb2⟩
  obtain ⟨A2, c2, rfl, hc2, hes⟩ := ho.form
  have HB2 := Lib.hid (bthen HB1.out hb2)
  have HT := Lib.hid ht
  obtain ⟨t, htt⟩ : ∃ t, (tl T).length = t := ⟨_, rfl⟩
  have HES := Lib.hid hes
  have HTL := Lib.hid htt
  rw [htt] at hl hc2 ⊢
  obtain ⟨pt, hpt⟩ : ∃ pt, tb T = .pointer pt := ⟨_, rfl⟩
  rw [hpt]
  have HP := Lib.hid hpt
  clear ht ho hes hb2 htt hpt
  cases q with
  | false =>
    go_wp2
    go_ret
    exact ⟨rfl, HB2.out⟩
  | true =>
  go_wp2_with fail
  refine (curNew_any w2 pt).mono ?_
  rintro e w3 ⟨rfl, rfl⟩
  have hcu : Cur w2 T w2.heap.size none (w2.alloc (.cells #[.pointer pt, .string ⟨#[]⟩] 53)) := by rw [← HP.out]; exact Cur.new HT.out (Below.refl _ w2)
  have hb3 : Below w2.heap.size w2 (w2.alloc (.cells #[.pointer pt, .string ⟨#[]⟩] 53)) := (Below.refl _ _).alloc (Nat.le_refl _) _
  obtain ⟨w3, hw3⟩ : ∃ w3, w2.alloc (.cells #[.pointer pt, .string ⟨#[]⟩] 53) = w3 := ⟨_, rfl⟩
  rw [hw3] at hcu hb3 ⊢
  have HB3 := Lib.hid (bthen HB2.out hb3)
  have HBR : Hid (w.heap.size ≤ w2.heap.size) := Lib.hid HB2.out.size
  obtain ⟨bc, hbc⟩ : ∃ bc, w2.heap.size = bc := ⟨_, rfl⟩
  rw [hbc] at hcu HBR ⊢
  have H3 := Lib.hid hcu
  clear hbc hcu hb3 hw3 HB2
  go_wp2_with fail
  go_loopw [9, 37] (fun s9 s37 wr => ∃ k : Nat, k ≤ t ∧ s37 = .int .i64 k ∧ s9 = .int .i64 ((lows ((tl T).take k) key).length : Int) ∧ wr = w3) (fun _ s37 _ => t - (intOf s37).toNat)
  case atStart => exact ⟨0, Nat.zero_le _, rfl, rfl, rfl⟩
  case round =>
    obtain ⟨k, hk, rfl, rfl, rfl⟩ := hrel
    by_cases hlt : k < t
    · obtain ⟨ad, x, had, hx, _, g0, g1⟩ := (HES.out.below H3.out.bel).at_ (i := k) (by rw [HTL.out]; exact hlt)
      subst had
      have hls := lows_take_succ (key := key) hx
      have hll := lows_take_le (tl T) key k
      have HLS := Lib.hid hls
      obtain ⟨M, hM⟩ : ∃ M, (lows ((tl T).take k) key).length = M := ⟨_, rfl⟩
      rw [hM] at hll HLS ⊢
      have hle := less_eq x.k key
      clear hx hls hM g1
      by_cases hd : kl x.k key
      · rw [decide_eq_true hd] at hle
        have HN : Hid ((lows ((tl T).take (k + 1)) key).length = M + 1) := Lib.hid (by rw [HLS.out, if_pos hd])
        go_wp2_with fail
        exact ⟨⟨k + 1, by omega, by go_num, by rw [HN.out]; go_num, trivial⟩, by simp [intOf]; omega⟩
      · rw [decide_eq_false hd] at hle
        have HN : Hid ((lows ((tl T).take (k + 1)) key).length = M) := Lib.hid (by rw [HLS.out, if_neg hd]; rfl)
        go_wp2_with fail
        exact ⟨⟨k + 1, by omega, by go_num, by rw [HN.out], trivial⟩, by simp [intOf]; omega⟩
    · obtain rfl : k = t := by omega
      rw [List.take_of_length_le (by rw [HTL.out]; exact Nat.le_refl _)]
      have hll := lows_take_le (tl T) key k
      rw [List.take_of_length_le (by rw [HTL.out]; exact Nat.le_refl _)] at hll
      obtain ⟨M, hM⟩ : ∃ M, (lows (tl T) key).length = M := ⟨_, rfl⟩
      rw [hM] at hll ⊢
      have HM := Lib.hid hM
      clear hM
      go_wp2_with fail
      refine (curSeek_any H3.out key).mono ?_
      rintro e w4 ⟨rfl, hm, hc⟩
      have H4 := Lib.hid hc
      have HB4 := Lib.hid (HB3.out.trans (Mv.below' hm HB3.out.size HBR.out))
      clear hm hc H3 HB3
      by_cases hs : M < k
      · have hmv : mvSeek (tl T) key = some M := by unfold mvSeek; rw [HM.out]; exact if_pos (by rw [HTL.out]; exact hs)
        rw [hmv] at H4 ⊢
        clear hmv
        obtain ⟨x, hx⟩ : ∃ x, (tl T)[M]? = some x := ⟨_, List.getElem?_eq_getElem (by rw [HTL.out]; exact hs)⟩
        have HX := Lib.hid hx
        clear hx
        simp only [Option.isSome_some]
        go_wp2_with fail
        refine (curEntry_any H4.out).mono ?_
        rw [show entAt (tl T) (some M) = some x from HX.out, show ansV (some x) = .tuple #[.agg #[.string x.k, .string x.v], .bool true] from rfl]
        rintro e v5 ⟨rfl, hb⟩
        have hba : Below v5.heap.size v5 (v5.alloc (.cells #[.string x.k, .string x.v] 39)) := (Below.refl _ _).alloc (Nat.le_refl _) _
        have hz := heap_alloc_new v5 (.cells #[.string x.k, .string x.v] 39)
        obtain ⟨u5, hu⟩ : ∃ u, v5.alloc (.cells #[.string x.k, .string x.v] 39) = u := ⟨_, rfl⟩
        rw [hu] at hba hz
        have H5 := Lib.hid ((H4.out.below hb).below hba)
        have HB5 := Lib.hid ((HB4.out.trans (hb.mono HB4.out.size)).trans (hba.mono (Nat.le_trans HB4.out.size hb.size)))
        have HZ5 := Lib.hid hz
        have HU5 := Lib.hid hu
        have HBB5 := Lib.hid (bthen hb hba)
        have HNB5 : Hid (v5.heap.size ≠ bc) := Lib.hid (by have := H4.out.lt; have := hb.size; omega)
        clear hb hba hz hu H4 HB4

        have q0 := cell_row HZ5.out 0 _ rfl
        have q1 := cell_row HZ5.out 1 _ rfl
        rw [← HU5.out] at q0 q1
        obtain ⟨ad, x', had, hx', _, g0, g1⟩ := (HES.out.below H5.out.bel).at_ (i := M) (by rw [HTL.out]; exact hs)
        obtain rfl := Option.some.inj (HX.out.symm.trans hx')
        subst had
        have hn1 := neq_same x.k x.v
        have HG0 := Lib.hid g0
        have HG1 := Lib.hid g1
        rw [← HU5.out] at g0 g1
        clear hx' HBB5
        go_wp2
        go_quiet (fail)
        rw [HU5.out]
        obtain ⟨w6, hw6⟩ : ∃ wd, u5.drewN nq = wd := ⟨_, rfl⟩
        have hbd : Below u5.heap.size u5 w6 := by rw [← hw6]; exact below_drewN (Below.refl _ _) _
        rw [hw6]
        have H6 := Lib.hid (H5.out.below hbd)
        have HB6 := Lib.hid (HB5.out.trans (hbd.mono HB5.out.size))
        clear hw6 hbd H5 HB5 q0 q1 g0 g1 hn1 HZ5 HU5 HG0 HG1
        go_wp2_with fail
        refine (curPrev_any H6.out).mono ?_
        by_cases h0 : M = 0
        · subst h0
          rw [show mvPrev (tl T) (some 0) = none from rfl]
          rintro e w7 ⟨rfl, hm, hc⟩
          have H7 := Lib.hid hc
          have HB7 := Lib.hid (HB6.out.trans (Mv.below' hm HB6.out.size HBR.out))
          clear hm hc H6 HB6
          simp only [Option.isSome_none]
          go_wp2_with fail
          refine (curEntry_any H7.out).mono ?_
          rw [show ansV (entAt (tl T) none) = .tuple #[.agg #[.string ⟨#[]⟩, .string ⟨#[]⟩], .bool false] from rfl]
          rintro e v8 ⟨rfl, hb⟩
          have hba : Below v8.heap.size v8 (v8.alloc (.cells #[.string ⟨#[]⟩, .string ⟨#[]⟩] 39)) := (Below.refl _ _).alloc (Nat.le_refl _) _
          have hz := heap_alloc_new v8 (.cells #[.string ⟨#[]⟩, .string ⟨#[]⟩] 39)
          obtain ⟨u8, hu⟩ : ∃ u, v8.alloc (.cells #[.string ⟨#[]⟩, .string ⟨#[]⟩] 39) = u := ⟨_, rfl⟩
          rw [hu] at hba hz
          have H8 := Lib.hid ((H7.out.below hb).below hba)
          have HB8 := Lib.hid ((HB7.out.trans (hb.mono HB7.out.size)).trans (hba.mono (Nat.le_trans HB7.out.size hb.size)))
          have HZ8 := Lib.hid hz
          have HU8 := Lib.hid hu
          have HBB8 := Lib.hid (bthen hb hba)
          have HNB8 : Hid (v8.heap.size ≠ bc) := Lib.hid (by have := H7.out.lt; have := hb.size; omega)
          clear hb hba hz hu H7 HB7

          clear HBB8
          go_wp2
          go_quiet (fail)
          rw [HU8.out]
          go_wp2
          go_ret
          exact ⟨rfl, below_drewN HB8.out _⟩
        · obtain ⟨y, hy⟩ : ∃ y, (tl T)[M - 1]? = some y := ⟨_, List.getElem?_eq_getElem (by rw [HTL.out]; omega)⟩
          have HY := Lib.hid hy
          clear hy
          rw [show mvPrev (tl T) (some M) = some (M - 1) from by unfold mvPrev; simp only; rw [if_neg h0]; exact if_pos (by rw [HTL.out]; omega)]
          rintro e w7 ⟨rfl, hm, hc⟩
          have H7 := Lib.hid hc
          have HB7 := Lib.hid (HB6.out.trans (Mv.below' hm HB6.out.size HBR.out))
          clear hm hc H6 HB6
          simp only [Option.isSome_some]
          go_wp2_with fail
          refine (curEntry_any H7.out).mono ?_
          rw [show entAt (tl T) (some (M - 1)) = some y from HY.out, show ansV (some y) = .tuple #[.agg #[.string y.k, .string y.v], .bool true] from rfl]
          rintro e v8 ⟨rfl, hb⟩
          have hba : Below v8.heap.size v8 (v8.alloc (.cells #[.string y.k, .string y.v] 39)) := (Below.refl _ _).alloc (Nat.le_refl _) _
          have hz := heap_alloc_new v8 (.cells #[.string y.k, .string y.v] 39)
          obtain ⟨u8, hu⟩ : ∃ u, v8.alloc (.cells #[.string y.k, .string y.v] 39) = u := ⟨_, rfl⟩
          rw [hu] at hba hz
          have H8 := Lib.hid ((H7.out.below hb).below hba)
          have HB8 := Lib.hid ((HB7.out.trans (hb.mono HB7.out.size)).trans (hba.mono (Nat.le_trans HB7.out.size hb.size)))
          have HZ8 := Lib.hid hz
          have HU8 := Lib.hid hu
          have HBB8 := Lib.hid (bthen hb hba)
          have HNB8 : Hid (v8.heap.size ≠ bc) := Lib.hid (by have := H7.out.lt; have := hb.size; omega)
          clear hb hba hz hu H7 HB7

          have q0 := cell_row HZ8.out 0 _ rfl
          have q1 := cell_row HZ8.out 1 _ rfl
          rw [← HU8.out] at q0 q1
          obtain ⟨ad3, y', had, hy', _, g0, g1⟩ := (HES.out.below H8.out.bel).at_ (i := M - 1) (by rw [HTL.out]; omega)
          obtain rfl := Option.some.inj (HY.out.symm.trans hy')
          cases had
          have heq := eql_same y.k y.v
          rw [← HU8.out] at g0 g1
          obtain ⟨j, hj⟩ : ∃ j, M - 1 = j := ⟨_, rfl⟩
          have hjj : (M : Int) - 1 = (j : Int) := by omega
          have hjk : j < k := by omega
          have hpos : decide ((0 : Int) < (M : Int)) = true := decide_eq_true (by omega)
          have hpos2 : 0 < M := by omega
          rw [hj] at g0 g1
          clear hy' HBB8 hj
          go_wp2
          go_quiet (fail)
          rw [HU8.out]
          go_wp2
          go_ret
          exact ⟨rfl, below_drewN HB8.out _⟩
      · have hmv : mvSeek (tl T) key = none := by unfold mvSeek; rw [HM.out]; exact if_neg (by rw [HTL.out]; exact hs)
        rw [hmv] at H4 ⊢
        clear hmv
        simp only [Option.isSome_none]
        go_wp2_with fail
        refine (curEntry_any H4.out).mono ?_
        rw [show ansV (entAt (tl T) none) = .tuple #[.agg #[.string ⟨#[]⟩, .string ⟨#[]⟩], .bool false] from rfl]
        rintro e v5 ⟨rfl, hb⟩
        have hba : Below v5.heap.size v5 (v5.alloc (.cells #[.string ⟨#[]⟩, .string ⟨#[]⟩] 39)) := (Below.refl _ _).alloc (Nat.le_refl _) _
        have hz := heap_alloc_new v5 (.cells #[.string ⟨#[]⟩, .string ⟨#[]⟩] 39)
        obtain ⟨u5, hu⟩ : ∃ u, v5.alloc (.cells #[.string ⟨#[]⟩, .string ⟨#[]⟩] 39) = u := ⟨_, rfl⟩
        rw [hu] at hba hz
        have H5 := Lib.hid ((H4.out.below hb).below hba)
        have HB5 := Lib.hid ((HB4.out.trans (hb.mono HB4.out.size)).trans (hba.mono (Nat.le_trans HB4.out.size hb.size)))
        have HZ5 := Lib.hid hz
        have HU5 := Lib.hid hu
        have HBB5 := Lib.hid (bthen hb hba)
        have HNB5 : Hid (v5.heap.size ≠ bc) := Lib.hid (by have := H4.out.lt; have := hb.size; omega)
        clear hb hba hz hu H4 HB4

        clear HBB5
        go_wp2
        go_quiet (fail)
        rw [HU5.out]
        go_wp2
        go_ret
        exact ⟨rfl, below_drewN HB5.out _⟩

end Go.Proofs.Ytkooaechcbopnaa


namespace Go.Proofs.Ytkooaechcbopnaa.cursorSeeks
open Go.ChangeShapes Go.WideShapes Go.ChangeAt Go.RowKit
open Go.ChangeMaps (open_string shut_string)
set_option linter.unusedVariables false

theorem own : ownKnob Try.prog.godebug = none := by kernel_rfl
theorem laidOut : laidOutB Try.prog = true := by kernel_rfl

set_option maxRecDepth 100000 in
theorem lifted (os : Os) (started : os.Started) (H : Type) (enc : TypeId × Value → H) :
    ReturnsInHanded {} Try.checked os 7 .any (Rows.cursorSeeksSpec.pre6 enc Try.prog Try.f7 Rows.cursorSeeksRow.domain false) (Rows.cursorSeeksSpec.post enc Try.prog Try.f7 false true false false) := by
  refine returnsInHanded_of_change_sized (C := Try.checked) own started (by kernel_rfl) Try.func7
    (ChangeSpec.witness6 (enc := enc) (C := Try.checked) false ⟨#[], #[.slice none 0 0, .string ByteArray.empty], []⟩ 8 (by kernel_rfl) (by kernel_rfl) (by kernel_rfl) (by kernel_rfl)) ?_
  intro W base args ds gs before hval0 hW hcnd hsz0 _
  have hval : ∀ (j : Nat) t v, Try.f7.params[j]? = some t → args[j]? = some v → Value.okWide Try.prog W .any base t v := hval0
  have hsz : (DataW.weightsEach Try.prog (Try.f7.params.toList ++ Rows.cursorSeeksSpec.plain.varTypes Try.prog) (ds ++ gs)).all (· ≤ reachBytes) = true := hsz0
  have hW' := hW
  obtain ⟨p, q, hA0, hV, rfl, hfz, hnd⟩ := hW
  have hA : DataW.TrodAll enc Try.prog W 0 (fun _ => true) true Try.f7.params.toList args.toList ds p := hA0
  rw [Try.params7] at hA hval hsz
  obtain ⟨v0, vs0, d0, ds0, p0, q0, hargs, rfl, rfl, h0, r0⟩ := trodAll_cons hA
  obtain ⟨v1, vs1, d1, ds1, p1, q1, rfl, rfl, rfl, h1, r1⟩ := trodAll_cons r0
  obtain ⟨rfl, rfl, rfl⟩ := trodAll_nil r1
  obtain rfl : args = #[v0, v1] := by cases args; simp_all
  obtain ⟨rfl, rfl⟩ := trodVars_none hV
  obtain ⟨A0, n0, c0, rfl⟩ := okWide_slice Try.underlying22 (hval 0 22 v0 rfl rfl)
  have k0 := h0
  have lt0 : ∀ x ∈ p0, x.block < W.heap.size := by obtain ⟨m, hm⟩ := k0; exact DataW.trod_lt m _ _ _ hm
  obtain ⟨l0, w0⟩ := open_ents h0 (fun m hm => of_decide_eq_true (List.all_eq_true.1 hsz _ (DataW.weights_mem_each (j := 0) (t := 22) rfl rfl m hm)))
  obtain ⟨a1, rfl, rfl, rfl, w1⟩ := open_string Try.underlying9 (hval 1 9 v1 rfl rfl) h1
  have z1 : a1.data.toList.length ≤ reachBytes := sized_string hsz (j := 1) (t := 9) rfl rfl
  have y1 : a1.size ≤ 140737488351232 := z1
  clear hA0 hval0 hsz hsz0
  refine (cursorSeeks_walk A0 n0 c0 l0 a1 W w0 y1).mono fun e W' ⟨he, bel⟩ => ?_
  subst he
  exact ⟨_, rfl, _, _, _, [], _, [], hW', trodAll_mk1 (shut_bool Try.underlying4 _), (trodAll_cons_mk (Below.trod laidOut (by kernel_rfl) (of_decide_eq_true (by kernel_rfl)) k0 bel lt0) (trodAll_cons_mk (shut_string Try.underlying9 w1) trodAll_mk0)), rfl, bel.frame _, fun h => by cases h⟩

theorem over : Rows.cursorSeeksRow.holds Try.pinned (OpenSpec.ofChange Rows.cursorSeeksSpec) :=
  OpenClaim.holds_of_wide 7 Try.f7 rfl rfl rfl rfl rfl rfl rfl ⟨rfl, rfl, rfl, rfl, rfl⟩ rfl rfl rfl rfl rfl (by kernel_rfl) Try.func7 (by kernel_rfl)
    (of_decide_eq_true (by kernel_rfl)) (by unfold Func.isWrapper; first | (rw [if_pos (by decide +kernel)]; kernel_rfl) | (rw [if_neg (by decide +kernel)]; exact ⟨rfl, rfl⟩))
    (fun os started H enc _ => lifted os started H enc)

theorem proved : Rows.CursorSeeksSaid := over
#print axioms proved

end Go.Proofs.Ytkooaechcbopnaa.cursorSeeks
