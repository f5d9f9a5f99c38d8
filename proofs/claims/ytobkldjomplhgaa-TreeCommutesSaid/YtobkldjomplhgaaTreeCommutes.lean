/-
  TreeCommutes: changes of two unlike keys, in either order, leave the same entries; for every script and two calls; no condition beyond the row's.
-/
import Derived.Test.YtobkldjomplhgaaTreeRefs
namespace Go.Proofs.Ytobkldjomplhgaa
open Go.RowKit Go.Sort Go.ChangeShapes Go.WideShapes
set_option linter.unusedVariables false
set_option linter.unusedSimpArgs false

/-- A box of a call. -/
def Bt (g : Nat) (o : TOp) (w : World) : Prop := w.heap[g]? = some (.cells #[.bool o.d, .string o.e.k, .string o.e.v] 32 (0, 0))
theorem Bt.next {g : Nat} {o : TOp} {w w' : World} (h : Bt g o w) (hb : Below w.heap.size w w') : Bt g o w' := (hb.block _ (lt_of_block h)).trans h
theorem Bt.c0 {g : Nat} {o : TOp} {w : World} (h : Bt g o w) : w.cell? ⟨g, 0, none⟩ = some (.bool o.d) := cell_at h 0 _ rfl
theorem Bt.c1 {g : Nat} {o : TOp} {w : World} (h : Bt g o w) : w.cell? ⟨g, 1, none⟩ = some (.string o.e.k) := cell_at h 1 _ rfl
theorem Bt.c2 {g : Nat} {o : TOp} {w : World} (h : Bt g o w) : w.cell? ⟨g, 2, none⟩ = some (.string o.e.v) := cell_at h 2 _ rfl
theorem argT_two (w : World) (a b : TOp) (ha : OkT a) (hb : OkT b) : ArgT (w.alloc (.cells #[.bool a.d, .string a.e.k, .string a.e.v, .bool b.d, .string b.e.k, .string b.e.v] 32)) (some ⟨w.heap.size, 0, none⟩) 2 2 [a, b] :=
  ⟨rfl, Nat.le_refl _, by omega, fun _ => ⟨_, rfl, by simp, fun j u hu => new_row w _ _ j u (by simpa [pcT] using hu)⟩, fun o ho => by
    rcases List.mem_cons.1 ho with rfl | ho
    · exact ha
    · rw [List.mem_singleton.1 ho]
      exact hb⟩

set_option maxRecDepth 100000 in
set_option maxHeartbeats 4000000 in
theorem treeCommutes_walk (A : Option Addr) (n c : Nat) (l : List TOp) (a b : TOp) (w : World) (ha : ArgT w A n c l) (hoa : OkT a) (hob : OkT b) :
    Calls Try.prog 10 #[.slice A n c, topV a, topV b] w fun r w' => r = .returned (.bool true) ∧ Below w.heap.size w w' := by
  have HA := Lib.hid ha
  have HOA := Lib.hid hoa
  have HOB := Lib.hid hob
  have hak := hoa.key
  have hbk := hob.key
  clear ha hoa hob
  obtain ⟨hbW, k0, k1, hsz⟩ := two_new w #[.bool a.d, .string a.e.k, .string a.e.v] #[.bool b.d, .string b.e.k, .string b.e.v] 32 32
  unfold topV
  go_enter Try.func10, Try.ntmps10
  go_wp2_with fail
  generalize hw0 : (w.alloc (.cells #[.bool a.d, .string a.e.k, .string a.e.v] 32)).alloc (.cells #[.bool b.d, .string b.e.k, .string b.e.v] 32) = w0 at *
  refine (trAwake_any w0).mono ?_
  rintro r w1 ⟨rfl, hb1⟩
  have HX1 := Lib.hid (show Bt w.heap.size a w1 from Bt.next k0 hb1)
  have HY1 := Lib.hid (show Bt (w.heap.size + 1) b w1 from Bt.next k1 hb1)
  have HB1 := Lib.hid (bthen hbW hb1)
  clear hbW k0 k1 hsz hb1 hw0
  go_wp2_with fail
  refine (fewT_any A n c l w1 (HA.out.below HB1.out)).mono ?_
  rintro r w2 ⟨hb2, few, rfl, hfew⟩
  have HX2 := Lib.hid (HX1.out.next hb2)
  have HY2 := Lib.hid (HY1.out.next hb2)
  have HB2 := Lib.hid (bthen HB1.out hb2)
  have x0 := HX2.out.c0
  have x1 := HX2.out.c1
  have x2 := HX2.out.c2
  have y0 := HY2.out.c0
  have y1 := HY2.out.c1
  have y2 := HY2.out.c2
  clear hb2
  cases few with
  | false =>
    go_wp2_with fail
    refine (trAwake_any w2).mono ?_
    rintro r w3 ⟨rfl, hb3⟩
    have hb := bthen HB2.out hb3
    clear hb3
    go_wp2
    go_ret
    exact ⟨rfl, hb⟩
  | true =>
    have hl200 := hfew rfl
    rw [HA.out.len] at hl200
    clear hfew
    -- ARMS
    go_wp2_with fail
    have hbn : Below w2.heap.size w2 (w2.alloc (.cells #[.bool a.d, .string a.e.k, .string a.e.v, .bool b.d, .string b.e.k, .string b.e.v] 32)) := (Below.refl _ _).alloc (Nat.le_refl _) _
    refine (fewT_any _ 2 2 [a, b] _ (argT_two w2 a b HOA.out HOB.out)).mono ?_
    rintro r w3 ⟨hb3, few2, rfl, _⟩
    have hb23 := bthen hbn hb3
    have HX3 := Lib.hid (HX2.out.next hb23)
    have HY3 := Lib.hid (HY2.out.next hb23)
    have HB3 := Lib.hid (bthen HB2.out hb23)
    have x0 := HX3.out.c0
    have x1 := HX3.out.c1
    have x2 := HX3.out.c2
    have y0 := HY3.out.c0
    have y1 := HY3.out.c1
    have y2 := HY3.out.c2
    clear hbn hb3 hb23
    cases few2 with
    | false =>
      go_wp2_with fail
      refine (trAwake_any w3).mono ?_
      rintro r w4 ⟨rfl, hb4⟩
      have hb := bthen HB3.out hb4
      clear hb4
      go_wp2
      go_ret
      exact ⟨rfl, hb⟩
    | true =>
      have hsm := same_eq a.e.k b.e.k
      by_cases hk : a.e.k = b.e.k
      · rw [decide_eq_true hk] at hsm
        clear hk
        go_wp2_with fail
        refine (trAwake_any w3).mono ?_
        rintro r w4 ⟨rfl, hb4⟩
        have hb := bthen HB3.out hb4
        clear hb4
        go_wp2
        go_ret
        exact ⟨rfl, hb⟩
      · rw [decide_eq_false hk] at hsm
        have HNE := Lib.hid hk
        clear hk
        go_wp2_with fail
        refine (built_any A n c l w3 (HA.out.below HB3.out) (by omega)).mono ?_
        rintro r w4 ⟨T, rfl, ht, _, hlen, hb4⟩
        have HT4 := Lib.hid ht
        have HX4 := Lib.hid (HX3.out.next hb4)
        have HY4 := Lib.hid (HY3.out.next hb4)
        have HB4 := Lib.hid (bthen HB3.out hb4)
        have x0 := HX4.out.c0
        have x1 := HX4.out.c1
        have x2 := HX4.out.c2
        have y0 := HY4.out.c0
        have y1 := HY4.out.c1
        have y2 := HY4.out.c2
        obtain ⟨tp, htv⟩ : ∃ tp, Value.pointer tp = tb T := ⟨_, rfl⟩
        rw [← htv]
        have HTV := Lib.hid htv
        clear hb4 ht htv
        go_wp2
        have hbn1 : Below w4.heap.size w4 (w4.alloc (.cells #[.bool a.d, .string a.e.k, .string a.e.v, .bool b.d, .string b.e.k, .string b.e.v] 32)) := (Below.refl _ _).alloc (Nat.le_refl _) _
        have HARG1 := Lib.hid (argT_two w4 a b HOA.out HOB.out)
        have HST1 := Lib.hid (show TreeIs (w4.alloc (.cells #[.bool a.d, .string a.e.k, .string a.e.v, .bool b.d, .string b.e.k, .string b.e.v] 32)) T ∧ Bt w.heap.size a (w4.alloc (.cells #[.bool a.d, .string a.e.k, .string a.e.v, .bool b.d, .string b.e.k, .string b.e.v] 32)) ∧ Bt (w.heap.size + 1) b (w4.alloc (.cells #[.bool a.d, .string a.e.k, .string a.e.v, .bool b.d, .string b.e.k, .string b.e.v] 32)) ∧ Below w.heap.size w (w4.alloc (.cells #[.bool a.d, .string a.e.k, .string a.e.v, .bool b.d, .string b.e.k, .string b.e.v] 32)) from ⟨HT4.out.below hbn1, HX4.out.next hbn1, HY4.out.next hbn1, bthen HB4.out hbn1⟩)
        clear hbn1
        generalize hwl1 : w4.alloc (.cells #[.bool a.d, .string a.e.k, .string a.e.v, .bool b.d, .string b.e.k, .string b.e.v] 32) = wl1 at *
        generalize (⟨w4.heap.size, 0, none⟩ : Addr) = g1 at *
        go_loopw [8, 46] (fun s8 s46 wr => ∃ k T1, k ≤ 2 ∧ s46 = .int .i64 (k : Nat) ∧ s8 = tb T1 ∧ TreeIs wr T1 ∧ tl T1 = ([a, b].take k).foldl play (tl T) ∧ (tl T1).length ≤ n + k ∧ TreeIs wr T ∧ Bt w.heap.size a wr ∧ Bt (w.heap.size + 1) b wr ∧ Ls pcT wr (some g1) [a, b] ∧ Below w.heap.size w wr) (fun _ s46 _ => 2 - (intOf s46).toNat)
        case atStart => exact ⟨0, T, Nat.zero_le _, rfl, HTV.out, HST1.out.1, rfl, hlen, HST1.out.1, HST1.out.2.1, HST1.out.2.2.1, HARG1.out.ls, HST1.out.2.2.2⟩
        case round =>
          obtain ⟨k, T1, hk, rfl, rfl, ht1, hl1, hn1, ht0, hx, hy, hls, hbw⟩ := hrel
          by_cases hlt : k < 2
          · obtain ⟨ad, o, e1, ho, hadl, q0, q1, q2⟩ := hls.top_at (i := k) hlt
            cases e1
            have hok : OkT o := by
              rcases List.mem_cons.1 (List.mem_of_getElem? ho) with rfl | h
              · exact HOA.out
              · rw [List.mem_singleton.1 h]; exact HOB.out
            obtain ⟨wx, hwx⟩ : ∃ wx, wx = wr.alloc (.cells #[.bool o.d, .string o.e.k, .string o.e.v] 32) := ⟨_, rfl⟩
            have hbx : Below wr.heap.size wr wx := by rw [hwx]; exact (Below.refl _ _).alloc (Nat.le_refl _) _
            have HT1 := Lib.hid ht1
            have HL1 := Lib.hid hl1
            have HT0 := Lib.hid (ht0.below hbx)
            have HXR := Lib.hid (hx.next hbx)
            have HYR := Lib.hid (hy.next hbx)
            have HLSR := Lib.hid (hls.below hbx)
            have HBX := Lib.hid hbx
            have HBW := Lib.hid (bthen hbw hbx)
            have HO := Lib.hid ho
            have hlow : Low T1 := ht1.low (by omega)
            have hso := ht1.sorted
            obtain ⟨tp1, htv1⟩ : ∃ tp1, Value.pointer tp1 = tb T1 := ⟨_, rfl⟩
            rw [← htv1]
            have HTV1 := Lib.hid htv1
            have HWX := Lib.hid hwx
            clear ht1 hl1 ht0 hx hy hls hbx hbw ho htv1 hwx
            go_wp2_with fail
            rw [HTV1.out, ← HWX.out]
            refine (after_any (o := o) (HT1.out.below HBX.out) hlow hok).mono ?_
            rintro r w5 ⟨T2, rfl, ht2, hl2, hb2⟩
            have hpl : tl T2 = ([a, b].take (k + 1)).foldl play (tl T) := by
              rw [hl2, HL1.out, List.take_add_one, HO.out]
              simp
            have hle : (tl T2).length ≤ n + (k + 1) := by
              rw [hl2]
              have := play_len hso o
              omega
            have HPL := Lib.hid hpl
            have HR := Lib.hid (show TreeIs w5 T2 ∧ TreeIs w5 T ∧ Bt w.heap.size a w5 ∧ Bt (w.heap.size + 1) b w5 ∧ Ls pcT w5 (some g1) [a, b] ∧ Below w.heap.size w w5 from ⟨ht2, HT0.out.below hb2, HXR.out.next hb2, HYR.out.next hb2, HLSR.out.below hb2, bthen HBW.out hb2⟩)
            clear ht2 hl2 hb2 hpl hso q0 q1 q2
            go_wp2
            obtain ⟨r1, r2, r3, r4, r5, r6⟩ := HR.out
            exact ⟨⟨k + 1, T2, by omega, by go_num, rfl, r1, HPL.out, hle, r2, r3, r4, r5, r6⟩, by simp [intOf]; omega⟩
          · have he : k = 2 := by omega
            subst he
            rw [show ((2 : Nat) : Int) = 2 from rfl]
            have HL1 := Lib.hid (show tl T1 = play (play (tl T) a) b from hl1)
            have HT1 := Lib.hid ht1
            have HT0 := Lib.hid ht0
            have HXR := Lib.hid hx
            have HYR := Lib.hid hy
            have HBW := Lib.hid hbw
            have x0 := hx.c0
            have x1 := hx.c1
            have x2 := hx.c2
            have y0 := hy.c0
            have y1 := hy.c1
            have y2 := hy.c2
            obtain ⟨tp1, htv1⟩ : ∃ tp1, Value.pointer tp1 = tb T1 := ⟨_, rfl⟩
            rw [← htv1]
            have HTV1 := Lib.hid htv1
            clear hl1 ht1 ht0 hx hy hls hbw htv1
            have hbn2 : Below wr.heap.size wr (wr.alloc (.cells #[.bool b.d, .string b.e.k, .string b.e.v, .bool a.d, .string a.e.k, .string a.e.v] 32)) := (Below.refl _ _).alloc (Nat.le_refl _) _
            have HARG2 := Lib.hid (argT_two wr b a HOB.out HOA.out)
            have HST2 := Lib.hid (show TreeIs (wr.alloc (.cells #[.bool b.d, .string b.e.k, .string b.e.v, .bool a.d, .string a.e.k, .string a.e.v] 32)) T ∧ TreeIs (wr.alloc (.cells #[.bool b.d, .string b.e.k, .string b.e.v, .bool a.d, .string a.e.k, .string a.e.v] 32)) T1 ∧ Below w.heap.size w (wr.alloc (.cells #[.bool b.d, .string b.e.k, .string b.e.v, .bool a.d, .string a.e.k, .string a.e.v] 32)) from ⟨HT0.out.below hbn2, HT1.out.below hbn2, bthen HBW.out hbn2⟩)
            clear hbn2
            go_wp2
            generalize hwl2 : wr.alloc (.cells #[.bool b.d, .string b.e.k, .string b.e.v, .bool a.d, .string a.e.k, .string a.e.v] 32) = wl2 at *
            generalize (⟨wr.heap.size, 0, none⟩ : Addr) = g2 at *
            go_loopw [9, 58] (fun s9 s58 wq => ∃ k T2, k ≤ 2 ∧ s58 = .int .i64 (k : Nat) ∧ s9 = tb T2 ∧ TreeIs wq T2 ∧ tl T2 = ([b, a].take k).foldl play (tl T) ∧ (tl T2).length ≤ n + k ∧ TreeIs wq T1 ∧ Ls pcT wq (some g2) [b, a] ∧ Below w.heap.size w wq) (fun _ s58 _ => 2 - (intOf s58).toNat)
            case atStart => exact ⟨0, T, Nat.zero_le _, rfl, HTV.out, HST2.out.1, rfl, hlen, HST2.out.2.1, HARG2.out.ls, HST2.out.2.2⟩
            case round =>
              obtain ⟨k, T2, hk, rfl, rfl, ht2, hl2, hn2, ht1, hls, hbw⟩ := hrel
              by_cases hlt : k < 2
              · obtain ⟨ad, o, e1, ho, hadl, q0, q1, q2⟩ := hls.top_at (i := k) hlt
                cases e1
                have hok : OkT o := by
                  rcases List.mem_cons.1 (List.mem_of_getElem? ho) with rfl | h
                  · exact HOB.out
                  · rw [List.mem_singleton.1 h]; exact HOA.out
                obtain ⟨wx, hwx⟩ : ∃ wx, wx = wr.alloc (.cells #[.bool o.d, .string o.e.k, .string o.e.v] 32) := ⟨_, rfl⟩
                have hbx : Below wr.heap.size wr wx := by rw [hwx]; exact (Below.refl _ _).alloc (Nat.le_refl _) _
                have HT2 := Lib.hid ht2
                have HL2 := Lib.hid hl2
                have HT1q := Lib.hid (ht1.below hbx)
                have HLSR := Lib.hid (hls.below hbx)
                have HBX := Lib.hid hbx
                have HBWq := Lib.hid (bthen hbw hbx)
                have HO := Lib.hid ho
                have hlow : Low T2 := ht2.low (by omega)
                have hso := ht2.sorted
                obtain ⟨tp2, htv2⟩ : ∃ tp2, Value.pointer tp2 = tb T2 := ⟨_, rfl⟩
                rw [← htv2]
                have HTV2 := Lib.hid htv2
                have HWX := Lib.hid hwx
                clear ht2 hl2 ht1 hls hbx hbw ho htv2 hwx
                go_wp2_with fail
                rw [HTV2.out, ← HWX.out]
                refine (after_any (o := o) (HT2.out.below HBX.out) hlow hok).mono ?_
                rintro r w5 ⟨T3, rfl, ht3, hl3, hb3⟩
                have hpl : tl T3 = ([b, a].take (k + 1)).foldl play (tl T) := by
                  rw [hl3, HL2.out, List.take_add_one, HO.out]
                  simp
                have hle : (tl T3).length ≤ n + (k + 1) := by
                  rw [hl3]
                  have := play_len hso o
                  omega
                have HPL := Lib.hid hpl
                have HR := Lib.hid (show TreeIs w5 T3 ∧ TreeIs w5 T1 ∧ Ls pcT w5 (some g2) [b, a] ∧ Below w.heap.size w w5 from ⟨ht3, HT1q.out.below hb3, HLSR.out.below hb3, bthen HBWq.out hb3⟩)
                clear ht3 hl3 hb3 hpl hso q0 q1 q2
                go_wp2
                obtain ⟨r1, r2, r3, r4⟩ := HR.out
                exact ⟨⟨k + 1, T3, by omega, by go_num, rfl, r1, HPL.out, hle, r2, r3, r4⟩, by simp [intOf]; omega⟩
              · have he : k = 2 := by omega
                subst he
                have hsame : tl T2 = tl T1 := by
                  rw [HL1.out, show tl T2 = play (play (tl T) b) a from hl2]
                  exact (play_swap HT4.out.sorted HNE.out).symm
                have HSAME := Lib.hid hsame
                have HT2 := Lib.hid ht2
                have HT1q := Lib.hid ht1
                have HBWq := Lib.hid hbw
                obtain ⟨tp2, htv2⟩ : ∃ tp2, Value.pointer tp2 = tb T2 := ⟨_, rfl⟩
                rw [← htv2]
                have HTV2 := Lib.hid htv2
                clear hl2 ht2 ht1 hls hbw htv2 hsame
                go_wp2_with fail
                rw [HTV1.out]
                refine (items_any HT1q.out (by omega)).mono ?_
                rintro r w9 ⟨v9, rfl, ho9, hb9⟩
                rw [← HTV1.out]
                obtain ⟨A9, c9, rfl, hc9, hes9⟩ := ho9.form
                have HES9 := Lib.hid hes9
                have HT29 := Lib.hid (HT2.out.below hb9)
                have HB9 := Lib.hid (bthen HBWq.out hb9)
                clear ho9 hes9 hb9
                go_wp2_with fail
                rw [HTV2.out]
                refine (items_any HT29.out (by omega)).mono ?_
                rintro r wa ⟨va, rfl, hoa, hba⟩
                rw [← HTV2.out]
                obtain ⟨Aa, ca, rfl, hca, hesa⟩ := hoa.form
                rw [HSAME.out] at hca hesa ⊢
                have HESa := Lib.hid hesa
                have HES9a := Lib.hid (HES9.out.below hba)
                have HBa := Lib.hid (bthen HB9.out hba)
                obtain ⟨q, hq⟩ : ∃ q, (tl T1).length = q := ⟨_, rfl⟩
                rw [hq] at hc9 hca hn1 ⊢
                have HQ := Lib.hid hq
                clear hoa hesa hba hq
                go_wp2_with fail
                refine (same_any A9 Aa q c9 ca (tl T1) wa HES9a.out HESa.out HQ.out (by omega)).mono ?_
                rintro r wb ⟨rfl, hbb⟩
                have hb := bthen HBa.out hbb
                clear hbb
                go_wp2
                go_ret
                exact ⟨rfl, hb⟩

end Go.Proofs.Ytobkldjomplhgaa

namespace Go.Proofs.Ytobkldjomplhgaa.treeCommutes
open Go.ChangeShapes Go.WideShapes Go.ChangeAt Go.RowKit
open Go.ChangeMaps (open_string shut_string)
set_option linter.unusedVariables false

theorem own : ownKnob Try.prog.godebug = none := by kernel_rfl
theorem laidOut : laidOutB Try.prog = true := by kernel_rfl

set_option maxRecDepth 100000 in
theorem lifted (os : Os) (started : os.Started) (H : Type) (enc : TypeId × Value → H) :
    ReturnsInHanded {} Try.checked os 10 .any (Rows.treeCommutesSpec.pre6 enc Try.prog Try.f10 Rows.treeCommutesRow.domain false) (Rows.treeCommutesSpec.post enc Try.prog Try.f10 false true false false) := by
  refine returnsInHanded_of_change_sized (C := Try.checked) own started (by kernel_rfl) Try.func10
    (ChangeSpec.witness6 (enc := enc) (C := Try.checked) false ⟨#[], #[.slice none 0 0, .agg #[.bool false, .string ByteArray.empty, .string ByteArray.empty], .agg #[.bool false, .string ByteArray.empty, .string ByteArray.empty]], []⟩ 8 (by kernel_rfl) (by kernel_rfl) (by kernel_rfl) (by kernel_rfl)) ?_
  intro W base args ds gs before hval0 hW hcnd hsz0 _
  have hval : ∀ (j : Nat) t v, Try.f10.params[j]? = some t → args[j]? = some v → Value.okWide Try.prog W .any base t v := hval0
  have hsz : (DataW.weightsEach Try.prog (Try.f10.params.toList ++ Rows.treeCommutesSpec.plain.varTypes Try.prog) (ds ++ gs)).all (· ≤ reachBytes) = true := hsz0
  have hW' := hW
  obtain ⟨p, q, hA0, hV, rfl, hfz, hnd⟩ := hW
  have hA : DataW.TrodAll enc Try.prog W 0 (fun _ => true) true Try.f10.params.toList args.toList ds p := hA0
  rw [Try.params10] at hA hval hsz
  obtain ⟨v0, vs0, d0, ds0, p0, q0, hargs, rfl, rfl, h0, r0⟩ := trodAll_cons hA
  obtain ⟨v1, vs1, d1, ds1, p1, q1, rfl, rfl, rfl, h1, r1⟩ := trodAll_cons r0
  obtain ⟨v2, vs2, d2, ds2, p2, q2, rfl, rfl, rfl, h2, r2⟩ := trodAll_cons r1
  obtain ⟨rfl, rfl, rfl⟩ := trodAll_nil r2
  obtain rfl : args = #[v0, v1, v2] := by cases args; simp_all
  obtain ⟨rfl, rfl⟩ := trodVars_none hV
  obtain ⟨A0, n0, c0, rfl⟩ := okWide_slice Try.underlying22 (hval 0 22 v0 rfl rfl)
  have k0 := h0
  have lt0 : ∀ x ∈ p0, x.block < W.heap.size := by obtain ⟨m, hm⟩ := k0; exact DataW.trod_lt m _ _ _ hm
  obtain ⟨l0, w0⟩ := open_tops h0 (fun m hm => of_decide_eq_true (List.all_eq_true.1 hsz _ (DataW.weights_mem_each (j := 0) (t := 22) rfl rfl m hm)))
  have k1 := h1
  have lt1 : ∀ x ∈ p1, x.block < W.heap.size := by obtain ⟨m, hm⟩ := k1; exact DataW.trod_lt m _ _ _ hm
  obtain ⟨a1, rfl, w1⟩ := open_top (hval 1 32 v1 rfl rfl) h1 (fun m hm => of_decide_eq_true (List.all_eq_true.1 hsz _ (DataW.weights_mem_each (j := 1) (t := 32) rfl rfl m hm)))
  have k2 := h2
  have lt2 : ∀ x ∈ p2, x.block < W.heap.size := by obtain ⟨m, hm⟩ := k2; exact DataW.trod_lt m _ _ _ hm
  obtain ⟨a2, rfl, w2⟩ := open_top (hval 2 32 v2 rfl rfl) h2 (fun m hm => of_decide_eq_true (List.all_eq_true.1 hsz _ (DataW.weights_mem_each (j := 2) (t := 32) rfl rfl m hm)))
  clear hA0 hval0 hsz hsz0
  refine (treeCommutes_walk A0 n0 c0 l0 a1 a2 W w0 w1 w2).mono fun e W' ⟨he, bel⟩ => ?_
  subst he
  exact ⟨_, rfl, _, _, _, [], _, [], hW', trodAll_mk1 (shut_bool Try.underlying4 _), (trodAll_cons_mk (Below.trod laidOut (by kernel_rfl) (of_decide_eq_true (by kernel_rfl)) k0 bel lt0) (trodAll_cons_mk (Below.trod laidOut (by kernel_rfl) (of_decide_eq_true (by kernel_rfl)) k1 bel lt1) (trodAll_cons_mk (Below.trod laidOut (by kernel_rfl) (of_decide_eq_true (by kernel_rfl)) k2 bel lt2) trodAll_mk0))), rfl, bel.frame _, fun h => by cases h⟩

theorem over : Rows.treeCommutesRow.holds Try.pinned (OpenSpec.ofChange Rows.treeCommutesSpec) :=
  OpenClaim.holds_of_wide 10 Try.f10 rfl rfl rfl rfl rfl rfl rfl ⟨rfl, rfl, rfl, rfl, rfl⟩ rfl rfl rfl rfl rfl (by kernel_rfl) Try.func10 (by kernel_rfl)
    (of_decide_eq_true (by kernel_rfl)) (by unfold Func.isWrapper; first | (rw [if_pos (by decide +kernel)]; kernel_rfl) | (rw [if_neg (by decide +kernel)]; exact ⟨rfl, rfl⟩))
    (fun os started H enc _ => lifted os started H enc)

theorem proved : Rows.TreeCommutesSaid := over
#print axioms proved

end Go.Proofs.Ytobkldjomplhgaa.treeCommutes
