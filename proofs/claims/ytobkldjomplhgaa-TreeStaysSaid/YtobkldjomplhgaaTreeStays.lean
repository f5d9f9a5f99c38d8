/-
  TreeStays: a tree never changes, whatever is made of it: older ones have the entries that they had; for every script; no condition beyond the row's.
-/
import Derived.Test.YtobkldjomplhgaaTreeRows
import Derived.BigQuiet
namespace Go.Proofs.Ytobkldjomplhgaa
open Go.RowKit Go.Sort Go.ChangeShapes Go.WideShapes
set_option linter.unusedVariables false
set_option linter.unusedSimpArgs false

/-- A tree that was kept, and its entries in a list. -/
structure Kept where
  T : TO
  A : Option Addr
  n : Nat
  c : Nat
def Kept.v (p : Kept) : Value := .slice p.A p.n p.c
structure KeptOk (w : World) (p : Kept) : Prop where
  tr : TreeIs w p.T
  es : Es w p.A (tl p.T)
  len : (tl p.T).length = p.n
  cap : p.n ≤ p.c
  few : p.n ≤ 200
abbrev tP : TypeId := 25
abbrev tE : TypeId := 26
theorem KeptOk.below {w w' : World} {p : Kept} (h : KeptOk w p) (hb : Below w.heap.size w w') : KeptOk w' p := ⟨h.tr.below hb, h.es.below hb, h.len, h.cap, h.few⟩
theorem KeptOk.softP {w w' : World} {p : Kept} (h : KeptOk w p) (hs : Soft tP (.pointer none) w w') : KeptOk w' p :=
  ⟨h.tr.soft hs (by decide) (fun s e => by cases e) (fun a e => by cases e), h.es.soft hs (fun s e => by cases e), h.len, h.cap, h.few⟩
theorem KeptOk.softE {w w' : World} {p : Kept} (h : KeptOk w p) (hs : Soft tE (.slice none 0 0) w w') : KeptOk w' p :=
  ⟨h.tr.soft hs (by decide) (fun s e => by cases e) (fun a e => by cases e), h.es.soft hs (fun s e => by cases e), h.len, h.cap, h.few⟩
/-- What stands after some calls. -/
structure Stays (w wr : World) (k : Nat) (T : TO) (v3 v4 : Value) (L : List Kept) : Prop where
  tr : TreeIs wr T
  r3 : RowZ tP (.pointer none) wr w.heap.size v3 (L.map fun p => tb p.T)
  r4 : RowZ tE (.slice none 0 0) wr w.heap.size v4 (L.map Kept.v)
  all : ∀ p ∈ L, KeptOk wr p
  len : L.length = k
  few : (tl T).length ≤ k
  below : Below w.heap.size w wr
theorem Stays.next {w wr wq : World} {k : Nat} {T : TO} {v3 v4 : Value} {L : List Kept} (h : Stays w wr k T v3 v4 L) (hb : Below wr.heap.size wr wq) : Stays w wq k T v3 v4 L := ⟨h.tr.below hb, h.r3.below hb, h.r4.below hb, fun p hp => (h.all p hp).below hb, h.len, h.few, bthen h.below hb⟩
theorem ptrInfoZ : (Try.prog.info? tP).map (fun i => (i.zero, i.size, i.bytes)) = some (some (.pointer none), 1, 8) := by kernel_rfl
theorem slInfoZ : (Try.prog.info? tE).map (fun i => (i.zero, i.size, i.bytes)) = some (some (.slice none 0 0), 1, 24) := by kernel_rfl
theorem RowZ.lt {t : TypeId} {z : Value} {w : World} {base : Nat} {v : Value} {xs : List Value} (h : RowZ t z w base v xs) : ∀ g, v.ownBlock = some g → base ≤ g := fun g hg => by
  rcases h with ⟨rfl, _⟩ | ⟨g', cap, rfl, hb, _⟩
  · simp [Value.ownBlock] at hg
  · have : g' = g := by simpa [Value.ownBlock] using hg
    omega

set_option maxRecDepth 100000 in
set_option maxHeartbeats 4000000 in
theorem treeStays_walk (A : Option Addr) (n c : Nat) (l : List TOp) (w : World) (ha : ArgT w A n c l) :
    Calls Try.prog 4 #[.slice A n c] w fun r w' => r = .returned (.bool true) ∧ Below w.heap.size w w' := by
  have HA := Lib.hid ha
  clear ha
  go_enter Try.func4, Try.ntmps4
  go_wp2_with fail
  refine (trAwake_any w).mono ?_
  rintro r w1 ⟨rfl, hb1⟩
  have HB1 := Lib.hid hb1
  clear hb1
  go_wp2_with fail
  refine (fewT_any A n c l w1 (HA.out.below HB1.out)).mono ?_
  rintro r w2 ⟨hb2, few, rfl, hfew⟩
  have HB2 := Lib.hid (bthen HB1.out hb2)
  clear hb2 hfew
  cases few with
  | false =>
    go_wp2_with fail
    refine (trAwake_any w2).mono ?_
    rintro r w3 ⟨rfl, hb3⟩
    have hb := bthen HB2.out hb3
    clear hb3
    go_wp2
    go_ret
    exact ⟨rfl, hb⟩
  | true =>
    by_cases h60 : 60 < n
    · go_wp2_with fail
      refine (trAwake_any w2).mono ?_
      rintro r w3 ⟨rfl, hb3⟩
      have hb := bthen HB2.out hb3
      clear hb3
      go_wp2
      go_ret
      exact ⟨rfl, hb⟩
    · go_wp2
      go_loopw [3, 4, 5, 25] (fun s3 s4 s5 s25 wr => ∃ (k : Nat) (T : TO) (L : List Kept), k ≤ n ∧ s25 = .int .i64 (k : Nat) ∧ s5 = tb T ∧ Hid (Stays w wr k T s3 s4 L)) (fun _ _ _ s25 _ => n - (intOf s25).toNat)
      case atStart => exact ⟨0, none, [], Nat.zero_le _, rfl, rfl, Lib.hid ⟨TreeIs.none _, .inl ⟨rfl, rfl⟩, .inl ⟨rfl, rfl⟩, fun p hp => (by cases hp), rfl, Nat.le_refl _, HB2.out⟩⟩
      case round =>
        obtain ⟨k, T, L, hk, rfl, rfl, HS⟩ := hrel
        obtain ⟨A3, c3, hv3⟩ := HS.out.r3.form
        obtain ⟨A4, c4, hv4⟩ := HS.out.r4.form
        rw [List.length_map, HS.out.len] at hv3 hv4
        subst hv3
        subst hv4
        by_cases hlt : k < n
        · obtain ⟨tp, htv⟩ : ∃ tp, Value.pointer tp = tb T := ⟨_, rfl⟩
          rw [← htv]
          have HTV := Lib.hid htv
          have hlow : Low T := HS.out.tr.low (by have := HS.out.few; omega)
          have hba : Below wr.heap.size wr (wr.alloc (.cells #[.pointer tp] tP)) := (Below.refl _ _).alloc (Nat.le_refl _) _
          have hla : L.length ≤ 1000 := by rw [HS.out.len]; omega
          obtain ⟨v3, wb, hrun, hr3, hsoft, hgrow⟩ := append_z 40 tP 40 _ 8 ⟨_, Try.underlying40, rfl⟩ ptrInfoZ rfl rfl (by omega) (HS.out.r3.below hba) (.pointer tp) rfl (h := wr.heap.size) (heap_alloc_new wr _) (by rw [List.length_map]; exact hla) (Nat.le_trans HS.out.below.size hba.size)
          have hbb : Below w.heap.size w wb := (bthen HS.out.below hba).grown hgrow (bthen HS.out.below hba).size (fun g hg => HS.out.r3.lt g hg)
          have HR := Lib.hid hrun
          have HR3 := Lib.hid hr3
          have HT := Lib.hid ((HS.out.tr.below hba).soft hsoft (by decide) (fun s e => by cases e) (fun a e => by cases e))
          have HR4 := Lib.hid ((HS.out.r4.below hba).soft hsoft (by decide))
          have HALL := Lib.hid (show ∀ p ∈ L, KeptOk wb p from fun p hp => ((HS.out.all p hp).below hba).softP hsoft)
          have HBB := Lib.hid hbb
          have HLEN := Lib.hid HS.out.len
          have hfew := HS.out.few
          clear htv hba hrun hr3 hsoft hgrow hbb
          go_wp2_with (at_builtin; refine wpList_append_ran rfl (.tmp 28) (.tmp 30) 40 rfl _ _ _ _ rfl rfl HR.out ?_)
          rw [HTV.out]
          refine (items_any HT.out (by omega)).mono ?_
          rintro r wc ⟨vc, rfl, hoc, hbc⟩
          rw [← HTV.out]
          obtain ⟨Ac, cc, rfl, hcc, hesc⟩ := hoc.form
          obtain ⟨m, hm⟩ : ∃ m, (tl T).length = m := ⟨_, rfl⟩
          rw [hm] at hcc hfew ⊢
          have hbd : Below wc.heap.size wc (wc.alloc (.cells #[.slice Ac m cc] tE)) := (Below.refl _ _).alloc (Nat.le_refl _) _
          have hbcd := bthen hbc hbd
          obtain ⟨v4, we, hrun, hr4, hsoft, hgrow⟩ := append_z 41 tE 41 _ 24 ⟨_, Try.underlying41, rfl⟩ slInfoZ rfl rfl (by omega) (HR4.out.below hbcd) (.slice Ac m cc) rfl (h := wc.heap.size) (heap_alloc_new wc _) (by rw [List.length_map]; exact hla) (Nat.le_trans HBB.out.size hbcd.size)
          have hbe : Below w.heap.size w we := (bthen HBB.out hbcd).grown hgrow (bthen HBB.out hbcd).size (fun g hg => HR4.out.lt g hg)
          have HS2 : Hid (Stays w we (k + 1) T v3 v4 (L ++ [⟨T, Ac, m, cc⟩])) := Lib.hid ⟨(HT.out.below hbcd).soft hsoft (by decide) (fun s e => by cases e) (fun a e => by cases e), by
            rw [List.map_append, List.map_singleton, ← HTV.out]
            exact (HR3.out.below hbcd).soft hsoft (by decide), by
            rw [List.map_append, List.map_singleton]
            exact hr4, fun p hp => by
            rcases List.mem_append.1 hp with hp | hp
            · exact ((HALL.out p hp).below hbcd).softE hsoft
            · rw [List.mem_singleton.1 hp]
              exact KeptOk.softE ⟨HT.out.below hbcd, hesc.below hbd, hm, hcc, by show m ≤ 200; omega⟩ hsoft, by rw [List.length_append, HLEN.out]; rfl, by rw [hm]; omega, hbe⟩
          have HR' := Lib.hid hrun
          clear hoc hesc hbc hbd hbcd hrun hr4 hsoft hgrow hbe
          obtain ⟨ad, o, rfl, ho, hl, q0, q1, q2⟩ := (HA.out.ls.below HS2.out.below).top_at (i := k) (by rw [HA.out.len]; exact hlt)
          have hok := HA.out.ok o (List.mem_of_getElem? ho)
          have hplen := play_len HS.out.tr.sorted o
          rw [hm] at hplen
          obtain ⟨od, oe⟩ := o
          simp only at q0 q1 q2 hok
          have hkey := hok.key
          have hval := hok.val
          simp only at hkey hval
          clear ho hok
          cases od with
          | true =>
            go_wp2_with (at_builtin; refine wpList_append_ran rfl (.tmp 32) (.tmp 35) 41 rfl _ _ _ _ rfl rfl HR'.out ?_)
            rw [HTV.out]
            refine (del_any HS2.out.tr hlow).mono ?_
            rintro r w5 ⟨T', rfl, ht', hb1, hl', _, _⟩
            have HS3 : Hid (Stays w w5 (k + 1) T' v3 v4 (L ++ [⟨T, Ac, m, cc⟩])) := Lib.hid ⟨ht', HS2.out.r3.below hb1, HS2.out.r4.below hb1, fun p hp => (HS2.out.all p hp).below hb1, HS2.out.len, by rw [hl']; unfold play at hplen; simp at hplen; omega, bthen HS2.out.below hb1⟩
            clear hb1 hl' ht' q0 q1 q2
            go_wp2
            exact ⟨⟨k + 1, T', _, by omega, by go_num, rfl, HS3⟩, by simp [intOf]; omega⟩
          | false =>
            go_wp2_with (at_builtin; refine wpList_append_ran rfl (.tmp 32) (.tmp 35) 41 rfl _ _ _ _ rfl rfl HR'.out ?_)
            rw [HTV.out]
            refine (put_any HS2.out.tr hlow hkey hval).mono ?_
            rintro r w5 ⟨T', rfl, ht', hb1, hno, hyes⟩
            by_cases he : okE oe = true
            · obtain ⟨hl', _, _⟩ := hyes he
              have HS3 : Hid (Stays w w5 (k + 1) T' v3 v4 (L ++ [⟨T, Ac, m, cc⟩])) := Lib.hid ⟨ht', HS2.out.r3.below hb1, HS2.out.r4.below hb1, fun p hp => (HS2.out.all p hp).below hb1, HS2.out.len, by rw [hl']; unfold play at hplen; simp [he] at hplen; omega, bthen HS2.out.below hb1⟩
              rw [okE_err he]
              clear hl' hb1 hno hyes he ht' q0 q1 q2
              go_wp2
              exact ⟨⟨k + 1, T', _, by omega, by go_num, rfl, HS3⟩, by simp [intOf]; omega⟩
            · have hz := okE_no he
              have HS3 := Lib.hid (HS2.out.next hb1)
              clear hb1 hno hyes he ht' q0 q1 q2
              go_wp2
              exact ⟨⟨k + 1, T, _, by omega, by go_num, rfl, HS3⟩, by simp [intOf]; omega⟩
        · have he : k = n := by omega
          subst he
          have HLEN := Lib.hid HS.out.len
          obtain ⟨tp, htv⟩ : ∃ tp, Value.pointer tp = tb T := ⟨_, rfl⟩
          rw [← htv]
          clear htv
          go_wp2
          go_loopw [69] (fun s69 wq => ∃ j : Nat, j ≤ k ∧ s69 = .int .i64 (j : Nat) ∧ Hid (Stays w wq k T (.slice A3 k c3) (.slice A4 k c4) L)) (fun s69 _ => k - (intOf s69).toNat)
          case atStart => exact ⟨0, Nat.zero_le _, rfl, HS⟩
          case round =>
            obtain ⟨j, hj, rfl, HQ⟩ := hrel
            by_cases hlt2 : j < k
            · obtain ⟨p, hp⟩ : ∃ p, L[j]? = some p := ⟨_, List.getElem?_eq_getElem (by rw [HLEN.out]; exact hlt2)⟩
              have hkp := HQ.out.all p (List.mem_of_getElem? hp)
              obtain ⟨ad3, d3, e3, r3⟩ := HQ.out.r3.at_ (i := j) (u := tb p.T) (by rw [List.getElem?_map, hp]; rfl)
              obtain ⟨ad4, d4, e4, r4⟩ := HQ.out.r4.at_ (i := j) (u := p.v) (by rw [List.getElem?_map, hp]; rfl)
              rw [List.length_map, HLEN.out] at e3 e4
              cases e3
              cases e4
              obtain ⟨W, hW⟩ : ∃ W, W = wr.drew := ⟨_, rfl⟩
              have hbW : Below wr.heap.size wr W := by rw [hW]; exact (Below.refl _ _).drew
              have HQW := Lib.hid (HQ.out.next hbW)
              have HKW := Lib.hid (hkp.below hbW)
              have hl3 : (ad3.add j).block < wr.heap.size := World.block_lt_of_cell? wr _ r3
              have hl4 : (ad4.add j).block < wr.heap.size := World.block_lt_of_cell? wr _ r4
              obtain ⟨tq, htq⟩ : ∃ tq, Value.pointer tq = tb p.T := ⟨_, rfl⟩
              rw [← htq] at r3
              have HTQ := Lib.hid htq
              have q3 : ∀ z : Dc.Past [] W, z.val.cell? (ad3.add j) = some (.pointer tq) := fun z => (z.ok.cell (Nat.lt_of_lt_of_le hl3 hbW.size) (by simp)).trans ((hbW.cell hl3).trans r3)
              have q4 : ∀ z : Dc.Past [] W, z.val.cell? (ad4.add j) = some (.slice p.A p.n p.c) := fun z => (z.ok.cell (Nat.lt_of_lt_of_le hl4 hbW.size) (by simp)).trans ((hbW.cell hl4).trans r4)
              have HR3 := Lib.hid r3
              have HW := Lib.hid hW
              have HBW := Lib.hid hbW
              have hpfew := hkp.few
              have hplen := hkp.len
              clear hkp r3 r4 hW hbW hp htq
              go_wp2
              refine Dc.wp_region_segs 18 [] [([0, 1, 2, 3, 5, 6, 7, 8], 4), ([], 9), ([10, 11, 12, 13, 14, 15], 16)] [17, 18] (by kernel_rfl) (by kernel_rfl) (by kernel_rfl) (by kernel_rfl) (by kernel_rfl) (by intro c a d v w h; cases d <;> exact h) ?_
              rw [← HW.out]
              refine Dc.wpSegs_more ?_
              simp only [Dc.pick, List.getElem?_cons_zero, List.getElem?_cons_succ]
              repeat (first | go_big_quiet_step (fail) | quiet_step (fail))
              refine wpQuiet_nil ?_
              refine Dc.wpOp_heavy rfl (by rfl) (fun K hK => ?_)
              go_simp
              rw [HTQ.out]
              refine (items_any HKW.out.tr (by omega)).mono ?_
              rintro r w6 ⟨v6, rfl, ho6, hb6⟩
              refine hK _ _ (fun _ => Dc.But.of_below hb6) ?_
              rw [← HTQ.out]
              obtain ⟨A6, c6, rfl, hc6, hes6⟩ := ho6.form
              rw [hplen] at hc6 ⊢
              have HES6 := Lib.hid hes6
              have HK6 := Lib.hid (HKW.out.below hb6)
              have HQ6 := Lib.hid (HQW.out.next hb6)
              have HB6 := Lib.hid (bthen HBW.out hb6)
              clear hK K q3 q4 ho6 hes6 hb6
              refine Dc.wpSegs_more ?_
              simp only [Dc.pick]
              refine wpQuiet_nil ?_
              refine Dc.wpOp_heavy rfl (by rfl) (fun K hK => ?_)
              go_simp
              refine (same_any A6 p.A p.n c6 p.c (tl p.T) w6 HES6.out HK6.out.es hplen (by omega)).mono ?_
              rintro r w7 ⟨rfl, hb7⟩
              refine hK _ _ (fun _ => Dc.But.of_below hb7) ?_
              have HK7 := Lib.hid (HK6.out.below hb7)
              have HQ7 := Lib.hid (HQ6.out.next hb7)
              have hb07 := bthen HB6.out hb7
              have q3 : ∀ z : Dc.Past [] w7, z.val.cell? (ad3.add j) = some (.pointer tq) := fun z => (z.ok.cell (Nat.lt_of_lt_of_le hl3 hb07.size) (by simp)).trans ((hb07.cell hl3).trans HR3.out)
              clear hK K hb7 hb07
              refine Dc.wpSegs_more ?_
              simp only [Dc.pick, List.getElem?_cons_zero, List.getElem?_cons_succ]
              repeat (first | go_big_quiet_step (fail) | quiet_step (fail))
              refine wpQuiet_nil ?_
              refine Dc.wpOp_heavy rfl (by rfl) (fun K hK => ?_)
              go_simp
              rw [HTQ.out]
              refine (right_tree HK7.out.tr).mono ?_
              rintro r w8 ⟨rfl, hb8⟩
              refine hK _ _ (fun _ => Dc.But.of_below hb8) ?_
              rw [← HTQ.out]
              have HQ8 := Lib.hid (HQ7.out.next hb8)
              clear hK K q3 hb8
              refine Dc.wpSegs_last ?_
              simp only [Dc.pick, List.getElem?_cons_zero, List.getElem?_cons_succ]
              repeat (first | go_big_quiet_step (fail) | quiet_step (fail))
              refine wpQuiet_nil ?_
              go_wp2
              exact ⟨⟨j + 1, by omega, by go_num, HQ8⟩, by simp [intOf]; omega⟩
            · have hb := HQ.out.below
              go_wp2
              go_ret
              exact ⟨rfl, hb⟩

end Go.Proofs.Ytobkldjomplhgaa

namespace Go.Proofs.Ytobkldjomplhgaa.treeStays
open Go.ChangeShapes Go.WideShapes Go.ChangeAt Go.RowKit
open Go.ChangeMaps (open_string shut_string)
set_option linter.unusedVariables false

theorem own : ownKnob Try.prog.godebug = none := by kernel_rfl
theorem laidOut : laidOutB Try.prog = true := by kernel_rfl

set_option maxRecDepth 100000 in
theorem lifted (os : Os) (started : os.Started) (H : Type) (enc : TypeId × Value → H) :
    ReturnsInHanded {} Try.checked os 4 .any (Rows.treeStaysSpec.pre6 enc Try.prog Try.f4 Rows.treeStaysRow.domain false) (Rows.treeStaysSpec.post enc Try.prog Try.f4 false true false false) := by
  refine returnsInHanded_of_change_sized (C := Try.checked) own started (by kernel_rfl) Try.func4
    (ChangeSpec.witness6 (enc := enc) (C := Try.checked) false ⟨#[], #[.slice none 0 0], []⟩ 8 (by kernel_rfl) (by kernel_rfl) (by kernel_rfl) (by kernel_rfl)) ?_
  intro W base args ds gs before hval0 hW hcnd hsz0 _
  have hval : ∀ (j : Nat) t v, Try.f4.params[j]? = some t → args[j]? = some v → Value.okWide Try.prog W .any base t v := hval0
  have hsz : (DataW.weightsEach Try.prog (Try.f4.params.toList ++ Rows.treeStaysSpec.plain.varTypes Try.prog) (ds ++ gs)).all (· ≤ reachBytes) = true := hsz0
  have hW' := hW
  obtain ⟨p, q, hA0, hV, rfl, hfz, hnd⟩ := hW
  have hA : DataW.TrodAll enc Try.prog W 0 (fun _ => true) true Try.f4.params.toList args.toList ds p := hA0
  rw [Try.params4] at hA hval hsz
  obtain ⟨v0, vs0, d0, ds0, p0, q0, hargs, rfl, rfl, h0, r0⟩ := trodAll_cons hA
  obtain ⟨rfl, rfl, rfl⟩ := trodAll_nil r0
  obtain rfl : args = #[v0] := by cases args; simp_all
  obtain ⟨rfl, rfl⟩ := trodVars_none hV
  obtain ⟨A0, n0, c0, rfl⟩ := okWide_slice Try.underlying22 (hval 0 22 v0 rfl rfl)
  have k0 := h0
  have lt0 : ∀ x ∈ p0, x.block < W.heap.size := by obtain ⟨m, hm⟩ := k0; exact DataW.trod_lt m _ _ _ hm
  obtain ⟨l0, w0⟩ := open_tops h0 (fun m hm => of_decide_eq_true (List.all_eq_true.1 hsz _ (DataW.weights_mem_each (j := 0) (t := 22) rfl rfl m hm)))
  clear hA0 hval0 hsz hsz0
  refine (treeStays_walk A0 n0 c0 l0 W w0).mono fun e W' ⟨he, bel⟩ => ?_
  subst he
  exact ⟨_, rfl, _, _, _, [], _, [], hW', trodAll_mk1 (shut_bool Try.underlying4 _), (trodAll_cons_mk (Below.trod laidOut (by kernel_rfl) (of_decide_eq_true (by kernel_rfl)) k0 bel lt0) trodAll_mk0), rfl, bel.frame _, fun h => by cases h⟩

theorem over : Rows.treeStaysRow.holds Try.pinned (OpenSpec.ofChange Rows.treeStaysSpec) :=
  OpenClaim.holds_of_wide 4 Try.f4 rfl rfl rfl rfl rfl rfl rfl ⟨rfl, rfl, rfl, rfl, rfl⟩ rfl rfl rfl rfl rfl (by kernel_rfl) Try.func4 (by kernel_rfl)
    (of_decide_eq_true (by kernel_rfl)) (by unfold Func.isWrapper; first | (rw [if_pos (by decide +kernel)]; kernel_rfl) | (rw [if_neg (by decide +kernel)]; exact ⟨rfl, rfl⟩))
    (fun os started H enc _ => lifted os started H enc)

theorem proved : Rows.TreeStaysSaid := over
#print axioms proved

end Go.Proofs.Ytobkldjomplhgaa.treeStays
