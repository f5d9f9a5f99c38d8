/-
  ShadowPlans: just those writes are planned, on those pages, that the document says, of a tree, and of a changed one behind it; for every two lists; no condition beyond the row's.
-/
import Derived.Test.YtelenboncejdaaaGreatDoorShRfC
import Derived.Test.YtelenboncejdaaaGreatDoorTie
import Derived.Test.YtelenboncejdaaaGreatDoorCards
import Derived.SevenTiedAt
namespace Go.Proofs.YtelenboncejdaaaGreatDoor
open Go.RowKit Go.Sort
open Rt (Fx Stp)
set_option linter.unusedVariables false
set_option linter.unusedSimpArgs false

theorem plan_ok {wb : World} {T : TO} {L : List PN} {K : PM} {j : Nat} (hT : PrT wb T L) (hK : ∀ k, ∀ x ∈ pgs K k, okNum x) (hr : j + newC K L ≤ 510) (hM : ∀ k, ∀ x ∈ pgs (layM K L j) k, okNum x) : ∀ d ∈ allDrafts (layM K L j) (L.filter (fresh K)), okPage d.2 ∧ Bd d.2 := fun d hd => ⟨lay_ok hT hK hr d hd, by
  obtain ⟨P, hP, hd⟩ := List.mem_flatMap.1 hd
  obtain ⟨N, hN⟩ := hT.at_ P (List.mem_filter.1 hP).1
  exact drafts_bd hN (fun b x hx => okNum_i64 (hM b x hx)) d hd⟩
theorem lay_len13 {K : PM} {L : List PN} {j : Nat} (hn : (L.map (·.b)).Nodup) (h : ∀ b, (pgs (layM K L j) b).length ≤ 13) : ∀ y ∈ layM K L j, y.2.length ≤ 13 := fun y hy => by
  have h1 := pgs_mem (M := layM K L j) (by rw [layM_keys]; exact hn) (b := y.1) (l := y.2) hy
  rw [← h1]
  exact h y.1
theorem KnOk.few {R : Option Addr → List Int → Prop} {W : World} {base m : Nat} {l : List (Nat × Nat)} {N : List KN} {M : PM} (h : KnOk R W base l N M) (hM : ∀ y ∈ M, y.2.length ≤ m) : ∀ x ∈ N, x.l.length ≤ m := fun x hx => by
  obtain ⟨i, hi⟩ := List.getElem?_of_mem hx
  have hil := (List.getElem?_eq_some_iff.1 hi).1
  have hy : M[i]? = some (M[i]'(by rw [← h.len]; exact hil)) := List.getElem?_eq_getElem _
  obtain ⟨r, _, _, h3⟩ := h.at_ i x _ hi hy
  rw [h3]
  exact hM _ (List.mem_of_getElem? hy)
theorem TM.pst {wb W W' : World} {U : List Nat} {Z : Nat → Prop} {sb : Nat} {v : Value} {l : List (Nat × Nat)} (h : TM wb W U Z sb v l) (hp : PstR W W') (hb : Below wb.heap.size wb W') : TM wb W' U Z sb v l :=
  ⟨⟨(hp.2 _ _ _ h.memo.box (by decide) (by decide) (by decide)).trans h.memo.box, hp.own h.memo.row (by decide) (by decide) (by decide), fun x hx => by
    obtain ⟨⟨N, h1⟩, u, y, h2⟩ := h.memo.nodes x hx
    exact ⟨⟨N, (hp.2 _ _ _ h1 (by decide) (by decide) (by decide)).trans h1⟩, u, y, (hp.2 _ _ _ h2 (by decide) (by decide) (by decide)).trans h2⟩⟩, hb, h.inj, h.inU, fun x hx => by
    obtain ⟨P, h1, h2, A, c, B, d, rs, h3⟩ := h.ref x hx
    exact ⟨P, h1, h2, A, c, B, d, rs, (hp.2 _ _ _ h3.box (by decide) (by decide) (by decide)).trans h3.box, pst_es hp h3.es, h3.len, hp.own h3.ks (by decide) (by decide) (by decide), h3.in_, h3.z0, h3.z1, h3.z2⟩, h.ge⟩
/-- What stays while a tree is told, and a plan laid behind: all but pairings. -/
def FX (W V : World) : Prop := W.heap.size ≤ V.heap.size ∧ ∀ (q : Nat) (o : Obj), W.heap[q]? = some o → (∀ cs, o ≠ .cells cs 74 (0, 0)) → (∀ cs, o ≠ .cells cs 60 (0, 0)) → V.heap[q]? = W.heap[q]?
theorem FX.cells {W V : World} (h : FX W V) {q : Nat} {cs : Array Value} {t : TypeId} (hq : W.heap[q]? = some (.cells cs t (0, 0))) (h1 : t ≠ 74) (h2 : t ≠ 60) : V.heap[q]? = W.heap[q]? :=
  h.2 q _ hq (fun c e => by cases e; exact h1 rfl) fun c e => by cases e; exact h2 rfl
theorem FX.own {α : Type} {f : α → List Value} {k : Nat} {t : TypeId} {w w' : World} {base : Nat} {v : Value} {l : List α} (h : FX w w') (ho : OwnL f t k w base v l) (h1 : t ≠ 74) (h2 : t ≠ 60) : OwnL f t k w' base v l :=
  ho.keep fun g hg _ => by
    obtain ⟨cur, hcur⟩ := own_cells ho g hg
    exact h.cells hcur h1 h2
theorem FX.wok {w w' : World} {base : Nat} {x : WR} (h : FX w w') (ho : WOk w base x) : WOk w' base x := ob_keep ho fun g hg _ => by
  obtain ⟨cur, hcur⟩ := ob_cells ho g hg
  exact h.cells hcur (by decide) (by decide)
theorem FX.pb {w w' : World} {g : Nat} {o : Option Nat} {R : List PR} (h : FX w w') (hp : PB w g o R) : PB w' g o R :=
  ⟨(h.cells hp.box (by decide) (by decide)).trans hp.box, hp.none_, fun m hm => (h.2 m _ (hp.map m hm) (fun cs e => by cases e) fun cs e => by cases e).trans (hp.map m hm), fun r hr => by
    obtain ⟨h1, N, h2⟩ := hp.rows r hr
    exact ⟨h.own h1 (by decide) (by decide), N, (h.cells h2 (by decide) (by decide)).trans h2⟩⟩
theorem FX.mk' {W w19 V : World} {base sb : Nat} {v v' : Value} {l : List (Nat × Nat)} (hm : Memo W base sb v l) (hst : Stp (XM sb v) W (XM sb v') w19) (hb : Below (cutW w19 W.heap.size).heap.size (cutW w19 W.heap.size) V) : FX W V := by
  have hle := hst.fx.size
  have hs := hb.size
  rw [cutW_size hle] at hs
  refine ⟨hs, fun q o hq h1 h2 => ?_⟩
  have hql : q < W.heap.size := (Array.getElem?_eq_some_iff.1 hq).1
  have hb2 := hb.block q (by rw [cutW_size hle]; exact hql)
  refine hb2.trans ((cutW_block hle hql).trans (hst.same q hql fun hx => ?_))
  rcases hx with rfl | hx
  · rw [hm.box] at hq
    cases hq
    exact h2 _ rfl
  · obtain ⟨cur, hc⟩ := own_cells hm.row q hx
    rw [hq] at hc
    cases hc
    exact h1 _ rfl
/-- What stays while a plan is made: all but the ledger. -/
theorem KnOk.stay {R : Option Addr → List Int → Prop} {W W' : World} {base b : Nat} {l : List (Nat × Nat)} {N : List KN} {M : PM} (h : KnOk R W base l N M) {cs : Array Value} (hb : W.heap[b]? = some (.cells cs 133 (0, 0))) (hs : ∀ q, q < W.heap.size → q ≠ b → W'.heap[q]? = W.heap[q]?) : KnOk R W' base l N M :=
  ⟨h.len, h.at_, fun x hx => (h.rows x hx).imp (fun h => OwnL.keep h fun g hg hl => hs g hl fun e => by
    obtain ⟨cur, hc⟩ := own_cells h g hg
    rw [e, hb] at hc
    cases hc) id⟩
set_option maxRecDepth 100000 in
set_option maxHeartbeats 8000000 in
theorem shadowPlans_walk (A : Option Addr) (n c : Nat) (l : List TOp) (B : Option Addr) (m d : Nat) (l' : List TOp) (w : World) (hh : Half w) (ha : ArgT w A n c l) (ha' : ArgT w B m d l') :
    Calls Tryz.prog 6 #[.slice A n c, .slice B m d] w fun e w' => e = .returned (.bool true) ∧ Below w.heap.size w w' := by
  have HH := Lib.hid hh
  have HA := Lib.hid ha
  have HA' := Lib.hid ha'
  clear hh ha ha'
  go_enter Tryz.func6, Tryz.ntmps6
  go_wp2_with fail
  refine (shAwake_any w HH.out).mono ?_
  rintro e w1 ⟨rfl, hb1⟩
  have HB1 := Lib.hid hb1
  clear hb1
  go_wp2_with fail
  refine (fewT_any A n c l w1 (HA.out.below HB1.out)).mono ?_
  rintro e w2 ⟨hb2, r, rfl, hr⟩
  have HB2 := Lib.hid (bthen HB1.out hb2)
  clear hb2
  cases r with
  | false =>
    go_wp2_with fail
    refine (shAwake_any w2 (HH.out.below HB2.out)).mono ?_
    rintro e w3 ⟨rfl, hb3⟩
    have HB3 := Lib.hid (bthen HB2.out hb3)
    clear hb3 hr
    go_wp2
    go_ret
    exact ⟨rfl, HB3.out⟩
  | true =>
    have hn60 : n ≤ 60 := by rw [← HA.out.len]; exact hr rfl
    clear hr
    go_wp2_with fail
    refine (fewT_any B m d l' w2 (HA'.out.below HB2.out)).mono ?_
    rintro e w3 ⟨hb3, r, rfl, hr⟩
    have HB3 := Lib.hid (bthen HB2.out hb3)
    clear hb3
    cases r with
    | false =>
      go_wp2_with fail
      refine (shAwake_any w3 (HH.out.below HB3.out)).mono ?_
      rintro e w4 ⟨rfl, hb4⟩
      have HB4 := Lib.hid (bthen HB3.out hb4)
      clear hb4 hr
      go_wp2
      go_ret
      exact ⟨rfl, HB4.out⟩
    | true =>
      have hm60 : m ≤ 60 := by rw [← HA'.out.len]; exact hr rfl
      clear hr
      go_wp2_with fail
      refine (shBuilt_any none A n c l w3 (HA.out.below HB3.out) (by omega) (TreeIs.none _) (by simp [tl])).mono ?_
      rintro e w4 ⟨T, rfl, ht, hlen, hb4, _⟩
      have hlen : (tl T).length ≤ 0 + n := hlen
      have HT4 := Lib.hid ht
      have HB4 := Lib.hid (bthen HB3.out hb4)
      obtain ⟨tp, htv⟩ : ∃ tp, Value.pointer tp = tb T := ⟨_, rfl⟩
      rw [← htv]
      have HTV := Lib.hid htv
      clear ht hb4 htv
      go_wp2_with fail
      rw [HTV.out]
      refine (shBuilt_any T B m d l' w4 (HA'.out.below HB4.out) (by omega) HT4.out (by omega)).mono ?_
      rintro e w5 ⟨T', rfl, ht', hlen', hb5, _⟩
      rw [← HTV.out]
      have HT5 := Lib.hid (HT4.out.below hb5)
      obtain ⟨L, hL⟩ := HT5.out.pr
      obtain ⟨L', hL'⟩ := ht'.pr
      have hle := hL.le
      have hle' := hL'.le
      obtain ⟨k, hkk⟩ : ∃ k, k = costs L := ⟨_, rfl⟩
      have hk165 : k ≤ 165 := by omega
      have hc' : costs L' ≤ 330 := by omega
      have HK : Hid (newC [] L = k) := Lib.hid (by rw [newC_nil, hkk])
      have hkr : 0 + newC [] L ≤ 510 := by rw [HK.out]; omega
      obtain ⟨k', hkk'⟩ : ∃ k', k' = newC (layM [] L 0) L' := ⟨_, rfl⟩
      have hk' : k' ≤ 330 := by
        have := newC_le (layM [] L 0) L'
        omega
      have hkf := lay_few hL (fun k => Nat.zero_le _) (fun k => (few_nil k).2) hkr
      have HKF := Lib.hid hkf
      have hqf := lay_few (j := k) hL' (fun k => (hkf k).1) (fun k => (hkf k).2) (by rw [← hkk']; omega)
      have HQF := Lib.hid hqf
      have HKC := Lib.hid hkk.symm
      have HKC' := Lib.hid hkk'.symm
      have HL := Lib.hid hL
      have HL' := Lib.hid hL'
      have HTL : Hid ((tl T).length ≤ 4000) := Lib.hid (by omega)
      have HTL' : Hid ((tl T').length ≤ 4000) := Lib.hid (by omega)
      have HLL' : Hid (L'.length ≤ 1000) := Lib.hid (by omega)
      have HB5 := Lib.hid (bthen HB4.out hb5)
      have HH5 := Lib.hid (HH.out.below HB5.out)
      obtain ⟨tp', htv'⟩ : ∃ tp, Value.pointer tp = tb T' := ⟨_, rfl⟩
      rw [← htv']
      have HTV' := Lib.hid htv'
      clear ht' hlen' hb5 hL hL' hle hle' hkk hkk' hkr htv' HT4 hlen hkf hqf
      have HCL' := Lib.hid hc'
      clear hc'
      go_wp2_with fail
      refine (ldNew_any 512 w5).mono ?_
      rintro e w6 ⟨b, rfl, hd6, hge, hb6⟩
      have HD6 := Lib.hid (show Led w6 b 512 noMark noMark noMark from hd6)
      have HB6 := Lib.hid hb6
      have HG := Lib.hid hge
      clear hd6 hb6 hge
      go_wp2_with fail
      refine (newS_any w6).mono ?_
      rintro e w7 ⟨g0, m0, rfl, hp0, _, _, _, hb7⟩
      have HB7 := Lib.hid (bthen HB6.out hb7)
      have HD7 := Lib.hid (HD6.out.below hb7)
      have HPG0 : Hid (PgIs w7 (.pointer (some ⟨g0, 0, none⟩)) []) := Lib.hid (.inr ⟨g0, some m0, [], rfl, hp0, rfl⟩)
      clear hp0 hb7
      go_wp2_with fail
      rw [HTV.out]
      refine (planL_ok (j := 0) HL.out HB7.out HG.out (by rw [tkn_zero]; exact HD7.out) HPG0.out few_nil HH5.out HTL.out (by rw [HK.out]; omega)).mono ?_
      intro r w8 hpo
      rw [← HTV.out]
      obtain ⟨v, g, m8, R, ws, rfl, hp1, hp2, _, _, hw1, hw2, hw3⟩ := hpo.out
      have hwl := wr_len HL.out hw2
      rw [HK.out] at hwl
      obtain ⟨A8, c8, hv8, _, hl8⟩ := hw1.form
      rw [hwl] at hv8
      subst hv8
      have HP8 := Lib.hid hp1
      have HMR := Lib.hid hp2
      have HWL := Lib.hid hwl
      have HWS := Lib.hid hl8
      have HWP := Lib.hid hw2
      have HWO := Lib.hid hw3
      have HB8 := Lib.hid hpo.bel
      have HD8 : Hid (Led w8 b 512 noMark noMark (tkn k)) := Lib.hid (by
        have := hpo.led
        rw [HK.out, Nat.zero_add] at this
        exact this)
      obtain ⟨rt, hrt⟩ : ∃ rt, rt = rootP (layM [] L 0) (tn T) := ⟨_, rfl⟩
      rw [← hrt]
      have HRT := Lib.hid hrt
      obtain ⟨sb, hsb⟩ : ∃ sb, sb = w8.heap.size := ⟨_, rfl⟩
      obtain ⟨w9, hw9⟩ : ∃ x, x = w8.alloc (.cells #[.slice none 0 0] 60) := ⟨_, rfl⟩
      obtain ⟨pb, hpb⟩ : ∃ pb, pb = w9.heap.size := ⟨_, rfl⟩
      obtain ⟨w10, hw10⟩ : ∃ x, x = w9.alloc (.cells #[.slice none 0 0, .slice none 0 0, .slice none 0 0, .int .i64 2, .slice none 0 0] 65) := ⟨_, rfl⟩
      have hb9 : Below w8.heap.size w8 w9 := by rw [hw9]; exact (Below.refl _ _).alloc (Nat.le_refl _) _
      have hb910 : Below w9.heap.size w9 w10 := by rw [hw10]; exact (Below.refl _ _).alloc (Nat.le_refl _) _
      have hx9 : w9.heap[sb]? = some (.cells #[.slice none 0 0] 60 (0, 0)) := by rw [hw9, hsb]; exact heap_alloc_new _ _
      have hx10 := (hb910.block _ (lt_of_block hx9)).trans hx9
      have hp10 : w10.heap[pb]? = some (.cells #[.slice none 0 0, .slice none 0 0, .slice none 0 0, .int .i64 2, .slice none 0 0] 65 (0, 0)) := by rw [hw10, hpb]; exact heap_alloc_new _ _
      have hb10 := bthen hb9 hb910
      obtain ⟨U, hU⟩ : ∃ U, U = L.map (·.b) ++ L'.map (·.b) := ⟨_, rfl⟩
      have hUl : U.length ≤ 100000 := by
        have h1 := HL.out.count.2
        have h2 := HL'.out.count.2
        have h3 := HKC.out
        have h4 := HCL'.out
        rw [hU, List.length_append, List.length_map, List.length_map]
        omega
      have hb5w : Below w5.heap.size w5 w10 := HB8.out.trans (hb10.mono HB8.out.size)
      have HTM0 : Hid (TM w5 w10 U (fun q => q = b) sb (.slice none 0 0) []) := Lib.hid ⟨⟨hx10, OwnL.nil_ _ _ _, fun x hx => by cases hx⟩, hb5w, List.Pairwise.nil, (fun x hx => by cases hx), (fun x hx => by cases hx), by rw [hsb]; exact HB8.out.size⟩
      have HBS : Hid (b < w8.heap.size) := Lib.hid (by
        obtain ⟨cl, hcl⟩ := HD8.out.typed
        exact lt_of_block hcl)
      have HSB : Hid (sb = w8.heap.size) := Lib.hid hsb
      have HPBG : Hid (w8.heap.size ≤ pb) := Lib.hid (by rw [hpb]; exact hb9.size)
      have HPB : Hid (w8.heap.size + 1 = pb) := Lib.hid (by rw [hpb, hw9]; simp)
      have HW10 : Hid (w10 = (w8.alloc (.cells #[.slice none 0 0] 60)).alloc (.cells #[.slice none 0 0, .slice none 0 0, .slice none 0 0, .int .i64 2, .slice none 0 0] 65)) := Lib.hid (by rw [hw10, hw9])
      have HX10 := Lib.hid hp10
      have HB10 := Lib.hid hb10
      have HUL := Lib.hid hUl
      have HU := Lib.hid hU
      clear hpo hp1 hp2 hw1 hw2 hw3 hwl hl8 hrt hsb hw9 hpb hw10 hb9 hb910 hx9 hx10 hp10 hb10 hU hUl hb5w
      go_wp2_with fail
      rw [← HW10.out, HPB.out, ← HSB.out]
      rw [HTV.out]
      refine (told_to (L := L) HUL.out HL.out (fun P hP => by rw [HU.out]; exact List.mem_append_left _ (List.mem_map.2 ⟨P, hP, rfl⟩)) (fun q hq => by rw [hq]; exact Nat.lt_of_lt_of_le HBS.out HB10.out.size) HTM0.out).mono ?_
      rintro e w11 ⟨rp, v1, l1, rfl, htm, hst, hr, hn⟩
      rw [← HTV.out]
      rw [List.nil_append] at htm hr
      have hb11 : Below w8.heap.size w8 w11 := HB10.out.trans (hst.below HB10.out.size fun q hq => by
        rcases hq with rfl | hq
        · rw [HSB.out]
          exact Nat.le_refl _
        · cases hq)
      have hpz := stp_pst (Z := fun _ => False) HTM0.out.memo hst
      have hrp : RP w11 w8.heap.size pb (.slice none 0 0) (.slice none 0 0) (.slice none 0 0) (0 + 2) [] [] := ⟨(hpz.2 _ _ _ HX10.out (by decide) (by decide) fun h => h).trans HX10.out, OwnL.nil_ _ _ _, OwnL.nil_ _ _ _⟩
      have hlay := lay_to (R := NoR) (wb0 := w5) (wb := w8) (O := []) (K := []) (j := 0) (ws := []) (Nw := []) HL.out ⟨HPBG.out, ⟨none, 0, 0, rfl, ⟨rfl, Ls.nil _ _, fun x hx => by cases hx⟩, by omega⟩, (fun x hx => by cases hx), (fun P _ r _ => rfl), (fun x hx => by cases hx), fun A m h => h.elim⟩ htm.rt hr hn hb11 hrp
        (by have := HKC.out; omega) (by have := HKC.out; simp; omega) (by
          have h1 := HL.out.count.2
          have h3 := HKC.out
          simp
          omega) (plan_ok HL.out (fun k => (few_nil k).2) (by rw [HK.out]; omega) fun k => (HKF.out k).2)
      have HLAY := Lib.hid hlay
      have HTM1 := Lib.hid htm
      have HST1 := Lib.hid hst
      have HB11 := Lib.hid hb11
      clear hst hr hn hb11 hpz hrp hlay htm HTM0 HX10 HW10
      go_wp2_with fail
      refine HLAY.out.mono ?_
      rintro e w12 ⟨vn1, vw1, N1, rfl, hrw, hko⟩
      rw [← HRT.out]
      rw [List.nil_append, List.nil_append, Nat.zero_add, HK.out] at hrw
      have hnw : ((allDrafts (layM [] L 0) (L.filter (fresh []))).map encOf).length = k := by rw [← HWP.out, List.length_map, HWL.out]
      obtain ⟨An, cn, hvn, _, hln⟩ := hrw.rp.new.form
      obtain ⟨nn, hnn⟩ : ∃ nn, N1.length = nn := ⟨_, rfl⟩
      rw [hnn] at hvn
      obtain ⟨Aw, cw, hvw, _, hlw⟩ := hrw.rp.wr.form
      rw [hnw] at hvw
      subst hvn hvw
      have hnnL : nn ≤ 165 := by
        have h1 := HL.out.count.2
        have h3 := HKC.out
        rw [← hnn, hko.len, layM_len]
        omega
      have HRW := Lib.hid hrw
      have HKO := Lib.hid hko
      have HNN := Lib.hid hnn
      have HLN := Lib.hid hln
      have HLW := Lib.hid hlw
      have HBX : Hid (∀ V, Below w12.heap.size w12 V → V.heap[pb]? = some (.cells #[.slice none 0 0, .slice An nn cn, .slice Aw k cw, .int .i64 ((k + 2 : Nat) : Int), .slice none 0 0] 65 (0, 0))) := Lib.hid (fun V hV => (hV.block _ (lt_of_block hrw.rp.box)).trans hrw.rp.box)
      have HM13 : Hid (∀ y ∈ layM [] L 0, y.2.length ≤ 13) := Lib.hid (lay_len13 HL.out.nodup fun b => (HKF.out b).1)
      have HL165 : Hid (L.length ≤ 165) := Lib.hid (by rw [← layM_len [] L 0, ← hko.len, hnn]; exact hnnL)
      have HAK : Hid (∀ q ≤ nn, (allK (N1.take q)).length ≤ 100000) := Lib.hid (fun q hq => by
        have h1 := allK_len (m := 13) (N1.take q) fun x hx => hko.few (lay_len13 HL.out.nodup fun b => (HKF.out b).1) x (List.mem_of_mem_take hx)
        rw [List.length_take] at h1
        omega)
      obtain ⟨W, hW⟩ : ∃ W, W = w12.drew := ⟨_, rfl⟩
      have hdW : Below w12.heap.size w12 W := by rw [hW]; exact ⟨rfl, rfl, rfl, Nat.le_refl _, fun k _ => rfl⟩
      have p1 : ∀ p' : Dc.Past [] W, p'.val.cell? ⟨pb, 1, none⟩ = some (.slice An nn cn) := fun p' => (p'.ok.cell (lt_of_block (HBX.out _ hdW)) (by simp)).trans (cell_at (HBX.out _ hdW) 1 _ rfl)
      have p2 : ∀ p' : Dc.Past [] W, p'.val.cell? ⟨pb, 2, none⟩ = some (.slice Aw k cw) := fun p' => (p'.ok.cell (lt_of_block (HBX.out _ hdW)) (by simp)).trans (cell_at (HBX.out _ hdW) 2 _ rfl)
      have HB8W := Lib.hid (hrw.bel.trans (hdW.mono hrw.bel.size))
      have HDW := Lib.hid hdW
      have HW := Lib.hid hW
      have hdd : decide (rt ≠ rt) = false := by simp
      clear hrw hko hnw hnn hln hlw hW hdW HLAY HRT
      go_wp2_with fail
      refine Dc.wp_region_segs 26 [] [([0, 1, 2, 3, 4, 5, 6, 7, 8, 9, 10, 11, 12], 13), ([14, 15, 16, 17, 19, 20, 21, 22], 18), ([], 23), ([], 24)] [25, 26] (by kernel_rfl) (by kernel_rfl) (by kernel_rfl) (by kernel_rfl) (by kernel_rfl) (by intro c a d v w h; cases d <;> exact h) ?_
      rw [← HW.out]
      refine Dc.wpSegs_more ?_
      simp only [Dc.pick, List.getElem?_cons_zero, List.getElem?_cons_succ]
      repeat (first | go_big_quiet_step (fail) | quiet_step (fail))
      refine wpQuiet_nil ?_
      clear p1 p2
      refine Dc.wpOp_heavy rfl (by rfl) (fun Q hQ => ?_)
      go_simp
      refine (plSame_any (HWS.out.below HB8W.out) (fun x hx => ⟨_, (HWO.out x hx).below HB8W.out⟩) (HLW.out.below HDW.out) HWP.out HWL.out (by omega)).mono ?_
      rintro e w13 ⟨rfl, hb13⟩
      refine hQ _ _ (fun _ => Dc.But.of_below hb13) ?_
      clear hQ Q
      have HB13 := Lib.hid (bthen HDW.out hb13)
      have p1 : ∀ p' : Dc.Past [] w13, p'.val.cell? ⟨pb, 1, none⟩ = some (.slice An nn cn) := fun p' => (p'.ok.cell (lt_of_block (HBX.out _ HB13.out)) (by simp)).trans (cell_at (HBX.out _ HB13.out) 1 _ rfl)
      have HB813 := Lib.hid (HB8W.out.trans (hb13.mono HB8W.out.size))
      clear hb13
      refine Dc.wpSegs_more ?_
      simp only [Dc.pick, List.getElem?_cons_zero, List.getElem?_cons_succ]
      repeat (first | go_big_quiet_step (fail) | quiet_step (fail))
      refine wpQuiet_nil ?_
      clear p1
      refine Dc.wpOp_heavy rfl (by rfl) (fun Q hQ => ?_)
      go_simp
      refine (all_any (M := layM [] L 0) (.inr ⟨g, some m8, R, rfl, HP8.out.below HB813.out, HMR.out.symm⟩) (layM_sum [] L 0 (fun y hy => Nat.le_trans (HM13.out y hy) (by omega)) (Nat.le_trans HL165.out (by omega)))).mono ?_
      rintro e w14 ⟨va, la, rfl, hoa, hra, hma, hb14⟩
      obtain ⟨Aa, ca, hva, _, hla⟩ := hoa.form
      have HLA : Hid (la = allK N1) := Lib.hid (HKO.out.all hra hma)
      obtain ⟨na, hna⟩ : ∃ na, la.length = na := ⟨_, rfl⟩
      rw [hna] at hva
      subst hva
      refine hQ _ _ (fun _ => Dc.But.of_below hb14) ?_
      clear hQ Q
      have HB14 := Lib.hid (bthen HB13.out hb14)
      have HNA := Lib.hid hna
      have HLAR := Lib.hid hla
      have HB814 := Lib.hid (HB813.out.trans (hb14.mono HB813.out.size))
      clear hoa hra hma hb14 hna hla
      refine Dc.wpSegs_more ?_
      simp only [Dc.pick]
      refine wpQuiet_nil ?_
      refine Dc.wpOp_heavy rfl (by rfl) (fun Q hQ => ?_)
      go_simp
      refine (refAll_any ((HKO.out.pst (.of_below HB14.out)).arg (fun A m h => h.elim) (HLN.out.below HB14.out) HNN.out) (by omega) HAK.out (fun x hx => Nat.le_trans (HKO.out.few HM13.out x hx) (by omega))).mono ?_
      rintro e w15 ⟨vb, rfl, hob, hb15⟩
      obtain ⟨Ab, cb, hvb, _, hlb⟩ := hob.form
      obtain ⟨nb, hnb⟩ : ∃ nb, (allK N1).length = nb := ⟨_, rfl⟩
      rw [hnb] at hvb
      subst hvb
      refine hQ _ _ (fun _ => Dc.But.of_below hb15) ?_
      clear hQ Q
      have HB15 := Lib.hid (bthen HB14.out hb15)
      have HB815 := Lib.hid (HB814.out.trans (hb15.mono HB814.out.size))
      have hnb2 : nb ≤ 100000 := by
        have := HAK.out nn (Nat.le_refl _)
        rw [List.take_of_length_le (by rw [HNN.out]; exact Nat.le_refl _), hnb] at this
        exact this
      have hna2 : na ≤ 100000 := by rw [← HNA.out, HLA.out, hnb]; exact hnb2
      have HLAR2 := Lib.hid (HLAR.out.below hb15)
      have HLB := Lib.hid hlb
      have HNB := Lib.hid hnb
      clear hob hb15 hlb hnb HLAR
      refine Dc.wpSegs_more ?_
      simp only [Dc.pick]
      refine wpQuiet_nil ?_
      refine Dc.wpOp_heavy rfl (by rfl) (fun Q hQ => ?_)
      go_simp
      refine (shSame_any HLAR2.out HNA.out HLB.out HNB.out (by omega) (by omega)).mono ?_
      rintro e w16 ⟨rfl, hb16⟩
      rw [decide_eq_true HLA.out]
      refine hQ _ _ (fun _ => Dc.But.of_below hb16) ?_
      clear hQ Q
      have HB16 := Lib.hid (bthen HB15.out hb16)
      have HB816 := Lib.hid (HB815.out.trans (hb16.mono HB815.out.size))
      clear hb16 hnb2 hna2 HLAR2 HLB HNB HNA HLA HB15 HB815 HB14 HB814 HB13 HB813 HB8W HDW HW
      refine Dc.wpSegs_last ?_
      simp only [Dc.pick, List.getElem?_cons_zero, List.getElem?_cons_succ]
      repeat (first | go_big_quiet_step (fail) | quiet_step (fail))
      refine wpQuiet_nil ?_
      clear hdd
      go_wp2_with fail
      rw [HTV'.out]
      refine (planL_ok (j := k) HL'.out (HB8.out.trans (HB816.out.mono HB8.out.size)) HG.out (HD8.out.below HB816.out) (.inr ⟨g, some m8, R, rfl, HP8.out.below HB816.out, HMR.out.symm⟩) (fun k => ⟨Nat.le_trans (HKF.out k).1 (by omega), (HKF.out k).2⟩) HH5.out HTL'.out (by rw [HKC'.out]; omega)).mono ?_
      intro r w17 hpo
      rw [← HTV'.out]
      obtain ⟨v, g2, m2, R2, ws2, rfl, hp1, hp2, _, _, hw1, hw2, hw3⟩ := hpo.out
      have hwl := wr_len HL'.out hw2
      rw [HKC'.out] at hwl
      obtain ⟨A9, c9, hv9, _, _⟩ := hw1.form
      rw [hwl] at hv9
      subst hv9
      obtain ⟨rt2, hrt2⟩ : ∃ rt, rt = rootP (layM (layM [] L 0) L' k) (tn T') := ⟨_, rfl⟩
      rw [← hrt2]
      obtain ⟨cl, hcl⟩ := (HD8.out.below HB816.out).typed
      have hsm := hpo.stp.same
      have hbpb : pb ≠ b := fun e => by have h1 := HPBG.out; have h2 := HBS.out; omega
      have hx17 : w17.heap[pb]? = some (.cells #[.slice none 0 0, .slice An nn cn, .slice Aw k cw, .int .i64 ((k + 2 : Nat) : Int), .slice none 0 0] 65 (0, 0)) := (hsm pb (lt_of_block (HBX.out _ HB16.out)) hbpb).trans (HBX.out _ HB16.out)
      obtain ⟨W2, hW2⟩ : ∃ W, W = w17.drew := ⟨_, rfl⟩
      have hdW : Below w17.heap.size w17 W2 := by rw [hW2]; exact ⟨rfl, rfl, rfl, Nat.le_refl _, fun k _ => rfl⟩
      have hxW := (hdW.block _ (lt_of_block hx17)).trans hx17
      have p1 : ∀ p' : Dc.Past [] W2, p'.val.cell? ⟨pb, 1, none⟩ = some (.slice An nn cn) := fun p' => (p'.ok.cell (lt_of_block hxW) (by simp)).trans (cell_at hxW 1 _ rfl)
      have p3 : ∀ p' : Dc.Past [] W2, p'.val.cell? ⟨pb, 3, none⟩ = some (.int .i64 ((k + 2 : Nat) : Int)) := fun p' => (p'.ok.cell (lt_of_block hxW) (by simp)).trans (cell_at hxW 3 _ rfl)
      have hkeep : Keep (fun q => q = b) w16 W2 := ⟨hdW.os.trans hpo.stp.fx.os, hdW.tape.trans hpo.stp.fx.tape, hdW.output.trans hpo.stp.fx.output, Nat.le_trans hpo.stp.fx.size hdW.size, fun q hq hn => (hdW.block q (Nat.lt_of_lt_of_le hq hpo.stp.fx.size)).trans (hsm q hq hn)⟩
      have htm16 : TM w5 w16 U (fun q => q = b) sb v1 l1 := (HTM1.out.pst HRW.out.pst (HB8.out.trans (HRW.out.bel.mono HB8.out.size))).below HB16.out
      have htmW : TM w5 W2 U (fun q => q = b) sb v1 l1 := htm16.keep hkeep (fun q _ h => h) (fun q h => by rw [h]; exact HG.out) fun q cs t h hq => by
        rw [h, hcl] at hq
        cases hq
        exact ⟨by decide, by decide⟩
      have hkoW : KnOk NoR W2 w11.heap.size l1 N1 (layM [] L 0) := (HKO.out.pst (.of_below HB16.out)).stay hcl fun q hq hn => hkeep.block q hq hn
      have hownW : OwnL pcKn 76 2 W2 w5.heap.size (.slice An nn cn) N1 := ((HRW.out.rp.new.below HB16.out).keep fun g hg hl => hkeep.block g hl fun e => by
        obtain ⟨cur, hc⟩ := own_cells (HRW.out.rp.new.below HB16.out) g hg
        rw [e, hcl] at hc
        cases hc).mono HB8.out.size
      obtain ⟨pb2, hpb2⟩ : ∃ q, q = W2.heap.size := ⟨_, rfl⟩
      obtain ⟨kz, hkz⟩ : ∃ z : Int, z = ((k + 2 : Nat) : Int) := ⟨_, rfl⟩
      obtain ⟨w18, hw18⟩ : ∃ x, x = W2.alloc (.cells #[.slice An nn cn, .slice none 0 0, .slice none 0 0, .int .i64 kz, .slice none 0 0] 65) := ⟨_, rfl⟩
      rw [← hkz] at p3
      have hb18 : Below W2.heap.size W2 w18 := by rw [hw18]; exact (Below.refl _ _).alloc (Nat.le_refl _) _
      have hx18 : w18.heap[pb2]? = some (.cells #[.slice An nn cn, .slice none 0 0, .slice none 0 0, .int .i64 kz, .slice none 0 0] 65 (0, 0)) := by rw [hw18, hpb2]; exact heap_alloc_new _ _
      have HW2 := Lib.hid hW2
      have HB18 := Lib.hid hb18
      have HX18 := Lib.hid hx18
      have HW18 := Lib.hid hw18
      have HPB2 := Lib.hid hpb2
      have HKZ := Lib.hid hkz
      have HTMW := Lib.hid htmW
      have HKOW := Lib.hid hkoW
      have HOWNW := Lib.hid hownW
      have HB5W : Hid (Below w5.heap.size w5 W2) := Lib.hid (hpo.bel.trans (hdW.mono hpo.bel.size))
      have HP2 := Lib.hid (hp1.below hdW)
      have HMR2 := Lib.hid hp2
      have HWS2 := Lib.hid (hw1.below hdW)
      have HWP2 := Lib.hid hw2
      have HWL2 := Lib.hid hwl
      have HWO2 : Hid (∀ x ∈ ws2, WOk W2 w16.heap.size x) := Lib.hid (fun x hx => (hw3 x hx).below hdW)
      have HRT2 := Lib.hid hrt2
      have HKP : Hid (w16.heap.size ≤ W2.heap.size) := Lib.hid hkeep.size
      clear hpo hp1 hp2 hw1 hw2 hw3 hwl hrt2 hcl hsm hbpb hx17 hW2 hdW hxW hkeep htm16 htmW hkoW hownW hpb2 hkz hw18 hb18 hx18
      go_wp2_with fail
      refine Dc.wp_region_segs 10 [] [([0, 1, 2, 3, 4, 5, 6, 7, 8], 9)] [10] (by kernel_rfl) (by kernel_rfl) (by kernel_rfl) (by kernel_rfl) (by kernel_rfl) (by intro c a d v w h; cases d <;> exact h) ?_
      rw [← HW2.out]
      refine Dc.wpSegs_more ?_
      simp only [Dc.pick, List.getElem?_cons_zero, List.getElem?_cons_succ]
      repeat (first | go_big_quiet_step (fail) | quiet_step (fail))
      refine wpQuiet_nil ?_
      clear p1 p3
      refine Dc.wpOp_heavy rfl (by rfl) (fun Q hQ => ?_)
      go_simp
      rw [← HW18.out, ← HPB2.out]
      refine hQ _ _ (fun _ => Dc.But.of_below HB18.out) ?_
      clear hQ Q
      refine Dc.wpSegs_last ?_
      simp only [Dc.pick, List.getElem?_cons_zero, List.getElem?_cons_succ]
      repeat (first | go_big_quiet_step (fail) | quiet_step (fail))
      refine wpQuiet_nil ?_
      go_wp2_with fail
      rw [HTV'.out]
      refine (told_to (L := L') HUL.out HL'.out (fun P hP => by rw [HU.out]; exact List.mem_append_right _ (List.mem_map.2 ⟨P, hP, rfl⟩)) (fun q hq => by rw [hq]; exact Nat.lt_of_lt_of_le HBS.out (Nat.le_trans (Nat.le_trans HB816.out.size (Nat.le_refl _)) (Nat.le_trans HKP.out HB18.out.size))) (HTMW.out.below HB18.out)).mono ?_
      rintro e w19 ⟨rp2, v2, l2, rfl, htm, hst, hr, hn⟩
      rw [← HTV'.out]
      have hstW : Stp (XM sb v1) W2 (XM sb v2) w19 := (Stp.of_below HB18.out fun q hq => by
        rcases hq with rfl | hq
        · exact lt_of_block HTMW.out.memo.box
        · exact HTMW.out.memo.row.lt q hq).trans hst
      have hle := hstW.fx.size
      have hlc : LC (fun A m => Ls icell (cutW w19 W2.heap.size) A m) (cutW w19 W2.heap.size) pb2 (.slice An nn cn) N1 (l1 ++ l2) (layM [] L 0) L' := LC.second (wb := w5) HNN.out (by omega) HKOW.out HB5W.out HOWNW.out HTMW.out.memo hstW HTMW.out.ge (by rw [HPB2.out]; exact Nat.le_refl _) (fun x hx => List.mem_append_left _ hx) htm.alike
      have hpz := stp_pst (Z := fun _ => False) (HTMW.out.below HB18.out).memo hst
      have hrp : RP w19 (cutW w19 W2.heap.size).heap.size pb2 (.slice An nn cn) (.slice none 0 0) (.slice none 0 0) (k + 2) [] [] := ⟨(hpz.2 _ _ _ HX18.out (by decide) (by decide) fun h => h).trans (by rw [← HKZ.out]; exact HX18.out), OwnL.nil_ _ _ _, OwnL.nil_ _ _ _⟩
      have hlay := lay_to (R := fun A m => Ls icell (cutW w19 W2.heap.size) A m) (wb0 := w5) (wb := cutW w19 W2.heap.size) (O := N1) (K := layM [] L 0) (j := k) (ws := []) (Nw := []) HL'.out hlc htm.rt hr hn (cutW_below hle) hrp (by have := HCL'.out; omega) (by have := HCL'.out; simp; omega) (by
        have h1 := HLL'.out
        simp
        omega) (plan_ok HL'.out (fun q => (HKF.out q).2) (by rw [HKC'.out]; omega) fun q => (HQF.out q).2)
      have HLAY := Lib.hid hlay
      have HTM2 := Lib.hid htm
      have HSTW := Lib.hid hstW
      clear hst hr hn hlc hpz hrp hlay htm hstW hle
      go_wp2_with fail
      refine HLAY.out.mono ?_
      rintro e w20 ⟨vn2, vw2, N2, rfl, hrw, hko⟩
      rw [← HRT2.out]
      rw [List.nil_append, List.nil_append, HKC'.out] at hrw
      have hnw : ((allDrafts (layM (layM [] L 0) L' k) (L'.filter (fresh (layM [] L 0)))).map encOf).length = k' := by rw [← HWP2.out, List.length_map, HWL2.out]
      obtain ⟨A2, c2, hvn, _, hln⟩ := hrw.rp.new.form
      obtain ⟨n2, hnn⟩ : ∃ n2, N2.length = n2 := ⟨_, rfl⟩
      rw [hnn] at hvn
      obtain ⟨Aw2, cw2, hvw, _, hlw⟩ := hrw.rp.wr.form
      rw [hnw] at hvw
      subst hvn hvw
      have hn2L : n2 ≤ 1000 := by
        rw [← hnn, hko.len, layM_len]
        exact HLL'.out
      have HKO2 := Lib.hid hko
      have HNN2 := Lib.hid hnn
      have HLN2 := Lib.hid hln
      have HLW2 := Lib.hid hlw
      have HBX2 : Hid (∀ V, Below w20.heap.size w20 V → V.heap[pb2]? = some (.cells #[.slice An nn cn, .slice A2 n2 c2, .slice Aw2 k' cw2, .int .i64 ((k + k' + 2 : Nat) : Int), .slice none 0 0] 65 (0, 0))) := Lib.hid (fun V hV => (hV.block _ (lt_of_block hrw.rp.box)).trans hrw.rp.box)
      have HM13' : Hid (∀ y ∈ layM (layM [] L 0) L' k, y.2.length ≤ 13) := Lib.hid (lay_len13 HL'.out.nodup fun b => (HQF.out b).1)
      have HAK2 : Hid (∀ q ≤ n2, (allK (N2.take q)).length ≤ 100000) := Lib.hid (fun q hq => by
        have h1 := allK_len (m := 13) (N2.take q) fun x hx => hko.few (lay_len13 HL'.out.nodup fun b => (HQF.out b).1) x (List.mem_of_mem_take hx)
        rw [List.length_take] at h1
        omega)
      have HFX : Hid (∀ V, Below w20.heap.size w20 V → FX W2 V) := Lib.hid (fun V hV => FX.mk' HTMW.out.memo HSTW.out (hrw.bel.trans (hV.mono hrw.bel.size)))
      have HRD : Hid (∀ V, Below w20.heap.size w20 V → ∀ A m, Ls icell (cutW w19 W2.heap.size) A m → Ls icell V A m) := Lib.hid (fun V hV A m h => h.below (hrw.bel.trans (hV.mono hrw.bel.size)))
      have HB520 : Hid (Below w5.heap.size w5 w20) := Lib.hid ⟨hrw.bel.os.trans HTM2.out.bel.os, hrw.bel.tape.trans HTM2.out.bel.tape, hrw.bel.output.trans HTM2.out.bel.output, Nat.le_trans HTM2.out.bel.size hrw.pst.1, fun i hi => by
        have h1 := Nat.lt_of_lt_of_le hi HB5W.out.size
        have h2 := hrw.bel.block i (by rw [cutW_size HSTW.out.fx.size]; exact h1)
        exact h2.trans ((cutW_block HSTW.out.fx.size h1).trans (HTM2.out.bel.block i hi))⟩
      have HTM20 : Hid (TM w5 w20 U (fun q => q = b) sb v2 (l1 ++ l2)) := Lib.hid (HTM2.out.pst hrw.pst HB520.out)
      obtain ⟨W, hW⟩ : ∃ W, W = w20.drew := ⟨_, rfl⟩
      have hdW : Below w20.heap.size w20 W := by rw [hW]; exact ⟨rfl, rfl, rfl, Nat.le_refl _, fun k _ => rfl⟩
      have p1 : ∀ p' : Dc.Past [] W, p'.val.cell? ⟨pb2, 1, none⟩ = some (.slice A2 n2 c2) := fun p' => (p'.ok.cell (lt_of_block (HBX2.out _ hdW)) (by simp)).trans (cell_at (HBX2.out _ hdW) 1 _ rfl)
      have p2 : ∀ p' : Dc.Past [] W, p'.val.cell? ⟨pb2, 2, none⟩ = some (.slice Aw2 k' cw2) := fun p' => (p'.ok.cell (lt_of_block (HBX2.out _ hdW)) (by simp)).trans (cell_at (HBX2.out _ hdW) 2 _ rfl)
      have HDW := Lib.hid hdW
      have HW := Lib.hid hW
      have hdd : decide (rt2 ≠ rt2) = false := by simp
      clear hrw hko hnw hnn hln hlw hW hdW HLAY HRT2 HTM2
      go_wp2_with fail
      refine Dc.wp_region_segs 26 [] [([0, 1, 2, 3, 4, 5, 6, 7, 8, 9, 10, 11, 12], 13), ([14, 15, 16, 17, 19, 20, 21, 22], 18), ([], 23), ([], 24)] [25, 26] (by kernel_rfl) (by kernel_rfl) (by kernel_rfl) (by kernel_rfl) (by kernel_rfl) (by intro c a d v w h; cases d <;> exact h) ?_
      rw [← HW.out]
      refine Dc.wpSegs_more ?_
      simp only [Dc.pick, List.getElem?_cons_zero, List.getElem?_cons_succ]
      repeat (first | go_big_quiet_step (fail) | quiet_step (fail))
      refine wpQuiet_nil ?_
      clear p1 p2
      refine Dc.wpOp_heavy rfl (by rfl) (fun Q hQ => ?_)
      go_simp
      refine (plSame_any (row_ls ((HFX.out _ HDW.out).own HWS2.out (by decide) (by decide))) (fun x hx => ⟨_, (HFX.out _ HDW.out).wok (HWO2.out x hx)⟩) (HLW2.out.below HDW.out) HWP2.out HWL2.out (by omega)).mono ?_
      rintro e w23 ⟨rfl, hb23⟩
      refine hQ _ _ (fun _ => Dc.But.of_below hb23) ?_
      clear hQ Q
      have HB23 := Lib.hid (bthen HDW.out hb23)
      have p1 : ∀ p' : Dc.Past [] w23, p'.val.cell? ⟨pb2, 1, none⟩ = some (.slice A2 n2 c2) := fun p' => (p'.ok.cell (lt_of_block (HBX2.out _ HB23.out)) (by simp)).trans (cell_at (HBX2.out _ HB23.out) 1 _ rfl)
      clear hb23
      refine Dc.wpSegs_more ?_
      simp only [Dc.pick, List.getElem?_cons_zero, List.getElem?_cons_succ]
      repeat (first | go_big_quiet_step (fail) | quiet_step (fail))
      refine wpQuiet_nil ?_
      clear p1
      refine Dc.wpOp_heavy rfl (by rfl) (fun Q hQ => ?_)
      go_simp
      refine (all_any (M := layM (layM [] L 0) L' k) (.inr ⟨g2, some m2, R2, rfl, (HFX.out _ HB23.out).pb HP2.out, HMR2.out.symm⟩) (layM_sum (layM [] L 0) L' k (fun y hy => Nat.le_trans (HM13'.out y hy) (by omega)) HLL'.out)).mono ?_
      rintro e w24 ⟨va, la, rfl, hoa, hra, hma, hb24⟩
      obtain ⟨Aa, ca, hva, _, hla⟩ := hoa.form
      have HLA : Hid (la = allK N2) := Lib.hid (HKO2.out.all hra hma)
      obtain ⟨na, hna⟩ : ∃ na, la.length = na := ⟨_, rfl⟩
      rw [hna] at hva
      subst hva
      refine hQ _ _ (fun _ => Dc.But.of_below hb24) ?_
      clear hQ Q
      have HB24 := Lib.hid (bthen HB23.out hb24)
      have HNA := Lib.hid hna
      have HLAR := Lib.hid hla
      clear hoa hra hma hb24 hna hla
      refine Dc.wpSegs_more ?_
      simp only [Dc.pick]
      refine wpQuiet_nil ?_
      refine Dc.wpOp_heavy rfl (by rfl) (fun Q hQ => ?_)
      go_simp
      refine (refAll_any ((HKO2.out.pst (.of_below HB24.out)).arg (HRD.out _ HB24.out) (HLN2.out.below HB24.out) HNN2.out) (by omega) HAK2.out (fun x hx => Nat.le_trans (HKO2.out.few HM13'.out x hx) (by omega))).mono ?_
      rintro e w25 ⟨vb, rfl, hob, hb25⟩
      obtain ⟨Ab, cb, hvb, _, hlb⟩ := hob.form
      obtain ⟨nb, hnb⟩ : ∃ nb, (allK N2).length = nb := ⟨_, rfl⟩
      rw [hnb] at hvb
      subst hvb
      refine hQ _ _ (fun _ => Dc.But.of_below hb25) ?_
      clear hQ Q
      have HB25 := Lib.hid (bthen HB24.out hb25)
      have hnb2 : nb ≤ 100000 := by
        have := HAK2.out n2 (Nat.le_refl _)
        rw [List.take_of_length_le (by rw [HNN2.out]; exact Nat.le_refl _), hnb] at this
        exact this
      have hna2 : na ≤ 100000 := by rw [← HNA.out, HLA.out, hnb]; exact hnb2
      have HLAR2 := Lib.hid (HLAR.out.below hb25)
      have HLB := Lib.hid hlb
      have HNB := Lib.hid hnb
      clear hob hb25 hlb hnb HLAR
      refine Dc.wpSegs_more ?_
      simp only [Dc.pick]
      refine wpQuiet_nil ?_
      refine Dc.wpOp_heavy rfl (by rfl) (fun Q hQ => ?_)
      go_simp
      refine (shSame_any HLAR2.out HNA.out HLB.out HNB.out (by omega) (by omega)).mono ?_
      rintro e w26 ⟨rfl, hb26⟩
      rw [decide_eq_true HLA.out]
      refine hQ _ _ (fun _ => Dc.But.of_below hb26) ?_
      clear hQ Q
      have HB26 := Lib.hid (bthen HB25.out hb26)
      clear hb26 hnb2 hna2 HLAR2 HLB HNB HNA HLA HB25 HB24 HB23 HDW HW
      refine Dc.wpSegs_last ?_
      simp only [Dc.pick, List.getElem?_cons_zero, List.getElem?_cons_succ]
      repeat (first | go_big_quiet_step (fail) | quiet_step (fail))
      refine wpQuiet_nil ?_
      clear hdd
      have c26 := cell_at (HBX2.out _ HB26.out) 1 _ rfl
      obtain ⟨As, cs, hvs, _, hls⟩ := HTM20.out.memo.row.form
      obtain ⟨ns, hns⟩ : ∃ ns, (l1 ++ l2).length = ns := ⟨_, rfl⟩
      rw [hns] at hvs
      have hnsb : ns ≤ 100000 := by
        rw [← hns]
        exact Nat.le_trans HTM20.out.len HUL.out
      have HNS := Lib.hid hns
      have HLS := Lib.hid hls
      have hsx := HTM20.out.memo.box
      rw [hvs] at hsx
      have HSX : Hid (∀ V, Below w20.heap.size w20 V → V.heap[sb]? = some (.cells #[.slice As ns cs] 60 (0, 0))) := Lib.hid (fun V hV => (hV.block _ (lt_of_block hsx)).trans hsx)
      have hML : (layM (layM [] L 0) L' k).length = n2 := by rw [← HKO2.out.len, HNN2.out]
      have HML := Lib.hid hML
      clear hvs hns hls hsx hML
      go_wp2_with fail
      go_loopw [140] (fun s140 wr => ∃ i : Nat, i ≤ n2 ∧ s140 = .int .i64 i ∧ Below w26.heap.size w26 wr) (fun s140 _ => n2 - (intOf s140).toNat)
      case atStart => exact ⟨0, Nat.zero_le _, rfl, Below.refl _ _⟩
      case round =>
        clear c26
        obtain ⟨i, hi, rfl, hbw⟩ := hrel
        have HBO := Lib.hid hbw
        by_cases hit : i < n2
        · obtain ⟨w30, hw30⟩ : ∃ x, x = wr := ⟨_, rfl⟩
          subst hw30
          have HB30 := Lib.hid (bthen HB26.out hbw)
          have cs30 := cell_at (HSX.out _ HB30.out) 0 _ rfl
          clear hbw
          go_wp2_with fail
          go_loopw [145] (fun s145 wx => ∃ q : Nat, q ≤ ns ∧ s145 = .int .i64 q ∧ Below w30.heap.size w30 wx) (fun s145 _ => ns - (intOf s145).toNat)
          case atStart => exact ⟨0, Nat.zero_le _, rfl, Below.refl _ _⟩
          case round =>
            clear cs30
            obtain ⟨q, hq, rfl, hbx⟩ := hrel
            by_cases hqt : q < ns
            · obtain ⟨W, hW⟩ : ∃ W, W = wr.drew := ⟨_, rfl⟩
              have hdW : Below wr.heap.size wr W := by rw [hW]; exact ⟨rfl, rfl, rfl, Nat.le_refl _, fun k _ => rfl⟩
              have HBX3 := Lib.hid (bthen hbx hdW)
              have hV := bthen HB30.out HBX3.out
              have htm := HTM20.out.below hV
              obtain ⟨ads, pr, hAs, hpr, hlts, hcs⟩ := (HLS.out.below hV).at_ encPg (i := q) (by rw [HNS.out]; exact hqt)
              subst hAs
              obtain ⟨ad2, x, hA2, hx, hlt2, hc2⟩ := (HLN2.out.below hV).at_ encKn (i := i) (by rw [HNN2.out]; exact hit)
              subst hA2
              obtain ⟨y, hy⟩ : ∃ y, (layM (layM [] L 0) L' k)[i]? = some y := ⟨_, List.getElem?_eq_getElem (by rw [HML.out]; exact hit)⟩
              obtain ⟨rx, hin, hxp, hxl⟩ := HKO2.out.at_ i x y hx hy
              obtain ⟨bq, rq⟩ := pr
              have hpm := List.mem_of_getElem? hpr
              obtain ⟨⟨Nq, hNq⟩, u1, z1, hR1⟩ := htm.memo.nodes _ hpm
              obtain ⟨_, u2, z2, hR2⟩ := htm.memo.nodes _ hin
              have heq := eql_rn hR1 hR2
              obtain ⟨xn, hxn⟩ : ∃ xn, x.l.length = xn := ⟨_, rfl⟩
              have k0 := hc2 0 (.pointer (x.p.map fun b => ⟨b, 0, none⟩)) (by omega) rfl
              have k1 : W.cell? ⟨(ad2.add (i * 2)).block, (ad2.add (i * 2)).off + 1, none⟩ = some (.slice x.A x.l.length x.c) := hc2 1 _ (by omega) rfl
              rw [add_of_add, hxp] at k0
              simp only [Nat.add_zero, Option.map_some] at k0
              rw [hxn] at k1
              have s0 := hcs 0 (.pointer (some ⟨bq, 0, none⟩)) (by omega) rfl
              have s1 : W.cell? ⟨(ads.add (q * 2)).block, (ads.add (q * 2)).off + 1, none⟩ = some (.pointer (some ⟨rq, 0, none⟩)) := hcs 1 _ (by omega) rfl
              rw [add_of_add] at s0
              simp only [Nat.add_zero] at s0
              have f0 : ∀ p' : Dc.Past [] W, p'.val.cell? ⟨sb, 0, none⟩ = some (.slice (some ads) ns cs) := fun p' => (p'.ok.cell (lt_of_block (HSX.out _ hV)) (by simp)).trans (cell_at (HSX.out _ hV) 0 _ rfl)
              have f1 : ∀ p' : Dc.Past [] W, p'.val.cell? ⟨pb2, 1, none⟩ = some (.slice (some ad2) n2 c2) := fun p' => (p'.ok.cell (lt_of_block (HBX2.out _ hV)) (by simp)).trans (cell_at (HBX2.out _ hV) 1 _ rfl)
              have f2 : ∀ p' : Dc.Past [] W, p'.val.cell? (ads.add (q * 2)) = some (.pointer (some ⟨bq, 0, none⟩)) := fun p' => (p'.ok.cell (by rw [block_of_add]; exact hlts) (by simp)).trans s0
              have f3 : ∀ p' : Dc.Past [] W, p'.val.cell? ⟨(ads.add (q * 2)).block, (ads.add (q * 2)).off + 1, none⟩ = some (.pointer (some ⟨rq, 0, none⟩)) := fun p' => (p'.ok.cell (by simp only [block_of_add]; exact hlts) (by simp)).trans s1
              have f4 : ∀ p' : Dc.Past [] W, p'.val.cell? (ad2.add (i * 2)) = some (.pointer (some ⟨rx, 0, none⟩)) := fun p' => (p'.ok.cell (by rw [block_of_add]; exact hlt2) (by simp)).trans k0
              have f5 : ∀ p' : Dc.Past [] W, p'.val.cell? ⟨(ad2.add (i * 2)).block, (ad2.add (i * 2)).off + 1, none⟩ = some (.slice x.A xn x.c) := fun p' => (p'.ok.cell (by simp only [block_of_add]; exact hlt2) (by simp)).trans k1
              have HXN := Lib.hid hxn
              have HNQ := Lib.hid hNq
              have HVV := Lib.hid hV
              have HW := Lib.hid hW
              have HXR := Lib.hid ((HKO2.out.pst (.of_below hV)).rows x (List.mem_of_getElem? hx))
              have HX13 := Lib.hid (HKO2.out.few HM13'.out x (List.mem_of_getElem? hx))
              have HPQ : Hid (rq = rx → pgs (layM (layM [] L 0) L' k) bq = x.l) := Lib.hid (fun e => by
                have h1 : bq = y.1 := (htm.alike _ hpm _ hin).2 e
                rw [h1, hxl]
                exact pgs_mem (by rw [layM_keys]; exact HL'.out.nodup) (List.mem_of_getElem? hy))
              have HPL := Lib.hid ((HQF.out bq).1)
              clear hbx hdW hW hV htm hpr hcs hx hc2 hy hin hxp hxl hpm hNq hR1 hR2 hxn k0 k1 s0 s1
              by_cases hrr : rq = rx
              · rw [decide_eq_true hrr] at heq
                have HPG := Lib.hid (HPQ.out hrr)
                clear hrr
                go_wp2_with fail
                refine Dc.wp_region_segs 32 [] [([0, 1, 2, 3, 4, 5, 6, 7, 8, 9, 10, 11, 12], 13), ([14, 15, 16, 17, 18, 19, 20, 22, 23, 24, 25, 26, 27, 28, 29], 21), ([], 30)] [31, 32] (by kernel_rfl) (by kernel_rfl) (by kernel_rfl) (by kernel_rfl) (by kernel_rfl) (by intro c a d v w h; cases d <;> exact h) ?_
                rw [← HW.out]
                refine Dc.wpSegs_more ?_
                simp only [Dc.pick, List.getElem?_cons_zero, List.getElem?_cons_succ]
                repeat (first | go_big_quiet_step (fail) | quiet_step (fail))
                refine wpQuiet_nil ?_
                refine Dc.wpOp_heavy rfl (by rfl) (fun Q hQ => ?_)
                go_simp
                refine hQ _ _ (fun _ => Dc.But.refl _ _) ?_
                clear hQ Q
                refine Dc.wpSegs_more ?_
                simp only [Dc.pick, List.getElem?_cons_zero, List.getElem?_cons_succ]
                repeat (first | go_big_quiet_step (fail) | quiet_step (fail))
                refine wpQuiet_nil ?_
                clear f0 f1 f2 f3 f4 f5
                refine Dc.wpOp_heavy rfl (by rfl) (fun Q hQ => ?_)
                go_simp
                refine (ofS_any (M := layM (layM [] L 0) L' k) (b := bq) (.inr ⟨g2, some m2, R2, rfl, (HFX.out _ HVV.out).pb HP2.out, HMR2.out.symm⟩) HNQ.out (Nat.le_trans HPL.out (by omega))).mono ?_
                rintro e w31 ⟨vo, rfl, hoo, hb31⟩
                rw [HPG.out] at hoo
                obtain ⟨Ao, co, hvo, _, hlo⟩ := hoo.form
                rw [HXN.out] at hvo
                subst hvo
                refine hQ _ _ (fun _ => Dc.But.of_below hb31) ?_
                clear hQ Q
                have HB31 := Lib.hid hb31
                have HLO := Lib.hid hlo
                have hxn13 : xn ≤ 13 := by rw [← HXN.out]; exact HX13.out
                clear hoo hb31 hlo
                refine Dc.wpSegs_more ?_
                simp only [Dc.pick]
                refine wpQuiet_nil ?_
                refine Dc.wpOp_heavy rfl (by rfl) (fun Q hQ => ?_)
                go_simp
                refine (shSame_any HLO.out HXN.out ((HXR.out.ls (HRD.out _ HVV.out)).below HB31.out) HXN.out (by omega) (by omega)).mono ?_
                rintro e w32 ⟨rfl, hb32⟩
                rw [decide_eq_true rfl]
                refine hQ _ _ (fun _ => Dc.But.of_below hb32) ?_
                clear hQ Q
                have HB32 := Lib.hid (bthen HBX3.out (bthen HB31.out hb32))
                clear hb32 hxn13
                refine Dc.wpSegs_last ?_
                simp only [Dc.pick, List.getElem?_cons_zero, List.getElem?_cons_succ]
                repeat (first | go_big_quiet_step (fail) | quiet_step (fail))
                refine wpQuiet_nil ?_
                go_wp2
                exact ⟨⟨q + 1, by omega, by go_num, HB32.out⟩, by simp [intOf]; omega⟩
              · rw [decide_eq_false hrr] at heq
                clear hrr
                go_wp2_with fail
                refine Dc.wp_region_segs 32 [] [([0, 1, 2, 3, 4, 5, 6, 7, 8, 9, 10, 11, 12], 13), ([14, 15, 16, 17, 18, 19, 20, 22, 23, 24, 25, 26, 27, 28, 29], 21), ([], 30)] [31, 32] (by kernel_rfl) (by kernel_rfl) (by kernel_rfl) (by kernel_rfl) (by kernel_rfl) (by intro c a d v w h; cases d <;> exact h) ?_
                rw [← HW.out]
                refine Dc.wpSegs_more ?_
                simp only [Dc.pick, List.getElem?_cons_zero, List.getElem?_cons_succ]
                repeat (first | go_big_quiet_step (fail) | quiet_step (fail))
                refine wpQuiet_nil ?_
                refine Dc.wpOp_heavy rfl (by rfl) (fun Q hQ => ?_)
                go_simp
                refine hQ _ _ (fun _ => Dc.But.refl _ _) ?_
                clear hQ Q
                refine Dc.wpSegs_more ?_
                simp only [Dc.pick, List.getElem?_cons_zero, List.getElem?_cons_succ]
                repeat (first | go_big_quiet_step (fail) | quiet_step (fail))
                refine wpQuiet_nil ?_
                clear f0 f1 f2 f3 f4 f5
                refine Dc.wpOp_idle rfl (by rfl) ?_
                refine Dc.wpSegs_more ?_
                simp only [Dc.pick]
                refine wpQuiet_nil ?_
                refine Dc.wpOp_idle rfl (by rfl) ?_
                refine Dc.wpSegs_last ?_
                simp only [Dc.pick, List.getElem?_cons_zero, List.getElem?_cons_succ]
                repeat (first | go_big_quiet_step (fail) | quiet_step (fail))
                refine wpQuiet_nil ?_
                go_wp2
                exact ⟨⟨q + 1, by omega, by go_num, HBX3.out⟩, by simp [intOf]; omega⟩
            · have hqe : q = ns := by omega
              go_wp2_with fail
              exact ⟨⟨i + 1, by omega, by go_num, bthen HBO.out hbx⟩, by simp [intOf]; omega⟩
        · have hie : i = n2 := by omega
          go_wp2
          go_ret
          have h1 := HB520.out.trans (HB26.out.mono HB520.out.size)
          have h2 := h1.trans (HBO.out.mono h1.size)
          exact ⟨rfl, HB5.out.trans (h2.mono HB5.out.size)⟩

end Go.Proofs.YtelenboncejdaaaGreatDoor

namespace Go.Proofs.YtelenboncejdaaaGreatDoor.shadowPlans
open Go Go.ChangeShapes Go.WideShapes Go.ChangeAt Go.RowKit
open Go.ChangeMaps (open_string shut_string)
set_option linter.unusedVariables false

theorem own : ownKnob Tryz.prog.godebug = none := by kernel_rfl

theorem laidOut : laidOutB Tryz.prog = true := by kernel_rfl

set_option maxRecDepth 100000 in
theorem lifted (os : Os) (started : os.Started) (H : Type) (enc : TypeId × Value → H) :
    ReturnsInHanded {} Tryz.checked os 6 .any (fun w args => (Rows.shadowPlansSpec.pre enc Tryz.prog Tryz.f6 [] false w args ∧ laidMetH Tryz.prog laidL w) ∧ sizedMet enc Tryz.prog Tryz.f6 (OpenSpec.ofChange Rows.shadowPlansSpec) false w args)
      (Rows.shadowPlansSpec.post enc Tryz.prog Tryz.f6 false true false false) := by
  refine returnsInHanded_of_change_and (C := Tryz.checked) (X := fun w _ => laidMetH Tryz.prog laidL w) (fun _ _ _ hh h => h.of_heap hh) own started (by kernel_rfl) Tryz.func6
    (ChangeSpec.witness_shaped (enc := enc) (C := Tryz.checked) (os := os) (X := fun w _ => laidMetH Tryz.prog laidL w) false (World.doorLaid Tryz.prog 14 os) #[.slice none 0 0, .slice none 0 0] 8 rfl (World.shaped_of_RefB (by kernel_rfl) (by kernel_rfl)) (by kernel_rfl) (by kernel_rfl) (by kernel_rfl) (door_met os _)) ?_
  intro W base args ds gs before hval0 hW hcnd hsz0 hL _
  have hval : ∀ (j : Nat) t v, Tryz.f6.params[j]? = some t → args[j]? = some v → Value.okWide Tryz.prog W .any base t v := hval0
  have hsz : (DataW.weightsEach Tryz.prog (Tryz.f6.params.toList ++ Rows.shadowPlansSpec.plain.varTypes Tryz.prog) (ds ++ gs)).all (· ≤ reachBytes) = true := hsz0
  have hW' := hW
  obtain ⟨p, q, hA0, hV, rfl, hfz, hnd⟩ := hW
  have hA : DataW.TrodAll enc Tryz.prog W 0 (fun _ => true) true Tryz.f6.params.toList args.toList ds p := hA0
  rw [Tryz.params6] at hA hval hsz
  obtain ⟨v0, vs0, d0, ds0, p0, q0, hargs, rfl, rfl, h0, r0⟩ := trodAll_cons hA
  obtain ⟨v1, vs1, d1, ds1, p1, q1, rfl, rfl, rfl, h1, r1⟩ := trodAll_cons r0
  obtain ⟨rfl, rfl, rfl⟩ := trodAll_nil r1
  obtain rfl : args = #[v0, v1] := by cases args; simp_all
  obtain ⟨rfl, rfl⟩ := trodVars_none hV
  have k0 := h0
  have lt0 : ∀ x ∈ p0, x.block < W.heap.size := by obtain ⟨m, hm⟩ := k0; exact DataW.trod_lt m _ _ _ hm
  obtain ⟨A0, n0, c0, rfl⟩ := okWide_slice Tryz.underlying54 (hval 0 54 v0 rfl rfl)
  obtain ⟨l0, w0⟩ := open_tops h0 (fun m hm => of_decide_eq_true (List.all_eq_true.1 hsz _ (DataW.weights_mem_each (j := 0) (t := 54) rfl rfl m hm)))
  have k1 := h1
  have lt1 : ∀ x ∈ p1, x.block < W.heap.size := by obtain ⟨m, hm⟩ := k1; exact DataW.trod_lt m _ _ _ hm
  obtain ⟨A1, n1, c1, rfl⟩ := okWide_slice Tryz.underlying54 (hval 1 54 v1 rfl rfl)
  obtain ⟨l1, w1⟩ := open_tops h1 (fun m hm => of_decide_eq_true (List.all_eq_true.1 hsz _ (DataW.weights_mem_each (j := 1) (t := 54) rfl rfl m hm)))
  clear hA0 hval0 hsz hsz0
  refine (shadowPlans_walk A0 n0 c0 l0 A1 n1 c1 l1 W (half_of_laid hL) w0 w1).mono fun e W' ⟨he, bel⟩ => ?_
  subst he
  exact ⟨_, rfl, _, _, _, [], _, [], hW', trodAll_mk1 (shut_bool Tryz.underlying4 _), (trodAll_cons_mk (Below.trod laidOut (by kernel_rfl) (of_decide_eq_true (by kernel_rfl)) k0 bel lt0) (trodAll_cons_mk (Below.trod laidOut (by kernel_rfl) (of_decide_eq_true (by kernel_rfl)) k1 bel lt1) trodAll_mk0)), rfl, bel.frame _, fun h => by cases h⟩

theorem over : Rows.ShadowPlansSaid :=
  OpenClaim.holds_of_wide 6 Tryz.f6 rfl rfl rfl rfl rfl rfl rfl ⟨rfl, rfl, rfl, rfl, rfl⟩ rfl rfl rfl rfl rfl (by kernel_rfl) Tryz.func6 (by kernel_rfl)
    (of_decide_eq_true (by kernel_rfl)) (by unfold Func.isWrapper; first | (rw [if_pos (by decide +kernel)]; kernel_rfl) | (rw [if_neg (by decide +kernel)]; exact ⟨rfl, rfl⟩))
    (fun os started H enc _ => lifted os started H enc)

theorem proved : Rows.ShadowPlansCardSaid :=
  Claim7.holds_tied_plain_at .later [] [.data] true (true, "834f3212cc0299adbaa9d4d9daa7d4728c309c0cf5ee58ceb704e4a98d21dc95") true
    over (fun _ h => by cases h) (by kernel_rfl) (fun _ h => by cases h) shadowPlans_row_tie rfl ⟨rfl, rfl⟩ (by kernel_rfl) rfl
    (fun f fn hf hfn => by
      obtain rfl : f = 6 := Option.some.inj ((show Tryz.prog.funcNamed "sapwood/sapwoodlaw14.ShadowPlans" = some 6 by kernel_rfl).symm.trans hf) |>.symm
      obtain rfl : fn = Tryz.f6 := (Option.some.inj (Tryz.func6.symm.trans hfn)).symm
      exact ⟨by kernel_rfl, fun j t ht => by
        rw [Tryz.params6] at ht
        have hm : t ∈ [54, 54] := by simpa using Array.mem_of_getElem? ht
        have hall : ([54, 54].all fun u => !Tryz.prog.wantsStandIn u) = true := by kernel_rfl
        exact (show Tryz.prog.wantsStandIn t = false by simpa using List.all_eq_true.1 hall t hm)⟩)
    (by kernel_rfl)
#print axioms proved

end Go.Proofs.YtelenboncejdaaaGreatDoor.shadowPlans
