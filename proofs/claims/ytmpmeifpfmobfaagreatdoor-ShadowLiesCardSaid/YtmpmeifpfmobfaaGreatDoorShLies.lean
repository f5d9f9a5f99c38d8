/-
  The contract of lies of the rows of layer 14: each page is one node's alone; conditions: the tree and both sets of pages lie in memory, the pages are apart.
-/
import Derived.Test.YtmpmeifpfmobfaaGreatDoorShKnown
namespace Go.Proofs.YtmpmeifpfmobfaaGreatDoor
open Go.RowKit Go.Sort
open Rt (Fx Stp)
set_option linter.unusedVariables false
set_option linter.unusedSimpArgs false

/-- The pages of nodes; how many of them are known. -/
def pl (M : PM) (L : List PN) : List Int := L.flatMap fun P => pgs M P.b
def cntP (M : PM) (L : List PN) : Nat := (L.map fun P => (pgs M P.b).length).sum
theorem pl_append (M : PM) (a b : List PN) : pl M (a ++ b) = pl M a ++ pl M b := by simp [pl]
theorem cntP_append (M : PM) (a b : List PN) : cntP M (a ++ b) = cntP M a + cntP M b := by simp [cntP]
/-- What lies is told: how many, and which pages were seen. -/
structure LS (wq : World) (mb sb : Nat) (x : Int) (f : Nat → Bool) (W : World) : Prop where
  bel : Below wq.heap.size wq W
  box : W.heap[mb]? = some (.cells #[.int .i64 x] 3 (0, 0))
  row : ∃ cs, W.heap[sb]? = some (.cells cs 4 (0, 0)) ∧ cs.size = 512 ∧ ∀ i, i < 512 → cs[i]? = some (.bool (f i))
  bm : wq.heap.size ≤ mb
  bs : wq.heap.size ≤ sb
section
variable {wq W W' : World} {mb sb : Nat} {x : Int} {f : Nat → Bool}
theorem LS.below (h : LS wq mb sb x f W) (hb : Below W.heap.size W W') : LS wq mb sb x f W' := by
  obtain ⟨cs, h1, h2⟩ := h.row
  exact ⟨h.bel.trans (hb.mono h.bel.size), (hb.block _ (lt_of_block h.box)).trans h.box, ⟨cs, (hb.block _ (lt_of_block h1)).trans h1, h2⟩, h.bm, h.bs⟩
theorem LS.mlt (h : LS wq mb sb x f W) : mb < W.heap.size := lt_of_block h.box
theorem LS.slt (h : LS wq mb sb x f W) : sb < W.heap.size := by
  obtain ⟨cs, h1, _⟩ := h.row
  exact lt_of_block h1
theorem LS.ne (h : LS wq mb sb x f W) : mb ≠ sb := fun e => by
  obtain ⟨cs, h1, _⟩ := h.row
  rw [← e, h.box] at h1
  cases h1
theorem LS.seen (h : LS wq mb sb x f W) {i : Nat} (hi : i < 512) : W.cell? ⟨sb, i, none⟩ = some (.bool (f i)) := by
  obtain ⟨cs, h1, _, h3⟩ := h.row
  exact cell_at h1 _ _ (h3 i hi)
theorem LS.free (h : LS wq mb sb x f W) (i : Nat) : W.frozen? ⟨sb, i, none⟩ = false := by
  obtain ⟨cs, h1, _⟩ := h.row
  exact free_at h1 i
theorem LS.count (h : LS wq mb sb x f W) (y : Int) : LS wq mb sb y f (W.setCell ⟨mb, 0, none⟩ (.int .i64 y)) := by
  obtain ⟨cs, h1, h2⟩ := h.row
  refine ⟨⟨h.bel.os, h.bel.tape, h.bel.output, by simpa [World.setCell] using h.bel.size, fun k hk => ?_⟩, ?_, ⟨cs, ?_, h2⟩, h.bm, h.bs⟩
  · rw [Below.heap_setCell _ _ _ _ (by have := h.bm; simp only; omega)]
    exact h.bel.block k hk
  · have := blk_set h.box 0 (.int .i64 y)
    exact this
  · rw [Below.heap_setCell _ _ _ _ (fun e => h.ne e.symm)]
    exact h1
theorem LS.mark (h : LS wq mb sb x f W) {i : Nat} (hi : i < 512) : LS wq mb sb x (mark1 f i) (W.setCell ⟨sb, i, none⟩ (.bool true)) := by
  obtain ⟨cs, h1, h2, h3⟩ := h.row
  refine ⟨⟨h.bel.os, h.bel.tape, h.bel.output, by simpa [World.setCell] using h.bel.size, fun k hk => ?_⟩, ?_, ⟨_, blk_set h1 i _, by simpa using h2, fun j hj => ?_⟩, h.bm, h.bs⟩
  · rw [Below.heap_setCell _ _ _ _ (by have := h.bs; simp only; omega)]
    exact h.bel.block k hk
  · rw [Below.heap_setCell _ _ _ _ h.ne]
    exact h.box
  · unfold mark1
    by_cases hij : j = i
    · subst hij
      rw [Array.getElem?_setIfInBounds_self_of_lt (by omega)]
      simp
    · rw [Array.getElem?_setIfInBounds_ne (by omega), h3 j hj]
      simp [hij]
theorem LS.congr {g : Nat → Bool} (h : LS wq mb sb x f W) (hg : ∀ i, f i = g i) : LS wq mb sb x g W := by
  rw [show g = f from (funext hg).symm]
  exact h
end
def FF (mb sb : Nat) : Nat → Prop := fun k => k = mb ∨ k = sb
theorem keep_set {mb sb : Nat} {W : World} (p : Addr) (u : Value) (hp : p.block = mb ∨ p.block = sb) : Keep (FF mb sb) W (W.setCell p u) :=
  ⟨rfl, rfl, rfl, by simp [World.setCell], fun k _ hk => Below.heap_setCell _ _ _ _ fun e => hk (by rw [e]; exact hp)⟩
/-- What lies answers. -/
def LiesPost (wq : World) (Mp Mq : PM) (mb sb : Nat) (L : List PN) (x : Int) (f : Nat → Bool) (W : World) (e : Ending) (W' : World) : Prop :=
  e = .returned (.bool true) ∧ ∃ g, LS wq mb sb (x + cntP Mp L) g W' ∧ (∀ i, g i = (f i || decide ((i : Int) ∈ pl Mq L))) ∧ Keep (FF mb sb) W W'
def LiesOk (wq : World) (pv qv : Value) (Mp Mq : PM) (mb sb b : Nat) (L : List PN) : Prop :=
  ∀ (x : Int) (f : Nat → Bool) (W : World), LS wq mb sb x f W → 0 ≤ x → x + cntP Mp L ≤ 1000000 → (∀ y ∈ pl Mq L, f y.toNat = false) → (pl Mq L).Nodup →
    Calls Tryz.prog 25 #[pn b, pv, qv, .pointer (some ⟨mb, 0, none⟩), .slice (some ⟨sb, 0, none⟩) 512 512] W (LiesPost wq Mp Mq mb sb L x f W)

theorem own_ls {w : World} {base : Nat} {A : Option Addr} {n c : Nat} {l : List Int} (h : OwnI w base (.slice A n c) l) : Ls icell w A l ∧ l.length = n := by
  obtain ⟨A', c', e, _, hr⟩ := h.form
  cases e
  exact ⟨hr, rfl⟩

theorem not_mem_take_nodup {l : List Int} (h : l.Nodup) {i : Nat} {y : Int} (hy : l[i]? = some y) : y ∉ l.take i := fun hm => by
  obtain ⟨j, hj⟩ := List.getElem?_of_mem hm
  have hji : j < i := by
    have := (List.getElem?_eq_some_iff.1 hj).1
    rw [List.length_take] at this
    omega
  rw [List.getElem?_take_of_lt hji] at hj
  obtain ⟨h1, e1⟩ := List.getElem?_eq_some_iff.1 hy
  obtain ⟨h2, e2⟩ := List.getElem?_eq_some_iff.1 hj
  exact List.pairwise_iff_getElem.1 h j i h2 h1 hji (e2.trans e1.symm)
theorem Ls.lt_of {α : Type} {f : α → List Value} {w : World} {A : Option Addr} {l : List α} (h : Ls f w A l) (ad : Addr) (e : A = some ad) (h0 : 0 < l.length) : ad.block < w.heap.size := by
  obtain ⟨a, e1, h1, _⟩ := h h0
  rw [e] at e1
  cases e1
  exact h1

set_option maxHeartbeats 8000000 in
set_option maxRecDepth 100000 in
theorem lies_gen {wq : World} {pv qv : Value} {Mp Mq : PM} {mb sb : Nat} {P : PN} {Q : List (List PN)} (hP : PNAt wq P) (hp : PgIs wq pv Mp) (hq : PgIs wq qv Mq) (hq0 : pgs Mq P.b ≠ []) (hql : (pgs Mq P.b).length ≤ 13) (hqn : ∀ b, ∀ y ∈ pgs Mq b, okNum y)
    (hpq : pgs Mp P.b = [] ∨ pgs Mp P.b = pgs Mq P.b) (hQ : Q.length = P.ks.length) (ih : ∀ (j : Nat) (k : ByteArray × Nat) (M : List PN), P.ks[j]? = some k → Q[j]? = some M → LiesOk wq pv qv Mp Mq mb sb k.2 M) : LiesOk wq pv qv Mp Mq mb sb P.b (Q.flatten ++ [P]) := by
  intro x f w hls hx0 hx1 hf hnd
  obtain ⟨N, hN⟩ := hP
  have hkn := hN.few.2
  have HLS := Lib.hid hls
  have HN := Lib.hid hN
  have HPg := Lib.hid hp
  have HQg := Lib.hid hq
  have HQN := Lib.hid hqn
  have HQ := Lib.hid hQ
  have HIH := Lib.hid ih
  have HX1 := Lib.hid hx1
  have HF := Lib.hid hf
  have HND := Lib.hid hnd
  have hpl1 : pl Mq (Q.flatten ++ [P]) = pl Mq Q.flatten ++ pgs Mq P.b := by rw [pl_append]; simp [pl]
  have hcn1 : cntP Mp (Q.flatten ++ [P]) = cntP Mp Q.flatten + (pgs Mp P.b).length := by rw [cntP_append]; simp [cntP]
  have HPL1 := Lib.hid hpl1
  have HCN1 := Lib.hid hcn1
  rw [hpl1] at hnd hf
  have HND1 := Lib.hid (List.nodup_append.1 hnd)
  have HF1 := Lib.hid hf
  obtain ⟨nq, hnq⟩ : ∃ nq, (pgs Mq P.b).length = nq := ⟨_, rfl⟩
  obtain ⟨np, hnp⟩ : ∃ np, (pgs Mp P.b).length = np := ⟨_, rfl⟩
  have hnq0 : 0 < nq := by rw [← hnq]; exact List.length_pos_iff.2 hq0
  rw [hnq] at hql
  have hnp13 : np ≤ 13 := by
    rcases hpq with h | h
    · rw [h] at hnp
      simp at hnp
      omega
    · rw [h, hnq] at hnp
      omega
  have HNQ := Lib.hid hnq
  have HNP := Lib.hid hnp
  have HPQ := Lib.hid hpq
  have hxx : x + np ≤ 1000000 := by
    rw [hcn1, hnp] at hx1
    omega
  clear hls hN hp hq hq0 hqn hQ ih hx1 hf hnd hpl1 hcn1 hnq hnp hpq
  unfold pn
  go_enter Tryz.func25, Tryz.ntmps25
  go_wp2_with fail
  refine (ofS_any (HQg.out.below HLS.out.bel) (HN.out.below HLS.out.bel).at_ (by rw [HNQ.out]; omega)).mono ?_
  rintro e w1 ⟨v11, rfl, ho11, hb1⟩
  obtain ⟨A11, c11, rfl, hc11, _⟩ := ho11.form
  rw [HNQ.out] at ho11 hc11 ⊢
  have HO11 := Lib.hid ho11
  have HLS1 := Lib.hid (HLS.out.below hb1)
  have HB1 := Lib.hid hb1
  clear ho11 hb1
  go_wp2_with fail
  refine (ofS_any (HPg.out.below HLS1.out.bel) (HN.out.below HLS1.out.bel).at_ (by rw [HNP.out]; omega)).mono ?_
  rintro e w2 ⟨v12, rfl, ho12, hb2⟩
  obtain ⟨A12, c12, rfl, hc12, _⟩ := ho12.form
  rw [HNP.out] at ho12 hc12 ⊢
  have HO12 := Lib.hid ho12
  have HO112 := Lib.hid (HO11.out.below hb2)
  have HLS2 := Lib.hid (HLS1.out.below hb2)
  have HB2 := Lib.hid (bthen HB1.out hb2)
  clear ho12 hb2
  -- ARMS
  have HNF : Hid (∀ ad : Addr, A11 = some ad → ¬ FF mb sb ad.block) := Lib.hid fun ad e hx => by
    have h1 := (HO112.out.addr_ge ad e).1
    have h2 := HLS.out.mlt
    have h3 := HLS.out.slt
    rcases hx with hx | hx
    · omega
    · omega
  have hqb : ((nq : Int) == 0) = false := by
    simp
    omega
  by_cases hz : np = 0
  · obtain ⟨wx, hwx⟩ : ∃ wx, wx = w2 := ⟨_, rfl⟩
    rw [← hwx]
    have HLX : Hid (LS wq mb sb x f wx) := by rw [hwx]; exact HLS2
    have HOX : Hid (OwnI wx w.heap.size (.slice A11 nq c11) (pgs Mq P.b)) := by rw [hwx]; exact HO112
    have HBX : Hid (Below w.heap.size w wx) := by rw [hwx]; exact HB2
    clear hwx
    have c0 := cell_at HLX.out.box 0 (.int .i64 x) rfl
    have f0 := free_at HLX.out.box 0
    have HOY : Hid (Ls icell (wx.setCell ⟨mb, 0, none⟩ (.int .i64 x)) A11 (pgs Mq P.b)) := Lib.hid (ls_keep (own_ls HOX.out).1 (by simp [World.setCell]) fun ad e _ => Below.heap_setCell _ _ _ _ (by
      have h1 := (HOX.out.addr_ge ad e).1
      have h2 := HLS.out.mlt
      simp only
      omega))
    have HLY := Lib.hid (HLX.out.count x)
    have HKY := Lib.hid ((Keep.of_below (F := FF mb sb) HBX.out).trans (keep_set (mb := mb) (sb := sb) (W := wx) ⟨mb, 0, none⟩ (.int .i64 x) (.inl rfl)))
    go_wp2
    generalize wx.setCell ⟨mb, 0, none⟩ (.int .i64 x) = wy at HOY HLY HKY ⊢
    clear c0 f0 HOX HLX HBX
    obtain ⟨x1, hx1⟩ : ∃ x1, x1 = x := ⟨_, rfl⟩
    rw [← hx1] at HLY
    have hx1a : 0 ≤ x1 := by omega
    have hx1b : x1 ≤ 1000000 := by omega
    have HX11 : Hid (x1 = x + (np : Int)) := Lib.hid (by omega)
    clear hx1 hz
    go_loopw [47] (fun s47 wr => ∃ (i : Nat) (g : Nat → Bool), i ≤ nq ∧ s47 = .int .i64 i ∧ LS wq mb sb x1 g wr ∧ Hid (∀ j, g j = (f j || decide ((j : Int) ∈ (pgs Mq P.b).take i))) ∧ Keep (FF mb sb) wy wr) (fun s47 _ => nq - (intOf s47).toNat)
    case atStart => exact ⟨0, f, Nat.zero_le _, rfl, HLY.out, Lib.hid (fun j => by simp), Keep.refl _ _⟩
    case round =>
      obtain ⟨i, g, hi, rfl, hlr, HG, hkr⟩ := hrel
      have hrk : Ls icell wr A11 (pgs Mq P.b) := ls_keep HOY.out hkr.size fun ad e h0 => hkr.block _ (HOY.out.lt_of ad e h0) (HNF.out ad e)
      by_cases hlt : i < nq
      · obtain ⟨ad, y, rfl, hy, hl1, q0⟩ := hrk.atI (i := i) (by rw [HNQ.out]; exact hlt)
        have hym := List.mem_of_getElem? hy
        obtain ⟨hy2, hy5⟩ := HQN.out P.b y hym
        obtain ⟨z, rfl⟩ : ∃ z : Nat, y = (z : Int) := ⟨y.toNat, by omega⟩
        have hz512 : z < 512 := by omega
        have hz2 : 2 ≤ z := by omega
        have hgz : g z = false := by
          rw [HG.out z]
          have h1 := HF1.out (z : Int) (List.mem_append_right _ hym)
          rw [Int.toNat_natCast] at h1
          rw [h1, decide_eq_false (not_mem_take_nodup HND1.out.2.1 hy)]
          rfl
        have q1 := hlr.seen hz512
        rw [hgz] at q1
        have q2 := hlr.free z
        have hlm := Lib.hid (hlr.mark hz512)
        have HG2 : Hid (∀ j, mark1 g z j = (f j || decide ((j : Int) ∈ (pgs Mq P.b).take (i + 1)))) := Lib.hid (fun j => by
          rw [List.take_add_one, hy]
          unfold mark1
          rw [HG.out j]
          by_cases hjz : j = z
          · simp [hjz]
          · have : ¬ ((j : Int) = (z : Int)) := by omega
            simp [hjz, this])
        have HK2 := Lib.hid (hkr.trans (keep_set (mb := mb) (sb := sb) (W := wr) ⟨sb, z, none⟩ (.bool true) (.inr rfl)))
        have hslt := hlr.slt
        clear hrk hy hym hgz hlr hkr
        go_wp2
        exact ⟨⟨i + 1, mark1 g z, by omega, by go_num, hlm.out, HG2, HK2.out⟩, by simp [intOf]; omega⟩
      · have he : i = nq := by omega
        subst he
        rw [List.take_of_length_le (by rw [HNQ.out]; exact Nat.le_refl _)] at HG
        have HLR := Lib.hid hlr
        have HKR := Lib.hid (HKY.out.trans hkr)
        clear hlr hkr hrk
        go_wp2_with fail
        refine (kids_any (HN.out.below HLR.out.bel).at_ (HN.out.below HLR.out.bel).ka (by rw [List.length_map]; exact HN.out.kn) (by omega)).mono ?_
        rintro e w4 ⟨v14, rfl, ho14, hb4⟩
        obtain ⟨A, c, rfl, hc, hr⟩ := ho14.form
        obtain ⟨n, hn⟩ : ∃ n, n = P.ks.length := ⟨_, rfl⟩
        rw [List.length_map, ← hn] at hc ⊢
        have hn6 : n ≤ 6 := by rw [hn, HN.out.kn]; exact hkn
        have HNN := Lib.hid hn
        have HR := Lib.hid hr
        have HO14 := Lib.hid ho14
        have HL4 := Lib.hid (HLR.out.below hb4)
        have HK4 := Lib.hid (HKR.out.trans (Keep.of_below hb4))
        have HM4 := Lib.hid (show mb < wr.heap.size ∧ sb < wr.heap.size from ⟨HLR.out.mlt, HLR.out.slt⟩)
        clear hn hr ho14 hb4 hc
        go_wp2
        go_loopw [84] (fun s84 wr => ∃ (k : Nat) (g : Nat → Bool), k ≤ n ∧ s84 = .int .i64 k ∧ LS wq mb sb (x1 + (cntP Mp (Q.take k).flatten : Nat)) g wr ∧ Hid (∀ j, g j = (f j || decide ((j : Int) ∈ pgs Mq P.b ++ pl Mq (Q.take k).flatten))) ∧ Keep (FF mb sb) w4 wr) (fun s84 _ => n - (intOf s84).toNat)
        case atStart => exact ⟨0, g, Nat.zero_le _, rfl, by simpa [cntP] using HL4.out, Lib.hid (fun j => by rw [HG.out j]; simp [pl]), Keep.refl _ _⟩
        case round =>
          clear HG
          obtain ⟨k, g, hk, rfl, hlr, HG, hkr⟩ := hrel
          have hrk : Ls pcP wr A (P.ks.map fun k => some k.2) := ls_keep HR.out hkr.size fun ad e h0 => hkr.block _ (HO14.out.addr_ge ad e).2 fun hx => by
            have h1 := (HO14.out.addr_ge ad e).1
            have h2 := HM4.out
            rcases hx with hx | hx
            · omega
            · omega
          by_cases hlt : k < n
          · have hkl : k < P.ks.length := by rw [← HNN.out]; exact hlt
            obtain ⟨ad, p, rfl, hpk, hl1, q0⟩ := hrk.ptr_at (i := k) (by rw [List.length_map]; exact hkl)
            obtain ⟨kd, hkd⟩ : ∃ kd, P.ks[k]? = some kd := ⟨_, List.getElem?_eq_getElem hkl⟩
            rw [List.getElem?_map, hkd] at hpk
            simp only [Option.map_some, Option.some.injEq] at hpk
            subst hpk
            obtain ⟨M, hM⟩ : ∃ M, Q[k]? = some M := ⟨_, List.getElem?_eq_getElem (by rw [HQ.out]; exact hkl)⟩
            have hfl := flat_split hM
            have htk := take_flat hM
            have hnd := HND1.out
            rw [hfl, pl_append, pl_append] at hnd
            have hf1 := HF1.out
            rw [hfl, pl_append, pl_append] at hf1
            have hcx := HX1.out
            rw [HCN1.out, HNP.out, hfl, cntP_append, cntP_append] at hcx
            have hx11 := HX11.out
            have hcall := HIH.out k kd M hkd hM _ g wr hlr (by omega) (by omega) (fun y hy => by
              rw [HG.out]
              have hyo := (by
                obtain ⟨P', _, hy'⟩ := List.mem_flatMap.1 hy
                exact HQN.out P'.b y hy' : okNum y)
              have hyn : ((y.toNat : Nat) : Int) = y := by
                have := hyo.1
                omega
              rw [hyn, hf1 y (List.mem_append_left _ (List.mem_append_left _ (List.mem_append_right _ hy))), decide_eq_false ?_]
              · rfl
              · rw [List.mem_append]
                rintro (h | h)
                · exact hnd.2.2 y (List.mem_append_left _ (List.mem_append_right _ hy)) y h rfl
                · exact (List.nodup_append.1 (List.nodup_append.1 hnd.1).1).2.2 y h y hy rfl) (List.nodup_append.1 (List.nodup_append.1 hnd.1).1).2.1
            have HTK1 : Hid (cntP Mp (Q.take (k + 1)).flatten = cntP Mp (Q.take k).flatten + cntP Mp M) := Lib.hid (by rw [htk, cntP_append])
            have HTK2 : Hid (pl Mq (Q.take (k + 1)).flatten = pl Mq (Q.take k).flatten ++ pl Mq M) := Lib.hid (by rw [htk, pl_append])
            have HKRR := Lib.hid hkr
            unfold ptr at q0
            simp only [Option.map_some] at q0
            unfold pn at hcall
            clear hrk hkd hM hfl htk hnd hf1 hcx hkr hlr hx11
            go_wp2_with fail
            refine hcall.mono ?_
            rintro e w6 ⟨rfl, g', hl6, hg6, hk6⟩
            have HL6 : Hid (LS wq mb sb (x1 + (cntP Mp (Q.take (k + 1)).flatten : Nat)) g' w6) := Lib.hid (by
              rw [HTK1.out, Int.natCast_add, ← Int.add_assoc]
              exact hl6)
            have HG6 : Hid (∀ j, g' j = (f j || decide ((j : Int) ∈ pgs Mq P.b ++ pl Mq (Q.take (k + 1)).flatten))) := Lib.hid (fun j => by
              rw [hg6 j, HG.out j, HTK2.out, ← List.append_assoc]
              by_cases h1 : (j : Int) ∈ pgs Mq P.b ++ pl Mq (Q.take k).flatten
              · rw [decide_eq_true h1, decide_eq_true (List.mem_append_left _ h1)]
                simp
              · by_cases h2 : (j : Int) ∈ pl Mq M
                · rw [decide_eq_true h2, decide_eq_true (List.mem_append_right _ h2)]
                  simp
                · rw [decide_eq_false h1, decide_eq_false h2, decide_eq_false (fun h => (List.mem_append.1 h).elim h1 h2)]
                  simp)
            have HK6 := Lib.hid (HKRR.out.trans hk6)
            clear hcall hl6 hg6 hk6
            go_wp2
            exact ⟨⟨k + 1, g', by omega, by go_num, HL6.out, HG6, HK6.out⟩, by simp [intOf]; omega⟩
          · have he : k = n := by omega
            subst he
            rw [List.take_of_length_le (l := Q) (by rw [HQ.out, ← HNN.out]; exact Nat.le_refl _)] at hlr HG
            have HFIN : Hid (LiesPost wq Mp Mq mb sb (Q.flatten ++ [P]) x f w (.returned (.bool true)) wr) := Lib.hid (by
              refine ⟨rfl, g, ?_, fun j => ?_, HK4.out.trans hkr⟩
              · have := hlr
                rw [HX11.out] at this
                rw [HCN1.out, HNP.out, Int.natCast_add, Int.add_comm (cntP Mp Q.flatten : Int), ← Int.add_assoc]
                exact this
              · rw [HG.out j, HPL1.out]
                congr 1
                exact decide_eq_decide.2 ⟨fun h => List.mem_append.2 (List.mem_append.1 h).symm, fun h => List.mem_append.2 (List.mem_append.1 h).symm⟩)
            clear hlr hkr hrk
            go_wp2
            go_ret
            exact HFIN.out
  · have hmq : pgs Mp P.b = pgs Mq P.b := HPQ.out.resolve_left fun h => hz (by rw [← HNP.out, h]; rfl)
    have hnn : nq = np := by rw [← HNQ.out, ← HNP.out, hmq]
    have HMQ := Lib.hid hmq
    have HNN' := Lib.hid hnn
    clear hmq hnn
    go_wp2_with fail
    refine (shSame_any (own_ls HO112.out).1 HNQ.out (own_ls HO12.out).1 HNP.out (by omega) (by omega)).mono ?_
    rintro e wx ⟨rfl, hbx⟩
    rw [decide_eq_true HMQ.out.symm]
    have HLX := Lib.hid (HLS2.out.below hbx)
    have HOX := Lib.hid (HO112.out.below hbx)
    have HBX := Lib.hid (bthen HB2.out hbx)
    clear hbx
    have c0 := cell_at HLX.out.box 0 (.int .i64 x) rfl
    have f0 := free_at HLX.out.box 0
    have HOY : Hid (Ls icell (wx.setCell ⟨mb, 0, none⟩ (.int .i64 (x + (np : Int)))) A11 (pgs Mq P.b)) := Lib.hid (ls_keep (own_ls HOX.out).1 (by simp [World.setCell]) fun ad e _ => Below.heap_setCell _ _ _ _ (by
      have h1 := (HOX.out.addr_ge ad e).1
      have h2 := HLS.out.mlt
      simp only
      omega))
    have HLY := Lib.hid (HLX.out.count (x + (np : Int)))
    have HKY := Lib.hid ((Keep.of_below (F := FF mb sb) HBX.out).trans (keep_set (mb := mb) (sb := sb) (W := wx) ⟨mb, 0, none⟩ (.int .i64 (x + (np : Int))) (.inl rfl)))
    go_wp2
    generalize wx.setCell ⟨mb, 0, none⟩ (.int .i64 (x + (np : Int))) = wy at HOY HLY HKY ⊢
    clear c0 f0 HOX HLX HBX
    obtain ⟨x1, hx1⟩ : ∃ x1, x1 = (x + (np : Int)) := ⟨_, rfl⟩
    rw [← hx1] at HLY
    have hx1a : 0 ≤ x1 := by omega
    have hx1b : x1 ≤ 1000000 := by omega
    have HX11 : Hid (x1 = x + (np : Int)) := Lib.hid (by omega)
    clear hx1 hz
    go_loopw [47] (fun s47 wr => ∃ (i : Nat) (g : Nat → Bool), i ≤ nq ∧ s47 = .int .i64 i ∧ LS wq mb sb x1 g wr ∧ Hid (∀ j, g j = (f j || decide ((j : Int) ∈ (pgs Mq P.b).take i))) ∧ Keep (FF mb sb) wy wr) (fun s47 _ => nq - (intOf s47).toNat)
    case atStart => exact ⟨0, f, Nat.zero_le _, rfl, HLY.out, Lib.hid (fun j => by simp), Keep.refl _ _⟩
    case round =>
      obtain ⟨i, g, hi, rfl, hlr, HG, hkr⟩ := hrel
      have hrk : Ls icell wr A11 (pgs Mq P.b) := ls_keep HOY.out hkr.size fun ad e h0 => hkr.block _ (HOY.out.lt_of ad e h0) (HNF.out ad e)
      by_cases hlt : i < nq
      · obtain ⟨ad, y, rfl, hy, hl1, q0⟩ := hrk.atI (i := i) (by rw [HNQ.out]; exact hlt)
        have hym := List.mem_of_getElem? hy
        obtain ⟨hy2, hy5⟩ := HQN.out P.b y hym
        obtain ⟨z, rfl⟩ : ∃ z : Nat, y = (z : Int) := ⟨y.toNat, by omega⟩
        have hz512 : z < 512 := by omega
        have hz2 : 2 ≤ z := by omega
        have hgz : g z = false := by
          rw [HG.out z]
          have h1 := HF1.out (z : Int) (List.mem_append_right _ hym)
          rw [Int.toNat_natCast] at h1
          rw [h1, decide_eq_false (not_mem_take_nodup HND1.out.2.1 hy)]
          rfl
        have q1 := hlr.seen hz512
        rw [hgz] at q1
        have q2 := hlr.free z
        have hlm := Lib.hid (hlr.mark hz512)
        have HG2 : Hid (∀ j, mark1 g z j = (f j || decide ((j : Int) ∈ (pgs Mq P.b).take (i + 1)))) := Lib.hid (fun j => by
          rw [List.take_add_one, hy]
          unfold mark1
          rw [HG.out j]
          by_cases hjz : j = z
          · simp [hjz]
          · have : ¬ ((j : Int) = (z : Int)) := by omega
            simp [hjz, this])
        have HK2 := Lib.hid (hkr.trans (keep_set (mb := mb) (sb := sb) (W := wr) ⟨sb, z, none⟩ (.bool true) (.inr rfl)))
        have hslt := hlr.slt
        clear hrk hy hym hgz hlr hkr
        go_wp2
        exact ⟨⟨i + 1, mark1 g z, by omega, by go_num, hlm.out, HG2, HK2.out⟩, by simp [intOf]; omega⟩
      · have he : i = nq := by omega
        subst he
        rw [List.take_of_length_le (by rw [HNQ.out]; exact Nat.le_refl _)] at HG
        have HLR := Lib.hid hlr
        have HKR := Lib.hid (HKY.out.trans hkr)
        clear hlr hkr hrk
        go_wp2_with fail
        refine (kids_any (HN.out.below HLR.out.bel).at_ (HN.out.below HLR.out.bel).ka (by rw [List.length_map]; exact HN.out.kn) (by omega)).mono ?_
        rintro e w4 ⟨v14, rfl, ho14, hb4⟩
        obtain ⟨A, c, rfl, hc, hr⟩ := ho14.form
        obtain ⟨n, hn⟩ : ∃ n, n = P.ks.length := ⟨_, rfl⟩
        rw [List.length_map, ← hn] at hc ⊢
        have hn6 : n ≤ 6 := by rw [hn, HN.out.kn]; exact hkn
        have HNN := Lib.hid hn
        have HR := Lib.hid hr
        have HO14 := Lib.hid ho14
        have HL4 := Lib.hid (HLR.out.below hb4)
        have HK4 := Lib.hid (HKR.out.trans (Keep.of_below hb4))
        have HM4 := Lib.hid (show mb < wr.heap.size ∧ sb < wr.heap.size from ⟨HLR.out.mlt, HLR.out.slt⟩)
        clear hn hr ho14 hb4 hc
        go_wp2
        go_loopw [84] (fun s84 wr => ∃ (k : Nat) (g : Nat → Bool), k ≤ n ∧ s84 = .int .i64 k ∧ LS wq mb sb (x1 + (cntP Mp (Q.take k).flatten : Nat)) g wr ∧ Hid (∀ j, g j = (f j || decide ((j : Int) ∈ pgs Mq P.b ++ pl Mq (Q.take k).flatten))) ∧ Keep (FF mb sb) w4 wr) (fun s84 _ => n - (intOf s84).toNat)
        case atStart => exact ⟨0, g, Nat.zero_le _, rfl, by simpa [cntP] using HL4.out, Lib.hid (fun j => by rw [HG.out j]; simp [pl]), Keep.refl _ _⟩
        case round =>
          clear HG
          obtain ⟨k, g, hk, rfl, hlr, HG, hkr⟩ := hrel
          have hrk : Ls pcP wr A (P.ks.map fun k => some k.2) := ls_keep HR.out hkr.size fun ad e h0 => hkr.block _ (HO14.out.addr_ge ad e).2 fun hx => by
            have h1 := (HO14.out.addr_ge ad e).1
            have h2 := HM4.out
            rcases hx with hx | hx
            · omega
            · omega
          by_cases hlt : k < n
          · have hkl : k < P.ks.length := by rw [← HNN.out]; exact hlt
            obtain ⟨ad, p, rfl, hpk, hl1, q0⟩ := hrk.ptr_at (i := k) (by rw [List.length_map]; exact hkl)
            obtain ⟨kd, hkd⟩ : ∃ kd, P.ks[k]? = some kd := ⟨_, List.getElem?_eq_getElem hkl⟩
            rw [List.getElem?_map, hkd] at hpk
            simp only [Option.map_some, Option.some.injEq] at hpk
            subst hpk
            obtain ⟨M, hM⟩ : ∃ M, Q[k]? = some M := ⟨_, List.getElem?_eq_getElem (by rw [HQ.out]; exact hkl)⟩
            have hfl := flat_split hM
            have htk := take_flat hM
            have hnd := HND1.out
            rw [hfl, pl_append, pl_append] at hnd
            have hf1 := HF1.out
            rw [hfl, pl_append, pl_append] at hf1
            have hcx := HX1.out
            rw [HCN1.out, HNP.out, hfl, cntP_append, cntP_append] at hcx
            have hx11 := HX11.out
            have hcall := HIH.out k kd M hkd hM _ g wr hlr (by omega) (by omega) (fun y hy => by
              rw [HG.out]
              have hyo := (by
                obtain ⟨P', _, hy'⟩ := List.mem_flatMap.1 hy
                exact HQN.out P'.b y hy' : okNum y)
              have hyn : ((y.toNat : Nat) : Int) = y := by
                have := hyo.1
                omega
              rw [hyn, hf1 y (List.mem_append_left _ (List.mem_append_left _ (List.mem_append_right _ hy))), decide_eq_false ?_]
              · rfl
              · rw [List.mem_append]
                rintro (h | h)
                · exact hnd.2.2 y (List.mem_append_left _ (List.mem_append_right _ hy)) y h rfl
                · exact (List.nodup_append.1 (List.nodup_append.1 hnd.1).1).2.2 y h y hy rfl) (List.nodup_append.1 (List.nodup_append.1 hnd.1).1).2.1
            have HTK1 : Hid (cntP Mp (Q.take (k + 1)).flatten = cntP Mp (Q.take k).flatten + cntP Mp M) := Lib.hid (by rw [htk, cntP_append])
            have HTK2 : Hid (pl Mq (Q.take (k + 1)).flatten = pl Mq (Q.take k).flatten ++ pl Mq M) := Lib.hid (by rw [htk, pl_append])
            have HKRR := Lib.hid hkr
            unfold ptr at q0
            simp only [Option.map_some] at q0
            unfold pn at hcall
            clear hrk hkd hM hfl htk hnd hf1 hcx hkr hlr hx11
            go_wp2_with fail
            refine hcall.mono ?_
            rintro e w6 ⟨rfl, g', hl6, hg6, hk6⟩
            have HL6 : Hid (LS wq mb sb (x1 + (cntP Mp (Q.take (k + 1)).flatten : Nat)) g' w6) := Lib.hid (by
              rw [HTK1.out, Int.natCast_add, ← Int.add_assoc]
              exact hl6)
            have HG6 : Hid (∀ j, g' j = (f j || decide ((j : Int) ∈ pgs Mq P.b ++ pl Mq (Q.take (k + 1)).flatten))) := Lib.hid (fun j => by
              rw [hg6 j, HG.out j, HTK2.out, ← List.append_assoc]
              by_cases h1 : (j : Int) ∈ pgs Mq P.b ++ pl Mq (Q.take k).flatten
              · rw [decide_eq_true h1, decide_eq_true (List.mem_append_left _ h1)]
                simp
              · by_cases h2 : (j : Int) ∈ pl Mq M
                · rw [decide_eq_true h2, decide_eq_true (List.mem_append_right _ h2)]
                  simp
                · rw [decide_eq_false h1, decide_eq_false h2, decide_eq_false (fun h => (List.mem_append.1 h).elim h1 h2)]
                  simp)
            have HK6 := Lib.hid (HKRR.out.trans hk6)
            clear hcall hl6 hg6 hk6
            go_wp2
            exact ⟨⟨k + 1, g', by omega, by go_num, HL6.out, HG6, HK6.out⟩, by simp [intOf]; omega⟩
          · have he : k = n := by omega
            subst he
            rw [List.take_of_length_le (l := Q) (by rw [HQ.out, ← HNN.out]; exact Nat.le_refl _)] at hlr HG
            have HFIN : Hid (LiesPost wq Mp Mq mb sb (Q.flatten ++ [P]) x f w (.returned (.bool true)) wr) := Lib.hid (by
              refine ⟨rfl, g, ?_, fun j => ?_, HK4.out.trans hkr⟩
              · have := hlr
                rw [HX11.out] at this
                rw [HCN1.out, HNP.out, Int.natCast_add, Int.add_comm (cntP Mp Q.flatten : Int), ← Int.add_assoc]
                exact this
              · rw [HG.out j, HPL1.out]
                congr 1
                exact decide_eq_decide.2 ⟨fun h => List.mem_append.2 (List.mem_append.1 h).symm, fun h => List.mem_append.2 (List.mem_append.1 h).symm⟩)
            clear hlr hkr hrk
            go_wp2
            go_ret
            exact HFIN.out

/-- Each page of a tree is one node's alone. -/
theorem lies_tr {wq : World} {pv qv : Value} {Mp Mq : PM} {mb sb : Nat} (hp : PgIs wq pv Mp) (hq : PgIs wq qv Mq) (hqn : ∀ b, ∀ y ∈ pgs Mq b, okNum y) : ∀ (h : Nat) (s : ST) (L : List PN), Pr wq h s L → (∀ P ∈ L, pgs Mq P.b ≠ [] ∧ (pgs Mq P.b).length ≤ 13 ∧ (pgs Mp P.b = [] ∨ pgs Mp P.b = pgs Mq P.b)) → LiesOk wq pv qv Mp Mq mb sb s.b L
  | 0, s, L, ⟨t, e⟩, hL => by
    have hat := Pr.at_ (h := 0) (s := s) (L := L) ⟨t, e⟩
    subst e
    obtain ⟨h1, h2, h3⟩ := hL ⟨s.b, 0, s.l, []⟩ (by simp)
    exact lies_gen (P := ⟨s.b, 0, s.l, []⟩) (Q := []) (hat _ (by simp)) hp hq h1 h2 hqn h3 rfl fun j k M hk _ => by simp at hk
  | h + 1, s, L, hpr, hL => by
    have hat := hpr.at_
    obtain ⟨t, ks, Q, t2, t3, t4, t5, t7, t8, t9, hq', hr, e⟩ := hpr
    subst e
    obtain ⟨h1, h2, h3⟩ := hL ⟨s.b, h + 1, [], kidsP ks⟩ (by simp)
    refine lies_gen (P := ⟨s.b, h + 1, [], kidsP ks⟩) (Q := Q) (hat _ (by simp)) hp hq h1 h2 hqn h3 (by simpa [kidsP] using hq') fun j k M hk hM => ?_
    simp only [kidsP, List.getElem?_map, Option.map_eq_some_iff] at hk
    obtain ⟨x, hx, rfl⟩ := hk
    exact lies_tr hp hq hqn h x M (hr j x M hx hM) fun P hP => hL P (List.mem_append_left _ (List.mem_flatten.2 ⟨M, List.mem_of_getElem? hM, hP⟩))

end Go.Proofs.YtmpmeifpfmobfaaGreatDoor
