/-
  NodeKeeps: what goes in and comes out are lists of their own: a node never changes; for every list; no condition beyond the row's.
-/
import Derived.Test.YtabgbbfiggnanaaNodeRow
namespace Go.Proofs.Ytabgbbfiggnanaa
open Go.RowKit Go.Sort Go.ChangeShapes Go.WideShapes
set_option linter.unusedVariables false
set_option linter.unusedSimpArgs false

theorem Es.keep {w w' : World} {A : Option Addr} {l : List Ent} (h : Es w A l) (hb : ∀ ad, A = some ad → w'.heap[ad.block]? = w.heap[ad.block]?) (hs : w.heap.size ≤ w'.heap.size) : Es w' A l := fun h0 => by
  obtain ⟨ad, e, hlt, hc⟩ := h h0
  exact ⟨ad, e, Nat.lt_of_lt_of_le hlt hs, fun j u hu => (World.cell?_of_block (w := w) (a := ad.add j) (by rw [block_of_add]; exact hb ad e)).trans (hc j u hu)⟩
/-- A node that lies beside a row that is written. -/
structure Beside (w wr : World) (A : Option Addr) (n : Nat) (b : Nat) (N : NR) (l : List Ent) : Prop where
  xr : XR wr A n
  node : NodeAt wr b N
  es : Es wr N.ea l
  below : Below w.heap.size w wr
  apart : ∀ g, A = some ⟨g, 0, none⟩ → w.heap.size ≤ g ∧ b ≠ g ∧ ∀ ad, N.ea = some ad → ad.block ≠ g
theorem Beside.set {w wr : World} {n b : Nat} {N : NR} {l : List Ent} {g : Nat} (h : Beside w wr (some ⟨g, 0, none⟩) n b N l) (j : Nat) (v : ByteArray) : Beside w (wr.setCell ⟨g, j, none⟩ (.string v)) (some ⟨g, 0, none⟩) n b N l := by
  obtain ⟨h1, h2, h3⟩ := h.apart g rfl
  exact ⟨h.xr.set _ v, h.node.keep (Below.heap_setCell wr _ _ b h2), h.es.keep (fun ad e => Below.heap_setCell wr _ _ _ (h3 ad e)) (by simp [World.setCell]), below_set h.below h1 _, h.apart⟩

/-- A key and the same one with a byte behind it. -/
theorem kl_more (k : ByteArray) : kl k (k ++ ⟨#[120]⟩) := by
  unfold kl
  rw [show (k ++ (⟨#[120]⟩ : ByteArray)).data = k.data ++ #[120] by simp, Array.toList_append]
  generalize k.data.toList = t
  induction t with
  | nil => simp
  | cons x t ih => simpa using ih
theorem okLeaf_x {k : ByteArray} (hk : keyNo k = 0) (h : okLeaf [⟨k ++ ⟨#[120]⟩, ByteArray.empty⟩] = false) : k.size = 24 := by
  have hs : (k ++ (⟨#[120]⟩ : ByteArray)).size = k.size + 1 := by simp [ByteArray.size_append]; rfl
  unfold keyNo at hk
  by_cases h0 : k.size = 0
  · rw [if_pos h0] at hk
    cases hk
  · rw [if_neg h0] at hk
    by_cases h24 : 24 < k.size
    · rw [if_pos h24] at hk
      cases hk
    · by_cases hlt : k.size < 24
      · exfalso
        have : okLeaf [⟨k ++ ⟨#[120]⟩, ByteArray.empty⟩] = true := by
          rw [okLeaf_good (by simp) (by simp) (fun e he => by
            rw [List.mem_singleton] at he
            subst he
            refine okE_good ?_ (show valNo ByteArray.empty = 0 by decide)
            unfold keyNo
            rw [hs, if_neg (by omega), if_neg (by omega)])]
          exact decide_eq_true (by simp [Sorted])
        rw [this] at h
        cases h
      · omega
theorem okLeaf_keys {l : List Ent} (h : okLeaf l = true) {e : Ent} (he : e ∈ l) : keyNo e.k = 0 := by
  simp only [okLeaf, Bool.and_eq_true, List.all_eq_true] at h
  have := h.1.2 e he
  simp only [okE, Bool.and_eq_true, decide_eq_true_eq] at this
  exact this.1
theorem keyNo_size {k : ByteArray} (h : keyNo k = 0) : k.size ≤ 24 := by
  unfold keyNo at h
  by_cases h0 : k.size = 0
  · omega
  · rw [if_neg h0] at h
    by_cases h24 : 24 < k.size
    · rw [if_pos h24] at h
      cases h
    · omega

set_option maxRecDepth 100000 in
set_option maxHeartbeats 4000000 in
theorem nodeKeeps_walk (A : Option Addr) (n c : Nat) (l : List Ent) (w : World) (ha : Arg w A n c l) :
    Calls Try.prog 4 #[.slice A n c] w fun e w' => e = .returned (.bool true) ∧ Below w.heap.size w w' := by
  have HARG := Lib.hid ha
  clear ha
  go_enter Try.func4, Try.ntmps4
  go_wp2_with fail
  refine (ndAwake_any w).mono ?_
  rintro e w1 ⟨rfl, hb1⟩
  go_wp2_with fail
  refine (ndFew_any (some ⟨w1.heap.size, 0, none⟩) 1 1 [⟨0, A, n, c, l⟩] _ (argN_one (HARG.out.below hb1))).mono ?_
  rintro e w2 ⟨hb2, r, rfl, hfew⟩
  have hbf : Below w1.heap.size w1 (w1.alloc (.cells #[.int .i64 0, .slice A n c] 29)) := (Below.refl _ _).alloc (Nat.le_refl _) _
  have HB2 := Lib.hid (bthen hb1 (bthen hbf hb2))
  clear hb1 hb2 hbf
  cases r with
  | false =>
    clear hfew
    go_wp2_with fail
    refine (ndAwake_any _).mono ?_
    rintro e wz ⟨rfl, hbz⟩
    go_wp2
    go_ret
    exact ⟨rfl, bthen HB2.out hbz⟩
  | true =>
    have hn30 : n ≤ 30 := (hfew rfl).2 _ (List.mem_singleton.2 rfl)
    clear hfew
    have HLEN := Lib.hid HARG.out.len
    have HA2 := Lib.hid (HARG.out.below HB2.out)
    go_wp2_with fail
    refine (refLeaf_any A n c l w2 HA2.out.es HLEN.out (by omega) HARG.out.strs).mono ?_
    rintro e w3 ⟨rfl, hb3⟩
    have HB3 := Lib.hid (bthen HB2.out hb3)
    have HA3 := Lib.hid (HA2.out.below hb3)
    clear hb3 HB2 HA2
    obtain ⟨r, hr⟩ : ∃ r, r = okLeaf l := ⟨_, rfl⟩
    rw [← hr]
    have HR := Lib.hid hr
    clear hr
    cases r with
    | false =>
      go_wp2_with fail
      refine (ndAwake_any _).mono ?_
      rintro e wz ⟨rfl, hbz⟩
      go_wp2
      go_ret
      exact ⟨rfl, bthen HB3.out hbz⟩
    | true =>
    have hln := okLeaf_len HR.out.symm
    rw [HLEN.out] at hln
    have hn1 : 1 ≤ n := hln.1
    have hn4 : n ≤ 4 := hln.2
    clear hln
    obtain ⟨ad, y, rfl, hy, hady, _, _⟩ := HA3.out.es.at_ (i := n - 1) (by rw [HLEN.out]; omega)
    have HY := Lib.hid hy
    have HADY := Lib.hid hady
    clear hy hady
    have hb30 : Below w3.heap.size w3 (w3.alloc (.cells #[] 36)) := (Below.refl _ _).alloc (Nat.le_refl _) _
    obtain ⟨v4, w4, h1, h2, h3⟩ := run_append_ents 27 (Own.empty w3) n c (HA3.out.es.below hb30) HLEN.out (by simp; omega) hb30.size
    rw [List.nil_append] at h2
    have HAP := Lib.hid h1
    have hb34 := (Own.empty w3).grow_below hb30 hb30.size h3
    obtain ⟨A1, c1, hv1, hc1, hes1⟩ := h2.form
    rw [HLEN.out] at hv1 hc1
    subst hv1
    have HX1 := Lib.hid (XR.of_own h2 HLEN.out)
    have HG1 := Lib.hid h2.addr_ge
    have HES1 := Lib.hid hes1
    have HB4 := Lib.hid (bthen HB3.out hb34)
    clear h1 h2 h3 hb30 hes1
    have HZ3 := Lib.hid HB3.out.size
    go_wp2_with (at_builtin; refine wpList_append_ran rfl (.tmp 31) (.tmp 32) 27 rfl _ _ _ _ rfl rfl HAP.out ?_)
    refine (leaf_any A1 n c1 l w4 HES1.out HLEN.out (by omega) HARG.out.strs).mono ?_
    rintro e w5 ⟨hb5, hres⟩
    rcases hres with ⟨_, b, N, rfl, hbb, hN, hLR, hesN, haN⟩ | ⟨hno, _⟩
    case inr =>
      rw [← HR.out] at hno
      cases hno
    have HLR := Lib.hid hLR
    have HBS : Hid (Beside w w5 A1 n b N l) := Lib.hid ⟨HX1.out.below hb5, hN, hesN, bthen HB4.out hb5, fun g hg => by
      obtain ⟨h1, h2⟩ := HG1.out _ hg
      simp only at h1 h2
      have := HZ3.out
      exact ⟨by omega, by omega, fun a ha => by have := (haN a ha).1; omega⟩⟩
    have HEN := Lib.hid (hLR.en.trans HLEN.out)
    clear hLR hN hesN haN hbb hb5 HX1
    go_wp2
    go_loopw [43] (fun i wq => ∃ j : Nat, j ≤ n ∧ i = .int .i64 j ∧ Hid (Beside w wq A1 n b N l)) (fun i _ => n - (intOf i).toNat)
    case atStart => exact ⟨0, Nat.zero_le _, rfl, HBS⟩
    case round =>
      obtain ⟨j, hj, rfl, HQ⟩ := hrel
      clear HBS
      by_cases hlt : j < n
      · obtain ⟨gq, rfl, hgl, hcs⟩ := HQ.out.xr (by omega)
        obtain ⟨⟨u, hu⟩, hfr⟩ := hcs (j * 2) (by omega)
        clear hcs
        go_wp2
        exact ⟨⟨j + 1, by omega, by go_num, Lib.hid (HQ.out.set (j * 2) _)⟩, by simp [intOf]; omega⟩
      have HE := Lib.hid HQ.out.es
      have HBQ := Lib.hid HQ.out.below
      have HN := Lib.hid HQ.out.node
      clear HQ
      go_wp2_with fail
      refine (entries_any HN.out HE.out (HLEN.out.trans HEN.out.symm) (by rw [HEN.out]; omega)).mono ?_
      rintro e w6 ⟨v6, rfl, hov6, hb6⟩
      obtain ⟨A6, c6, hv6, hc6, _⟩ := hov6.form
      rw [HLEN.out] at hv6 hc6
      subst hv6
      have HBS : Hid (Beside w w6 A6 n b N l) := Lib.hid ⟨XR.of_own hov6 HLEN.out, HN.out.below hb6, HE.out.below hb6, bthen HBQ.out hb6, fun g hg => by
        obtain ⟨h1, h2⟩ := hov6.addr_ge _ hg
        simp only at h1 h2
        have h3 := HN.out.lt
        have h4 := HBQ.out.size
        refine ⟨by omega, by omega, fun a ha => ?_⟩
        obtain ⟨a', e', hlt', _⟩ := HE.out (by rw [HLEN.out]; omega)
        rw [ha] at e'
        cases e'
        omega⟩
      clear hov6 hb6 HN HE HBQ
      go_wp2
      go_loopw [55] (fun i wq => ∃ j : Nat, j ≤ n ∧ i = .int .i64 j ∧ Hid (Beside w wq A6 n b N l)) (fun i _ => n - (intOf i).toNat)
      case atStart => exact ⟨0, Nat.zero_le _, rfl, HBS⟩
      case round =>
        obtain ⟨j, hj, rfl, HQ⟩ := hrel
        clear HBS
        by_cases hlt : j < n
        · obtain ⟨gq, rfl, hgl, hcs⟩ := HQ.out.xr (by omega)
          obtain ⟨⟨u, hu⟩, hfr⟩ := hcs (j * 2 + 1) (by omega)
          clear hcs
          go_wp2
          exact ⟨⟨j + 1, by omega, by go_num, Lib.hid (HQ.out.set (j * 2 + 1) _)⟩, by simp [intOf]; omega⟩
        have HE := Lib.hid HQ.out.es
        have HBQ := Lib.hid HQ.out.below
        have HN := Lib.hid HQ.out.node
        clear HQ
        go_wp2_with fail
        refine (entries_any HN.out HE.out (HLEN.out.trans HEN.out.symm) (by rw [HEN.out]; omega)).mono ?_
        rintro e w7 ⟨v7, rfl, hov7, hb7⟩
        obtain ⟨A7, c7, hv7, hc7, hes7⟩ := hov7.form
        rw [HLEN.out] at hv7 hc7
        subst hv7
        have HB7 := Lib.hid (bthen HBQ.out hb7)
        have HN7 := Lib.hid (HN.out.below hb7)
        have HE7 := Lib.hid hes7
        clear hov7 hb7 HN HE HBQ hes7
        go_wp2_with fail
        refine (same_any A7 (some ad) n c7 c l w7 HE7.out (HARG.out.below HB7.out).es HLEN.out (by omega)).mono ?_
        rintro e w8 ⟨rfl, hb8⟩
        have HB8 := Lib.hid (bthen HB7.out hb8)
        have HN8 := Lib.hid (HN7.out.below hb8)
        clear hb8 HB7 HN7 HE7
        obtain ⟨ad', y', e', hy', hla, q1, _⟩ := (HARG.out.below HB8.out).es.at_ (i := n - 1) (by rw [HLEN.out]; omega)
        cases e'
        rw [HY.out] at hy'
        cases hy'
        have hky := okLeaf_keys HR.out.symm (List.mem_of_getElem? HY.out)
        have hks := keyNo_size hky
        have hsx : (y.k ++ (⟨#[120]⟩ : ByteArray)).size = y.k.size + 1 := by simp [ByteArray.size_append]; rfl
        have HKY := Lib.hid hky
        have HSX := Lib.hid hsx
        clear hky hsx
        go_wp2_with fail
        refine (leaf_any (some ⟨w8.heap.size, 0, none⟩) 1 1 [⟨y.k ++ ⟨#[120]⟩, ByteArray.empty⟩] _ (box_es w8 ⟨y.k ++ ⟨#[120]⟩, ByteArray.empty⟩ 36) rfl (by omega) (fun e he => by
          rw [List.mem_singleton] at he
          subst he
          simp only [HSX.out]
          exact ⟨by omega, by decide⟩)).mono ?_
        rintro e w9 ⟨hb9, hres⟩
        have hbf : Below w8.heap.size w8 (w8.alloc (.cells #[.string (y.k ++ ⟨#[120]⟩), .string ⟨#[]⟩] 36)) := (Below.refl _ _).alloc (Nat.le_refl _) _
        have hb89 := bthen hbf hb9
        have HB9 := Lib.hid (bthen HB8.out hb89)
        have HN9 := Lib.hid (HN8.out.below hb89)
        rcases hres with ⟨_, m, M, rfl, hmb, hM, hLM, _⟩ | ⟨hno, rfl⟩
        case inr =>
          have h24 := okLeaf_x HKY.out hno
          have q2 := ((hb89.cell (by rw [block_of_add]; exact hla)).trans q1)
          clear hb9 hbf hb89 hno q1 HKY HSX hks
          go_wp2
          go_ret
          exact ⟨by simp [h24], HB9.out⟩
        have HM := Lib.hid hM
        have HLM := Lib.hid hLM
        have hbm : b ≠ m := by
          have h1 := HN8.out.lt
          have h2 := hbf.size
          omega
        clear hM hLM hmb hb9 hbf hb89 HN8 HB8 q1
        have hkr : krs [(b, N), (m, M)] = [N.kr, M.kr] := rfl
        have hhi : N.hi = y.k := HLR.out.hi y (by rw [HLEN.out]; exact HY.out)
        have hlo : M.lo = y.k ++ ⟨#[120]⟩ := HLM.out.lo _ rfl
        have hok : okBr (krs [(b, N), (m, M)]) = true := by
          rw [hkr]
          have e1 := HLR.out.h
          have e2 := HLM.out.h
          simp [okBr, adjK, NR.kr, e1, e2, hhi, hlo, kl_more]
        have HOK := Lib.hid hok
        have HTM := Lib.hid (show Tame [(b, N), (m, M)] from fun z hz => by
          have e1 := HLR.out.h
          have e2 := HLM.out.h
          have e3 := HLR.out.kn
          have e4 := HLM.out.kn
          have e5 := HEN.out
          have e6 := HLM.out.en
          simp only [List.length_singleton] at e6
          simp only [List.mem_cons, List.not_mem_nil, or_false] at hz
          rcases hz with rfl | rfl <;> simp only <;> omega)
        clear hkr hhi hlo hok HKY HSX hks
        obtain ⟨wa, hwa⟩ : ∃ wa, wa = w9.alloc (.cells #[pn b, pn m] 30) := ⟨_, rfl⟩
        have hba : Below w9.heap.size w9 wa := by rw [hwa]; exact (Below.refl _ _).alloc (Nat.le_refl _) _
        have hblk : wa.heap[w9.heap.size]? = some (.cells #[pn b, pn m] 30 (0, 0)) := by rw [hwa]; exact heap_alloc_new w9 _
        have HBK := Lib.hid hblk
        have HLSA := Lib.hid (show Ls pcP wa (some ⟨w9.heap.size, 0, none⟩) (ptrs [(b, N), (m, M)]) from fun _ => ⟨_, rfl, by rw [hwa]; simp, fun j u hu => by rw [hwa]; exact new_row w9 #[pn b, pn m] _ j u (by simpa [ptrs, pcP, ptr] using hu)⟩)
        have HALL := Lib.hid (show All wa [(b, N), (m, M)] from fun z hz => by
          simp only [List.mem_cons, List.not_mem_nil, or_false] at hz
          rcases hz with rfl | rfl
          · exact HN9.out.below hba
          · exact HM.out.below hba)
        have HWA := Lib.hid (show w9.alloc (.cells #[.pointer (some ⟨b, 0, none⟩), .pointer (some ⟨m, 0, none⟩)] 30) = wa from hwa.symm)
        have HBA := Lib.hid (bthen HB9.out hba)
        have hzz : w.heap.size ≤ w9.heap.size := HB9.out.size
        clear hwa hba hblk HN9 HM HB9
        generalize hkd : w9.heap.size = gk at *
        go_wp2_with fail
        rw [HWA.out]
        refine (branch_any (some ⟨gk, 0, none⟩) 2 2 [(b, N), (m, M)] wa HLSA.out rfl (by omega) (by omega) HALL.out HTM.out).mono ?_
        rintro e w10 ⟨hb10, hres⟩
        rcases hres with ⟨_, x, X, rfl, hxb, hX, hBX, hlsX, haX⟩ | ⟨hno, _⟩
        case inr =>
          rw [HOK.out] at hno
          cases hno
        have hgk := (hb10.block gk (lt_of_block HBK.out)).trans HBK.out
        have hck := cell_row hgk 0 (.pointer (some ⟨b, 0, none⟩)) rfl
        have hfk : w10.frozen? ⟨gk, 0, none⟩ = false := by simp [World.frozen?, hgk]
        have hlt : gk < wa.heap.size := lt_of_block HBK.out
        have hX2 : NodeAt (w10.setCell ⟨gk, 0, none⟩ (.pointer none)) x X := hX.keep (Below.heap_setCell w10 _ _ x (by show x ≠ gk; omega))
        have hls2 : Ls pcP (w10.setCell ⟨gk, 0, none⟩ (.pointer none)) X.ka (ptrs [(b, N), (m, M)]) := hlsX.keep (fun a e => Below.heap_setCell w10 _ _ _ (by have := (haX a e).1; show a.block ≠ gk; omega)) (by simp [World.setCell])
        have hbe2 : Below w.heap.size w (w10.setCell ⟨gk, 0, none⟩ (.pointer none)) := below_set (bthen HBA.out hb10) (p := ⟨gk, 0, none⟩) hzz _
        have HX2 := Lib.hid hX2
        have HL2 := Lib.hid hls2
        have HB2 := Lib.hid hbe2
        have HKN := Lib.hid (show (ptrs [(b, N), (m, M)]).length = X.kn by rw [hBX.kn]; rfl)
        have HKN2 := Lib.hid (show X.kn ≤ 1000000 by rw [hBX.kn]; simp)
        clear hgk hX2 hls2 hbe2 hX hBX hlsX haX hxb hb10 HBA HLSA HALL HBK HTM HOK HWA hkd hlt hzz
        go_wp2_with fail
        generalize w10.setCell ⟨gk, 0, none⟩ (.pointer none) = w11 at *
        clear hck hfk
        refine (kids_any HX2.out HL2.out HKN.out HKN2.out).mono ?_
        rintro e w12 ⟨v12, rfl, hov, hb12⟩
        obtain ⟨A12, c12, rfl, hc12, hls12⟩ := hov.form
        rw [ptrs_len]
        rcases hov.2 with ⟨_, h0⟩ | ⟨g, cap, cur, hv, hgb, hh, hnc, hcm, hcs, htk⟩
        · simp [ptrs] at h0
        simp only [Value.slice.injEq] at hv
        obtain ⟨rfl, _, rfl⟩ := hv
        obtain ⟨ad12, p12, e12, _, _, hc12a⟩ := hls12.node_at (i := 1) (by simp)
        cases e12
        have hcell : w12.cell? ⟨g, 1, none⟩ = some (pn p12.1) := hc12a
        have hfk : w12.frozen? ⟨g, 1, none⟩ = false := by simp [World.frozen?, hh]
        have hX2 : NodeAt (w12.setCell ⟨g, 1, none⟩ (.pointer none)) x X := (HX2.out.below hb12).keep (Below.heap_setCell w12 _ _ x (by have := HX2.out.lt; show x ≠ g; omega))
        have hls2 : Ls pcP (w12.setCell ⟨g, 1, none⟩ (.pointer none)) X.ka (ptrs [(b, N), (m, M)]) := (HL2.out.below hb12).keep (fun a e => Below.heap_setCell w12 _ _ _ (by
          obtain ⟨a', e', hlt', _⟩ := HL2.out (by simp [ptrs])
          rw [e] at e'
          cases e'
          show a.block ≠ g
          omega)) (by simp [World.setCell])
        have hbe2 : Below w.heap.size w (w12.setCell ⟨g, 1, none⟩ (.pointer none)) := below_set (bthen HB2.out hb12) (p := ⟨g, 1, none⟩) (by have := HB2.out.size; show w.heap.size ≤ g; omega) _
        have HX3 := Lib.hid hX2
        have HL3 := Lib.hid hls2
        have HB3' := Lib.hid hbe2
        clear hX2 hls2 hbe2 hov hls12 hc12a hgb hh hnc hcm hcs htk HX2 HL2 HB2 hb12 hc12
        go_wp2_with fail
        generalize w12.setCell ⟨g, 1, none⟩ (.pointer none) = w13 at *
        clear hcell hfk
        refine (kids_any HX3.out HL3.out HKN.out HKN2.out).mono ?_
        rintro e w14 ⟨v14, rfl, hov, hb14⟩
        obtain ⟨A14, c14, rfl, hc14, hls14⟩ := hov.form
        rw [ptrs_len]
        obtain ⟨a0, p0, e0, hp0, _, hd0⟩ := hls14.node_at (i := 0) (by simp)
        subst e0
        obtain ⟨a1, p1, e1, hp1, _, hd1⟩ := hls14.node_at (i := 1) (by simp)
        cases e1
        simp only [List.getElem?_cons_zero, List.getElem?_cons_succ, Option.some.injEq] at hp0 hp1
        subst hp0 hp1
        rw [show a0.add 0 = a0 by simp [Addr.add]] at hd0
        have hd1' : w14.cell? ⟨a0.block, a0.off + 1, none⟩ = some (.pointer (some ⟨m, 0, none⟩)) := hd1
        have HB14 := Lib.hid (bthen HB3'.out hb14)
        have hq1 := eql_ptr_same ⟨b, 0, none⟩
        have hq2 := eql_ptr_same ⟨m, 0, none⟩
        clear hov hls14 hc14 hb14 hd1
        go_wp2
        go_ret
        exact ⟨rfl, HB14.out⟩

end Go.Proofs.Ytabgbbfiggnanaa

namespace Go.Proofs.Ytabgbbfiggnanaa.nodeKeeps
open Go.ChangeShapes Go.WideShapes Go.ChangeAt Go.RowKit
open Go.ChangeMaps (open_string shut_string)
set_option linter.unusedVariables false

theorem own : ownKnob Try.prog.godebug = none := by kernel_rfl
theorem laidOut : laidOutB Try.prog = true := by kernel_rfl

set_option maxRecDepth 100000 in
theorem lifted (os : Os) (started : os.Started) (H : Type) (enc : TypeId × Value → H) :
    ReturnsInHanded {} Try.checked os 4 .any (Rows.nodeKeepsSpec.pre6 enc Try.prog Try.f4 Rows.nodeKeepsRow.domain false) (Rows.nodeKeepsSpec.post enc Try.prog Try.f4 false true false false) := by
  refine returnsInHanded_of_change_sized (C := Try.checked) own started (by kernel_rfl) Try.func4
    (ChangeSpec.witness6 (enc := enc) (C := Try.checked) false ⟨#[], #[.slice none 0 0], []⟩ 8 (by kernel_rfl) (by kernel_rfl) (by kernel_rfl) (by kernel_rfl)) ?_
  intro W base args ds gs before hval0 hW hcnd hsz0 _
  have hval : ∀ (j : Nat) t v, Try.f4.params[j]? = some t → args[j]? = some v → Value.okWide Try.prog W .any base t v := hval0
  have hsz : (DataW.weightsEach Try.prog (Try.f4.params.toList ++ Rows.nodeKeepsSpec.plain.varTypes Try.prog) (ds ++ gs)).all (· ≤ reachBytes) = true := hsz0
  have hW' := hW
  obtain ⟨p, q, hA0, hV, rfl, hfz, hnd⟩ := hW
  have hA : DataW.TrodAll enc Try.prog W 0 (fun _ => true) true Try.f4.params.toList args.toList ds p := hA0
  rw [Try.params4] at hA hval hsz
  obtain ⟨v0, vs0, d0, ds0, p0, q0, hargs, rfl, rfl, h0, r0⟩ := trodAll_cons hA
  obtain ⟨rfl, rfl, rfl⟩ := trodAll_nil r0
  obtain rfl : args = #[v0] := by cases args; simp_all
  obtain ⟨rfl, rfl⟩ := trodVars_none hV
  obtain ⟨A0, n0, c0, rfl⟩ := okWide_slice Try.underlying27 (hval 0 27 v0 rfl rfl)
  have k0 := h0
  have lt0 : ∀ x ∈ p0, x.block < W.heap.size := by obtain ⟨m, hm⟩ := k0; exact DataW.trod_lt m _ _ _ hm
  obtain ⟨l0, w0⟩ := open_ents h0 (fun m hm => of_decide_eq_true (List.all_eq_true.1 hsz _ (DataW.weights_mem_each (j := 0) (t := 27) rfl rfl m hm)))
  clear hA0 hval0 hsz hsz0
  refine (nodeKeeps_walk A0 n0 c0 l0 W w0).mono fun e W' ⟨he, bel⟩ => ?_
  subst he
  exact ⟨_, rfl, _, _, _, [], _, [], hW', trodAll_mk1 (shut_bool Try.underlying4 _), (trodAll_cons_mk (Below.trod laidOut (by kernel_rfl) (of_decide_eq_true (by kernel_rfl)) k0 bel lt0) trodAll_mk0), rfl, bel.frame _, fun h => by cases h⟩

theorem over : Rows.nodeKeepsRow.holds Try.pinned (OpenSpec.ofChange Rows.nodeKeepsSpec) :=
  OpenClaim.holds_of_wide 4 Try.f4 rfl rfl rfl rfl rfl rfl rfl ⟨rfl, rfl, rfl, rfl, rfl⟩ rfl rfl rfl rfl rfl (by kernel_rfl) Try.func4 (by kernel_rfl)
    (of_decide_eq_true (by kernel_rfl)) (by unfold Func.isWrapper; first | (rw [if_pos (by decide +kernel)]; kernel_rfl) | (rw [if_neg (by decide +kernel)]; exact ⟨rfl, rfl⟩))
    (fun os started H enc _ => lifted os started H enc)

theorem proved : Rows.NodeKeepsSaid := over
#print axioms proved

end Go.Proofs.Ytabgbbfiggnanaa.nodeKeeps
