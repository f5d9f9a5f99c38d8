/-
  NodeOrder: kids in any other order than that of their keys can't be a branch; in theirs they can, whatever their entries' values; no condition beyond the row's.
-/
import Derived.Test.YtabgbbfiggnanaaNodeRow
namespace Go.Proofs.Ytabgbbfiggnanaa
open Go.RowKit Go.Sort Go.ChangeShapes Go.WideShapes
set_option linter.unusedVariables false
set_option linter.unusedSimpArgs false

/-- The kids that are laid: leaves of one entry each. -/
structure Ones (w wr : World) (v : Value) (l : List Ent) (k : Nat) (L : List (Nat × NR)) : Prop where
  row : Row wr w.heap.size v L
  krs : krs L = (l.take k).map oneK
  tame : Tame L
  below : Below w.heap.size w wr
theorem Ones.len {w wr : World} {v : Value} {l : List Ent} {k : Nat} {L : List (Nat × NR)} (h : Ones w wr v l k L) (hk : k ≤ l.length) : L.length = k := by
  have := congrArg List.length h.krs
  rw [krs_len, List.length_map, List.length_take] at this
  omega
theorem Ones.more {w wr w1 : World} {v v' : Value} {l : List Ent} {k : Nat} {L : List (Nat × NR)} (h : Ones w wr v l k L) {e : Ent} (he : l[k]? = some e) {b : Nat} {N : NR} (hN : LeafR N [e]) (hr : Row w1 w.heap.size v' (L ++ [(b, N)])) (hb : Below w.heap.size w w1) : Ones w w1 v' l (k + 1) (L ++ [(b, N)]) := by
  refine ⟨hr, ?_, ?_, hb⟩
  · rw [krs_append, h.krs, List.take_add_one, he, List.map_append]
    show _ ++ [N.kr] = _
    rw [kr_one hN]
    rfl
  · intro x hx
    rcases List.mem_append.1 hx with hx | hx
    · exact h.tame x hx
    · rw [List.mem_singleton] at hx
      subst hx
      have h1 := hN.h
      have h2 := hN.en
      have h3 := hN.kn
      simp only [List.length_singleton] at h2
      simp only
      omega

set_option maxRecDepth 100000 in
set_option maxHeartbeats 4000000 in
theorem nodeOrder_walk (A : Option Addr) (n c : Nat) (l : List Ent) (y1 y2 : Int) (w : World) (ha : Arg w A n c l) (hy1 : (Lit.int .u8 y1).wf = true) (hy2 : (Lit.int .u8 y2).wf = true) :
    Calls Try.prog 6 #[.slice A n c, .int .u8 y1, .int .u8 y2] w fun e w' => e = .returned (.bool true) ∧ Below w.heap.size w w' := by
  obtain ⟨i, hi, rfl⟩ := byte_of hy1
  obtain ⟨k, hk, rfl⟩ := byte_of hy2
  clear hy1 hy2
  have HARG := Lib.hid ha
  clear ha
  go_enter Try.func6, Try.ntmps6
  go_wp2_with fail
  refine (ndAwake_any w).mono ?_
  rintro e w1 ⟨rfl, hb1⟩
  go_wp2_with fail
  refine (ndFew_any (some ⟨w1.heap.size, 0, none⟩) 1 1 [⟨0, A, n, c, l⟩] _ (argN_one (HARG.out.below hb1))).mono ?_
  rintro e w2 ⟨hb2, r, rfl, hfew⟩
  have hbf : Below w1.heap.size w1 (w1.alloc (.cells #[.int .i64 0, .slice A n c] 29)) := (Below.refl _ _).alloc (Nat.le_refl _) _
  have HB2 := Lib.hid (bthen hb1 (bthen hbf hb2))
  clear hb1 hb2 hbf
  cases r with
  | false =>
    clear hfew
    go_wp2_with fail
    refine (ndAwake_any _).mono ?_
    rintro e wz ⟨rfl, hbz⟩
    go_wp2
    go_ret
    exact ⟨rfl, bthen HB2.out hbz⟩
  | true =>
    have hn30 : n ≤ 30 := (hfew rfl).2 _ (List.mem_singleton.2 rfl)
    clear hfew
    by_cases h2 : n < 2
    · go_wp2_with fail
      refine (ndAwake_any _).mono ?_
      rintro e wz ⟨rfl, hbz⟩
      go_wp2
      go_ret
      exact ⟨rfl, bthen HB2.out hbz⟩
    by_cases h6 : 6 < n
    · go_wp2_with fail
      refine (ndAwake_any _).mono ?_
      rintro e wz ⟨rfl, hbz⟩
      go_wp2
      go_ret
      exact ⟨rfl, bthen HB2.out hbz⟩
    have hlen := HARG.out.len
    have HLEN := Lib.hid hlen
    clear hlen
    have HA2 := Lib.hid (HARG.out.below HB2.out)
    go_wp2_with fail
    refine (refRise_any A n c l w2 HA2.out.es HLEN.out (by omega)).mono ?_
    rintro e w3 ⟨rfl, hb3⟩
    have HB3 := Lib.hid (bthen HB2.out hb3)
    have HA3 := Lib.hid (HA2.out.below hb3)
    clear hb3 HB2 HA2
    by_cases hs : Sorted l
    case neg =>
      rw [decide_eq_false hs]
      clear hs
      go_wp2_with fail
      refine (ndAwake_any _).mono ?_
      rintro e wz ⟨rfl, hbz⟩
      go_wp2
      go_ret
      exact ⟨rfl, bthen HB3.out hbz⟩
    rw [decide_eq_true hs]
    have HS := Lib.hid hs
    clear hs
    go_wp2
    simp only [show decide ((n : Int) < 2) = false from decide_eq_false (by omega), show decide ((6 : Int) < n) = false from decide_eq_false (by omega), Bool.or_self]
    go_loopw [7, 44] (fun s7 s44 wr => ∃ q : Nat, q ≤ n ∧ s44 = .int .i64 q ∧ Hid (∃ L, Ones w wr s7 l q L)) (fun _ s44 _ => n - (intOf s44).toNat)
    case atStart => exact ⟨0, Nat.zero_le _, rfl, Lib.hid ⟨[], Row.nil_ _ _ HB3.out.size, rfl, (fun x hx => by cases hx), HB3.out⟩⟩
    case round =>
      obtain ⟨q, hq, rfl, HO⟩ := hrel
      obtain ⟨L, hO⟩ := HO.out
      have HL := Lib.hid hO
      clear hO HO
      by_cases hlt : q < n
      · obtain ⟨ad, x, rfl, hx, hl, x1, x2⟩ := (HARG.out.below HL.out.below).es.at_ (i := q) (by rw [HLEN.out]; exact hlt)
        have hs1 := HARG.out.strs x (List.mem_of_getElem? hx)
        have HX := Lib.hid hx
        clear hx
        go_wp2_with fail
        refine (leaf_any (some ⟨wr.heap.size, 0, none⟩) 1 1 [x] _ (box_es wr x 36) rfl (by omega) (fun e he => by rw [List.mem_singleton] at he; subst he; exact hs1)).mono ?_
        rintro e w4 ⟨hb4, hres⟩
        have hbf : Below wr.heap.size wr (wr.alloc (.cells #[.string x.k, .string x.v] 36)) := (Below.refl _ _).alloc (Nat.le_refl _) _
        have hb5 := bthen hbf hb4
        rcases hres with ⟨_, b, N, rfl, hbb, hN, hLR, _⟩ | ⟨_, rfl⟩
        · have hrow := HL.out.row.below hb5
          obtain ⟨w5, hw5⟩ : ∃ w5, w5 = w4.alloc (.cells #[pn b] 30) := ⟨_, rfl⟩
          have hb6 : Below w4.heap.size w4 w5 := by rw [hw5]; exact (Below.refl _ _).alloc (Nat.le_refl _) _
          have hk5 : w5.heap[w4.heap.size]? = some (.cells #[pn b] 30 (0, 0)) := by rw [hw5]; exact heap_alloc_new w4 _
          have hLn := HL.out.len (by rw [HLEN.out]; omega)
          obtain ⟨v', w6, hrun, hrow6, hg6, _⟩ := (hrow.below hb6).push (hN.below hb6) (fun g hg e => by
            have h1 := HL.out.row.own.lt g hg
            have h2 := hbf.size
            omega) (by omega) hk5
          rw [hw5] at hrun
          have HR := Lib.hid hrun
          have hbe : Below w.heap.size w w6 := (hrow.below hb6).grow_below (bthen HL.out.below (bthen hb5 hb6)) hg6
          have HM := Lib.hid (HL.out.more HX.out hLR hrow6 hbe)
          clear hrow hw5 hb6 hk5 hrun hrow6 hg6 hbe hLR hN hbb hb4 hbf hb5 hLn x1 x2 hs1
          go_wp2_with (at_builtin; refine wpList_append_ran rfl (.tmp 58) (.tmp 60) 25 rfl _ _ _ _ rfl rfl HR.out ?_)
          exact ⟨⟨q + 1, by omega, by go_num, Lib.hid ⟨_, HM.out⟩⟩, by simp [intOf]; omega⟩
        · have HBE := Lib.hid (bthen HL.out.below hb5)
          clear hbf hb4 hb5 x1 x2 hs1
          go_wp2
          go_ret
          exact ⟨rfl, HBE.out⟩
      · have he : q = n := by omega
        subst he
        have hLn := HL.out.len (by rw [HLEN.out]; exact Nat.le_refl _)
        obtain ⟨A7, c7, rfl, hc7, hls7⟩ := HL.out.row.form
        have hrq := HL.out.row
        rw [hLn] at hc7 hrq ⊢
        have HRQ := Lib.hid hrq
        clear hrq
        have HLN := Lib.hid hLn
        have HLS7 := Lib.hid hls7
        have hkr : krs L = l.map oneK := by rw [HL.out.krs, List.take_of_length_le (by rw [HLEN.out]; exact Nat.le_refl _)]
        have HKR := Lib.hid hkr
        clear hLn hls7 hkr
        go_wp2_with fail
        refine (branch_any A7 q c7 L wr HLS7.out HLN.out hc7 (by omega) HL.out.row.all HL.out.tame).mono ?_
        rintro e w4 ⟨hb4, hres⟩
        rcases hres with ⟨_, b, N, rfl, hbb, hN, hBR, hlk, hkad⟩ | ⟨hno, rfl⟩
        case inr =>
          rw [HKR.out, okBr_ones (by rw [HLEN.out]; omega) (by rw [HLEN.out]; omega), decide_eq_true HS.out] at hno
          cases hno
        have hsz : N.en + N.kn = q := by rw [hBR.en, hBR.kn, HLN.out]; omega
        have hlkt : N.lk = true := by
          rw [hBR.lk, HKR.out]
          cases l with
          | nil => have := HLEN.out; simp at this; omega
          | cons e l => simp [oneK, goodK]
        have HN := Lib.hid hN
        have HKL := Lib.hid hlk
        have HKA := Lib.hid hkad
        have HKN := Lib.hid (show (ptrs L).length = N.kn by rw [hBR.kn, ptrs_len])
        have HSZ := Lib.hid hsz
        have HLK := Lib.hid hlkt
        have HR4 := Lib.hid (HRQ.out.below hb4)
        have HB4 := Lib.hid (bthen HL.out.below hb4)
        have HBB := Lib.hid hbb
        have HWS := Lib.hid hb4.size
        have HTM := Lib.hid HL.out.tame
        have HLT := Lib.hid HL.out.row.own.lt
        clear hN hlk hkad hsz hlkt hb4 hBR hbb
        go_wp2_with fail
        refine (size_any HN.out (by rw [HSZ.out]; omega)).mono ?_
        rintro e w5 ⟨rfl, nq, rfl⟩
        rw [HSZ.out]
        go_wp2_with fail
        refine (full_any (HN.out.drewN nq)).mono ?_
        rintro e w5 ⟨rfl, rfl⟩
        rw [HLK.out]
        have hd1 : Below w4.heap.size w4 (w4.drewN nq) := below_drewN (Below.refl _ _) nq
        have HR5 := Lib.hid (HR4.out.below hd1)
        have HB5 := Lib.hid (bthen HB4.out hd1)
        have HN5 := Lib.hid (HN.out.drewN nq)
        have HKL5 := Lib.hid (HKL.out.below hd1)
        have HS5 := Lib.hid (show w4.heap.size ≤ (w4.drewN nq).heap.size from hd1.size)
        clear hd1 HR4 HB4 HN HKL
        generalize w4.drewN nq = w5 at *
        obtain ⟨x, hxd⟩ : ∃ x, x = i % q := ⟨_, rfl⟩
        obtain ⟨y, hyd⟩ : ∃ y, y = k % q := ⟨_, rfl⟩
        have hxq : x < q := by rw [hxd]; exact Nat.mod_lt _ (by omega)
        have hyq : y < q := by rw [hyd]; exact Nat.mod_lt _ (by omega)
        have hxi : (i : Int).tmod (q : Int) = (x : Int) := by rw [hxd, Int.natCast_emod]; exact Int.tmod_eq_emod_of_nonneg (by omega)
        have hyi : (k : Int).tmod (q : Int) = (y : Int) := by rw [hyd, Int.natCast_emod]; exact Int.tmod_eq_emod_of_nonneg (by omega)
        have hxj : (i : Int) % (q : Int) = (x : Int) := by rw [hxd, Int.natCast_emod]
        have hyj : (k : Int) % (q : Int) = (y : Int) := by rw [hyd, Int.natCast_emod]
        clear hxd hyd
        go_wp2
        go_quiet (fail)
        have hd2 : Below w5.heap.size w5 (w5.drewN nq) := below_drewN (Below.refl _ _) nq
        have HR6 := Lib.hid (HR5.out.below hd2)
        have HB6 := Lib.hid (bthen HB5.out hd2)
        have HN6 := Lib.hid (HN5.out.below hd2)
        have HKL6 := Lib.hid (HKL5.out.below hd2)
        clear hd2 HR5 HB5 HN5 HKL5
        generalize w5.drewN nq = w6 at *
        obtain ⟨g, rfl, hgb, hgs, hfz, hcl⟩ := HR6.out.block (by rw [HLN.out]; omega)
        have hgr : g < wr.heap.size := HRQ.out.own.lt g rfl
        obtain ⟨nx, hnx⟩ : ∃ z, L[x]? = some z := ⟨_, List.getElem?_eq_getElem (by rw [HLN.out]; exact hxq)⟩
        obtain ⟨ny, hny⟩ : ∃ z, L[y]? = some z := ⟨_, List.getElem?_eq_getElem (by rw [HLN.out]; exact hyq)⟩
        obtain ⟨ex, hex⟩ : ∃ z, l[x]? = some z := ⟨_, List.getElem?_eq_getElem (by rw [HLEN.out]; exact hxq)⟩
        obtain ⟨ey, hey⟩ : ∃ z, l[y]? = some z := ⟨_, List.getElem?_eq_getElem (by rw [HLEN.out]; exact hyq)⟩
        have HEX := Lib.hid hex
        have HEY := Lib.hid hey
        have cx := hcl x nx hnx
        have cy := hcl y ny hny
        have fx := hfz x
        have fy := hfz y
        have hsw := HR6.out.swap hnx hny
        obtain ⟨w8, hw8⟩ : ∃ w8, w8 = ((w6.setCell ⟨g, x, none⟩ (pn ny.1)).setCell ⟨g, y, none⟩ (pn nx.1)).drew := ⟨_, rfl⟩
        rw [← hw8] at hsw
        have HSW := Lib.hid hsw
        have HW8 := Lib.hid (show ((w6.setCell ⟨g, x, none⟩ (.pointer (some ⟨ny.1, 0, none⟩))).setCell ⟨g, y, none⟩ (.pointer (some ⟨nx.1, 0, none⟩))).drew = w8 from hw8.symm)
        have HNN := Lib.hid (show x = y → nx = ny ∧ ex = ey from fun h => by
          subst h
          rw [hnx] at hny
          rw [hex] at hey
          exact ⟨Option.some.inj hny, Option.some.inj hey⟩)
        clear hsw hw8
        have HLS8 := Lib.hid (show Ls pcP w8 (some ⟨g, 0, none⟩) (ptrs ((L.set x ny).set y nx)) by
          obtain ⟨A', c', e, _, hl'⟩ := HSW.out.row.form
          simp only [Value.slice.injEq] at e
          rw [← e.1] at hl'
          exact hl')
        have HTM8 := Lib.hid (show Tame ((L.set x ny).set y nx) from fun z hz => by
          rcases List.mem_or_eq_of_mem_set hz with hz | rfl
          · rcases List.mem_or_eq_of_mem_set hz with hz | rfl
            · exact HTM.out z hz
            · exact HTM.out _ (List.mem_of_getElem? hny)
          · exact HTM.out _ (List.mem_of_getElem? hnx))
        have HKR8 := Lib.hid (Ones.swap_krs HKR.out hnx hny hex hey)
        have HN8 := Lib.hid (HN6.out.keep (HSW.out.other b (by have := HBB.out; omega)))
        have HKL8 := Lib.hid (HKL6.out.keep (fun ad e => HSW.out.other _ (by have := (HKA.out ad e).1; omega)) (Nat.le_of_eq HSW.out.size.symm))
        have HB8 := Lib.hid (HSW.out.below _ HB6.out hgb)
        clear hnx hny hex hey hcl hfz HN6 HKL6 HR6 HB6
        by_cases hxy : x = y
        · subst hxy
          obtain ⟨rfl, rfl⟩ := HNN.out rfl
          go_wp2
          go_region
          rw [HW8.out]
          go_wp2_with fail
          refine (branch_any (some ⟨g, 0, none⟩) q c7 ((L.set x nx).set x nx) _ HLS8.out (by simp [HLN.out]) hc7 (by omega) HSW.out.row.all HTM8.out).mono ?_
          rintro e w9 ⟨hb9, hres⟩
          rcases hres with ⟨_, b9, N9, rfl, _, _, _⟩ | ⟨hno, rfl⟩
          case inr =>
            rw [HKR8.out, okBr_ones (by simp [HLEN.out]; omega) (by simp [HLEN.out]; omega), decide_eq_true ((sorted_swap HS.out HEX.out HEY.out).2 rfl)] at hno
            cases hno
          have HN9 := Lib.hid (HN8.out.below hb9)
          have HKL9 := Lib.hid (HKL8.out.below hb9)
          have HB9 := Lib.hid (bthen HB8.out hb9)
          clear hb9
          go_wp2_with fail
          refine (kids_any HN9.out HKL9.out HKN.out (by have := HKN.out; rw [ptrs_len, HLN.out] at this; omega)).mono ?_
          rintro e w10 ⟨v10, rfl, hov, hb10⟩
          obtain ⟨A10, c10, rfl, hc10, hls10⟩ := hov.form
          obtain ⟨ad10, n10, rfl, _, _, hcell10⟩ := hls10.node_at (i := x) (by rw [HLN.out]; exact hxq)
          rw [ptrs_len, HLN.out]
          have HB10 := Lib.hid (bthen HB9.out hb10)
          clear hov hc10 hls10 hb10
          go_wp2
          go_ret
          exact ⟨by simp, HB10.out⟩
        · go_wp2
          go_region
          rw [HW8.out]
          go_wp2_with fail
          refine (branch_any (some ⟨g, 0, none⟩) q c7 ((L.set x ny).set y nx) _ HLS8.out (by simp [HLN.out]) hc7 (by omega) HSW.out.row.all HTM8.out).mono ?_
          rintro e w9 ⟨hb9, hres⟩
          rcases hres with ⟨hno, b9, N9, rfl, _⟩ | ⟨_, rfl⟩
          case inl =>
            rw [HKR8.out, okBr_ones (by simp [HLEN.out]; omega) (by simp [HLEN.out]; omega), decide_eq_false (fun h => hxy ((sorted_swap HS.out HEX.out HEY.out).1 h))] at hno
            cases hno
          have HN9 := Lib.hid (HN8.out.below hb9)
          have HKL9 := Lib.hid (HKL8.out.below hb9)
          have HB9 := Lib.hid (bthen HB8.out hb9)
          clear hb9
          go_wp2_with fail
          refine (kids_any HN9.out HKL9.out HKN.out (by have := HKN.out; rw [ptrs_len, HLN.out] at this; omega)).mono ?_
          rintro e w10 ⟨v10, rfl, hov, hb10⟩
          obtain ⟨A10, c10, rfl, hc10, hls10⟩ := hov.form
          obtain ⟨ad10, n10, rfl, _, _, hcell10⟩ := hls10.node_at (i := x) (by rw [HLN.out]; exact hxq)
          rw [ptrs_len, HLN.out]
          have HB10 := Lib.hid (bthen HB9.out hb10)
          clear hov hc10 hls10 hb10
          go_wp2
          go_ret
          exact ⟨by simp; omega, HB10.out⟩

end Go.Proofs.Ytabgbbfiggnanaa


namespace Go.Proofs.Ytabgbbfiggnanaa.nodeOrder
open Go.ChangeShapes Go.WideShapes Go.ChangeAt Go.RowKit
open Go.ChangeMaps (open_string shut_string)
set_option linter.unusedVariables false

theorem own : ownKnob Try.prog.godebug = none := by kernel_rfl
theorem laidOut : laidOutB Try.prog = true := by kernel_rfl

set_option maxRecDepth 100000 in
theorem lifted (os : Os) (started : os.Started) (H : Type) (enc : TypeId × Value → H) :
    ReturnsInHanded {} Try.checked os 6 .any (Rows.nodeOrderSpec.pre6 enc Try.prog Try.f6 Rows.nodeOrderRow.domain false) (Rows.nodeOrderSpec.post enc Try.prog Try.f6 false true false false) := by
  refine returnsInHanded_of_change_sized (C := Try.checked) own started (by kernel_rfl) Try.func6
    (ChangeSpec.witness6 (enc := enc) (C := Try.checked) false ⟨#[], #[.slice none 0 0, .int .u8 0, .int .u8 0], []⟩ 8 (by kernel_rfl) (by kernel_rfl) (by kernel_rfl) (by kernel_rfl)) ?_
  intro W base args ds gs before hval0 hW hcnd hsz0 _
  have hval : ∀ (j : Nat) t v, Try.f6.params[j]? = some t → args[j]? = some v → Value.okWide Try.prog W .any base t v := hval0
  have hsz : (DataW.weightsEach Try.prog (Try.f6.params.toList ++ Rows.nodeOrderSpec.plain.varTypes Try.prog) (ds ++ gs)).all (· ≤ reachBytes) = true := hsz0
  have hW' := hW
  obtain ⟨p, q, hA0, hV, rfl, hfz, hnd⟩ := hW
  have hA : DataW.TrodAll enc Try.prog W 0 (fun _ => true) true Try.f6.params.toList args.toList ds p := hA0
  rw [Try.params6] at hA hval hsz
  obtain ⟨v0, vs0, d0, ds0, p0, q0, hargs, rfl, rfl, h0, r0⟩ := trodAll_cons hA
  obtain ⟨v1, vs1, d1, ds1, p1, q1, rfl, rfl, rfl, h1, r1⟩ := trodAll_cons r0
  obtain ⟨v2, vs2, d2, ds2, p2, q2, rfl, rfl, rfl, h2, r2⟩ := trodAll_cons r1
  obtain ⟨rfl, rfl, rfl⟩ := trodAll_nil r2
  obtain rfl : args = #[v0, v1, v2] := by cases args; simp_all
  obtain ⟨rfl, rfl⟩ := trodVars_none hV
  obtain ⟨A0, n0, c0, rfl⟩ := okWide_slice Try.underlying27 (hval 0 27 v0 rfl rfl)
  have k0 := h0
  have lt0 : ∀ x ∈ p0, x.block < W.heap.size := by obtain ⟨m, hm⟩ := k0; exact DataW.trod_lt m _ _ _ hm
  obtain ⟨l0, w0⟩ := open_ents h0 (fun m hm => of_decide_eq_true (List.all_eq_true.1 hsz _ (DataW.weights_mem_each (j := 0) (t := 27) rfl rfl m hm)))
  obtain ⟨a1, rfl, rfl, rfl, w1⟩ := open_int Try.underlying5 (hval 1 5 v1 rfl rfl) h1
  obtain ⟨a2, rfl, rfl, rfl, w2⟩ := open_int Try.underlying5 (hval 2 5 v2 rfl rfl) h2
  clear hA0 hval0 hsz hsz0
  refine (nodeOrder_walk A0 n0 c0 l0 a1 a2 W w0 w1 w2).mono fun e W' ⟨he, bel⟩ => ?_
  subst he
  exact ⟨_, rfl, _, _, _, [], _, [], hW', trodAll_mk1 (shut_bool Try.underlying4 _), (trodAll_cons_mk (Below.trod laidOut (by kernel_rfl) (of_decide_eq_true (by kernel_rfl)) k0 bel lt0) (trodAll_cons_mk (shut_int Try.underlying5 w1) (trodAll_cons_mk (shut_int Try.underlying5 w2) trodAll_mk0))), rfl, bel.frame _, fun h => by cases h⟩

theorem over : Rows.nodeOrderRow.holds Try.pinned (OpenSpec.ofChange Rows.nodeOrderSpec) :=
  OpenClaim.holds_of_wide 6 Try.f6 rfl rfl rfl rfl rfl rfl rfl ⟨rfl, rfl, rfl, rfl, rfl⟩ rfl rfl rfl rfl rfl (by kernel_rfl) Try.func6 (by kernel_rfl)
    (of_decide_eq_true (by kernel_rfl)) (by unfold Func.isWrapper; first | (rw [if_pos (by decide +kernel)]; kernel_rfl) | (rw [if_neg (by decide +kernel)]; exact ⟨rfl, rfl⟩))
    (fun os started H enc _ => lifted os started H enc)

theorem proved : Rows.NodeOrderSaid := over
#print axioms proved

end Go.Proofs.Ytabgbbfiggnanaa.nodeOrder
