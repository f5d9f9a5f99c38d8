/-
  CursorTurns: Next, and then Prev, stands where it stood, if there was one behind; and Seek of a key that there is stands there; for every list and every key; no condition beyond the row's.
-/
import Derived.Test.YtkooaechcbopnaaCurHelp
import Derived.SizedLaws
import Derived.ProofKit
import Derived.Lib.SmallJoins
namespace Go.Proofs.Ytkooaechcbopnaa
open Go.RowKit Go.Sort Go.ChangeShapes Go.WideShapes Rt
set_option linter.unusedVariables false
set_option linter.unusedSimpArgs false

theorem seek_at {l : List Ent} {key : ByteArray} (hs : Sorted l) {i : Nat} (h : mvSeek l key = some i) : ∃ e, l[i]? = some e ∧ ¬ kl e.k key ∧ l.filter (ge key) = e :: l.drop (i + 1) ∧ (lows l key).length = i := by
  unfold mvSeek inL at h
  split at h
  · rename_i hlt
    cases h
    have hd : l.filter (ge key) = l[(lows l key).length] :: l.drop ((lows l key).length + 1) := by rw [ge_drop hs, List.drop_eq_getElem_cons hlt]
    refine ⟨_, List.getElem?_eq_getElem hlt, ?_, hd, rfl⟩
    have : l[(lows l key).length] ∈ l.filter (ge key) := by rw [hd]; exact List.mem_cons_self ..
    simpa [ge] using (List.mem_filter.1 this).2
  · cases h
theorem seek_none {l : List Ent} {key : ByteArray} (hs : Sorted l) (h : mvSeek l key = none) : ∀ e ∈ l, kl e.k key := by
  intro e he
  unfold mvSeek inL at h
  split at h
  · cases h
  · rename_i hlt
    have hf : l.filter (ge key) = [] := by rw [ge_drop hs, List.drop_eq_nil_of_le (by omega)]
    have := List.filter_eq_nil_iff.1 hf e he
    simpa [ge] using this

set_option maxRecDepth 100000 in
set_option maxHeartbeats 16000000 in
theorem cursorTurns_walk (A : Option Addr) (n c : Nat) (l : List Ent) (key : ByteArray) (w : World) (ha : Arg w A n c l) (hkk : key.size ≤ 140737488351232) :
    Calls Try.prog 5 #[.slice A n c, .string key] w fun e w' => e = .returned (.bool true) ∧ Below w.heap.size w w' := by
  have HA := Lib.hid ha
  clear ha
  go_enter Try.func5, Try.ntmps5
  go_wp2_with fail
  refine (cuAwake_any w).mono ?_
  rintro e w1 ⟨rfl, hb1⟩
  have HB1 := Lib.hid hb1
  clear hb1
  go_wp2_with fail
  refine (cuBuilt_any A n c l w1 (show Arg w1 A n c l from ⟨HA.out.len, HA.out.cap, HA.out.small, HA.out.es.below HB1.out, HA.out.strs⟩)).mono ?_
  rintro r w2 ⟨T, v, ⟨q, rfl⟩, ht, ho, hl, hb2⟩
  obtain ⟨A2, c2, rfl, hc2, hes⟩ := ho.form
  have HB2 := Lib.hid (bthen HB1.out hb2)
  have HT := Lib.hid ht
  obtain ⟨t, htt⟩ : ∃ t, (tl T).length = t := ⟨_, rfl⟩
  have HES := Lib.hid hes
  have HTL := Lib.hid htt
  rw [htt] at hl hc2 ⊢
  obtain ⟨pt, hpt⟩ : ∃ pt, tb T = .pointer pt := ⟨_, rfl⟩
  rw [hpt]
  have HP := Lib.hid hpt
  clear ht ho hes hb2 htt hpt
  cases q with
  | false =>
    go_wp2
    go_ret
    exact ⟨rfl, HB2.out⟩
  | true =>
  by_cases hbig : 2000 < key.size
  · go_wp2
    go_ret
    exact ⟨rfl, HB2.out⟩
  go_wp2_with fail
  refine (curNew_any w2 pt).mono ?_
  rintro e w3 ⟨rfl, rfl⟩
  have hcu : Cur w2 T w2.heap.size none (w2.alloc (.cells #[.pointer pt, .string ⟨#[]⟩] 53)) := by rw [← HP.out]; exact Cur.new HT.out (Below.refl _ w2)
  have hb3 : Below w2.heap.size w2 (w2.alloc (.cells #[.pointer pt, .string ⟨#[]⟩] 53)) := (Below.refl _ _).alloc (Nat.le_refl _) _
  obtain ⟨w3, hw3⟩ : ∃ w3, w2.alloc (.cells #[.pointer pt, .string ⟨#[]⟩] 53) = w3 := ⟨_, rfl⟩
  rw [hw3] at hcu hb3 ⊢
  have HB3 := Lib.hid (bthen HB2.out hb3)
  have HBR : Hid (w.heap.size ≤ w2.heap.size) := Lib.hid HB2.out.size
  obtain ⟨bc, hbc⟩ : ∃ bc, w2.heap.size = bc := ⟨_, rfl⟩
  rw [hbc] at hcu HBR ⊢
  have H3 := Lib.hid hcu
  clear hbc hcu hb3 hw3 HB2
  go_wp2_with fail
  refine (curSeek_any H3.out key).mono ?_
  rintro e w4 ⟨rfl, hm, hc⟩
  have H4 := Lib.hid hc
  have HB4 := Lib.hid (HB3.out.trans (Mv.below' hm HB3.out.size HBR.out))
  clear hm hc H3 HB3
  obtain ⟨p, hp⟩ : ∃ p, mvSeek (tl T) key = p := ⟨_, rfl⟩
  rw [hp] at H4 ⊢
  have HPP := Lib.hid hp
  clear hp
  cases p with
  | none =>
    simp only [Option.isSome_none]
    go_wp2_with fail
    refine (curEntry_any H4.out).mono ?_
    rw [show ansV (entAt (tl T) none) = .tuple #[.agg #[.string ⟨#[]⟩, .string ⟨#[]⟩], .bool false] from rfl]
    rintro e v5 ⟨rfl, hb⟩
    have hba : Below v5.heap.size v5 (v5.alloc (.cells #[.string ⟨#[]⟩, .string ⟨#[]⟩] 39)) := (Below.refl _ _).alloc (Nat.le_refl _) _
    have hz := heap_alloc_new v5 (.cells #[.string ⟨#[]⟩, .string ⟨#[]⟩] 39)
    obtain ⟨u5, hu⟩ : ∃ u, v5.alloc (.cells #[.string ⟨#[]⟩, .string ⟨#[]⟩] 39) = u := ⟨_, rfl⟩
    rw [hu] at hba hz
    have H5 := Lib.hid ((H4.out.below hb).below hba)
    have HB5 := Lib.hid ((HB4.out.trans (hb.mono HB4.out.size)).trans (hba.mono (Nat.le_trans HB4.out.size hb.size)))
    have HZ5 := Lib.hid hz
    have HU5 := Lib.hid hu
    have HBB5 := Lib.hid (bthen hb hba)
    have HNB5 : Hid (v5.heap.size ≠ bc) := Lib.hid (by have := H4.out.lt; have := hb.size; omega)
    clear hb hba hz hu H4 HB4

    go_wp2_with fail
    rw [HU5.out]
    refine (refGet_any A2 t c2 (tl T) key u5 HT.out.sorted (HES.out.below H5.out.bel) HTL.out (by omega)).mono ?_
    rw [show look (tl T) key = none from look_none fun e he hk => kl_irrefl e.k (by have := seek_none HT.out.sorted HPP.out e he; rwa [← hk] at this)]
    rintro r v6 ⟨rfl, hb6⟩
    rw [show lookV none = .tuple #[.string ⟨#[]⟩, .bool false] from rfl]
    have H6 := Lib.hid (H5.out.below hb6)
    have HB6 := Lib.hid (HB5.out.trans (hb6.mono HB5.out.size))
    clear hb6 H5 HB5
    go_wp2_with fail
    refine (curPrev_any H6.out).mono ?_
    rintro e v7 ⟨rfl, hm, hc⟩
    rw [show mvPrev (tl T) none = none from rfl] at hc ⊢
    have H7 := Lib.hid hc
    have HB7 := Lib.hid (HB6.out.trans (Mv.below' hm HB6.out.size HBR.out))
    clear hm hc H6 HB6
    simp only [Option.isSome_none]
    go_wp2_with fail
    refine (curNext_any H7.out).mono ?_
    rintro e v8 ⟨rfl, hm, hc⟩
    rw [show mvNext (tl T) none = none from rfl] at hc ⊢
    have HB8 := Lib.hid (HB7.out.trans (Mv.below' hm HB7.out.size HBR.out))
    clear hm hc H7 HB7
    simp only [Option.isSome_none]
    go_wp2
    go_ret
    exact ⟨rfl, HB8.out⟩
  | some i =>
    obtain ⟨x, hx, hge, hfl, hlow⟩ := seek_at HT.out.sorted HPP.out
    have hi : i < t := by rw [← HTL.out]; exact (List.getElem?_eq_some_iff.1 hx).1
    have HX := Lib.hid hx
    have HGE := Lib.hid hge
    have HFL := Lib.hid hfl
    clear hx hge hfl hlow
    simp only [Option.isSome_some]
    go_wp2_with fail
    refine (curEntry_any H4.out).mono ?_
    rw [show entAt (tl T) (some i) = some x from HX.out, show ansV (some x) = .tuple #[.agg #[.string x.k, .string x.v], .bool true] from rfl]
    rintro e v5 ⟨rfl, hb⟩
    have hba : Below v5.heap.size v5 (v5.alloc (.cells #[.string x.k, .string x.v] 39)) := (Below.refl _ _).alloc (Nat.le_refl _) _
    have hz := heap_alloc_new v5 (.cells #[.string x.k, .string x.v] 39)
    obtain ⟨u5, hu⟩ : ∃ u, v5.alloc (.cells #[.string x.k, .string x.v] 39) = u := ⟨_, rfl⟩
    rw [hu] at hba hz
    have H5 := Lib.hid ((H4.out.below hb).below hba)
    have HB5 := Lib.hid ((HB4.out.trans (hb.mono HB4.out.size)).trans (hba.mono (Nat.le_trans HB4.out.size hb.size)))
    have HZ5 := Lib.hid hz
    have HU5 := Lib.hid hu
    have HBB5 := Lib.hid (bthen hb hba)
    have HNB5 : Hid (v5.heap.size ≠ bc) := Lib.hid (by have := H4.out.lt; have := hb.size; omega)
    clear hb hba hz hu H4 HB4

    go_wp2_with fail
    rw [HU5.out]
    refine (refGet_any A2 t c2 (tl T) key u5 HT.out.sorted (HES.out.below H5.out.bel) HTL.out (by omega)).mono ?_
    obtain ⟨known, gv, hlook, hyes⟩ : ∃ (known : Bool) (gv : ByteArray), lookV (look (tl T) key) = .tuple #[.string gv, .bool known] ∧ (known = true → x.k = key ∧ gv = x.v) := by
      by_cases hk : x.k = key
      · refine ⟨true, x.v, ?_, fun _ => ⟨hk, rfl⟩⟩
        rw [← hk, look_some HT.out.sorted (List.mem_of_getElem? HX.out)]
        rfl
      · refine ⟨false, ⟨#[]⟩, ?_, fun h => by cases h⟩
        rw [look_none fun e he hek => ?_]
        · rfl
        · have hm : e ∈ (tl T).filter (ge key) := List.mem_filter.2 ⟨he, by simp [ge, hek, kl_irrefl]⟩
          rw [HFL.out] at hm
          rcases List.mem_cons.1 hm with rfl | hm
          · exact hk hek
          · have := (ahead_at HT.out.sorted HX.out).2 e hm
            rw [hek] at this
            exact HGE.out this
    rw [hlook]
    have HY := Lib.hid hyes
    rintro r v6 ⟨rfl, hb6⟩
    have H6 := Lib.hid (H5.out.below hb6)
    have HB6 := Lib.hid (HB5.out.trans (hb6.mono HB5.out.size))
    have HZ6 := Lib.hid ((hb6.block _ (at_lt HZ5.out)).trans HZ5.out)
    clear hb6 H5 HB5 hlook hyes HZ5
    have q0 := cell_row HZ6.out 0 _ rfl
    have q1 := cell_row HZ6.out 1 _ rfl
    have hle := less_eq x.k key
    rw [decide_eq_false HGE.out] at hle
    have hkn : known = false ∨ known = true := by cases known <;> simp
    obtain ⟨fk, hfk⟩ : ∃ fk, (x.k.toList == key.toList) = fk := ⟨_, rfl⟩
    obtain ⟨fv, hfv⟩ : ∃ fv, (x.v.toList == gv.toList) = fv := ⟨_, rfl⟩
    have HFK : Hid (known = true → fk = true ∧ fv = true) := Lib.hid fun h => by
      obtain ⟨h1, h2⟩ := HY.out h
      rw [← hfk, ← hfv, h1, h2]
      exact ⟨by simp, by simp⟩
    rcases hkn with rfl | rfl
    · clear hfk hfv
      go_wp2_with fail
      refine (curNext_any H6.out).mono ?_
      by_cases hn : i + 1 < t
      · rw [show mvNext (tl T) (some i) = some (i + 1) from if_pos (by rw [HTL.out]; exact hn)]
        rintro e w7 ⟨rfl, hm, hc⟩
        obtain ⟨y, hy⟩ : ∃ y, (tl T)[i + 1]? = some y := ⟨_, List.getElem?_eq_getElem (by rw [HTL.out]; exact hn)⟩
        have HYY := Lib.hid hy
        have HXY : Hid (kl x.k y.k) := Lib.hid (sorted_lt HT.out.sorted (Nat.lt_succ_self i) HX.out hy)
        have H7 := Lib.hid hc
        have HB7 := Lib.hid (HB6.out.trans (Mv.below' hm HB6.out.size HBR.out))
        have HZ7 := Lib.hid ((hm.same _ (at_lt HZ6.out) HNB5.out).trans HZ6.out)
        clear hm hc H6 HB6 HZ6 q0 q1 hy hle 
        simp only [Option.isSome_some]
        go_wp2_with fail
        refine (curEntry_any H7.out).mono ?_
        rw [show entAt (tl T) (some (i + 1)) = some y from HYY.out, show ansV (some y) = .tuple #[.agg #[.string y.k, .string y.v], .bool true] from rfl]
        rintro e v8 ⟨rfl, hb⟩
        have hba : Below v8.heap.size v8 (v8.alloc (.cells #[.string y.k, .string y.v] 39)) := (Below.refl _ _).alloc (Nat.le_refl _) _
        have hz := heap_alloc_new v8 (.cells #[.string y.k, .string y.v] 39)
        obtain ⟨u8, hu⟩ : ∃ u, v8.alloc (.cells #[.string y.k, .string y.v] 39) = u := ⟨_, rfl⟩
        rw [hu] at hba hz
        have H8 := Lib.hid ((H7.out.below hb).below hba)
        have HB8 := Lib.hid ((HB7.out.trans (hb.mono HB7.out.size)).trans (hba.mono (Nat.le_trans HB7.out.size hb.size)))
        have HZ8 := Lib.hid hz
        have HU8 := Lib.hid hu
        have HBB8 := Lib.hid (bthen hb hba)
        have HNB8 : Hid (v8.heap.size ≠ bc) := Lib.hid (by have := H7.out.lt; have := hb.size; omega)
        clear hb hba hz hu H7 HB7

        have HZ8x := Lib.hid ((HBB8.out.block _ (at_lt HZ7.out)).trans HZ7.out)
        clear HZ7 HBB8
        go_wp2_with fail
        rw [HU8.out]
        refine (curPrev_any H8.out).mono ?_
        rw [show mvPrev (tl T) (some (i + 1)) = some i from by unfold mvPrev; simp only [Nat.add_sub_cancel]; rw [if_neg (by omega)]; exact if_pos (by rw [HTL.out]; omega)]
        rintro e w9 ⟨rfl, hm, hc⟩
        have H9 := Lib.hid hc
        have HB9 := Lib.hid (HB8.out.trans (Mv.below' hm HB8.out.size HBR.out))
        have HZ9 := Lib.hid ((hm.same _ (at_lt HZ8.out) HNB8.out).trans HZ8.out)
        have HZ9x := Lib.hid ((hm.same _ (at_lt HZ8x.out) HNB5.out).trans HZ8x.out)
        clear hm hc H8 HB8 HZ8 HZ8x HU8
        simp only [Option.isSome_some]
        go_wp2_with fail
        refine (curEntry_any H9.out).mono ?_
        rw [show entAt (tl T) (some i) = some x from HX.out, show ansV (some x) = .tuple #[.agg #[.string x.k, .string x.v], .bool true] from rfl]
        rintro e v10 ⟨rfl, hb⟩
        have hba : Below v10.heap.size v10 (v10.alloc (.cells #[.string x.k, .string x.v] 39)) := (Below.refl _ _).alloc (Nat.le_refl _) _
        have hz := heap_alloc_new v10 (.cells #[.string x.k, .string x.v] 39)
        obtain ⟨u10, hu⟩ : ∃ u, v10.alloc (.cells #[.string x.k, .string x.v] 39) = u := ⟨_, rfl⟩
        rw [hu] at hba hz
        have H10 := Lib.hid ((H9.out.below hb).below hba)
        have HB10 := Lib.hid ((HB9.out.trans (hb.mono HB9.out.size)).trans (hba.mono (Nat.le_trans HB9.out.size hb.size)))
        have HZ10 := Lib.hid hz
        have HU10 := Lib.hid hu
        have HBB10 := Lib.hid (bthen hb hba)
        have HNB10 : Hid (v10.heap.size ≠ bc) := Lib.hid (by have := H9.out.lt; have := hb.size; omega)
        clear hb hba hz hu H9 HB9

        have hz10y := (HBB10.out.block _ (at_lt HZ9.out)).trans HZ9.out
        have hz10x := (HBB10.out.block _ (at_lt HZ9x.out)).trans HZ9x.out
        have q0 := cell_row hz10x 0 _ rfl
        have q1 := cell_row hz10x 1 _ rfl
        have q2 := cell_row hz10y 0 _ rfl
        have q3 := cell_row HZ10.out 0 _ rfl
        have q4 := cell_row HZ10.out 1 _ rfl
        have heq := eql_same x.k x.v
        have hgt := gtr_eq y.k x.k
        rw [decide_eq_true HXY.out] at hgt
        clear hz10x hz10y HBB10 HZ9 HZ9x
        rw [← HU10.out] at q0 q1 q2 q3 q4
        go_wp2
        rw [HU10.out]
        go_ret
        exact ⟨rfl, HB10.out⟩
      · rw [show mvNext (tl T) (some i) = none from if_neg (by rw [HTL.out]; exact hn)]
        rintro e w7 ⟨rfl, hm, hc⟩
        have hz7 := (hm.same _ (at_lt HZ6.out) HNB5.out).trans HZ6.out
        have HB7 := Lib.hid (HB6.out.trans (Mv.below' hm HB6.out.size HBR.out))
        obtain ⟨ad, x', had, hx', _, g0, g1⟩ := (HES.out.below hc.bel).at_ (i := i) (by rw [HTL.out]; exact hi)
        obtain rfl := Option.some.inj (HX.out.symm.trans hx')
        subst had
        have hti : (t : Int) - 1 = (i : Int) := by omega
        have q0 := cell_row hz7 0 _ rfl
        have q1 := cell_row hz7 1 _ rfl
        have heq := eql_same x.k x.v
        clear hm hc H6 HB6 HZ6 hx' hz7 hle 
        simp only [Option.isSome_none]
        go_wp2
        go_quiet (fail)
        go_wp2
        go_ret
        exact ⟨rfl, below_drewN HB7.out _⟩

    · obtain ⟨rfl, rfl⟩ := HFK.out rfl
      go_wp2_with fail
      refine (curNext_any H6.out).mono ?_
      by_cases hn : i + 1 < t
      · rw [show mvNext (tl T) (some i) = some (i + 1) from if_pos (by rw [HTL.out]; exact hn)]
        rintro e w7 ⟨rfl, hm, hc⟩
        obtain ⟨y, hy⟩ : ∃ y, (tl T)[i + 1]? = some y := ⟨_, List.getElem?_eq_getElem (by rw [HTL.out]; exact hn)⟩
        have HYY := Lib.hid hy
        have HXY : Hid (kl x.k y.k) := Lib.hid (sorted_lt HT.out.sorted (Nat.lt_succ_self i) HX.out hy)
        have H7 := Lib.hid hc
        have HB7 := Lib.hid (HB6.out.trans (Mv.below' hm HB6.out.size HBR.out))
        have HZ7 := Lib.hid ((hm.same _ (at_lt HZ6.out) HNB5.out).trans HZ6.out)
        clear hm hc H6 HB6 HZ6 q0 q1 hy hle hfk hfv
        simp only [Option.isSome_some]
        go_wp2_with fail
        refine (curEntry_any H7.out).mono ?_
        rw [show entAt (tl T) (some (i + 1)) = some y from HYY.out, show ansV (some y) = .tuple #[.agg #[.string y.k, .string y.v], .bool true] from rfl]
        rintro e v8 ⟨rfl, hb⟩
        have hba : Below v8.heap.size v8 (v8.alloc (.cells #[.string y.k, .string y.v] 39)) := (Below.refl _ _).alloc (Nat.le_refl _) _
        have hz := heap_alloc_new v8 (.cells #[.string y.k, .string y.v] 39)
        obtain ⟨u8, hu⟩ : ∃ u, v8.alloc (.cells #[.string y.k, .string y.v] 39) = u := ⟨_, rfl⟩
        rw [hu] at hba hz
        have H8 := Lib.hid ((H7.out.below hb).below hba)
        have HB8 := Lib.hid ((HB7.out.trans (hb.mono HB7.out.size)).trans (hba.mono (Nat.le_trans HB7.out.size hb.size)))
        have HZ8 := Lib.hid hz
        have HU8 := Lib.hid hu
        have HBB8 := Lib.hid (bthen hb hba)
        have HNB8 : Hid (v8.heap.size ≠ bc) := Lib.hid (by have := H7.out.lt; have := hb.size; omega)
        clear hb hba hz hu H7 HB7

        have HZ8x := Lib.hid ((HBB8.out.block _ (at_lt HZ7.out)).trans HZ7.out)
        clear HZ7 HBB8
        go_wp2_with fail
        rw [HU8.out]
        refine (curPrev_any H8.out).mono ?_
        rw [show mvPrev (tl T) (some (i + 1)) = some i from by unfold mvPrev; simp only [Nat.add_sub_cancel]; rw [if_neg (by omega)]; exact if_pos (by rw [HTL.out]; omega)]
        rintro e w9 ⟨rfl, hm, hc⟩
        have H9 := Lib.hid hc
        have HB9 := Lib.hid (HB8.out.trans (Mv.below' hm HB8.out.size HBR.out))
        have HZ9 := Lib.hid ((hm.same _ (at_lt HZ8.out) HNB8.out).trans HZ8.out)
        have HZ9x := Lib.hid ((hm.same _ (at_lt HZ8x.out) HNB5.out).trans HZ8x.out)
        clear hm hc H8 HB8 HZ8 HZ8x HU8
        simp only [Option.isSome_some]
        go_wp2_with fail
        refine (curEntry_any H9.out).mono ?_
        rw [show entAt (tl T) (some i) = some x from HX.out, show ansV (some x) = .tuple #[.agg #[.string x.k, .string x.v], .bool true] from rfl]
        rintro e v10 ⟨rfl, hb⟩
        have hba : Below v10.heap.size v10 (v10.alloc (.cells #[.string x.k, .string x.v] 39)) := (Below.refl _ _).alloc (Nat.le_refl _) _
        have hz := heap_alloc_new v10 (.cells #[.string x.k, .string x.v] 39)
        obtain ⟨u10, hu⟩ : ∃ u, v10.alloc (.cells #[.string x.k, .string x.v] 39) = u := ⟨_, rfl⟩
        rw [hu] at hba hz
        have H10 := Lib.hid ((H9.out.below hb).below hba)
        have HB10 := Lib.hid ((HB9.out.trans (hb.mono HB9.out.size)).trans (hba.mono (Nat.le_trans HB9.out.size hb.size)))
        have HZ10 := Lib.hid hz
        have HU10 := Lib.hid hu
        have HBB10 := Lib.hid (bthen hb hba)
        have HNB10 : Hid (v10.heap.size ≠ bc) := Lib.hid (by have := H9.out.lt; have := hb.size; omega)
        clear hb hba hz hu H9 HB9

        have hz10y := (HBB10.out.block _ (at_lt HZ9.out)).trans HZ9.out
        have hz10x := (HBB10.out.block _ (at_lt HZ9x.out)).trans HZ9x.out
        have q0 := cell_row hz10x 0 _ rfl
        have q1 := cell_row hz10x 1 _ rfl
        have q2 := cell_row hz10y 0 _ rfl
        have q3 := cell_row HZ10.out 0 _ rfl
        have q4 := cell_row HZ10.out 1 _ rfl
        have heq := eql_same x.k x.v
        have hgt := gtr_eq y.k x.k
        rw [decide_eq_true HXY.out] at hgt
        clear hz10x hz10y HBB10 HZ9 HZ9x
        rw [← HU10.out] at q0 q1 q2 q3 q4
        go_wp2
        rw [HU10.out]
        go_ret
        exact ⟨rfl, HB10.out⟩
      · rw [show mvNext (tl T) (some i) = none from if_neg (by rw [HTL.out]; exact hn)]
        rintro e w7 ⟨rfl, hm, hc⟩
        have hz7 := (hm.same _ (at_lt HZ6.out) HNB5.out).trans HZ6.out
        have HB7 := Lib.hid (HB6.out.trans (Mv.below' hm HB6.out.size HBR.out))
        obtain ⟨ad, x', had, hx', _, g0, g1⟩ := (HES.out.below hc.bel).at_ (i := i) (by rw [HTL.out]; exact hi)
        obtain rfl := Option.some.inj (HX.out.symm.trans hx')
        subst had
        have hti : (t : Int) - 1 = (i : Int) := by omega
        have q0 := cell_row hz7 0 _ rfl
        have q1 := cell_row hz7 1 _ rfl
        have heq := eql_same x.k x.v
        clear hm hc H6 HB6 HZ6 hx' hz7 hle hfk hfv
        simp only [Option.isSome_none]
        go_wp2
        go_quiet (fail)
        go_wp2
        go_ret
        exact ⟨rfl, below_drewN HB7.out _⟩

end Go.Proofs.Ytkooaechcbopnaa


namespace Go.Proofs.Ytkooaechcbopnaa.cursorTurns
open Go.ChangeShapes Go.WideShapes Go.ChangeAt Go.RowKit
open Go.ChangeMaps (open_string shut_string)
set_option linter.unusedVariables false

theorem own : ownKnob Try.prog.godebug = none := by kernel_rfl
theorem laidOut : laidOutB Try.prog = true := by kernel_rfl

set_option maxRecDepth 100000 in
theorem lifted (os : Os) (started : os.Started) (H : Type) (enc : TypeId × Value → H) :
    ReturnsInHanded {} Try.checked os 5 .any (Rows.cursorTurnsSpec.pre6 enc Try.prog Try.f5 Rows.cursorTurnsRow.domain false) (Rows.cursorTurnsSpec.post enc Try.prog Try.f5 false true false false) := by
  refine returnsInHanded_of_change_sized (C := Try.checked) own started (by kernel_rfl) Try.func5
    (ChangeSpec.witness6 (enc := enc) (C := Try.checked) false ⟨#[], #[.slice none 0 0, .string ByteArray.empty], []⟩ 8 (by kernel_rfl) (by kernel_rfl) (by kernel_rfl) (by kernel_rfl)) ?_
  intro W base args ds gs before hval0 hW hcnd hsz0 _
  have hval : ∀ (j : Nat) t v, Try.f5.params[j]? = some t → args[j]? = some v → Value.okWide Try.prog W .any base t v := hval0
  have hsz : (DataW.weightsEach Try.prog (Try.f5.params.toList ++ Rows.cursorTurnsSpec.plain.varTypes Try.prog) (ds ++ gs)).all (· ≤ reachBytes) = true := hsz0
  have hW' := hW
  obtain ⟨p, q, hA0, hV, rfl, hfz, hnd⟩ := hW
  have hA : DataW.TrodAll enc Try.prog W 0 (fun _ => true) true Try.f5.params.toList args.toList ds p := hA0
  rw [Try.params5] at hA hval hsz
  obtain ⟨v0, vs0, d0, ds0, p0, q0, hargs, rfl, rfl, h0, r0⟩ := trodAll_cons hA
  obtain ⟨v1, vs1, d1, ds1, p1, q1, rfl, rfl, rfl, h1, r1⟩ := trodAll_cons r0
  obtain ⟨rfl, rfl, rfl⟩ := trodAll_nil r1
  obtain rfl : args = #[v0, v1] := by cases args; simp_all
  obtain ⟨rfl, rfl⟩ := trodVars_none hV
  obtain ⟨A0, n0, c0, rfl⟩ := okWide_slice Try.underlying22 (hval 0 22 v0 rfl rfl)
  have k0 := h0
  have lt0 : ∀ x ∈ p0, x.block < W.heap.size := by obtain ⟨m, hm⟩ := k0; exact DataW.trod_lt m _ _ _ hm
  obtain ⟨l0, w0⟩ := open_ents h0 (fun m hm => of_decide_eq_true (List.all_eq_true.1 hsz _ (DataW.weights_mem_each (j := 0) (t := 22) rfl rfl m hm)))
  obtain ⟨a1, rfl, rfl, rfl, w1⟩ := open_string Try.underlying9 (hval 1 9 v1 rfl rfl) h1
  have z1 : a1.data.toList.length ≤ reachBytes := sized_string hsz (j := 1) (t := 9) rfl rfl
  have y1 : a1.size ≤ 140737488351232 := z1
  clear hA0 hval0 hsz hsz0
  refine (cursorTurns_walk A0 n0 c0 l0 a1 W w0 y1).mono fun e W' ⟨he, bel⟩ => ?_
  subst he
  exact ⟨_, rfl, _, _, _, [], _, [], hW', trodAll_mk1 (shut_bool Try.underlying4 _), (trodAll_cons_mk (Below.trod laidOut (by kernel_rfl) (of_decide_eq_true (by kernel_rfl)) k0 bel lt0) (trodAll_cons_mk (shut_string Try.underlying9 w1) trodAll_mk0)), rfl, bel.frame _, fun h => by cases h⟩

theorem over : Rows.cursorTurnsRow.holds Try.pinned (OpenSpec.ofChange Rows.cursorTurnsSpec) :=
  OpenClaim.holds_of_wide 5 Try.f5 rfl rfl rfl rfl rfl rfl rfl ⟨rfl, rfl, rfl, rfl, rfl⟩ rfl rfl rfl rfl rfl (by kernel_rfl) Try.func5 (by kernel_rfl)
    (of_decide_eq_true (by kernel_rfl)) (by unfold Func.isWrapper; first | (rw [if_pos (by decide +kernel)]; kernel_rfl) | (rw [if_neg (by decide +kernel)]; exact ⟨rfl, rfl⟩))
    (fun os started H enc _ => lifted os started H enc)

theorem proved : Rows.CursorTurnsSaid := over
#print axioms proved

end Go.Proofs.Ytkooaechcbopnaa.cursorTurns
