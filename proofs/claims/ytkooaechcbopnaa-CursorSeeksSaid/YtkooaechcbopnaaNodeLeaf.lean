/-
  The contracts of node.validLeaf, node.Leaf and the reference's Leaf; conditions: the slice can be read, its strings are of a size that there is.
-/
import Derived.Test.YtkooaechcbopnaaNodeGet
import Derived.Test.YtkooaechcbopnaaDrawn
namespace Go.Proofs.Ytkooaechcbopnaa
open Go.RowKit Go.Sort
set_option linter.unusedVariables false

theorem okE_key {e : Ent} (h : keyNo e.k ≠ 0) : okE e = false := by unfold okE; rw [decide_eq_false h]; rfl
theorem okE_val {e : Ent} (h : valNo e.v ≠ 0) : okE e = false := by unfold okE; rw [decide_eq_false h]; simp
theorem okE_good {e : Ent} (h : keyNo e.k = 0) (h2 : valNo e.v = 0) : okE e = true := by unfold okE; rw [decide_eq_true h, decide_eq_true h2]; rfl

set_option maxHeartbeats 1000000 in
theorem validLeaf_any (A : Option Addr) (n c : Nat) (l : List Ent) (w : World) (hr : Es w A l) (hn : l.length = n) (hb : n ≤ 100000000000) (hs : ∀ e ∈ l, e.k.size ≤ 140737488351232 ∧ e.v.size ≤ 140737488351232) :
    Calls Try.prog 80 #[.slice A n c] w fun e w' => e = .returned (.bool (okLeaf l)) ∧ Below w.heap.size w w' := by
  have Hn := Lib.hid hn
  have HS := Lib.hid hs
  clear hn hs
  by_cases h1 : n < 1
  · rw [okLeaf_short (by rw [Hn.out]; exact h1)]
    go_enter Try.func80, Try.ntmps80
    go_wp2
    go_ret
    exact ⟨rfl, Below.refl _ _⟩
  by_cases h4 : 4 < n
  · rw [okLeaf_long (by rw [Hn.out]; exact h4)]
    go_enter Try.func80, Try.ntmps80
    go_wp2
    go_ret
    exact ⟨rfl, Below.refl _ _⟩
  obtain ⟨r, hR⟩ : ∃ r, r = okLeaf l := ⟨_, rfl⟩
  rw [← hR]
  have HR := Lib.hid hR
  clear hR
  go_enter Try.func80, Try.ntmps80
  go_wp2
  go_loopw [15] (fun i wr => ∃ k : Nat, k ≤ n ∧ i = .int .i64 k ∧ Below w.heap.size w wr ∧ Hid (∀ j e, j < k → l[j]? = some e → okE e = true)) (fun i _ => n - (intOf i).toNat)
  case atStart => exact ⟨0, Nat.zero_le _, rfl, Below.refl _ _, Lib.hid fun j _ hj => absurd hj (by omega)⟩
  case round =>
    obtain ⟨k, hk, rfl, hbw, HA⟩ := hrel
    by_cases hlt : k < n
    · obtain ⟨ad, x, rfl, hx, hl, q1, q2⟩ := (hr.below hbw).at_ (i := k) (by rw [Hn.out]; exact hlt)
      obtain ⟨hs1, hs2⟩ := HS.out x (List.mem_of_getElem? hx)
      have Hx := Lib.hid hx
      have hb2 := bthen hbw ((Below.refl wr.heap.size wr).alloc (Nat.le_refl _) (.cells #[.string x.k, .string x.v] 39))
      have HB2 := Lib.hid hb2
      clear hx hb2
      go_wp2_with fail
      refine (key_any x.k _ hs1).mono ?_
      rintro e w1 ⟨rfl, rfl⟩
      obtain ⟨kn, hkn⟩ : ∃ kn, kn = keyNo x.k := ⟨_, rfl⟩
      rw [← hkn]
      have HK := Lib.hid hkn
      clear hkn
      by_cases hk0 : kn = 0
      · subst hk0
        go_wp2_with fail
        refine (value_any x.v _ hs2).mono ?_
        rintro e w1 ⟨rfl, rfl⟩
        obtain ⟨vn, hvn⟩ : ∃ vn, vn = valNo x.v := ⟨_, rfl⟩
        rw [← hvn]
        have HV := Lib.hid hvn
        clear hvn
        by_cases hv0 : vn = 0
        · subst hv0
          go_wp2
          refine ⟨⟨k + 1, by omega, by go_num, HB2.out, Lib.hid fun j e hj he => ?_⟩, by simp [intOf]; omega⟩
          rcases Nat.lt_or_ge j k with h | h
          · exact HA.out j e h he
          · have : j = k := by omega
            subst this
            rw [Hx.out] at he
            cases he
            exact okE_good HK.out.symm HV.out.symm
        · go_wp2
          go_ret
          rw [HR.out, okLeaf_bad (List.mem_of_getElem? Hx.out) (okE_val fun h => hv0 (HV.out.trans h))]
          exact ⟨rfl, HB2.out⟩
      · go_wp2
        go_ret
        rw [HR.out, okLeaf_bad (List.mem_of_getElem? Hx.out) (okE_key fun h => hk0 (HK.out.trans h))]
        exact ⟨rfl, HB2.out⟩
    · have he : k = n := by omega
      subst he
      have hg : okLeaf l = decide (Sorted l) := okLeaf_good (by rw [Hn.out]; omega) (by rw [Hn.out]; omega) fun e he => by
        obtain ⟨j, hj⟩ := List.getElem?_of_mem he
        exact HA.out j e (by have := (List.getElem?_eq_some_iff.1 hj).1; rw [Hn.out] at this; exact this) hj
      have HG := Lib.hid (HR.out.trans hg)
      clear hg
      go_wp2_with fail
      refine (rise_any A k c l wr (hr.below hbw) Hn.out hb).mono ?_
      rintro e w2 ⟨rfl, hb2⟩
      rw [← HG.out]
      go_wp2
      go_ret
      exact ⟨rfl, bthen hbw hb2⟩

/-- A leaf of these entries: its box. -/
structure LeafR (N : NR) (l : List Ent) : Prop where
  en : N.en = l.length
  kn : N.kn = 0
  ka : N.ka = none
  h : N.h = 1
  lo : ∀ e, l[0]? = some e → N.lo = e.k
  hi : ∀ e, l[l.length - 1]? = some e → N.hi = e.k
  lk : N.lk = false
/-- What node.Leaf answers: a new node, or none. -/
def LeafPost (w : World) (l : List Ent) (e : Ending) (w' : World) : Prop :=
  Below w.heap.size w w' ∧ ((okLeaf l = true ∧ ∃ b N, e = .returned (.tuple #[pn b, .int .i64 0]) ∧ w.heap.size ≤ b ∧ NodeAt w' b N ∧ LeafR N l ∧ Es w' N.ea l ∧ (∀ ad, N.ea = some ad → w.heap.size ≤ ad.block ∧ ad.block < w'.heap.size)) ∨
    (okLeaf l = false ∧ e = .returned (.tuple #[.pointer none, .int .i64 1])))

theorem Own.addr_ge {w : World} {base n c : Nat} {A : Option Addr} {l : List Ent} (h : Own w base (.slice A n c) l) : ∀ ad, A = some ad → base ≤ ad.block ∧ ad.block < w.heap.size := by
  intro ad e
  subst e
  rcases h.2 with ⟨hv, _⟩ | ⟨g, cap, cur, hv, hg, hh, _⟩
  · cases hv
  · cases hv
    exact ⟨hg, lt_of_block hh⟩

set_option maxHeartbeats 1000000 in
set_option maxRecDepth 100000 in
theorem leaf_any (A : Option Addr) (n c : Nat) (l : List Ent) (w : World) (hr : Es w A l) (hn : l.length = n) (hb : n ≤ 100000000000) (hs : ∀ e ∈ l, e.k.size ≤ 140737488351232 ∧ e.v.size ≤ 140737488351232) :
    Calls Try.prog 70 #[.slice A n c] w (LeafPost w l) := by
  have Hn := Lib.hid hn
  have HS := Lib.hid hs
  clear hn hs
  go_enter Try.func70, Try.ntmps70
  go_wp2_with fail
  refine (validLeaf_any A n c l w hr Hn.out hb HS.out).mono ?_
  rintro e w1 ⟨rfl, hb1⟩
  obtain ⟨r, hR⟩ : ∃ r, r = okLeaf l := ⟨_, rfl⟩
  rw [← hR]
  have HR := Lib.hid hR
  clear hR
  cases r with
  | false =>
    go_wp2
    go_ret2
    exact ⟨hb1, .inr ⟨HR.out.symm, rfl⟩⟩
  | true =>
    have hlen := okLeaf_len HR.out.symm
    have hn1 : 1 ≤ n := by rw [← Hn.out]; exact hlen.1
    have hn4 : n ≤ 4 := by rw [← Hn.out]; exact hlen.2
    clear hlen
    have hr1 := hr.below hb1
    obtain ⟨ad, x, rfl, hx, hl, q1, _⟩ := hr1.at_ (i := 0) (by rw [Hn.out]; omega)
    obtain ⟨ad', y, e', hy, _, p1, _⟩ := hr1.at_ (i := n - 1) (by rw [Hn.out]; omega)
    cases e'
    rw [show 0 * 2 = 0 from rfl, show ad.add 0 = ad by simp [Addr.add]] at q1
    obtain ⟨W, hW⟩ : ∃ W, W = w1.drew := ⟨_, rfl⟩
    have hbW : Below w1.heap.size w1 W := by rw [hW]; exact (Below.refl _ _).drew
    have f1 : ∀ d os, (grow (redrawn W d) os).cell? ad = some (.string x.k) := fun d os => (((bthen hbW (below_regrown W d os)).cell hl).trans q1)
    have f2 : ∀ d os, (grow (redrawn W d) os).cell? (ad.add ((n - 1) * 2)) = some (.string y.k) := fun d os => (((bthen hbW (below_regrown W d os)).cell (by rw [block_of_add]; exact hl)).trans p1)
    have HX := Lib.hid hx
    have HY := Lib.hid hy
    have HW := Lib.hid hW
    have HRW := Lib.hid (hr1.below hbW)
    have HBW := Lib.hid (bthen hb1 hbW)
    clear hx hy hW q1 p1 hbW hr1 hb1 hr
    go_wp2_with fail
    refine wp_region_segs [([0, 2, 3, 4, 5, 6, 7, 8, 9, 10, 11, 12], 1), ([13], 14)] [15, 16] (by kernel_rfl) (by kernel_rfl) (by kernel_rfl) (by kernel_rfl) (by intro c a d v w h; cases d <;> exact h) ?_
    rw [← HW.out]
    refine wpSegs_more ?_
    simp only [pick, List.getElem?_cons_zero, List.getElem?_cons_succ]
    repeat (first | go_big_quiet_step (fail) | quiet_step (fail))
    refine wpQuiet_nil ?_
    refine wpOp_heavy rfl (by rfl) (fun K hK => ?_)
    go_simp
    refine (cloneE_any (some ad) n c l W HRW.out Hn.out (by omega)).mono ?_
    rintro e w2 ⟨v, rfl, hown, hb2⟩
    obtain ⟨A2, c2, rfl, hc2, hes2⟩ := hown.form
    have HOW := Lib.hid hown
    have HES := Lib.hid hes2
    have HB2 := Lib.hid hb2
    refine hK _ _ hb2 ?_
    clear hK K hown hes2 hb2 f1 f2
    refine wpSegs_more ?_
    simp only [pick, List.getElem?_cons_zero, List.getElem?_cons_succ]
    repeat (first | go_big_quiet_step (fail) | quiet_step (fail))
    refine wpQuiet_nil ?_
    refine wpOp_heavy rfl (by rfl) (fun K hK => ?_)
    go_simp
    have hbn : Below w2.heap.size w2 (w2.alloc (.cells (NR.cells ⟨A2, l.length, c2, none, 0, 0, 1, x.k, y.k, false⟩) 93)) := (Below.refl _ _).alloc (Nat.le_refl _) _
    refine hK _ _ hbn ?_
    clear hK K
    refine wpSegs_last ?_
    simp only [pick, List.getElem?_cons_zero, List.getElem?_cons_succ]
    repeat (first | go_big_quiet_step (fail) | quiet_step (fail))
    refine wpQuiet_nil ?_
    go_wp2
    go_ret2
    refine ⟨bthen HBW.out (bthen HB2.out hbn), .inl ⟨HR.out.symm, w2.heap.size, ⟨A2, l.length, c2, none, 0, 0, 1, x.k, y.k, false⟩, rfl, ?_, NodeAt.new w2 ⟨A2, l.length, c2, none, 0, 0, 1, x.k, y.k, false⟩, ⟨rfl, rfl, rfl, rfl, ?_, ?_, rfl⟩, HES.out.below hbn, ?_⟩⟩
    · exact Nat.le_trans HBW.out.size HB2.out.size
    · intro e he
      rw [HX.out] at he
      cases he
      rfl
    · intro e he
      rw [Hn.out, HY.out] at he
      cases he
      rfl
    · intro a he
      obtain ⟨h1, h2⟩ := HOW.out.addr_ge a he
      exact ⟨Nat.le_trans HBW.out.size h1, Nat.lt_of_lt_of_le h2 hbn.size⟩

end Go.Proofs.Ytkooaechcbopnaa
