/-
  The contracts of tree.halves, tree.build, parts.enough and parts.nodes; conditions stand at each.
-/
import Derived.Test.YtkooaechcbopnaaTreeParts
namespace Go.Proofs.Ytkooaechcbopnaa
open Go.RowKit Go.Sort
set_option linter.unusedVariables false

set_option maxHeartbeats 1000000 in
theorem enough_any (w : World) (A B : Option Addr) (n c m d : Nat) : Calls Try.prog 52 #[.agg #[.slice A n c, .slice B m d]] w fun e w' => e = .returned (.bool (decide (if m = 0 then 2 ≤ n else 3 ≤ m))) ∧ Below w.heap.size w w' := by
  have hb0 : Below w.heap.size w (w.alloc (.cells #[.slice A n c, .slice B m d] 65)) := (Below.refl _ _).alloc (Nat.le_refl _) _
  have hblk : (w.alloc (.cells #[.slice A n c, .slice B m d] 65)).heap[w.heap.size]? = some (.cells #[.slice A n c, .slice B m d] 65 (0, 0)) := heap_alloc_new w _
  obtain ⟨r, hr⟩ : ∃ r, r = decide (if m = 0 then 2 ≤ n else 3 ≤ m) := ⟨_, rfl⟩
  rw [← hr]
  have HR := Lib.hid hr
  clear hr
  go_enter Try.func52, Try.ntmps52
  go_wp2_with fail
  have hd0 := cell_at hblk 0 _ rfl
  have hd1 := cell_at hblk 1 _ rfl
  refine (ofLeaf_any _ A B n c m d).mono ?_
  rintro e w1 ⟨rfl, hb1⟩
  have q0 := (hb1.cell (by simp)).trans hd0
  have q1 := (hb1.cell (by simp)).trans hd1
  have HB := Lib.hid (bthen hb0 hb1)
  clear hb0 hb1 hblk hd0 hd1
  by_cases hm : m = 0
  · subst hm
    go_wp2
    go_ret
    refine ⟨congrArg (fun b => Ending.returned (Value.bool b)) ?_, HB.out⟩
    rw [HR.out]
    exact decide_eq_decide.2 (by simp; omega)
  · go_wp2
    go_ret
    refine ⟨congrArg (fun b => Ending.returned (Value.bool b)) ?_, HB.out⟩
    rw [HR.out]
    exact decide_eq_decide.2 (by rw [if_neg hm]; omega)

set_option maxHeartbeats 1000000 in
theorem halvesE_any (A : Option Addr) (n c : Nat) (l : List Ent) (w : World) (hr : Es w A l) (hn : l.length = n) (hc : n ≤ c) (hb : n ≤ 1000) (m : Nat) (hm : m = (n + 1) / 2) :
    Calls Try.prog 79 #[.slice A n c] w fun e w' => ∃ B d, e = .returned (.tuple #[.slice A m c, .slice B ((n - m : Nat) : Nat) d]) ∧ m ≤ c ∧ n - m ≤ d ∧ Es w' A (l.take m) ∧ Es w' B (l.drop m) ∧ Below w.heap.size w w' := by
  have hm1 : m ≤ n := by omega
  have hdiv : ((n : Int) + 1).tdiv 2 = (m : Int) := by
    rw [hm, show (n : Int) + 1 = ((n + 1 : Nat) : Int) from rfl, Int.tdiv_eq_ediv_of_nonneg (by omega)]
    omega
  have Hn := Lib.hid hn
  clear hm hn
  go_enter Try.func79, Try.ntmps79
  go_wp2_with fail
  go_quiet (fail)
  have hb1 := below_drewN (Below.refl w.heap.size w) nq
  have hr1 := hr.below hb1
  have hr2 := hr1.cut (k := m) (c := c) (by rw [Hn.out]; exact hc)
  generalize (if c = m then A else A.map (·.add (m * 2))) = B at hr2 ⊢
  go_wp2
  go_ret2
  exact ⟨_, _, rfl, by omega, by omega, hr1.take m, hr2, hb1⟩

set_option maxHeartbeats 1000000 in
theorem halvesP_any (A : Option Addr) (n c : Nat) (l : List (Option Nat)) (w : World) (hr : Ls pcP w A l) (hn : l.length = n) (hc : n ≤ c) (hb : n ≤ 1000) (m : Nat) (hm : m = (n + 1) / 2) :
    Calls Try.prog 81 #[.slice A n c] w fun e w' => ∃ B d, e = .returned (.tuple #[.slice A m c, .slice B ((n - m : Nat) : Nat) d]) ∧ m ≤ c ∧ n - m ≤ d ∧ Ls pcP w' A (l.take m) ∧ Ls pcP w' B (l.drop m) ∧ Below w.heap.size w w' := by
  have hm1 : m ≤ n := by omega
  have hdiv : ((n : Int) + 1).tdiv 2 = (m : Int) := by
    rw [hm, show (n : Int) + 1 = ((n + 1 : Nat) : Int) from rfl, Int.tdiv_eq_ediv_of_nonneg (by omega)]
    omega
  have Hn := Lib.hid hn
  clear hm hn
  go_enter Try.func81, Try.ntmps81
  go_wp2_with fail
  go_quiet (fail)
  have hb1 := below_drewN (Below.refl w.heap.size w) nq
  have hr1 := hr.below hb1
  have hr2 := hr1.cut encP (k := m) (c := c) (by rw [Hn.out]; exact hc)
  simp only [Nat.mul_one] at hr2
  generalize (if c = m then A else A.map (·.add (m))) = B at hr2 ⊢
  go_wp2
  go_ret2
  exact ⟨_, _, rfl, by omega, by omega, hr1.take_ m, hr2, hb1⟩

/-- A node as a tree. -/
theorem leaf_tr {w : World} {b : Nat} {N : NR} {l : List Ent} (h1 : NodeAt w b N) (h2 : LeafR N l) (h3 : Es w N.ea l) (h4 : okLeaf l = true) : Tr w 0 ⟨b, N, l, [b]⟩ := ⟨h1, h2, h3, h4, rfl⟩
theorem branch_tr {w : World} {b h : Nat} {N : NR} {ks : List ST} (h1 : NodeAt w b N) (h2 : BranchR N (nbs ks)) (h3 : Ls pcP w N.ka (ptrS ks)) (h4 : 2 ≤ ks.length) (h5 : ks.length ≤ 6) (h6 : Sorted (flat ks)) (h7 : ∀ k ∈ ks, Tr w h k ∧ k.good = true) : Tr w (h + 1) ⟨b, N, flat ks, b :: idsOf ks⟩ := ⟨ks, h1, h2, h3, h4, h5, h6, h7, rfl, rfl⟩
theorem ls_one (w : World) (b : Nat) (t : TypeId) : Ls pcP (w.alloc (.cells #[pn b] t)) (some ⟨w.heap.size, 0, none⟩) [some b] := fun _ => ⟨_, rfl, by simp, new_row w #[pn b] t⟩
theorem ls_pair (w : World) (b c : Nat) (t : TypeId) : Ls pcP (w.alloc (.cells #[pn b, pn c] t)) (some ⟨w.heap.size, 0, none⟩) [some b, some c] := fun _ => ⟨_, rfl, by simp, new_row w #[pn b, pn c] t⟩
def most (h : Nat) : Nat := if h = 0 then 4 else 6
def least (h : Nat) : Nat := if h = 0 then 2 else 3
/-- Nodes that were made of parts: one, or two. -/
def Built (w w' : World) (h : Nat) (v : Value) (l : List Ent) (n : Nat) (old : List Nat) (m : Nat) : Prop :=
  ∃ ks A c, v = .slice A ks.length c ∧ ks.length ≤ c ∧ Ls pcP w' A (ptrS ks) ∧ ks.length = (if n ≤ most h then 1 else 2) ∧ (∀ k ∈ ks, Tr w' h k ∧ w.heap.size ≤ k.b ∧ (least h ≤ n → k.good = true)) ∧ flat ks = l ∧ FewNew old m (idsOf ks)
theorem Built.below {w w1 w2 : World} {h : Nat} {v : Value} {l : List Ent} {n m : Nat} {old : List Nat} (hp : Built w w1 h v l n old m) (hb : Below w1.heap.size w1 w2) : Built w w2 h v l n old m := by
  obtain ⟨ks, A, c, h1, h2, h3, h4, h5, h6⟩ := hp
  exact ⟨ks, A, c, h1, h2, h3.below hb, h4, fun k hk => ⟨(h5 k hk).1.below hb, (h5 k hk).2⟩, h6⟩
theorem Built.older {w0 w w1 : World} {h : Nat} {v : Value} {l : List Ent} {n m : Nat} {old : List Nat} (hp : Built w w1 h v l n old m) (hb : w0.heap.size ≤ w.heap.size) : Built w0 w1 h v l n old m := by
  obtain ⟨ks, A, c, h1, h2, h3, h4, h5, h6⟩ := hp
  exact ⟨ks, A, c, h1, h2, h3, h4, fun k hk => ⟨(h5 k hk).1, Nat.le_trans hb (h5 k hk).2.1, (h5 k hk).2.2⟩, h6⟩
theorem okE_small {e : Ent} (h : okE e = true) : e.k.size ≤ 140737488351232 ∧ e.v.size ≤ 140737488351232 := by
  simp only [okE, Bool.and_eq_true, decide_eq_true_eq] at h
  obtain ⟨h1, h2⟩ := h
  constructor
  · by_cases h24 : 24 < e.k.size
    · unfold keyNo at h1
      rw [if_neg (by omega), if_pos h24] at h1
      cases h1
    · omega
  · by_cases h24 : 400 < e.v.size
    · unfold valNo at h2
      rw [if_pos h24] at h2
      cases h2
    · omega
theorem okLeaf_of {l : List Ent} (h1 : 1 ≤ l.length) (h4 : l.length ≤ 4) (h : ∀ e ∈ l, okE e = true) (hs : Sorted l) : okLeaf l = true := by rw [okLeaf_good h1 h4 h]; exact decide_eq_true hs

set_option maxHeartbeats 1000000 in
set_option maxRecDepth 100000 in
theorem buildE_any (A : Option Addr) (n c : Nat) (l : List Ent) (w : World) (hr : Es w A l) (hn : l.length = n) (hc : n ≤ c) (h1 : 1 ≤ n) (h8 : n ≤ 8) (hs : Sorted l) (ho : ∀ e ∈ l, okE e = true) (old : List Nat) :
    Calls Try.prog 69 #[.slice A n c, .int .i64 4, .func (.func 70) #[] #[]] w fun e w' => ∃ v, e = .returned v ∧ Built w w' 0 v l n old 2 ∧ Below w.heap.size w w' := by
  have Hn := Lib.hid hn
  have HS := Lib.hid hs
  have HO := Lib.hid ho
  have HR := Lib.hid hr
  clear hn hs ho hr
  by_cases h4 : n ≤ 4
  · go_enter Try.func69, Try.ntmps69
    go_wp2_with fail
    refine (leaf_any A n c l w HR.out Hn.out (by omega) (fun e he => okE_small (HO.out e he))).mono ?_
    have hok := okLeaf_of (by rw [Hn.out]; exact h1) (by rw [Hn.out]; exact h4) HO.out HS.out
    rintro e w1 ⟨hb1, ⟨_, b, N, rfl, hbb, hN, hL, hE, _⟩ | ⟨h, _⟩⟩
    · have hb2 : Below w1.heap.size w1 (w1.alloc (.cells #[pn b] 26)) := (Below.refl _ _).alloc (Nat.le_refl _) _
      have ht := (leaf_tr hN hL hE hok).below hb2
      have HB : Hid (Built w (w1.alloc (.cells #[pn b] 26)) 0 (.slice (some ⟨w1.heap.size, 0, none⟩) 1 1) l n old 2) := Lib.hid ⟨[⟨b, N, l, [b]⟩], _, 1, rfl, Nat.le_refl _, ls_one w1 b _, by rw [if_pos (show n ≤ most 0 from h4)]; rfl, fun k hk => by
        rw [List.mem_singleton.1 hk]
        refine ⟨ht, hbb, fun h2 => ?_⟩
        rw [ht.good_iff]
        refine decide_eq_true ?_
        show 2 ≤ N.en + N.kn
        rw [hL.en, hL.kn, Hn.out]
        exact h2, by simp [flat], ⟨[b], by simp, fun x hx => .inr (by simpa [idsOf] using hx)⟩⟩
      have HW := Lib.hid (bthen hb1 hb2)
      clear hb1 hb2 ht hN hL hE
      go_wp2
      go_ret
      exact ⟨_, rfl, HB.out, HW.out⟩
    · rw [hok] at h
      cases h
  · obtain ⟨m, hm⟩ : ∃ m, m = (n + 1) / 2 := ⟨_, rfl⟩
    have hm1 : 3 ≤ m ∧ m ≤ 4 ∧ 2 ≤ n - m ∧ n - m ≤ 4 ∧ m ≤ n := by omega
    have hl1 : (l.take m).length = m := by rw [List.length_take, Hn.out]; omega
    have hl2 : (l.drop m).length = n - m := by rw [List.length_drop, Hn.out]
    have ho1 : ∀ e ∈ l.take m, okE e = true := fun e he => HO.out e (List.mem_of_mem_take he)
    have ho2 : ∀ e ∈ l.drop m, okE e = true := fun e he => HO.out e (List.mem_of_mem_drop he)
    have hs1 : Sorted (l.take m) := HS.out.sublist (List.take_sublist _ _)
    have hs2 : Sorted (l.drop m) := HS.out.sublist (List.drop_sublist _ _)
    have hok1 := okLeaf_of (by rw [hl1]; omega) (by rw [hl1]; omega) ho1 hs1
    have hok2 := okLeaf_of (by rw [hl2]; omega) (by rw [hl2]; omega) ho2 hs2
    have HL1 := Lib.hid hl1
    have HL2 := Lib.hid hl2
    have HO1 := Lib.hid ho1
    have HO2 := Lib.hid ho2
    have HK1 := Lib.hid hok1
    have HK2 := Lib.hid hok2
    clear hl1 hl2 ho1 ho2 hs1 hs2 hok1 hok2
    go_enter Try.func69, Try.ntmps69
    go_wp2_with fail
    refine (halvesE_any A n c l w HR.out Hn.out hc (by omega) m hm).mono ?_
    rintro e w1 ⟨B, d, rfl, hmc, hmd, he1, he2, hb1⟩
    have HE1 := Lib.hid he1
    have HE2 := Lib.hid he2
    have HB1 := Lib.hid hb1
    have HM := Lib.hid hm
    clear he1 he2 hb1 hm
    go_wp2_with fail
    refine (leaf_any A m c (l.take m) w1 HE1.out HL1.out (by omega) (fun e he => okE_small (HO1.out e he))).mono ?_
    rintro e w2 ⟨hb2, ⟨_, b, N, rfl, hbb, hN, hL, hE, _⟩ | ⟨h, _⟩⟩
    · have HB2 := Lib.hid hb2
      have HN1 := Lib.hid (leaf_tr hN hL hE HK1.out)
      have HZ1 := Lib.hid (show N.en + N.kn = m by rw [hL.en, hL.kn, HL1.out]; rfl)
      have HBB := Lib.hid (show w.heap.size ≤ b from Nat.le_trans HB1.out.size hbb)
      clear hb2 hN hL hE hbb
      go_wp2_with fail
      refine (leaf_any B (n - m) d (l.drop m) w2 (HE2.out.below HB2.out) HL2.out (by omega) (fun e he => okE_small (HO2.out e he))).mono ?_
      rintro e w3 ⟨hb3, ⟨_, b', N', rfl, hbb', hN', hL', hE', _⟩ | ⟨h, _⟩⟩
      · have hb4 : Below w3.heap.size w3 (w3.alloc (.cells #[pn b, pn b'] 26)) := (Below.refl _ _).alloc (Nat.le_refl _) _
        have ht1 := (HN1.out.below hb3).below hb4
        have ht2 := (leaf_tr hN' hL' hE' HK2.out).below hb4
        have hz2 : N'.en + N'.kn = n - m := by rw [hL'.en, hL'.kn, HL2.out]; rfl
        have HB : Hid (Built w (w3.alloc (.cells #[pn b, pn b'] 26)) 0 (.slice (some ⟨w3.heap.size, 0, none⟩) 2 2) l n old 2) := Lib.hid ⟨[⟨b, N, l.take m, [b]⟩, ⟨b', N', l.drop m, [b']⟩], _, 2, rfl, Nat.le_refl _, ls_pair w3 b b' _, by rw [if_neg (show ¬ n ≤ most 0 from h4)]; rfl, fun k hk => by
          rcases List.mem_cons.1 hk with rfl | hk
          · refine ⟨ht1, HBB.out, fun h2 => ?_⟩
            rw [ht1.good_iff]
            refine decide_eq_true ?_
            show 2 ≤ N.en + N.kn
            rw [HZ1.out]
            omega
          · rw [List.mem_singleton.1 hk]
            refine ⟨ht2, Nat.le_trans HB1.out.size (Nat.le_trans HB2.out.size hbb'), fun h2 => ?_⟩
            rw [ht2.good_iff]
            refine decide_eq_true ?_
            show 2 ≤ N'.en + N'.kn
            rw [hz2]
            omega, by simp [flat], ⟨[b, b'], by simp, fun x hx => .inr (by simpa [idsOf] using hx)⟩⟩
        have HW := Lib.hid (bthen HB1.out (bthen HB2.out (bthen hb3 hb4)))
        clear hb3 hb4 ht1 ht2 hz2 hN' hL' hE'
        go_wp2
        go_ret
        exact ⟨_, rfl, HB.out, HW.out⟩
      · rw [HK2.out] at h
        cases h
    · rw [HK1.out] at h
      cases h

theorem idsOf_take {ks : List ST} {m : Nat} {x : Nat} (h : x ∈ idsOf (ks.take m)) : x ∈ idsOf ks := by
  obtain ⟨k, hk, hx⟩ := List.mem_flatMap.1 h
  exact List.mem_flatMap.2 ⟨k, List.mem_of_mem_take hk, hx⟩
theorem idsOf_drop {ks : List ST} {m : Nat} {x : Nat} (h : x ∈ idsOf (ks.drop m)) : x ∈ idsOf ks := by
  obtain ⟨k, hk, hx⟩ := List.mem_flatMap.1 h
  exact List.mem_flatMap.2 ⟨k, List.mem_of_mem_drop hk, hx⟩
theorem flat_sorted_take {ks : List ST} (m : Nat) (h : Sorted (flat ks)) : Sorted (flat (ks.take m)) := by
  have e : flat ks = flat (ks.take m) ++ flat (ks.drop m) := by rw [← flat_append, List.take_append_drop]
  rw [e] at h
  exact (List.pairwise_append.1 h).1
theorem flat_sorted_drop {ks : List ST} (m : Nat) (h : Sorted (flat ks)) : Sorted (flat (ks.drop m)) := by
  have e : flat ks = flat (ks.take m) ++ flat (ks.drop m) := by rw [← flat_append, List.take_append_drop]
  rw [e] at h
  exact (List.pairwise_append.1 h).2.1
/-- A branch of sufficiently filled kids, as a tree. -/
theorem made_tr {w w1 : World} {b h : Nat} {N : NR} {ks : List ST} (h1 : NodeAt w1 b N) (h2 : BranchR N (nbs ks)) (h3 : Ls pcP w1 N.ka (ptrS ks)) (h4 : 2 ≤ ks.length) (h5 : ks.length ≤ 6) (h6 : Sorted (flat ks)) (h7 : ∀ k ∈ ks, Tr w h k ∧ k.good = true) (hb : Below w.heap.size w w1) :
    Tr w1 (h + 1) ⟨b, N, flat ks, b :: idsOf ks⟩ ∧ (3 ≤ ks.length → (⟨b, N, flat ks, b :: idsOf ks⟩ : ST).good = true) := by
  have t := branch_tr h1 h2 h3 h4 h5 h6 fun k hk => ⟨(h7 k hk).1.below hb, (h7 k hk).2⟩
  refine ⟨t, fun hg => ?_⟩
  rw [t.good_iff]
  refine decide_eq_true ?_
  show (if h + 1 = 0 then 2 else 3) ≤ N.en + N.kn
  rw [if_neg (by omega), h2.en, h2.kn, nbs_len]
  omega

set_option maxHeartbeats 1000000 in
set_option maxRecDepth 100000 in
theorem buildP_any (A : Option Addr) (n c h : Nat) (ks : List ST) (w : World) (hr : Ls pcP w A (ptrS ks)) (hn : ks.length = n) (hc : n ≤ c) (h1 : 2 ≤ n) (h8 : n ≤ 12) (hh : h ≤ 100000) (hs : Sorted (flat ks)) (ho : ∀ k ∈ ks, Tr w h k ∧ k.good = true) (old : List Nat) (q : Nat) (hf : FewNew old q (idsOf ks)) :
    Calls Try.prog 71 #[.slice A n c, .int .i64 6, .func (.func 56) #[] #[]] w fun e w' => ∃ v, e = .returned v ∧ Built w w' (h + 1) v (flat ks) n old (q + 2) ∧ Below w.heap.size w w' := by
  have Hn := Lib.hid hn
  have HS := Lib.hid hs
  have HO := Lib.hid ho
  have HR := Lib.hid hr
  have HF := Lib.hid hf
  clear hn hs ho hr hf
  by_cases h4 : n ≤ 6
  · go_enter Try.func71, Try.ntmps71
    go_wp2_with fail
    refine (branch_any A n c (nbs ks) w HR.out (by rw [nbs_len]; exact Hn.out) hc (by omega) (all_of HO.out) (tame_of HO.out hh)).mono ?_
    have hok := krs_ok HO.out HS.out (by rw [Hn.out]; exact h1) (by rw [Hn.out]; exact h4)
    rintro e w1 ⟨hb1, ⟨_, b, N, rfl, hbb, hN, hL, hE, _⟩ | ⟨h, _⟩⟩
    · have hb2 : Below w1.heap.size w1 (w1.alloc (.cells #[pn b] 26)) := (Below.refl _ _).alloc (Nat.le_refl _) _
      obtain ⟨ht1, hg⟩ := made_tr hN hL hE (by rw [Hn.out]; exact h1) (by rw [Hn.out]; exact h4) HS.out HO.out hb1
      have ht := ht1.below hb2
      have HB : Hid (Built w (w1.alloc (.cells #[pn b] 26)) (h + 1) (.slice (some ⟨w1.heap.size, 0, none⟩) 1 1) (flat ks) n old (q + 2)) := Lib.hid ⟨[⟨b, N, flat ks, b :: idsOf ks⟩], _, 1, rfl, Nat.le_refl _, ls_one w1 b _, by rw [if_pos (show n ≤ most (h + 1) from h4)]; rfl, fun k hk => by
        rw [List.mem_singleton.1 hk]
        exact ⟨ht, hbb, fun h2 => hg (by rw [Hn.out]; exact h2)⟩, by simp [flat], ((HF.out.new b).more (by omega)).sub fun x hx => by simpa [idsOf] using hx⟩
      have HW := Lib.hid (bthen hb1 hb2)
      clear hb1 hb2 ht ht1 hg hN hL hE
      go_wp2
      go_ret
      exact ⟨_, rfl, HB.out, HW.out⟩
    · rw [hok] at h
      cases h
  · obtain ⟨m, hm⟩ : ∃ m, m = (n + 1) / 2 := ⟨_, rfl⟩
    have hm1 : 3 ≤ m ∧ m ≤ 6 ∧ 3 ≤ n - m ∧ n - m ≤ 6 ∧ m ≤ n := by omega
    have hl1 : (ks.take m).length = m := by rw [List.length_take, Hn.out]; omega
    have hl2 : (ks.drop m).length = n - m := by rw [List.length_drop, Hn.out]
    have ho1 : ∀ k ∈ ks.take m, Tr w h k ∧ k.good = true := fun e he => HO.out e (List.mem_of_mem_take he)
    have ho2 : ∀ k ∈ ks.drop m, Tr w h k ∧ k.good = true := fun e he => HO.out e (List.mem_of_mem_drop he)
    have hs1 := flat_sorted_take m HS.out
    have hs2 := flat_sorted_drop m HS.out
    have hok1 := krs_ok ho1 hs1 (by rw [hl1]; omega) (by rw [hl1]; omega)
    have hok2 := krs_ok ho2 hs2 (by rw [hl2]; omega) (by rw [hl2]; omega)
    have HL1 := Lib.hid hl1
    have HL2 := Lib.hid hl2
    have HO1 := Lib.hid ho1
    have HO2 := Lib.hid ho2
    have HS1 := Lib.hid hs1
    have HS2 := Lib.hid hs2
    have HK1 := Lib.hid hok1
    have HK2 := Lib.hid hok2
    clear hl1 hl2 ho1 ho2 hs1 hs2 hok1 hok2
    go_enter Try.func71, Try.ntmps71
    go_wp2_with fail
    refine (halvesP_any A n c (ptrS ks) w HR.out (by rw [ptrS_len]; exact Hn.out) hc (by omega) m hm).mono ?_
    rintro e w1 ⟨B, d, rfl, hmc, hmd, he1, he2, hb1⟩
    rw [← ptrS_take] at he1
    rw [← ptrS_drop] at he2
    have HE1 := Lib.hid he1
    have HE2 := Lib.hid he2
    have HB1 := Lib.hid hb1
    have HM := Lib.hid hm
    clear he1 he2 hb1 hm
    go_wp2_with fail
    have ho11 : ∀ k ∈ ks.take m, Tr w1 h k ∧ k.good = true := fun k hk => ⟨(HO1.out k hk).1.below HB1.out, (HO1.out k hk).2⟩
    refine (branch_any A m c (nbs (ks.take m)) w1 HE1.out (by rw [nbs_len]; exact HL1.out) hmc (by omega) (all_of ho11) (tame_of ho11 hh)).mono ?_
    rintro e w2 ⟨hb2, ⟨_, b, N, rfl, hbb, hN, hL, hE, _⟩ | ⟨h, _⟩⟩
    · have HB2 := Lib.hid hb2
      obtain ⟨hta, hga⟩ := made_tr hN hL hE (by rw [HL1.out]; omega) (by rw [HL1.out]; omega) HS1.out ho11 hb2
      have HN1 := Lib.hid hta
      have HG1 := Lib.hid (hga (by rw [HL1.out]; omega))
      have HBB := Lib.hid (show w.heap.size ≤ b from Nat.le_trans HB1.out.size hbb)
      clear hb2 hN hL hE hbb hta hga ho11
      go_wp2_with fail
      have ho12 : ∀ k ∈ ks.drop m, Tr w2 h k ∧ k.good = true := fun k hk => ⟨((HO2.out k hk).1.below HB1.out).below HB2.out, (HO2.out k hk).2⟩
      refine (branch_any B (n - m) d (nbs (ks.drop m)) w2 (HE2.out.below HB2.out) (by rw [nbs_len]; exact HL2.out) hmd (by omega) (all_of ho12) (tame_of ho12 hh)).mono ?_
      rintro e w3 ⟨hb3, ⟨_, b', N', rfl, hbb', hN', hL', hE', _⟩ | ⟨h, _⟩⟩
      · have hb4 : Below w3.heap.size w3 (w3.alloc (.cells #[pn b, pn b'] 26)) := (Below.refl _ _).alloc (Nat.le_refl _) _
        obtain ⟨htb, hgb⟩ := made_tr hN' hL' hE' (by rw [HL2.out]; omega) (by rw [HL2.out]; omega) HS2.out ho12 hb3
        have ht1 := (HN1.out.below hb3).below hb4
        have ht2 := htb.below hb4
        have HB : Hid (Built w (w3.alloc (.cells #[pn b, pn b'] 26)) (h + 1) (.slice (some ⟨w3.heap.size, 0, none⟩) 2 2) (flat ks) n old (q + 2)) := Lib.hid ⟨[⟨b, N, flat (ks.take m), b :: idsOf (ks.take m)⟩, ⟨b', N', flat (ks.drop m), b' :: idsOf (ks.drop m)⟩], _, 2, rfl, Nat.le_refl _, ls_pair w3 b b' _, by rw [if_neg (show ¬ n ≤ most (h + 1) from h4)]; rfl, fun k hk => by
          rcases List.mem_cons.1 hk with rfl | hk
          · exact ⟨ht1, HBB.out, fun _ => HG1.out⟩
          · rw [List.mem_singleton.1 hk]
            exact ⟨ht2, Nat.le_trans HB1.out.size (Nat.le_trans HB2.out.size hbb'), fun _ => hgb (by rw [HL2.out]; omega)⟩, by
          show flat (ks.take m) ++ (flat (ks.drop m) ++ []) = flat ks
          rw [List.append_nil, ← flat_append, List.take_append_drop], ((HF.out.new b').new b).sub fun x hx => by
          simp only [idsOf, List.flatMap_cons, List.flatMap_nil, List.append_nil, List.mem_append, List.mem_cons] at hx
          rcases hx with (rfl | hx) | (rfl | hx)
          · exact List.mem_cons_self ..
          · exact List.mem_cons_of_mem _ (List.mem_cons_of_mem _ (idsOf_take hx))
          · exact List.mem_cons_of_mem _ (List.mem_cons_self ..)
          · exact List.mem_cons_of_mem _ (List.mem_cons_of_mem _ (idsOf_drop hx))⟩
        have HW := Lib.hid (bthen HB1.out (bthen HB2.out (bthen hb3 hb4)))
        clear hb3 hb4 ht1 ht2 htb hgb hN' hL' hE' ho12
        go_wp2
        go_ret
        exact ⟨_, rfl, HB.out, HW.out⟩
      · rw [HK2.out] at h
        cases h
    · rw [HK1.out] at h
      cases h

/-- How many elements the parts of a level may have. -/
def fits (h n : Nat) : Prop := if h = 0 then 1 ≤ n ∧ n ≤ 8 else 2 ≤ n ∧ n ≤ 12
set_option maxHeartbeats 1000000 in
set_option maxRecDepth 100000 in
theorem nodes_any {w : World} {h : Nat} {v : Value} {l : List Ent} {n q : Nat} {old : List Nat} (hp : Parts w h v l n old q) (hf : fits h n) (hh : h ≤ 100000) (hs : Sorted l) (ho : ∀ e ∈ l, okE e = true) :
    Calls Try.prog 55 #[v] w fun e w' => ∃ u, e = .returned u ∧ Built w w' h u l n old (q + 2) ∧ Below w.heap.size w w' := by
  have HP := Lib.hid hp
  have HS := Lib.hid hs
  have HO := Lib.hid ho
  clear hp hs ho
  cases h with
  | zero =>
    obtain ⟨⟨A, c, B, d, rfl, hc, hd, he, hl⟩, hn⟩ := HP.out
    obtain ⟨hf1, hf2⟩ : 1 ≤ n ∧ n ≤ 8 := hf
    have HE := Lib.hid he
    have HN := Lib.hid hn
    rw [hn] at hc ⊢
    clear HP he hl hn
    simp only [List.length_nil] at hd ⊢
    go_enter Try.func55, Try.ntmps55
    go_wp2_with fail
    have hb0 : Below w.heap.size w (w.alloc (.cells #[.slice A n c, .slice B (0 : Nat) d] 65)) := (Below.refl _ _).alloc (Nat.le_refl _) _
    have hblk : (w.alloc (.cells #[.slice A n c, .slice B (0 : Nat) d] 65)).heap[w.heap.size]? = some (.cells #[.slice A n c, .slice B (0 : Nat) d] 65 (0, 0)) := heap_alloc_new w _
    refine (ofLeaf_any _ A B n c 0 d).mono ?_
    rintro e w1 ⟨rfl, hb1⟩
    have q0 := (hb1.cell (by simp)).trans (cell_at hblk 0 _ rfl)
    have hb2 := bthen hb0 hb1
    have HB := Lib.hid hb2
    have HE1 := Lib.hid (HE.out.below hb2)
    clear hb0 hb1 hblk hb2
    go_wp2_with fail
    refine (buildE_any A n c l w1 HE1.out HN.out hc hf1 hf2 HS.out HO.out old).mono ?_
    rintro e w2 ⟨u, rfl, hbu, hb3⟩
    have HU := Lib.hid hbu
    have HW := Lib.hid (bthen HB.out hb3)
    clear hbu hb3
    go_wp2
    go_ret
    obtain ⟨ks, A', c', k1, k2, k3, k4, k5, k6, k7⟩ := HU.out.older HB.out.size
    exact ⟨_, rfl, ⟨ks, A', c', k1, k2, k3, k4, k5, k6, k7.more (by omega)⟩, HW.out⟩
  | succ h =>
    obtain ⟨ks, ⟨A, c, B, d, rfl, hc, hd, he, hl⟩, hn, hk, rfl, hq⟩ := HP.out
    obtain ⟨hf1, hf2⟩ : 2 ≤ n ∧ n ≤ 12 := by
      unfold fits at hf
      rw [if_neg (by omega)] at hf
      exact hf
    have HE := Lib.hid hl
    have HN := Lib.hid hn
    have HK := Lib.hid hk
    have HQ := Lib.hid hq
    rw [ptrS_len, hn] at hd ⊢
    clear HP he hl hn hf hk hq
    simp only [List.length_nil] at hc ⊢
    have hn0 : ¬ n = 0 := by omega
    go_enter Try.func55, Try.ntmps55
    go_wp2_with fail
    have hb0 : Below w.heap.size w (w.alloc (.cells #[.slice A (0 : Nat) c, .slice B n d] 65)) := (Below.refl _ _).alloc (Nat.le_refl _) _
    have hblk : (w.alloc (.cells #[.slice A (0 : Nat) c, .slice B n d] 65)).heap[w.heap.size]? = some (.cells #[.slice A (0 : Nat) c, .slice B n d] 65 (0, 0)) := heap_alloc_new w _
    refine (ofLeaf_any _ A B 0 c n d).mono ?_
    rintro e w1 ⟨rfl, hb1⟩
    have q1 := (hb1.cell (by simp)).trans (cell_at hblk 1 _ rfl)
    have hb2 := bthen hb0 hb1
    have HB := Lib.hid hb2
    have HE1 := Lib.hid (HE.out.below hb2)
    have HK1 := Lib.hid (show ∀ k ∈ ks, Tr w1 h k ∧ k.good = true from fun k hk => ⟨(HK.out k hk).1.below hb2, (HK.out k hk).2⟩)
    clear hb0 hb1 hblk hb2
    go_wp2_with fail
    refine (buildP_any B n d h ks w1 HE1.out HN.out hd hf1 hf2 (by omega) HS.out HK1.out old q HQ.out).mono ?_
    rintro e w2 ⟨u, rfl, hbu, hb3⟩
    have HU := Lib.hid hbu
    have HW := Lib.hid (bthen HB.out hb3)
    clear hbu hb3
    go_wp2
    go_ret
    exact ⟨_, rfl, HU.out.older HB.out.size, HW.out⟩

end Go.Proofs.Ytkooaechcbopnaa
