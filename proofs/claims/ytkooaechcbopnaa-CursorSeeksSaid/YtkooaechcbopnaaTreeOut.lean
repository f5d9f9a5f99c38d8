/-
  The contract of tree.without; conditions: the tree is valid and lies in memory.
-/
import Derived.Test.YtkooaechcbopnaaTreeWith
namespace Go.Proofs.Ytkooaechcbopnaa
open Go.RowKit Go.Sort
set_option linter.unusedVariables false

/-- The parts of a valid tree. -/
theorem partsOf_tr {w : World} {h : Nat} {s : ST} (t : Tr w h s) : Calls Try.prog 48 #[pn s.b] w fun e w' => ∃ v, e = .returned v ∧ Parts w' h v s.l s.size s.ids 0 ∧ Below w.heap.size w w' := by
  have hsz := t.size_le
  cases h with
  | zero =>
    obtain ⟨hN, hL, hE, hok, hid⟩ := t
    refine (partsOf_pt hN hE hL.en.symm (Ls.nil (f := pcP) _ _) hL.kn.symm (by omega) (by omega)).mono ?_
    rintro e w1 ⟨v, rfl, hp, hb⟩
    exact ⟨v, rfl, ⟨hp, by unfold ST.size; rw [hL.en, hL.kn]; rfl⟩, hb⟩
  | succ h =>
    obtain ⟨ks, hN, hB, hP, hk2, hk6, hso, hks, hfl, hid⟩ := t
    refine (partsOf_pt hN (Es.nil _ _) hB.en.symm hP (by rw [hB.kn, ptrS_len, nbs_len]) (by omega) (by omega)).mono ?_
    rintro e w1 ⟨v, rfl, hp, hb⟩
    exact ⟨v, rfl, ⟨ks, hp, by unfold ST.size; rw [hB.en, hB.kn, nbs_len, Nat.zero_add], fun k hk => ⟨(hks k hk).1.below hb, (hks k hk).2⟩, hfl.symm, FewNew.of (fun x hx => by rw [hid]; exact List.mem_cons_of_mem _ hx) 0⟩, hb⟩
/-- Two nodes' parts together. -/
theorem join_parts {w : World} {h n1 n2 m1 m2 : Nat} {v1 v2 : Value} {l1 l2 : List Ent} {old : List Nat} (h1 : Parts w h v1 l1 n1 old m1) (h2 : Parts w h v2 l2 n2 old m2) (hb : n1 + n2 ≤ 1000) :
    Calls Try.prog 54 #[v1, v2] w fun e w' => ∃ u, e = .returned u ∧ Parts w' h u (l1 ++ l2) (n1 + n2) old (m1 + m2) ∧ Below w.heap.size w w' := by
  cases h with
  | zero =>
    refine (join_pt h1.1 h2.1 (by rw [h1.2, h2.2]; exact hb) (by simp)).mono ?_
    rintro e w1 ⟨u, rfl, hp, hb1⟩
    exact ⟨u, rfl, ⟨hp, by rw [List.length_append, h1.2, h2.2]⟩, hb1⟩
  | succ h =>
    obtain ⟨k1, p1, e1, t1, f1, o1⟩ := h1
    obtain ⟨k2, p2, e2, t2, f2, o2⟩ := h2
    refine (join_pt p1 p2 (by simp) (by rw [ptrS_len, ptrS_len, e1, e2]; exact hb)).mono ?_
    rintro e w1 ⟨u, rfl, hp, hb1⟩
    rw [← ptrS_append] at hp
    refine ⟨u, rfl, ⟨k1 ++ k2, hp, by rw [List.length_append, e1, e2], fun k hk => ?_, by rw [flat_append, f1, f2], by rw [idsOf_append]; exact o1.join o2⟩, hb1⟩
    rcases List.mem_append.1 hk with hk | hk
    · exact ⟨(t1 k hk).1.below hb1, (t1 k hk).2⟩
    · exact ⟨(t2 k hk).1.below hb1, (t2 k hk).2⟩

/-- A box of parts. -/
def Bx (g : Nat) (u v : Value) (w : World) : Prop := w.heap[g]? = some (.cells #[u, v] 65 (0, 0))
theorem Bx.lt {g : Nat} {u v : Value} {w : World} (h : Bx g u v w) : g < w.heap.size := lt_of_block h
theorem Bx.next {g : Nat} {u v : Value} {w w' : World} (h : Bx g u v w) (hb : Below w.heap.size w w') : Bx g u v w' := (hb.block _ (lt_of_block h)).trans h
theorem Bx.c0 {g : Nat} {u v : Value} {w : World} (h : Bx g u v w) : w.cell? ⟨g, 0, none⟩ = some u := cell_at h 0 _ rfl
theorem Bx.c1 {g : Nat} {u v : Value} {w : World} (h : Bx g u v w) : w.cell? ⟨g, 1, none⟩ = some v := cell_at h 1 _ rfl
theorem Bx.f0 {g : Nat} {u v : Value} {w : World} (h : Bx g u v w) : w.frozen? ⟨g, 0, none⟩ = false := free_at h 0
theorem Bx.f1 {g : Nat} {u v : Value} {w : World} (h : Bx g u v w) : w.frozen? ⟨g, 1, none⟩ = false := free_at h 1
theorem Bx.p0 {g : Nat} {u v : Value} {w : World} (h : Bx g u v w) : ∀ z : Dc.Past [] w, z.val.cell? ⟨g, 0, none⟩ = some u := fun z => (z.ok.cell h.lt (by simp)).trans h.c0
theorem Bx.p1 {g : Nat} {u v : Value} {w : World} (h : Bx g u v w) : ∀ z : Dc.Past [] w, z.val.cell? ⟨g, 1, none⟩ = some v := fun z => (z.ok.cell h.lt (by simp)).trans h.c1
theorem Bx.new (w : World) (u v : Value) : Bx w.heap.size u v (w.alloc (.cells #[u, v] 65)) := heap_alloc_new w _

/-- What tree.without answers. -/
def TOPost (w : World) (h : Nat) (s : ST) (key : ByteArray) (r : Ending) (w' : World) : Prop :=
  ∃ v n, r = .returned v ∧ Parts w' h v (del s.l key) n s.ids (2 * h) ∧ s.size ≤ n + 1 ∧ n ≤ s.size + 1 ∧ Below w.heap.size w w'

set_option maxHeartbeats 2000000 in
set_option maxRecDepth 100000 in
theorem without_leaf {w : World} {s : ST} {key : ByteArray} (ht : Tr w 0 s) :
    Calls Try.prog 33 #[pn s.b, .string key] w (TOPost w 0 s key) := by
  obtain ⟨hN, hL, hE, hok, hid⟩ := ht
  have hlen := okLeaf_len hok
  have HS := Lib.hid (okLeaf_sorted hok)
  have HSZ := Lib.hid (show s.size = s.l.length by unfold ST.size; rw [hL.en, hL.kn]; rfl)
  obtain ⟨n, hn⟩ : ∃ n, n = s.l.length := ⟨_, rfl⟩
  rw [← hn] at hlen
  have hbW : Below w.heap.size w (w.alloc (.cells #[.slice none 0 0, .slice none 0 0] 65)) := (Below.refl _ _).alloc (Nat.le_refl _) _
  have k0 := Bx.new w (.slice none 0 0) (.slice none 0 0)
  have HN := Lib.hid (hN.below hbW)
  have HE := Lib.hid (hE.below hbW)
  have HEN := Lib.hid hL.en
  have HKN := Lib.hid hL.kn
  have Hn := Lib.hid hn
  have HBW := Lib.hid hbW
  have K0 := Lib.hid k0
  clear hN hL hE hok hid hbW k0 hn
  go_enter Try.func33, Try.ntmps33
  go_wp2_with fail
  refine (partsOf_pt HN.out HE.out HEN.out.symm (Ls.nil (f := pcP) _ _) HKN.out.symm (by rw [HEN.out, ← Hn.out]; omega) (by rw [HKN.out]; omega)).mono ?_
  rintro r w1 ⟨v, rfl, ⟨A, c, B, d, rfl, hc, hd, h1, h2⟩, hb1⟩
  rw [← Hn.out] at hc ⊢
  simp only [List.length_nil]
  have hb2 : Below w1.heap.size w1 (w1.alloc (.cells #[.slice A n c, .slice B (0 : Nat) d] 65)) := (Below.refl _ _).alloc (Nat.le_refl _) _
  have hb12 := bthen hb1 hb2
  have HB4 := Lib.hid (K0.out.next hb12)
  have HB5 := Lib.hid (Bx.new w1 (.slice A n c) (.slice B (0 : Nat) d))
  have HBB := Lib.hid (bthen HBW.out hb12)
  have HES := Lib.hid (h1.below hb2)
  clear hb1 hb2 hb12 h1 h2
  go_wp2_with fail
  generalize hw2 : w1.alloc (.cells #[.slice A n c, .slice B (0 : Nat) d] 65) = w2 at *
  refine (ofLeaf_any _ A B n c 0 d).mono ?_
  rintro r w3 ⟨rfl, hb3⟩
  generalize w1.heap.size = g at *
  have HB43 := Lib.hid (HB4.out.next hb3)
  have q50 := (HB5.out.next hb3).c0
  have HES3 := Lib.hid (HES.out.below hb3)
  have HBB3 := Lib.hid (bthen HBB.out hb3)
  clear hb3 hw2
  go_wp2_with fail
  refine (without_any A n c s.l key w3 HES3.out Hn.out.symm hc (by omega)).mono ?_
  rintro r w4 ⟨i, f, v, rfl, hpl, ho4, hb4⟩
  rw [hpl.wout HS.out] at ho4
  obtain ⟨A4, c4, rfl, hc4, hes4⟩ := ho4.form
  have hblk := HB43.out.next hb4
  have HT := Lib.hid (set_two hblk (.slice A4 (del s.l key).length c4) (.slice none 0 0))
  have HB := Lib.hid (two_below (bthen HBB3.out hb4) (Nat.le_refl _) (.slice A4 (del s.l key).length c4) (.slice none 0 0))
  have HE4 := Lib.hid (hes4.off (Off.two hblk (.slice A4 (del s.l key).length c4) (.slice none 0 0)))
  have hd0 := hblk.c0
  have hd1 := hblk.c1
  have hf0 := hblk.f0
  have hf1 := hblk.f1
  clear q50 ho4 hes4 hb4 hblk
  go_wp2
  refine bodyPost_ret (v := .agg #[.slice A4 (del s.l key).length c4, .slice none 0 0]) ?_ rfl ⟨_, (del s.l key).length, rfl, ⟨⟨A4, c4, none, 0, rfl, hc4, Nat.le_refl _, HE4.out, Ls.nil _ _⟩, rfl⟩, ?_, ?_, HB.out⟩
  · have k0 := cell_at HT.out 0 _ rfl
    have k1 := cell_at HT.out 1 _ rfl
    simp [results, Try.results33, go_sem, k0, k1]
  · rw [HSZ.out]
    exact del_one HS.out key
  · rw [HSZ.out]
    exact Nat.le_succ_of_le (del_length key HS.out)

theorem Parts.enough {w : World} {h : Nat} {v : Value} {l : List Ent} {n m : Nat} {old : List Nat} (hp : Parts w h v l n old m) (h1 : h ≠ 0 → 1 ≤ n) : ∃ A a c B b d, v = .agg #[.slice A (a : Nat) c, .slice B (b : Nat) d] ∧ decide (if b = 0 then 2 ≤ a else 3 ≤ b) = decide (least h ≤ n) := by
  cases h with
  | zero =>
    obtain ⟨⟨A, c, B, d, rfl, _⟩, rfl⟩ := hp
    exact ⟨A, _, c, B, _, d, rfl, by simp [least]⟩
  | succ h =>
    obtain ⟨ks, ⟨A, c, B, d, rfl, _⟩, rfl, _⟩ := hp
    have h2 := h1 (by omega)
    refine ⟨A, _, c, B, _, d, rfl, decide_eq_decide.2 ?_⟩
    rw [ptrS_len, if_neg (by omega)]
    exact Iff.rfl
theorem repl_parts {w w7 : World} {h i j q : Nat} {s : ST} {ks ms : List ST} {L : List Ent} {u : Value} (hpt : Pt w7 u [] (ptrS (ks.take i ++ ms ++ ks.drop j))) (hks : ∀ k ∈ ks, Tr w h k ∧ k.good = true) (hb : Below w.heap.size w w7) (hms : ∀ k ∈ ms, Tr w7 h k ∧ k.good = true)
    (hf : flat (ks.take i) ++ flat ms ++ flat (ks.drop j) = L) (hid : s.ids = s.b :: idsOf ks) (hfew : FewNew s.ids q (idsOf ms)) (hij : i ≤ j) (hj : j ≤ ks.length) : Parts w7 (h + 1) u L (i + ms.length + (ks.length - j)) s.ids q := by
  refine ⟨ks.take i ++ ms ++ ks.drop j, hpt, ?_, fun y hy => ?_, by rw [flat_append, flat_append, hf], few_repl hfew fun y hy => by rw [hid]; exact List.mem_cons_of_mem _ hy⟩
  · rw [List.length_append, List.length_append, List.length_take, List.length_drop]
    omega
  · rcases List.mem_append.1 hy with hy | hy
    · rcases List.mem_append.1 hy with hy | hy
      · have := hks y (List.mem_of_mem_take hy)
        exact ⟨this.1.below hb, this.2⟩
      · exact hms y hy
    · have := hks y (List.mem_of_mem_drop hy)
      exact ⟨this.1.below hb, this.2⟩
theorem flat_take_succ {ks : List ST} {i : Nat} {k : ST} (h : ks[i]? = some k) : flat (ks.take (i + 1)) = flat (ks.take i) ++ k.l := by
  rw [List.take_add_one, h, flat_append]
  simp [flat]
theorem flat_drop_one {ks : List ST} {i : Nat} {k : ST} (h : ks[i]? = some k) : flat (ks.drop i) = k.l ++ flat (ks.drop (i + 1)) := by
  have hi := (List.getElem?_eq_some_iff.1 h).1
  rw [List.drop_eq_getElem_cons hi, (List.getElem?_eq_some_iff.1 h).2]
  rfl

set_option maxHeartbeats 4000000 in
set_option maxRecDepth 100000 in
theorem without_branch {w : World} {h : Nat} {s : ST} {key : ByteArray} (ht : Tr w (h + 1) s) (hh : h ≤ 90000)
    (ih : ∀ (w' : World) (k : ST), Tr w' h k → Calls Try.prog 33 #[pn k.b, .string key] w' (TOPost w' h k key)) :
    Calls Try.prog 33 #[pn s.b, .string key] w (TOPost w (h + 1) s key) := by
  obtain ⟨ks, hN, hB, hP, hk2, hk6, hso, hks, hfl, hid⟩ := ht
  obtain ⟨n, hn⟩ : ∃ n, ks.length = n := ⟨_, rfl⟩
  have HSZ := Lib.hid (show s.size = n by unfold ST.size; rw [hB.en, hB.kn, nbs_len, Nat.zero_add, hn])
  rw [hn] at hk2 hk6
  rw [hfl] at hso
  have hbW : Below w.heap.size w (w.alloc (.cells #[.slice none 0 0, .slice none 0 0] 65)) := (Below.refl _ _).alloc (Nat.le_refl _) _
  have k0 := Bx.new w (.slice none 0 0) (.slice none 0 0)
  have HN := Lib.hid (hN.below hbW)
  have HP := Lib.hid (hP.below hbW)
  have HEN := Lib.hid hB.en
  have HKN := Lib.hid (show s.N.kn = n by rw [hB.kn, nbs_len, hn])
  have Hn := Lib.hid hn
  have HBW := Lib.hid hbW
  have K0 := Lib.hid k0
  have HSO := Lib.hid hso
  have HKS := Lib.hid hks
  have HFL := Lib.hid hfl
  have HID := Lib.hid hid
  clear hN hB hP hbW k0 hn hso hks hfl hid
  go_enter Try.func33, Try.ntmps33
  go_wp2_with fail
  refine (partsOf_pt HN.out (Es.nil _ _) HEN.out.symm HP.out (by rw [ptrS_len, Hn.out, HKN.out]) (by rw [HEN.out]; omega) (by rw [HKN.out]; omega)).mono ?_
  rintro r w1 ⟨v, rfl, ⟨A, c, B, d, rfl, hc, hd, h1, h2⟩, hb1⟩
  rw [ptrS_len, Hn.out] at hd ⊢
  simp only [List.length_nil] at hc ⊢
  have hb2 : Below w1.heap.size w1 (w1.alloc (.cells #[.slice A (0 : Nat) c, .slice B n d] 65)) := (Below.refl _ _).alloc (Nat.le_refl _) _
  have hb12 := bthen hb1 hb2
  have HB4 := Lib.hid (K0.out.next hb12)
  have HB5 := Lib.hid (Bx.new w1 (.slice A (0 : Nat) c) (.slice B n d))
  have HBB := Lib.hid (bthen HBW.out hb12)
  have HLS := Lib.hid (h2.below hb2)
  clear hb1 hb2 hb12 h1 h2
  go_wp2_with fail
  generalize hw2 : w1.alloc (.cells #[.slice A (0 : Nat) c, .slice B n d] 65) = w2 at *
  refine (ofLeaf_any _ A B 0 c n d).mono ?_
  rintro r w3 ⟨rfl, hb3⟩
  generalize w1.heap.size = g at *
  have hn0 : ¬ n = 0 := by omega
  have HB43 := Lib.hid (HB4.out.next hb3)
  have HB53 := Lib.hid (HB5.out.next hb3)
  have q51 := HB53.out.c1
  have HBB3 := Lib.hid (bthen HBB.out hb3)
  have HLS3 := Lib.hid (HLS.out.below hb3)
  have HT3 := Lib.hid (show ∀ k ∈ ks, Tr w3 h k ∧ k.good = true from fun k hk => ⟨(HKS.out k hk).1.below HBB3.out, (HKS.out k hk).2⟩)
  clear hb3 hw2
  go_wp2_with fail
  refine (kidFor_any HLS3.out Hn.out (by omega) (by omega) (all_of HT3.out)).mono ?_
  rintro r w4 ⟨i, rfl, hkid, hb4⟩
  obtain ⟨k, hki, hsplit, hlo, hhi⟩ := hkid.split HT3.out HSO.out
  have hilt : i < n := by have := hkid.lt; rw [Hn.out] at this; exact this
  have HB44 := Lib.hid (HB43.out.next hb4)
  have HB54 := Lib.hid (HB53.out.next hb4)
  have q51 := HB54.out.c1
  have hls4 := HLS3.out.below hb4
  obtain ⟨ad, x, rfl, hx, hadl, hcx⟩ := Ls.node_at hls4 (i := i) (by rw [nbs_len, Hn.out]; exact hilt)
  rw [nbs_at hki] at hx
  cases hx
  have HLS4 := Lib.hid hls4
  have HBB4 := Lib.hid (bthen HBB3.out hb4)
  have HKI := Lib.hid hki
  have HSP := Lib.hid hsplit
  have HLO := Lib.hid hlo
  have HHI := Lib.hid hhi
  have hmem := List.mem_of_getElem? HKI.out
  have HTK := Lib.hid ((HKS.out k hmem).1.below HBB4.out)
  have HMEM := Lib.hid hmem
  clear hkid hki hsplit hlo hhi hb4 hls4 hmem
  go_wp2_with fail
  refine (ih w4 k HTK.out).mono ?_
  rintro r w5 ⟨v2, n2, rfl, hpa, hn2, hn3, hb5⟩
  have hks1 := HTK.out.size_le
  have hlst : least h ≤ k.size := by
    have hg := (HKS.out k HMEM.out).2
    rw [HTK.out.good_iff] at hg
    exact of_decide_eq_true hg
  obtain ⟨A2, a2, c2, B2, b2, d2, rfl, hen⟩ := hpa.enough (fun h0 => by unfold least at hlst; rw [if_neg h0] at hlst; omega)
  have hb6 : Below w5.heap.size w5 (w5.alloc (.cells #[.slice A2 a2 c2, .slice B2 b2 d2] 65)) := (Below.refl _ _).alloc (Nat.le_refl _) _
  have hb56 := bthen hb5 hb6
  have HEN2 := Lib.hid hen
  have HPA := Lib.hid (hpa.below hb6)
  have HB46 := Lib.hid (HB44.out.next hb56)
  have HB56 := Lib.hid (HB54.out.next hb56)
  have HB96 := Lib.hid (Bx.new w5 (.slice A2 a2 c2) (.slice B2 b2 d2))
  have HLS6 := Lib.hid (HLS4.out.below hb56)
  have HBB6 := Lib.hid (bthen HBB4.out hb56)
  have HSK := Lib.hid (show Sorted k.l from HTK.out.sorted)
  clear hpa hen hb5 hb6 hb56 q51 hcx
  go_wp2_with fail
  generalize hw6 : w5.alloc (.cells #[.slice A2 a2 c2, .slice B2 b2 d2] 65) = w6 at *
  refine (enough_any w6 A2 B2 a2 c2 b2 d2).mono ?_
  rintro r w7 ⟨rfl, hb7⟩
  rw [HEN2.out]
  generalize w5.heap.size = g9 at *
  have HB47 := Lib.hid (HB46.out.next hb7)
  have HB57 := Lib.hid (HB56.out.next hb7)
  have HB97 := Lib.hid (HB96.out.next hb7)
  have HLS7 := Lib.hid (HLS6.out.below hb7)
  have HPA7 := Lib.hid (HPA.out.below hb7)
  have HBB7 := Lib.hid (bthen HBB6.out hb7)
  have HPT7 := Lib.hid (show Pt w7 (.agg #[.slice A (0 : Nat) c, .slice (some ad) n d]) [] (ptrS ks) from ⟨A, c, some ad, d, by rw [ptrS_len, Hn.out]; rfl, Nat.zero_le _, by rw [ptrS_len, Hn.out]; exact hd, Es.nil _ _, HLS7.out⟩)
  have HSD := Lib.hid (sorted_del HSK.out key)
  have HOD := Lib.hid (show ∀ y ∈ del k.l key, okE y = true from fun y hy => HTK.out.okE y (mem_del.1 hy).1)
  have HKW := Lib.hid (show ∀ y ∈ k.ids, y ∈ s.ids from fun y hy => by rw [HID.out]; exact List.mem_cons_of_mem _ (mem_ids HMEM.out hy))
  have HDEL := Lib.hid (show del s.l key = flat (ks.take i) ++ del k.l key ++ flat (ks.drop (i + 1)) by
    rw [HFL.out]
    conv => lhs; rw [HSP.out]
    rw [flat_append, flat_append, show flat [k] = k.l ++ [] from rfl, List.append_nil, del_mid HLO.out HHI.out])
  clear hb7 hw6
  -- ARMS
  by_cases hen : least h ≤ n2
  · rw [decide_eq_true hen]
    have q50 := HB57.out.c0
    have q51 := HB57.out.c1
    have q90 := HB97.out.c0
    have q91 := HB97.out.c1
    go_wp2_with fail
    rw [show ((i : Int) + 1) = ((i + 1 : Nat) : Int) from rfl]
    refine (replace_any HPT7.out Hn.out (Nat.le_succ i) hilt hk6 HPA7.out (by unfold fits; unfold least at hen; split at hen <;> rename_i h0 <;> simp only [h0, if_true, if_false] <;> omega) (by omega) HSD.out HOD.out).mono ?_
    rintro r w8 ⟨u, ms, rfl, hpt, hml, hmk, hmf, hmn, hb8⟩
    obtain ⟨A8, c8, B8, d8, rfl⟩ := hpt.form
    have hblk := HB47.out.next hb8
    have hbw8 := bthen HBB7.out hb8
    obtain ⟨m8, hm8⟩ : ∃ m8, m8 = (ptrS (ks.take i ++ ms ++ ks.drop (i + 1))).length := ⟨_, rfl⟩
    simp only [List.length_nil] at hpt ⊢
    rw [← hm8] at hpt ⊢
    have hml2 : 1 ≤ ms.length ∧ ms.length ≤ 2 := by rw [hml]; split <;> omega
    have hof := Off.two hblk (.slice A8 (0 : Nat) c8) (.slice B8 m8 d8)
    have HT := Lib.hid (set_two hblk (.slice A8 (0 : Nat) c8) (.slice B8 m8 d8))
    have HB := Lib.hid (two_below hbw8 (Nat.le_refl _) (.slice A8 (0 : Nat) c8) (.slice B8 m8 d8))
    have hpo := repl_parts (L := del s.l key) (q := 2 * (h + 1)) hpt HKS.out hbw8 (fun y hy => ⟨(hmk y hy).1, (hmk y hy).2.2 (by omega)⟩) (by rw [hmf, HDEL.out]) HID.out ((hmn.wide HKW.out).more (by omega)) (by omega) (by rw [Hn.out]; omega)
    have HPO := Lib.hid (hpo.off hof)
    have hd0 := hblk.c0
    have hd1 := hblk.c1
    have hf0 := hblk.f0
    have hf1 := hblk.f1
    have HN2 := Lib.hid (show s.size ≤ i + ms.length + (ks.length - (i + 1)) + 1 ∧ i + ms.length + (ks.length - (i + 1)) ≤ s.size + 1 by rw [HSZ.out, Hn.out]; omega)
    clear hpt hml hmk hmf hmn hb8 hblk hbw8 hof hpo hm8 q50 q51 q90 q91
    go_wp2
    refine bodyPost_ret (v := .agg #[.slice A8 (0 : Nat) c8, .slice B8 m8 d8]) ?_ rfl ⟨_, _, rfl, HPO.out, HN2.out.1, HN2.out.2, HB.out⟩
    have k0 := cell_at HT.out 0 _ rfl
    have k1 := cell_at HT.out 1 _ rfl
    simp [results, Try.results33, go_sem, k0, k1]
  · rw [decide_eq_false hen]
    by_cases hi0 : i = 0
    · skip
      subst hi0
      obtain ⟨kk, hkk⟩ : ∃ kk, ks[1]? = some kk := ⟨_, List.getElem?_eq_getElem (by rw [Hn.out]; omega)⟩
      have hkm := List.mem_of_getElem? hkk
      obtain ⟨W8, hW8⟩ : ∃ W8, W8 = w7.drew := ⟨_, rfl⟩
      have hb8 : Below w7.heap.size w7 W8 := by rw [hW8]; exact (Below.refl _ _).drew
      have HB48 := Lib.hid (HB47.out.next hb8)
      have HB58 := HB57.out.next hb8
      have HB98 := HB97.out.next hb8
      have hls8 := HLS7.out.below hb8
      obtain ⟨ad', x, hadd, hx, hadl8, hcx⟩ := Ls.node_at hls8 (i := 1) (by rw [nbs_len, Hn.out]; omega)
      cases hadd
      rw [nbs_at hkk] at hx
      cases hx
      have q50 := HB58.p0
      have q51 := HB58.p1
      have q90 := HB98.p0
      have q91 := HB98.p1
      have qk : ∀ z : Dc.Past [] W8, z.val.cell? ⟨ad.block, ad.off + 1, none⟩ = some (pn kk.b) := fun z => (z.ok.cell (by exact hadl8) (by simp)).trans hcx
      have HPT8 := Lib.hid (HPT7.out.below hb8)
      have HPA8 := Lib.hid ((HPA7.out.below hb8).wide HKW.out)
      have HBB8 := Lib.hid (bthen HBB7.out hb8)
      have HTKK := Lib.hid ((HKS.out kk hkm).1.below HBB8.out)
      have hks2 := HTKK.out.size_le
      have hlst2 : least h ≤ kk.size := by
        have hg := (HKS.out kk hkm).2
        rw [HTKK.out.good_iff] at hg
        exact of_decide_eq_true hg
      have HKW2 := Lib.hid (show ∀ y ∈ kk.ids, y ∈ s.ids from fun y hy => by rw [HID.out]; exact List.mem_cons_of_mem _ (mem_ids hkm hy))
      have HOK2 := Lib.hid (show ∀ y ∈ kk.l, okE y = true from HTKK.out.okE)
      have HW8 := Lib.hid hW8
      have HKK := Lib.hid hkk
      have hls3 : least h ≤ 3 := by unfold least; split <;> omega
      have hsl : h = 0 → kk.size ≤ 4 := by
        intro h0
        subst h0
        have h4 := okLeaf_len HTKK.out.2.2.2.1
        unfold ST.size
        rw [HTKK.out.2.1.en, HTKK.out.2.1.kn]
        omega
      have hfit : fits h (kk.size + n2) := by
        unfold fits
        unfold least at hen hlst hlst2
        split
        · rename_i h0
          simp only [h0, if_true] at hen hlst hlst2
          omega
        · rename_i h0
          simp only [h0, if_false] at hen hlst hlst2
          omega
      clear hW8 hb8 HB58 HB98 hls8 hcx hkk hkm
      go_wp2
      refine Dc.wp_region_segs 14 [] [([0, 1, 2, 3, 4, 5, 6, 7, 8, 9, 10], 11), ([], 12), ([], 13), ([], 14)] [] (by kernel_rfl) (by kernel_rfl) (by kernel_rfl) (by kernel_rfl) (by kernel_rfl) (by intro c a d v w h; cases d <;> exact h) ?_
      rw [← HW8.out]
      refine Dc.wpSegs_more ?_
      simp only [Dc.pick, List.getElem?_cons_zero, List.getElem?_cons_succ]
      repeat (first | go_big_quiet_step (fail) | quiet_step (fail))
      refine wpQuiet_nil ?_
      refine Dc.wpOp_heavy rfl (by rfl) (fun K hK => ?_)
      go_simp
      refine (partsOf_tr HTKK.out).mono ?_
      rintro r w9 ⟨v9, rfl, hpk, hb9⟩
      refine hK _ _ (fun _ => Dc.But.of_below hb9) ?_
      have HPK := Lib.hid (hpk.wide HKW2.out)
      have HPA9 := Lib.hid (HPA8.out.below hb9)
      have HPT9 := Lib.hid (HPT8.out.below hb9)
      have HBB9 := Lib.hid (bthen HBB8.out hb9)
      have HB49 := Lib.hid (HB48.out.next hb9)
      clear hK K q50 q51 q90 q91 qk hpk hb9
      refine Dc.wpSegs_more ?_
      simp only [Dc.pick]
      refine wpQuiet_nil ?_
      refine Dc.wpOp_heavy rfl (by rfl) (fun K hK => ?_)
      go_simp
      refine (join_parts HPA9.out HPK.out (by omega)).mono ?_
      rintro r wa ⟨va, rfl, hpj, hba⟩
      refine hK _ _ (fun _ => Dc.But.of_below hba) ?_
      have HPJ := Lib.hid hpj
      have HPTa := Lib.hid (HPT9.out.below hba)
      have HBBa := Lib.hid (bthen HBB9.out hba)
      have HB4a := Lib.hid (HB49.out.next hba)
      have hSJ : Sorted (del k.l key ++ kk.l) := by
        have h1 := sorted_del HSO.out key
        rw [← HFL.out, HDEL.out] at h1
        rw [flat_drop_one HKK.out, ← List.append_assoc] at h1
        have h2 := (List.pairwise_append.1 h1).1
        rw [List.append_assoc] at h2
        exact (List.pairwise_append.1 h2).2.1
      have hOJ : ∀ y ∈ del k.l key ++ kk.l, okE y = true := fun y hy => by
        rcases List.mem_append.1 hy with hy | hy
        · exact HOD.out y hy
        · exact HOK2.out y hy
      have HSJ := Lib.hid hSJ
      have HOJ := Lib.hid hOJ
      clear hK K hpj hba hSJ hOJ
      refine Dc.wpSegs_more ?_
      simp only [Dc.pick]
      refine wpQuiet_nil ?_
      refine Dc.wpOp_heavy rfl (by rfl) (fun K hK => ?_)
      go_simp
      refine (replace_any (i := 0) (j := 2) HPTa.out Hn.out (by omega) (by omega) hk6 HPJ.out (by rw [Nat.add_comm]; exact hfit) (by omega) HSJ.out HOJ.out).mono ?_
      rintro r w8 ⟨u, ms, rfl, hpt, hml, hmk, hmf, hmn, hb8⟩
      refine hK _ _ (fun _ => Dc.But.of_below hb8) ?_
      obtain ⟨A8, c8, B8, d8, rfl⟩ := hpt.form
      have hblk := HB4a.out.next hb8
      have hbw8 := bthen HBBa.out hb8
      obtain ⟨m8, hm8⟩ : ∃ m8, m8 = (ptrS (ks.take 0 ++ ms ++ ks.drop (2))).length := ⟨_, rfl⟩
      simp only [List.length_nil] at hpt ⊢
      rw [← hm8] at hpt ⊢
      have hml2 : 1 ≤ ms.length ∧ ms.length ≤ 2 := by rw [hml]; split <;> omega
      have hof := Off.two hblk (.slice A8 (0 : Nat) c8) (.slice B8 m8 d8)
      have HT := Lib.hid (set_two hblk (.slice A8 (0 : Nat) c8) (.slice B8 m8 d8))
      have HB := Lib.hid (two_below hbw8 (Nat.le_refl _) (.slice A8 (0 : Nat) c8) (.slice B8 m8 d8))
      have hpo := repl_parts (L := del s.l key) (q := 2 * (h + 1)) hpt HKS.out hbw8 (fun y hy => ⟨(hmk y hy).1, (hmk y hy).2.2 (by omega)⟩) (by rw [hmf, HDEL.out, flat_drop_one HKK.out]; simp only [List.append_assoc]) HID.out ((hmn.wide (fun y hy => hy)).more (by omega)) (by omega) (by rw [Hn.out]; omega)
      have HPO := Lib.hid (hpo.off hof)
      have hd0 := hblk.c0
      have hd1 := hblk.c1
      have hf0 := hblk.f0
      have hf1 := hblk.f1
      have HN2 := Lib.hid (show s.size ≤ 0 + ms.length + (ks.length - (2)) + 1 ∧ 0 + ms.length + (ks.length - (2)) ≤ s.size + 1 by rw [HSZ.out, Hn.out]; omega)
      clear hK K hpt hml hmk hmf hmn hb8 hblk hbw8 hof hpo hm8
      refine Dc.wpSegs_more ?_
      simp only [Dc.pick]
      refine wpQuiet_nil ?_
      refine Dc.wpOp_heavy rfl (by rfl) (fun K hK => ?_)
      go_simp
      refine hK _ _ (fun h => absurd rfl h) ?_
      clear hK K
      refine Dc.wpSegs_last ?_
      simp only [Dc.pick]
      refine wpQuiet_nil ?_
      go_wp2
      refine bodyPost_ret (v := .agg #[.slice A8 (0 : Nat) c8, .slice B8 m8 d8]) ?_ rfl ⟨_, _, rfl, HPO.out, HN2.out.1, HN2.out.2, HB.out⟩
      have k0 := cell_at HT.out 0 _ rfl
      have k1 := cell_at HT.out 1 _ rfl
      simp [results, Try.results33, go_sem, k0, k1]
    · skip
      obtain ⟨j, hj⟩ : ∃ j, i = j + 1 := ⟨i - 1, by omega⟩
      have hij : (i : Int) - 1 = (j : Int) := by omega
      have hneg : (0 : Int) < (i : Int) := by omega
      obtain ⟨kk, hkk⟩ : ∃ kk, ks[j]? = some kk := ⟨_, List.getElem?_eq_getElem (by rw [Hn.out]; omega)⟩
      have hkm := List.mem_of_getElem? hkk
      obtain ⟨W8, hW8⟩ : ∃ W8, W8 = w7.drew := ⟨_, rfl⟩
      have hb8 : Below w7.heap.size w7 W8 := by rw [hW8]; exact (Below.refl _ _).drew
      have HB48 := Lib.hid (HB47.out.next hb8)
      have HB58 := HB57.out.next hb8
      have HB98 := HB97.out.next hb8
      have hls8 := HLS7.out.below hb8
      obtain ⟨ad', x, hadd, hx, hadl8, hcx⟩ := Ls.node_at hls8 (i := j) (by rw [nbs_len, Hn.out]; omega)
      cases hadd
      rw [nbs_at hkk] at hx
      cases hx
      have q50 := HB58.p0
      have q51 := HB58.p1
      have q90 := HB98.p0
      have q91 := HB98.p1
      have qk : ∀ z : Dc.Past [] W8, z.val.cell? (ad.add j) = some (pn kk.b) := fun z => (z.ok.cell (by rw [block_of_add]; exact hadl8) (by simp)).trans hcx
      have HPT8 := Lib.hid (HPT7.out.below hb8)
      have HPA8 := Lib.hid ((HPA7.out.below hb8).wide HKW.out)
      have HBB8 := Lib.hid (bthen HBB7.out hb8)
      have HTKK := Lib.hid ((HKS.out kk hkm).1.below HBB8.out)
      have hks2 := HTKK.out.size_le
      have hlst2 : least h ≤ kk.size := by
        have hg := (HKS.out kk hkm).2
        rw [HTKK.out.good_iff] at hg
        exact of_decide_eq_true hg
      have HKW2 := Lib.hid (show ∀ y ∈ kk.ids, y ∈ s.ids from fun y hy => by rw [HID.out]; exact List.mem_cons_of_mem _ (mem_ids hkm hy))
      have HOK2 := Lib.hid (show ∀ y ∈ kk.l, okE y = true from HTKK.out.okE)
      have HW8 := Lib.hid hW8
      have HKK := Lib.hid hkk
      have hls3 : least h ≤ 3 := by unfold least; split <;> omega
      have hsl : h = 0 → kk.size ≤ 4 := by
        intro h0
        subst h0
        have h4 := okLeaf_len HTKK.out.2.2.2.1
        unfold ST.size
        rw [HTKK.out.2.1.en, HTKK.out.2.1.kn]
        omega
      have hfit : fits h (kk.size + n2) := by
        unfold fits
        unfold least at hen hlst hlst2
        split
        · rename_i h0
          simp only [h0, if_true] at hen hlst hlst2
          omega
        · rename_i h0
          simp only [h0, if_false] at hen hlst hlst2
          omega
      clear hW8 hb8 HB58 HB98 hls8 hcx hkk hkm
      go_wp2
      refine Dc.wp_region_segs 15 [] [([0, 1, 2, 3, 4, 5, 6, 7, 8, 9, 10, 12], 11), ([], 13), ([], 14), ([], 15)] [] (by kernel_rfl) (by kernel_rfl) (by kernel_rfl) (by kernel_rfl) (by kernel_rfl) (by intro c a d v w h; cases d <;> exact h) ?_
      rw [← HW8.out]
      refine Dc.wpSegs_more ?_
      simp only [Dc.pick, List.getElem?_cons_zero, List.getElem?_cons_succ]
      repeat (first | go_big_quiet_step (fail) | quiet_step (fail))
      refine wpQuiet_nil ?_
      refine Dc.wpOp_heavy rfl (by rfl) (fun K hK => ?_)
      go_simp
      refine (partsOf_tr HTKK.out).mono ?_
      rintro r w9 ⟨v9, rfl, hpk, hb9⟩
      refine hK _ _ (fun _ => Dc.But.of_below hb9) ?_
      have HPK := Lib.hid (hpk.wide HKW2.out)
      have HPA9 := Lib.hid (HPA8.out.below hb9)
      have HPT9 := Lib.hid (HPT8.out.below hb9)
      have HBB9 := Lib.hid (bthen HBB8.out hb9)
      have HB49 := Lib.hid (HB48.out.next hb9)
      clear hK K q50 q51 q90 q91 qk hpk hb9
      refine Dc.wpSegs_more ?_
      simp only [Dc.pick]
      refine wpQuiet_nil ?_
      refine Dc.wpOp_heavy rfl (by rfl) (fun K hK => ?_)
      go_simp
      refine (join_parts HPK.out HPA9.out (by omega)).mono ?_
      rintro r wa ⟨va, rfl, hpj, hba⟩
      refine hK _ _ (fun _ => Dc.But.of_below hba) ?_
      have HPJ := Lib.hid hpj
      have HPTa := Lib.hid (HPT9.out.below hba)
      have HBBa := Lib.hid (bthen HBB9.out hba)
      have HB4a := Lib.hid (HB49.out.next hba)
      have hSJ : Sorted (kk.l ++ del k.l key) := by
        have h1 := sorted_del HSO.out key
        rw [← HFL.out, HDEL.out] at h1
        rw [hj, flat_take_succ HKK.out] at h1
        rw [List.append_assoc (flat (ks.take j)), List.append_assoc] at h1
        have h2 := (List.pairwise_append.1 h1).2.1
        exact (List.pairwise_append.1 h2).1
      have hOJ : ∀ y ∈ kk.l ++ del k.l key, okE y = true := fun y hy => by
        rcases List.mem_append.1 hy with hy | hy
        · exact HOK2.out y hy
        · exact HOD.out y hy
      have HSJ := Lib.hid hSJ
      have HOJ := Lib.hid hOJ
      clear hK K hpj hba hSJ hOJ
      refine Dc.wpSegs_more ?_
      simp only [Dc.pick]
      refine wpQuiet_nil ?_
      refine Dc.wpOp_heavy rfl (by rfl) (fun K hK => ?_)
      go_simp
      rw [show ((j : Int) + 1 + 1) = ((i + 1 : Nat) : Int) by omega]
      refine (replace_any (i := j) (j := i + 1) HPTa.out Hn.out (by omega) (by omega) hk6 HPJ.out hfit (by omega) HSJ.out HOJ.out).mono ?_
      rintro r w8 ⟨u, ms, rfl, hpt, hml, hmk, hmf, hmn, hb8⟩
      refine hK _ _ (fun _ => Dc.But.of_below hb8) ?_
      obtain ⟨A8, c8, B8, d8, rfl⟩ := hpt.form
      have hblk := HB4a.out.next hb8
      have hbw8 := bthen HBBa.out hb8
      obtain ⟨m8, hm8⟩ : ∃ m8, m8 = (ptrS (ks.take j ++ ms ++ ks.drop (i + 1))).length := ⟨_, rfl⟩
      simp only [List.length_nil] at hpt ⊢
      rw [← hm8] at hpt ⊢
      have hml2 : 1 ≤ ms.length ∧ ms.length ≤ 2 := by rw [hml]; split <;> omega
      have hof := Off.two hblk (.slice A8 (0 : Nat) c8) (.slice B8 m8 d8)
      have HT := Lib.hid (set_two hblk (.slice A8 (0 : Nat) c8) (.slice B8 m8 d8))
      have HB := Lib.hid (two_below hbw8 (Nat.le_refl _) (.slice A8 (0 : Nat) c8) (.slice B8 m8 d8))
      have hpo := repl_parts (L := del s.l key) (q := 2 * (h + 1)) hpt HKS.out hbw8 (fun y hy => ⟨(hmk y hy).1, (hmk y hy).2.2 (by omega)⟩) (by rw [hmf, HDEL.out, hj, flat_take_succ HKK.out]; simp only [List.append_assoc]) HID.out ((hmn.wide (fun y hy => hy)).more (by omega)) (by omega) (by rw [Hn.out]; omega)
      have HPO := Lib.hid (hpo.off hof)
      have hd0 := hblk.c0
      have hd1 := hblk.c1
      have hf0 := hblk.f0
      have hf1 := hblk.f1
      have HN2 := Lib.hid (show s.size ≤ j + ms.length + (ks.length - (i + 1)) + 1 ∧ j + ms.length + (ks.length - (i + 1)) ≤ s.size + 1 by rw [HSZ.out, Hn.out]; omega)
      clear hK K hpt hml hmk hmf hmn hb8 hblk hbw8 hof hpo hm8
      refine Dc.wpSegs_more ?_
      simp only [Dc.pick]
      refine wpQuiet_nil ?_
      refine Dc.wpOp_heavy rfl (by rfl) (fun K hK => ?_)
      go_simp
      refine hK _ _ (fun h => absurd rfl h) ?_
      clear hK K
      refine Dc.wpSegs_last ?_
      simp only [Dc.pick]
      refine wpQuiet_nil ?_
      go_wp2
      refine bodyPost_ret (v := .agg #[.slice A8 (0 : Nat) c8, .slice B8 m8 d8]) ?_ rfl ⟨_, _, rfl, HPO.out, HN2.out.1, HN2.out.2, HB.out⟩
      have k0 := cell_at HT.out 0 _ rfl
      have k1 := cell_at HT.out 1 _ rfl
      simp [results, Try.results33, go_sem, k0, k1]

theorem without_tr {key : ByteArray} : ∀ (h : Nat) (w : World) (s : ST), h ≤ 90000 → Tr w h s → Calls Try.prog 33 #[pn s.b, .string key] w (TOPost w h s key)
  | 0, w, s, _, ht => without_leaf ht
  | h + 1, w, s, hh, ht => without_branch ht (by omega) fun w' k hk => without_tr h w' k (by omega) hk

end Go.Proofs.Ytkooaechcbopnaa
