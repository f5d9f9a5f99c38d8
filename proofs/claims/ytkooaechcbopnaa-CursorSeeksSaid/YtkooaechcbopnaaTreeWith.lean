/-
  The contract of tree.with; conditions: the tree is valid and lies in memory, the entry is valid.
-/
import Derived.Test.YtkooaechcbopnaaTreeKid
namespace Go.Proofs.Ytkooaechcbopnaa
open Go.RowKit Go.Sort
set_option linter.unusedVariables false

/-- The boxes of a call: the entry, the result, the parts. -/
structure WB (w : World) (g : Nat) (e : Ent) (u v : Value) (w' : World) : Prop where
  h3 : w'.heap[w.heap.size]? = some (.cells #[.string e.k, .string e.v] 39 (0, 0))
  h4 : w'.heap[w.heap.size + 1]? = some (.cells #[.slice none 0 0, .slice none 0 0] 65 (0, 0))
  h5 : w'.heap[g]? = some (.cells #[u, v] 65 (0, 0))
  lt : w.heap.size + 1 < g
  below : Below w.heap.size w w'
theorem WB.next {w w' w'' : World} {g : Nat} {e : Ent} {u v : Value} (h : WB w g e u v w') (hb : Below w'.heap.size w' w'') : WB w g e u v w'' :=
  ⟨(hb.block _ (lt_of_block h.h3)).trans h.h3, (hb.block _ (lt_of_block h.h4)).trans h.h4, (hb.block _ (lt_of_block h.h5)).trans h.h5, h.lt, bthen h.below hb⟩
theorem two_new (w : World) (c0 c1 : Array Value) (t0 t1 : TypeId) : Below w.heap.size w ((w.alloc (.cells c0 t0)).alloc (.cells c1 t1)) ∧ ((w.alloc (.cells c0 t0)).alloc (.cells c1 t1)).heap[w.heap.size]? = some (.cells c0 t0 (0, 0)) ∧ ((w.alloc (.cells c0 t0)).alloc (.cells c1 t1)).heap[w.heap.size + 1]? = some (.cells c1 t1 (0, 0)) ∧ ((w.alloc (.cells c0 t0)).alloc (.cells c1 t1)).heap.size = w.heap.size + 2 := by
  have k0 := heap_alloc_new w (.cells c0 t0)
  have k1 := heap_alloc_new (w.alloc (.cells c0 t0)) (.cells c1 t1)
  have b1 : Below (w.alloc (.cells c0 t0)).heap.size (w.alloc (.cells c0 t0)) ((w.alloc (.cells c0 t0)).alloc (.cells c1 t1)) := (Below.refl _ _).alloc (Nat.le_refl _) _
  have b0 : Below w.heap.size w (w.alloc (.cells c0 t0)) := (Below.refl _ _).alloc (Nat.le_refl _) _
  have s0 : (w.alloc (.cells c0 t0)).heap.size = w.heap.size + 1 := by simp
  refine ⟨bthen b0 b1, (b1.block _ (by omega)).trans k0, ?_, by simp⟩
  rw [s0] at k1
  exact k1
/-- A box that is laid. -/
theorem box_new (w : World) (u v : Value) (t : TypeId) : Below w.heap.size w (w.alloc (.cells #[u, v] t)) ∧ (w.alloc (.cells #[u, v] t)).heap[w.heap.size]? = some (.cells #[u, v] t (0, 0)) := ⟨(Below.refl _ _).alloc (Nat.le_refl _) _, heap_alloc_new w _⟩

/-- What tree.with answers. -/
def TWPost (w : World) (h : Nat) (s : ST) (e : Ent) (r : Ending) (w' : World) : Prop :=
  ∃ v n, r = .returned v ∧ Parts w' h v (put s.l e) n s.ids (2 * h) ∧ s.size ≤ n ∧ n ≤ s.size + 1 ∧ Below w.heap.size w w'

set_option maxHeartbeats 2000000 in
set_option maxRecDepth 100000 in
theorem with_leaf {w : World} {s : ST} {e : Ent} (ht : Tr w 0 s) (he : okE e = true) :
    Calls Try.prog 37 #[pn s.b, .agg #[.string e.k, .string e.v]] w (TWPost w 0 s e) := by
  obtain ⟨hN, hL, hE, hok, hid⟩ := ht
  have hlen := okLeaf_len hok
  have HS := Lib.hid (okLeaf_sorted hok)
  have HSZ := Lib.hid (show s.size = s.l.length by unfold ST.size; rw [hL.en, hL.kn]; rfl)
  obtain ⟨n, hn⟩ : ∃ n, n = s.l.length := ⟨_, rfl⟩
  rw [← hn] at hlen
  obtain ⟨W, hW⟩ : ∃ W, W = (w.alloc (.cells #[.string e.k, .string e.v] 39)).alloc (.cells #[.slice none 0 0, .slice none 0 0] 65) := ⟨_, rfl⟩
  obtain ⟨hbW, k0, k1, hsz⟩ := two_new w #[.string e.k, .string e.v] #[.slice none 0 0, .slice none 0 0] 39 65
  rw [← hW] at hbW k0 k1 hsz
  have HN := Lib.hid (hN.below hbW)
  have HE := Lib.hid (hE.below hbW)
  have HEN := Lib.hid hL.en
  have HKN := Lib.hid hL.kn
  have HW := Lib.hid hW
  have Hn := Lib.hid hn
  have HBW := Lib.hid hbW
  have K0 := Lib.hid k0
  have K1 := Lib.hid k1
  have KS := Lib.hid hsz
  clear hN hL hE hok hid hW hbW k0 k1 hsz hn
  go_enter Try.func37, Try.ntmps37
  go_wp2_with fail
  rw [← HW.out]
  refine (partsOf_pt HN.out HE.out HEN.out.symm (Ls.nil (f := pcP) _ _) HKN.out.symm (by rw [HEN.out, ← Hn.out]; omega) (by rw [HKN.out]; omega)).mono ?_
  rintro r w1 ⟨v, rfl, ⟨A, c, B, d, rfl, hc, hd, h1, h2⟩, hb1⟩
  rw [← Hn.out] at hc ⊢
  simp only [List.length_nil]
  obtain ⟨hb2, hg⟩ := box_new w1 (.slice A n c) (.slice B (0 : Nat) d) 65
  have hb12 := bthen hb1 hb2
  have hWB : WB w w1.heap.size e (.slice A n c) (.slice B (0 : Nat) d) (w1.alloc (.cells #[.slice A n c, .slice B (0 : Nat) d] 65)) := by
    refine ⟨(hb12.block _ (lt_of_block K0.out)).trans K0.out, (hb12.block _ (lt_of_block K1.out)).trans K1.out, hg, by have := hb1.size; rw [KS.out] at this; omega, bthen HBW.out hb12⟩
  have HWB := Lib.hid hWB
  have HES := Lib.hid (h1.below hb2)
  clear hb1 hb2 hb12 hWB h1 h2 hg
  go_wp2_with fail
  generalize hw2 : w1.alloc (.cells #[.slice A n c, .slice B (0 : Nat) d] 65) = w2 at *
  refine (ofLeaf_any _ A B n c 0 d).mono ?_
  rintro r w3 ⟨rfl, hb3⟩
  generalize w1.heap.size = g at *
  have hWB3 := HWB.out.next hb3
  have q50 := cell_at hWB3.h5 0 _ rfl
  have q30 := cell_at hWB3.h3 0 _ rfl
  have q31 := cell_at hWB3.h3 1 _ rfl
  have HWB3 := Lib.hid hWB3
  have HES3 := Lib.hid (HES.out.below hb3)
  clear hb3 hWB3 hw2
  go_wp2_with fail
  refine (with_any A n c s.l e w3 HES3.out Hn.out.symm hc (by omega)).mono ?_
  rintro r w4 ⟨i, f, v, rfl, hpl, ho4, hb4⟩
  rw [hpl.wth HS.out] at ho4
  have hWB4 := HWB3.out.next hb4
  obtain ⟨A4, c4, rfl, hc4, hes4⟩ := ho4.form
  have hblk := hWB4.h4
  have HT := Lib.hid (set_two hblk (.slice A4 (put s.l e).length c4) (.slice none 0 0))
  have HB := Lib.hid (two_below hWB4.below (Nat.le_succ _) (.slice A4 (put s.l e).length c4) (.slice none 0 0))
  have HE4 := Lib.hid (hes4.off (Off.two hblk (.slice A4 (put s.l e).length c4) (.slice none 0 0)))
  have hd0 := cell_at hblk 0 _ rfl
  have hd1 := cell_at hblk 1 _ rfl
  have hf0 := free_at hblk 0
  have hf1 := free_at hblk 1
  clear q50 q30 q31 ho4 hes4 hb4 hWB4 hblk
  go_wp2
  refine bodyPost_ret (v := .agg #[.slice A4 (put s.l e).length c4, .slice none 0 0]) ?_ rfl ⟨_, (put s.l e).length, rfl, ⟨⟨A4, c4, none, 0, rfl, hc4, Nat.le_refl _, HE4.out, Ls.nil _ _⟩, rfl⟩, ?_, ?_, HB.out⟩
  · have k0 := cell_at HT.out 0 _ rfl
    have k1 := cell_at HT.out 1 _ rfl
    simp [results, Try.results37, go_sem, k0, k1]
  · rw [HSZ.out]
    rcases put_length HS.out e with h | h <;> omega
  · rw [HSZ.out]
    rcases put_length HS.out e with h | h <;> omega

theorem fits_of {w : World} {h : Nat} {k : ST} (ht : Tr w h k) (hg : k.good = true) {n : Nat} (h1 : k.size ≤ n) (h2 : n ≤ k.size + 1) : fits h n ∧ least h ≤ n := by
  have h3 := ht.size_le
  rw [ht.good_iff] at hg
  have h4 := of_decide_eq_true hg
  unfold fits least
  by_cases h0 : h = 0
  · rw [if_pos h0] at h4 ⊢
    rw [if_pos h0]
    omega
  · rw [if_neg h0] at h4 ⊢
    rw [if_neg h0]
    omega
theorem mem_ids {ks : List ST} {k : ST} (hk : k ∈ ks) {x : Nat} (hx : x ∈ k.ids) : x ∈ idsOf ks := List.mem_flatMap.2 ⟨k, hk, hx⟩
/-- Kids, of which some were replaced. -/
theorem few_repl {ks ms : List ST} {old : List Nat} {i j m : Nat} (h : FewNew old m (idsOf ms)) (hs : ∀ x ∈ idsOf ks, x ∈ old) : FewNew old m (idsOf (ks.take i ++ ms ++ ks.drop j)) := by
  have h1 : FewNew old 0 (idsOf (ks.take i)) := FewNew.of (fun x hx => hs x (idsOf_take hx)) 0
  have h2 : FewNew old 0 (idsOf (ks.drop j)) := FewNew.of (fun x hx => hs x (idsOf_drop hx)) 0
  have h3 := (h1.join h).join h2
  rw [idsOf_append, idsOf_append]
  exact h3.more (by omega)

set_option maxHeartbeats 2000000 in
set_option maxRecDepth 100000 in
theorem with_branch {w : World} {h : Nat} {s : ST} {e : Ent} (ht : Tr w (h + 1) s) (he : okE e = true) (hh : h ≤ 90000)
    (ih : ∀ (w' : World) (k : ST), Tr w' h k → Calls Try.prog 37 #[pn k.b, .agg #[.string e.k, .string e.v]] w' (TWPost w' h k e)) :
    Calls Try.prog 37 #[pn s.b, .agg #[.string e.k, .string e.v]] w (TWPost w (h + 1) s e) := by
  obtain ⟨ks, hN, hB, hP, hk2, hk6, hso, hks, hfl, hid⟩ := ht
  obtain ⟨n, hn⟩ : ∃ n, ks.length = n := ⟨_, rfl⟩
  have HSZ := Lib.hid (show s.size = n by unfold ST.size; rw [hB.en, hB.kn, nbs_len, Nat.zero_add, hn])
  rw [hn] at hk2 hk6
  obtain ⟨W, hW⟩ : ∃ W, W = (w.alloc (.cells #[.string e.k, .string e.v] 39)).alloc (.cells #[.slice none 0 0, .slice none 0 0] 65) := ⟨_, rfl⟩
  obtain ⟨hbW, k0, k1, hsz⟩ := two_new w #[.string e.k, .string e.v] #[.slice none 0 0, .slice none 0 0] 39 65
  rw [← hW] at hbW k0 k1 hsz
  rw [hfl] at hso
  have HN := Lib.hid (hN.below hbW)
  have HP := Lib.hid (hP.below hbW)
  have HEN := Lib.hid hB.en
  have HKN := Lib.hid (show s.N.kn = n by rw [hB.kn, nbs_len, hn])
  have HW := Lib.hid hW
  have Hn := Lib.hid hn
  have HBW := Lib.hid hbW
  have K0 := Lib.hid k0
  have K1 := Lib.hid k1
  have KS := Lib.hid hsz
  have HSO := Lib.hid hso
  have HKS := Lib.hid hks
  have HFL := Lib.hid hfl
  have HID := Lib.hid hid
  clear hN hB hP hW hbW k0 k1 hsz hn hso hks hfl hid
  go_enter Try.func37, Try.ntmps37
  go_wp2_with fail
  rw [← HW.out]
  refine (partsOf_pt HN.out (Es.nil _ _) HEN.out.symm HP.out (by rw [ptrS_len, Hn.out, HKN.out]) (by rw [HEN.out]; omega) (by rw [HKN.out]; omega)).mono ?_
  rintro r w1 ⟨v, rfl, ⟨A, c, B, d, rfl, hc, hd, h1, h2⟩, hb1⟩
  rw [ptrS_len, Hn.out] at hd ⊢
  simp only [List.length_nil] at hc ⊢
  obtain ⟨hb2, hg⟩ := box_new w1 (.slice A (0 : Nat) c) (.slice B n d) 65
  have hb12 := bthen hb1 hb2
  have hWB : WB w w1.heap.size e (.slice A (0 : Nat) c) (.slice B n d) (w1.alloc (.cells #[.slice A (0 : Nat) c, .slice B n d] 65)) := by
    refine ⟨(hb12.block _ (lt_of_block K0.out)).trans K0.out, (hb12.block _ (lt_of_block K1.out)).trans K1.out, hg, by have := hb1.size; rw [KS.out] at this; omega, bthen HBW.out hb12⟩
  have HWB := Lib.hid hWB
  have HLS := Lib.hid (h2.below hb2)
  clear hb1 hb2 hb12 hWB h1 h2 hg
  go_wp2_with fail
  generalize hw2 : w1.alloc (.cells #[.slice A (0 : Nat) c, .slice B n d] 65) = w2 at *
  refine (ofLeaf_any _ A B 0 c n d).mono ?_
  rintro r w3 ⟨rfl, hb3⟩
  generalize w1.heap.size = g at *
  have hn0 : ¬ n = 0 := by omega
  have hWB3 := HWB.out.next hb3
  have q51 := cell_at hWB3.h5 1 _ rfl
  have q30 := cell_at hWB3.h3 0 _ rfl
  have HWB3 := Lib.hid hWB3
  have HLS3 := Lib.hid (HLS.out.below hb3)
  have HT3 := Lib.hid (show ∀ k ∈ ks, Tr w3 h k ∧ k.good = true from fun k hk => ⟨(HKS.out k hk).1.below hWB3.below, (HKS.out k hk).2⟩)
  clear hb3 hWB3 hw2
  go_wp2_with fail
  refine (kidFor_any HLS3.out Hn.out (by omega) (by omega) (all_of HT3.out)).mono ?_
  rintro r w4 ⟨i, rfl, hkid, hb4⟩
  obtain ⟨k, hki, hsplit, hlo, hhi⟩ := hkid.split HT3.out HSO.out
  have hilt : i < n := by have := hkid.lt; rw [Hn.out] at this; exact this
  obtain ⟨W5, hW5⟩ : ∃ W5, W5 = w4.drew := ⟨_, rfl⟩
  have hb5 : Below w4.heap.size w4 W5 := by rw [hW5]; exact (Below.refl _ _).drew
  have hb45 := bthen hb4 hb5
  have hWB5 := HWB3.out.next hb45
  have hls5 := HLS3.out.below hb45
  obtain ⟨ad, x, rfl, hx, hadl, hcx⟩ := Ls.node_at hls5 (i := i) (by rw [nbs_len, Hn.out]; exact hilt)
  rw [nbs_at hki] at hx
  cases hx
  have q50 : ∀ z : Dc.Past [] W5, z.val.cell? ⟨g, 0, none⟩ = some (.slice A (0 : Nat) c) := fun z => (z.ok.cell (lt_of_block hWB5.h5) (by simp)).trans (cell_at hWB5.h5 0 _ rfl)
  have q51' : ∀ z : Dc.Past [] W5, z.val.cell? ⟨g, 1, none⟩ = some (.slice (some ad) n d) := fun z => (z.ok.cell (lt_of_block hWB5.h5) (by simp)).trans (cell_at hWB5.h5 1 _ rfl)
  have q30' : ∀ z : Dc.Past [] W5, z.val.cell? ⟨w.heap.size, 0, none⟩ = some (.string e.k) := fun z => (z.ok.cell (lt_of_block hWB5.h3) (by simp)).trans (cell_at hWB5.h3 0 _ rfl)
  have q31' : ∀ z : Dc.Past [] W5, z.val.cell? ⟨w.heap.size, 1, none⟩ = some (.string e.v) := fun z => (z.ok.cell (lt_of_block hWB5.h3) (by simp)).trans (cell_at hWB5.h3 1 _ rfl)
  have qk : ∀ z : Dc.Past [] W5, z.val.cell? (ad.add i) = some (pn k.b) := fun z => (z.ok.cell (by rw [block_of_add]; exact hadl) (by simp)).trans hcx
  have HW5 := Lib.hid hW5
  have HWB5 := Lib.hid hWB5
  have HLS5 := Lib.hid hls5
  have HKI := Lib.hid hki
  have HSP := Lib.hid hsplit
  have HLO := Lib.hid hlo
  have HHI := Lib.hid hhi
  clear q51 q30 hkid hki hsplit hlo hhi hb4 hb5 hb45 hWB5 hls5 hcx hW5
  go_wp2
  refine Dc.wp_region_segs 12 [] [([0, 1, 2, 3, 4, 5, 6, 7, 8, 9], 10), ([], 11), ([], 12)] [] (by kernel_rfl) (by kernel_rfl) (by kernel_rfl) (by kernel_rfl) (by kernel_rfl) (by intro c a d v w h; cases d <;> exact h) ?_
  rw [← HW5.out]
  refine Dc.wpSegs_more ?_
  simp only [Dc.pick, List.getElem?_cons_zero, List.getElem?_cons_succ]
  repeat (first | go_big_quiet_step (fail) | quiet_step (fail))
  refine wpQuiet_nil ?_
  refine Dc.wpOp_heavy rfl (by rfl) (fun K hK => ?_)
  go_simp
  have hmem := List.mem_of_getElem? HKI.out
  have htk := (HKS.out k hmem).1.below HWB5.out.below
  refine (ih W5 k htk).mono ?_
  rintro r w6 ⟨v2, n2, rfl, hpa, hn2, hn3, hb6⟩
  refine hK _ _ (fun _ => Dc.But.of_below hb6) ?_
  clear hK K q50 q51' q30' q31' qk
  obtain ⟨hfit, hleast⟩ := fits_of htk (HKS.out k hmem).2 hn2 hn3
  have hSk : Sorted k.l := htk.sorted
  have HPA := Lib.hid hpa
  have HSP2 := Lib.hid (sorted_put hSk e)
  have HOP := Lib.hid (show ∀ y ∈ put k.l e, okE y = true from fun y hy => by
    rcases mem_put.1 hy with rfl | ⟨hy, _⟩
    · exact he
    · exact htk.okE y hy)
  have HPT := Lib.hid (show Pt w6 (.agg #[.slice A (0 : Nat) c, .slice (some ad) n d]) [] (ptrS ks) from ⟨A, c, some ad, d, by rw [ptrS_len, Hn.out]; rfl, Nat.zero_le _, by rw [ptrS_len, Hn.out]; exact hd, Es.nil _ _, HLS5.out.below hb6⟩)
  have HWB6 := Lib.hid (HWB5.out.next hb6)
  clear hpa htk hSk hb6
  refine Dc.wpSegs_more ?_
  simp only [Dc.pick]
  refine wpQuiet_nil ?_
  refine Dc.wpOp_heavy rfl (by rfl) (fun K hK => ?_)
  go_simp
  rw [show ((i : Int) + 1) = ((i + 1 : Nat) : Int) from rfl]
  refine (replace_any HPT.out Hn.out (Nat.le_succ i) hilt hk6 HPA.out hfit (by omega) HSP2.out HOP.out).mono ?_
  rintro r w7 ⟨u, ms, rfl, hpt, hml, hmk, hmf, hmn, hb7⟩
  refine hK _ _ (fun _ => Dc.But.of_below hb7) ?_
  obtain ⟨A7, c7, B7, d7, rfl⟩ := hpt.form
  have hWB7 := HWB6.out.next hb7
  have hblk := hWB7.h4
  obtain ⟨m7, hm7⟩ : ∃ m7, m7 = (ptrS (ks.take i ++ ms ++ ks.drop (i + 1))).length := ⟨_, rfl⟩
  simp only [List.length_nil] at hpt ⊢
  rw [← hm7] at hpt ⊢
  have hof := Off.two hblk (.slice A7 (0 : Nat) c7) (.slice B7 m7 d7)
  have HT := Lib.hid (set_two hblk (.slice A7 (0 : Nat) c7) (.slice B7 m7 d7))
  have HB := Lib.hid (two_below hWB7.below (Nat.le_succ _) (.slice A7 (0 : Nat) c7) (.slice B7 m7 d7))
  have hlen7 : (ks.take i ++ ms ++ ks.drop (i + 1)).length = n - 1 + ms.length := by
    rw [List.length_append, List.length_append, List.length_take, List.length_drop, Hn.out]
    omega
  have hml2 : 1 ≤ ms.length ∧ ms.length ≤ 2 := by rw [hml]; split <;> omega
  have HPO := Lib.hid (show Parts (World.two w7 (w.heap.size + 1) (.slice A7 (0 : Nat) c7) (.slice B7 m7 d7)) (h + 1) (.agg #[.slice A7 (0 : Nat) c7, .slice B7 m7 d7]) (put s.l e) (n - 1 + ms.length) s.ids (2 * (h + 1)) from ⟨ks.take i ++ ms ++ ks.drop (i + 1), hpt.off hof, hlen7, fun y hy => by
    rcases List.mem_append.1 hy with hy | hy
    · rcases List.mem_append.1 hy with hy | hy
      · have := HKS.out y (List.mem_of_mem_take hy)
        exact ⟨(this.1.below hWB7.below).off hof, this.2⟩
      · exact ⟨(hmk y hy).1.off hof, (hmk y hy).2.2 hleast⟩
    · have := HKS.out y (List.mem_of_mem_drop hy)
      exact ⟨(this.1.below hWB7.below).off hof, this.2⟩, by
    rw [flat_append, flat_append, hmf, HFL.out]
    conv => rhs; rw [HSP.out]
    rw [flat_append, flat_append, show flat [k] = k.l ++ [] from rfl, List.append_nil, put_mid HLO.out HHI.out], by
    refine (few_repl (hmn.wide fun y hy => ?_) fun y hy => ?_).more (by omega)
    · rw [HID.out]
      exact List.mem_cons_of_mem _ (mem_ids hmem hy)
    · rw [HID.out]
      exact List.mem_cons_of_mem _ hy⟩)
  have hd0 := cell_at hblk 0 _ rfl
  have hd1 := cell_at hblk 1 _ rfl
  have hf0 := free_at hblk 0
  have hf1 := free_at hblk 1
  clear hK K hpt hml hmk hmf hmn hb7 hWB7 hblk hof hm7 hlen7
  refine Dc.wpSegs_more ?_
  simp only [Dc.pick]
  refine wpQuiet_nil ?_
  refine Dc.wpOp_heavy rfl (by rfl) (fun K hK => ?_)
  go_simp
  refine hK _ _ (fun h => absurd rfl h) ?_
  clear hK K
  refine Dc.wpSegs_last ?_
  simp only [Dc.pick]
  refine wpQuiet_nil ?_
  go_wp2
  refine bodyPost_ret (v := .agg #[.slice A7 (0 : Nat) c7, .slice B7 m7 d7]) ?_ rfl ⟨_, n - 1 + ms.length, rfl, HPO.out, ?_, ?_, HB.out⟩
  · have k0 := cell_at HT.out 0 _ rfl
    have k1 := cell_at HT.out 1 _ rfl
    simp [results, Try.results37, go_sem, k0, k1]
  · rw [HSZ.out]; omega
  · rw [HSZ.out]; omega

theorem with_tr {e : Ent} (he : okE e = true) : ∀ (h : Nat) (w : World) (s : ST), h ≤ 90000 → Tr w h s → Calls Try.prog 37 #[pn s.b, .agg #[.string e.k, .string e.v]] w (TWPost w h s e)
  | 0, w, s, _, ht => with_leaf ht he
  | h + 1, w, s, hh, ht => with_branch ht he (by omega) fun w' k hk => with_tr he h w' k (by omega) hk

end Go.Proofs.Ytkooaechcbopnaa
