/-
  Several texts in one: TreeWith, TreeOut, TreeRoot, TreePath, TreeGet, TreePut, TreeItems, TreeRefs, TreeOps, TreeTools. Each says what it proves, and under which conditions.
-/
import Derived.Test.YtelenboncejdaaaGreatDoorK8
import Derived.BigQuiet

/-
  The contract of tree.with; conditions: the tree is valid and lies in memory, the entry is valid.
-/
namespace Go.Proofs.YtelenboncejdaaaGreatDoor
open Go.RowKit Go.Sort
set_option linter.unusedVariables false

/-- The boxes of a call: the entry, the result, the parts. -/
structure WB (w : World) (g : Nat) (e : Ent) (u v : Value) (w' : World) : Prop where
  h3 : w'.heap[w.heap.size]? = some (.cells #[.string e.k, .string e.v] 87 (0, 0))
  h4 : w'.heap[w.heap.size + 1]? = some (.cells #[.slice none 0 0, .slice none 0 0] 154 (0, 0))
  h5 : w'.heap[g]? = some (.cells #[u, v] 154 (0, 0))
  lt : w.heap.size + 1 < g
  below : Below w.heap.size w w'
theorem WB.next {w w' w'' : World} {g : Nat} {e : Ent} {u v : Value} (h : WB w g e u v w') (hb : Below w'.heap.size w' w'') : WB w g e u v w'' :=
  ⟨(hb.block _ (lt_of_block h.h3)).trans h.h3, (hb.block _ (lt_of_block h.h4)).trans h.h4, (hb.block _ (lt_of_block h.h5)).trans h.h5, h.lt, bthen h.below hb⟩
theorem two_new (w : World) (c0 c1 : Array Value) (t0 t1 : TypeId) : Below w.heap.size w ((w.alloc (.cells c0 t0)).alloc (.cells c1 t1)) ∧ ((w.alloc (.cells c0 t0)).alloc (.cells c1 t1)).heap[w.heap.size]? = some (.cells c0 t0 (0, 0)) ∧ ((w.alloc (.cells c0 t0)).alloc (.cells c1 t1)).heap[w.heap.size + 1]? = some (.cells c1 t1 (0, 0)) ∧ ((w.alloc (.cells c0 t0)).alloc (.cells c1 t1)).heap.size = w.heap.size + 2 := by
  have k0 := heap_alloc_new w (.cells c0 t0)
  have k1 := heap_alloc_new (w.alloc (.cells c0 t0)) (.cells c1 t1)
  have b1 : Below (w.alloc (.cells c0 t0)).heap.size (w.alloc (.cells c0 t0)) ((w.alloc (.cells c0 t0)).alloc (.cells c1 t1)) := (Below.refl _ _).alloc (Nat.le_refl _) _
  have b0 : Below w.heap.size w (w.alloc (.cells c0 t0)) := (Below.refl _ _).alloc (Nat.le_refl _) _
  have s0 : (w.alloc (.cells c0 t0)).heap.size = w.heap.size + 1 := by simp
  refine ⟨bthen b0 b1, (b1.block _ (by omega)).trans k0, ?_, by simp⟩
  rw [s0] at k1
  exact k1
/-- A box that is laid. -/
theorem box_new (w : World) (u v : Value) (t : TypeId) : Below w.heap.size w (w.alloc (.cells #[u, v] t)) ∧ (w.alloc (.cells #[u, v] t)).heap[w.heap.size]? = some (.cells #[u, v] t (0, 0)) := ⟨(Below.refl _ _).alloc (Nat.le_refl _) _, heap_alloc_new w _⟩

/-- What tree.with answers. -/
def TWPost (w : World) (h : Nat) (s : ST) (e : Ent) (r : Ending) (w' : World) : Prop :=
  ∃ v n, r = .returned v ∧ Parts w' h v (put s.l e) n s.ids (2 * h) ∧ s.size ≤ n ∧ n ≤ s.size + 1 ∧ Below w.heap.size w w'

set_option maxHeartbeats 2000000 in
set_option maxRecDepth 100000 in
theorem with_leaf {w : World} {s : ST} {e : Ent} (ht : Tr w 0 s) (he : okE e = true) :
    Calls Tryz.prog 70 #[pn s.b, .agg #[.string e.k, .string e.v]] w (TWPost w 0 s e) := by
  obtain ⟨hN, hL, hE, hok, hid⟩ := ht
  have hlen := okLeaf_len hok
  have HS := Lib.hid (okLeaf_sorted hok)
  have HSZ := Lib.hid (show s.size = s.l.length by unfold ST.size; rw [hL.en, hL.kn]; rfl)
  obtain ⟨n, hn⟩ : ∃ n, n = s.l.length := ⟨_, rfl⟩
  rw [← hn] at hlen
  obtain ⟨W, hW⟩ : ∃ W, W = (w.alloc (.cells #[.string e.k, .string e.v] 87)).alloc (.cells #[.slice none 0 0, .slice none 0 0] 154) := ⟨_, rfl⟩
  obtain ⟨hbW, k0, k1, hsz⟩ := two_new w #[.string e.k, .string e.v] #[.slice none 0 0, .slice none 0 0] 87 154
  rw [← hW] at hbW k0 k1 hsz
  have HN := Lib.hid (hN.below hbW)
  have HE := Lib.hid (hE.below hbW)
  have HEN := Lib.hid hL.en
  have HKN := Lib.hid hL.kn
  have HW := Lib.hid hW
  have Hn := Lib.hid hn
  have HBW := Lib.hid hbW
  have K0 := Lib.hid k0
  have K1 := Lib.hid k1
  have KS := Lib.hid hsz
  clear hN hL hE hok hid hW hbW k0 k1 hsz hn
  go_enter Tryz.func70, Tryz.ntmps70
  go_wp2_with fail
  rw [← HW.out]
  refine (partsOf_pt HN.out HE.out HEN.out.symm (Ls.nil (f := pcP) _ _) HKN.out.symm (by rw [HEN.out, ← Hn.out]; omega) (by rw [HKN.out]; omega)).mono ?_
  rintro r w1 ⟨v, rfl, ⟨A, c, B, d, rfl, hc, hd, h1, h2⟩, hb1⟩
  rw [← Hn.out] at hc ⊢
  simp only [List.length_nil]
  obtain ⟨hb2, hg⟩ := box_new w1 (.slice A n c) (.slice B (0 : Nat) d) 154
  have hb12 := bthen hb1 hb2
  have hWB : WB w w1.heap.size e (.slice A n c) (.slice B (0 : Nat) d) (w1.alloc (.cells #[.slice A n c, .slice B (0 : Nat) d] 154)) := by
    refine ⟨(hb12.block _ (lt_of_block K0.out)).trans K0.out, (hb12.block _ (lt_of_block K1.out)).trans K1.out, hg, by have := hb1.size; rw [KS.out] at this; omega, bthen HBW.out hb12⟩
  have HWB := Lib.hid hWB
  have HES := Lib.hid (h1.below hb2)
  clear hb1 hb2 hb12 hWB h1 h2 hg
  go_wp2_with fail
  generalize hw2 : w1.alloc (.cells #[.slice A n c, .slice B (0 : Nat) d] 154) = w2 at *
  refine (ofLeaf_any _ A B n c 0 d).mono ?_
  rintro r w3 ⟨rfl, hb3⟩
  generalize w1.heap.size = g at *
  have hWB3 := HWB.out.next hb3
  have q50 := cell_at hWB3.h5 0 _ rfl
  have q30 := cell_at hWB3.h3 0 _ rfl
  have q31 := cell_at hWB3.h3 1 _ rfl
  have HWB3 := Lib.hid hWB3
  have HES3 := Lib.hid (HES.out.below hb3)
  clear hb3 hWB3 hw2
  go_wp2_with fail
  refine (with_any A n c s.l e w3 HES3.out Hn.out.symm hc (by omega)).mono ?_
  rintro r w4 ⟨i, f, v, rfl, hpl, ho4, hb4⟩
  rw [hpl.wth HS.out] at ho4
  have hWB4 := HWB3.out.next hb4
  obtain ⟨A4, c4, rfl, hc4, hes4⟩ := ho4.form
  have hblk := hWB4.h4
  have HT := Lib.hid (set_two hblk (.slice A4 (put s.l e).length c4) (.slice none 0 0))
  have HB := Lib.hid (two_below hWB4.below (Nat.le_succ _) (.slice A4 (put s.l e).length c4) (.slice none 0 0))
  have HE4 := Lib.hid (hes4.off (Off.two hblk (.slice A4 (put s.l e).length c4) (.slice none 0 0)))
  have hd0 := cell_at hblk 0 _ rfl
  have hd1 := cell_at hblk 1 _ rfl
  have hf0 := free_at hblk 0
  have hf1 := free_at hblk 1
  clear q50 q30 q31 ho4 hes4 hb4 hWB4 hblk
  go_wp2
  refine bodyPost_ret (v := .agg #[.slice A4 (put s.l e).length c4, .slice none 0 0]) ?_ rfl ⟨_, (put s.l e).length, rfl, ⟨⟨A4, c4, none, 0, rfl, hc4, Nat.le_refl _, HE4.out, Ls.nil _ _⟩, rfl⟩, ?_, ?_, HB.out⟩
  · have k0 := cell_at HT.out 0 _ rfl
    have k1 := cell_at HT.out 1 _ rfl
    simp [results, Tryz.results70, go_sem, k0, k1]
  · rw [HSZ.out]
    rcases put_length HS.out e with h | h <;> omega
  · rw [HSZ.out]
    rcases put_length HS.out e with h | h <;> omega

theorem fits_of {w : World} {h : Nat} {k : ST} (ht : Tr w h k) (hg : k.good = true) {n : Nat} (h1 : k.size ≤ n) (h2 : n ≤ k.size + 1) : fits h n ∧ least h ≤ n := by
  have h3 := ht.size_le
  rw [ht.good_iff] at hg
  have h4 := of_decide_eq_true hg
  unfold fits least
  by_cases h0 : h = 0
  · rw [if_pos h0] at h4 ⊢
    rw [if_pos h0]
    omega
  · rw [if_neg h0] at h4 ⊢
    rw [if_neg h0]
    omega
theorem mem_ids {ks : List ST} {k : ST} (hk : k ∈ ks) {x : Nat} (hx : x ∈ k.ids) : x ∈ idsOf ks := List.mem_flatMap.2 ⟨k, hk, hx⟩
/-- Kids, of which some were replaced. -/
theorem few_repl {ks ms : List ST} {old : List Nat} {i j m : Nat} (h : FewNew old m (idsOf ms)) (hs : ∀ x ∈ idsOf ks, x ∈ old) : FewNew old m (idsOf (ks.take i ++ ms ++ ks.drop j)) := by
  have h1 : FewNew old 0 (idsOf (ks.take i)) := FewNew.of (fun x hx => hs x (idsOf_take hx)) 0
  have h2 : FewNew old 0 (idsOf (ks.drop j)) := FewNew.of (fun x hx => hs x (idsOf_drop hx)) 0
  have h3 := (h1.join h).join h2
  rw [idsOf_append, idsOf_append]
  exact h3.more (by omega)

set_option maxHeartbeats 2000000 in
set_option maxRecDepth 100000 in
theorem with_branch {w : World} {h : Nat} {s : ST} {e : Ent} (ht : Tr w (h + 1) s) (he : okE e = true) (hh : h ≤ 90000)
    (ih : ∀ (w' : World) (k : ST), Tr w' h k → Calls Tryz.prog 70 #[pn k.b, .agg #[.string e.k, .string e.v]] w' (TWPost w' h k e)) :
    Calls Tryz.prog 70 #[pn s.b, .agg #[.string e.k, .string e.v]] w (TWPost w (h + 1) s e) := by
  obtain ⟨ks, hN, hB, hP, hk2, hk6, hso, hks, hfl, hid⟩ := ht
  obtain ⟨n, hn⟩ : ∃ n, ks.length = n := ⟨_, rfl⟩
  have HSZ := Lib.hid (show s.size = n by unfold ST.size; rw [hB.en, hB.kn, nbs_len, Nat.zero_add, hn])
  rw [hn] at hk2 hk6
  obtain ⟨W, hW⟩ : ∃ W, W = (w.alloc (.cells #[.string e.k, .string e.v] 87)).alloc (.cells #[.slice none 0 0, .slice none 0 0] 154) := ⟨_, rfl⟩
  obtain ⟨hbW, k0, k1, hsz⟩ := two_new w #[.string e.k, .string e.v] #[.slice none 0 0, .slice none 0 0] 87 154
  rw [← hW] at hbW k0 k1 hsz
  rw [hfl] at hso
  have HN := Lib.hid (hN.below hbW)
  have HP := Lib.hid (hP.below hbW)
  have HEN := Lib.hid hB.en
  have HKN := Lib.hid (show s.N.kn = n by rw [hB.kn, nbs_len, hn])
  have HW := Lib.hid hW
  have Hn := Lib.hid hn
  have HBW := Lib.hid hbW
  have K0 := Lib.hid k0
  have K1 := Lib.hid k1
  have KS := Lib.hid hsz
  have HSO := Lib.hid hso
  have HKS := Lib.hid hks
  have HFL := Lib.hid hfl
  have HID := Lib.hid hid
  clear hN hB hP hW hbW k0 k1 hsz hn hso hks hfl hid
  go_enter Tryz.func70, Tryz.ntmps70
  go_wp2_with fail
  rw [← HW.out]
  refine (partsOf_pt HN.out (Es.nil _ _) HEN.out.symm HP.out (by rw [ptrS_len, Hn.out, HKN.out]) (by rw [HEN.out]; omega) (by rw [HKN.out]; omega)).mono ?_
  rintro r w1 ⟨v, rfl, ⟨A, c, B, d, rfl, hc, hd, h1, h2⟩, hb1⟩
  rw [ptrS_len, Hn.out] at hd ⊢
  simp only [List.length_nil] at hc ⊢
  obtain ⟨hb2, hg⟩ := box_new w1 (.slice A (0 : Nat) c) (.slice B n d) 154
  have hb12 := bthen hb1 hb2
  have hWB : WB w w1.heap.size e (.slice A (0 : Nat) c) (.slice B n d) (w1.alloc (.cells #[.slice A (0 : Nat) c, .slice B n d] 154)) := by
    refine ⟨(hb12.block _ (lt_of_block K0.out)).trans K0.out, (hb12.block _ (lt_of_block K1.out)).trans K1.out, hg, by have := hb1.size; rw [KS.out] at this; omega, bthen HBW.out hb12⟩
  have HWB := Lib.hid hWB
  have HLS := Lib.hid (h2.below hb2)
  clear hb1 hb2 hb12 hWB h1 h2 hg
  go_wp2_with fail
  generalize hw2 : w1.alloc (.cells #[.slice A (0 : Nat) c, .slice B n d] 154) = w2 at *
  refine (ofLeaf_any _ A B 0 c n d).mono ?_
  rintro r w3 ⟨rfl, hb3⟩
  generalize w1.heap.size = g at *
  have hn0 : ¬ n = 0 := by omega
  have hWB3 := HWB.out.next hb3
  have q51 := cell_at hWB3.h5 1 _ rfl
  have q30 := cell_at hWB3.h3 0 _ rfl
  have HWB3 := Lib.hid hWB3
  have HLS3 := Lib.hid (HLS.out.below hb3)
  have HT3 := Lib.hid (show ∀ k ∈ ks, Tr w3 h k ∧ k.good = true from fun k hk => ⟨(HKS.out k hk).1.below hWB3.below, (HKS.out k hk).2⟩)
  clear hb3 hWB3 hw2
  go_wp2_with fail
  refine (kidFor_any HLS3.out Hn.out (by omega) (by omega) (all_of HT3.out)).mono ?_
  rintro r w4 ⟨i, rfl, hkid, hb4⟩
  obtain ⟨k, hki, hsplit, hlo, hhi⟩ := hkid.split HT3.out HSO.out
  have hilt : i < n := by have := hkid.lt; rw [Hn.out] at this; exact this
  obtain ⟨W5, hW5⟩ : ∃ W5, W5 = w4.drew := ⟨_, rfl⟩
  have hb5 : Below w4.heap.size w4 W5 := by rw [hW5]; exact (Below.refl _ _).drew
  have hb45 := bthen hb4 hb5
  have hWB5 := HWB3.out.next hb45
  have hls5 := HLS3.out.below hb45
  obtain ⟨ad, x, rfl, hx, hadl, hcx⟩ := Ls.node_at hls5 (i := i) (by rw [nbs_len, Hn.out]; exact hilt)
  rw [nbs_at hki] at hx
  cases hx
  have q50 : ∀ z : Dc.Past [] W5, z.val.cell? ⟨g, 0, none⟩ = some (.slice A (0 : Nat) c) := fun z => (z.ok.cell (lt_of_block hWB5.h5) (by simp)).trans (cell_at hWB5.h5 0 _ rfl)
  have q51' : ∀ z : Dc.Past [] W5, z.val.cell? ⟨g, 1, none⟩ = some (.slice (some ad) n d) := fun z => (z.ok.cell (lt_of_block hWB5.h5) (by simp)).trans (cell_at hWB5.h5 1 _ rfl)
  have q30' : ∀ z : Dc.Past [] W5, z.val.cell? ⟨w.heap.size, 0, none⟩ = some (.string e.k) := fun z => (z.ok.cell (lt_of_block hWB5.h3) (by simp)).trans (cell_at hWB5.h3 0 _ rfl)
  have q31' : ∀ z : Dc.Past [] W5, z.val.cell? ⟨w.heap.size, 1, none⟩ = some (.string e.v) := fun z => (z.ok.cell (lt_of_block hWB5.h3) (by simp)).trans (cell_at hWB5.h3 1 _ rfl)
  have qk : ∀ z : Dc.Past [] W5, z.val.cell? (ad.add i) = some (pn k.b) := fun z => (z.ok.cell (by rw [block_of_add]; exact hadl) (by simp)).trans hcx
  have HW5 := Lib.hid hW5
  have HWB5 := Lib.hid hWB5
  have HLS5 := Lib.hid hls5
  have HKI := Lib.hid hki
  have HSP := Lib.hid hsplit
  have HLO := Lib.hid hlo
  have HHI := Lib.hid hhi
  clear q51 q30 hkid hki hsplit hlo hhi hb4 hb5 hb45 hWB5 hls5 hcx hW5
  go_wp2
  refine Dc.wp_region_segs 12 [] [([0, 1, 2, 3, 4, 5, 6, 7, 8, 9], 10), ([], 11), ([], 12)] [] (by kernel_rfl) (by kernel_rfl) (by kernel_rfl) (by kernel_rfl) (by kernel_rfl) (by intro c a d v w h; cases d <;> exact h) ?_
  rw [← HW5.out]
  refine Dc.wpSegs_more ?_
  simp only [Dc.pick, List.getElem?_cons_zero, List.getElem?_cons_succ]
  repeat (first | go_big_quiet_step (fail) | quiet_step (fail))
  refine wpQuiet_nil ?_
  refine Dc.wpOp_heavy rfl (by rfl) (fun K hK => ?_)
  go_simp
  have hmem := List.mem_of_getElem? HKI.out
  have htk := (HKS.out k hmem).1.below HWB5.out.below
  refine (ih W5 k htk).mono ?_
  rintro r w6 ⟨v2, n2, rfl, hpa, hn2, hn3, hb6⟩
  refine hK _ _ (fun _ => Dc.But.of_below hb6) ?_
  clear hK K q50 q51' q30' q31' qk
  obtain ⟨hfit, hleast⟩ := fits_of htk (HKS.out k hmem).2 hn2 hn3
  have hSk : Sorted k.l := htk.sorted
  have HPA := Lib.hid hpa
  have HSP2 := Lib.hid (sorted_put hSk e)
  have HOP := Lib.hid (show ∀ y ∈ put k.l e, okE y = true from fun y hy => by
    rcases mem_put.1 hy with rfl | ⟨hy, _⟩
    · exact he
    · exact htk.okE y hy)
  have HPT := Lib.hid (show Pt w6 (.agg #[.slice A (0 : Nat) c, .slice (some ad) n d]) [] (ptrS ks) from ⟨A, c, some ad, d, by rw [ptrS_len, Hn.out]; rfl, Nat.zero_le _, by rw [ptrS_len, Hn.out]; exact hd, Es.nil _ _, HLS5.out.below hb6⟩)
  have HWB6 := Lib.hid (HWB5.out.next hb6)
  clear hpa htk hSk hb6
  refine Dc.wpSegs_more ?_
  simp only [Dc.pick]
  refine wpQuiet_nil ?_
  refine Dc.wpOp_heavy rfl (by rfl) (fun K hK => ?_)
  go_simp
  rw [show ((i : Int) + 1) = ((i + 1 : Nat) : Int) from rfl]
  refine (replace_any HPT.out Hn.out (Nat.le_succ i) hilt hk6 HPA.out hfit (by omega) HSP2.out HOP.out).mono ?_
  rintro r w7 ⟨u, ms, rfl, hpt, hml, hmk, hmf, hmn, hb7⟩
  refine hK _ _ (fun _ => Dc.But.of_below hb7) ?_
  obtain ⟨A7, c7, B7, d7, rfl⟩ := hpt.form
  have hWB7 := HWB6.out.next hb7
  have hblk := hWB7.h4
  obtain ⟨m7, hm7⟩ : ∃ m7, m7 = (ptrS (ks.take i ++ ms ++ ks.drop (i + 1))).length := ⟨_, rfl⟩
  simp only [List.length_nil] at hpt ⊢
  rw [← hm7] at hpt ⊢
  have hof := Off.two hblk (.slice A7 (0 : Nat) c7) (.slice B7 m7 d7)
  have HT := Lib.hid (set_two hblk (.slice A7 (0 : Nat) c7) (.slice B7 m7 d7))
  have HB := Lib.hid (two_below hWB7.below (Nat.le_succ _) (.slice A7 (0 : Nat) c7) (.slice B7 m7 d7))
  have hlen7 : (ks.take i ++ ms ++ ks.drop (i + 1)).length = n - 1 + ms.length := by
    rw [List.length_append, List.length_append, List.length_take, List.length_drop, Hn.out]
    omega
  have hml2 : 1 ≤ ms.length ∧ ms.length ≤ 2 := by rw [hml]; split <;> omega
  have HPO := Lib.hid (show Parts (World.two w7 (w.heap.size + 1) (.slice A7 (0 : Nat) c7) (.slice B7 m7 d7)) (h + 1) (.agg #[.slice A7 (0 : Nat) c7, .slice B7 m7 d7]) (put s.l e) (n - 1 + ms.length) s.ids (2 * (h + 1)) from ⟨ks.take i ++ ms ++ ks.drop (i + 1), hpt.off hof, hlen7, fun y hy => by
    rcases List.mem_append.1 hy with hy | hy
    · rcases List.mem_append.1 hy with hy | hy
      · have := HKS.out y (List.mem_of_mem_take hy)
        exact ⟨(this.1.below hWB7.below).off hof, this.2⟩
      · exact ⟨(hmk y hy).1.off hof, (hmk y hy).2.2 hleast⟩
    · have := HKS.out y (List.mem_of_mem_drop hy)
      exact ⟨(this.1.below hWB7.below).off hof, this.2⟩, by
    rw [flat_append, flat_append, hmf, HFL.out]
    conv => rhs; rw [HSP.out]
    rw [flat_append, flat_append, show flat [k] = k.l ++ [] from rfl, List.append_nil, put_mid HLO.out HHI.out], by
    refine (few_repl (hmn.wide fun y hy => ?_) fun y hy => ?_).more (by omega)
    · rw [HID.out]
      exact List.mem_cons_of_mem _ (mem_ids hmem hy)
    · rw [HID.out]
      exact List.mem_cons_of_mem _ hy⟩)
  have hd0 := cell_at hblk 0 _ rfl
  have hd1 := cell_at hblk 1 _ rfl
  have hf0 := free_at hblk 0
  have hf1 := free_at hblk 1
  clear hK K hpt hml hmk hmf hmn hb7 hWB7 hblk hof hm7 hlen7
  refine Dc.wpSegs_more ?_
  simp only [Dc.pick]
  refine wpQuiet_nil ?_
  refine Dc.wpOp_heavy rfl (by rfl) (fun K hK => ?_)
  go_simp
  refine hK _ _ (fun h => absurd rfl h) ?_
  clear hK K
  refine Dc.wpSegs_last ?_
  simp only [Dc.pick]
  refine wpQuiet_nil ?_
  go_wp2
  refine bodyPost_ret (v := .agg #[.slice A7 (0 : Nat) c7, .slice B7 m7 d7]) ?_ rfl ⟨_, n - 1 + ms.length, rfl, HPO.out, ?_, ?_, HB.out⟩
  · have k0 := cell_at HT.out 0 _ rfl
    have k1 := cell_at HT.out 1 _ rfl
    simp [results, Tryz.results70, go_sem, k0, k1]
  · rw [HSZ.out]; omega
  · rw [HSZ.out]; omega

theorem with_tr {e : Ent} (he : okE e = true) : ∀ (h : Nat) (w : World) (s : ST), h ≤ 90000 → Tr w h s → Calls Tryz.prog 70 #[pn s.b, .agg #[.string e.k, .string e.v]] w (TWPost w h s e)
  | 0, w, s, _, ht => with_leaf ht he
  | h + 1, w, s, hh, ht => with_branch ht he (by omega) fun w' k hk => with_tr he h w' k (by omega) hk

end Go.Proofs.YtelenboncejdaaaGreatDoor

/-
  The contract of tree.without; conditions: the tree is valid and lies in memory.
-/
namespace Go.Proofs.YtelenboncejdaaaGreatDoor
open Go.RowKit Go.Sort
set_option linter.unusedVariables false

/-- The parts of a valid tree. -/
theorem partsOf_tr {w : World} {h : Nat} {s : ST} (t : Tr w h s) : Calls Tryz.prog 90 #[pn s.b] w fun e w' => ∃ v, e = .returned v ∧ Parts w' h v s.l s.size s.ids 0 ∧ Below w.heap.size w w' := by
  have hsz := t.size_le
  cases h with
  | zero =>
    obtain ⟨hN, hL, hE, hok, hid⟩ := t
    refine (partsOf_pt hN hE hL.en.symm (Ls.nil (f := pcP) _ _) hL.kn.symm (by omega) (by omega)).mono ?_
    rintro e w1 ⟨v, rfl, hp, hb⟩
    exact ⟨v, rfl, ⟨hp, by unfold ST.size; rw [hL.en, hL.kn]; rfl⟩, hb⟩
  | succ h =>
    obtain ⟨ks, hN, hB, hP, hk2, hk6, hso, hks, hfl, hid⟩ := t
    refine (partsOf_pt hN (Es.nil _ _) hB.en.symm hP (by rw [hB.kn, ptrS_len, nbs_len]) (by omega) (by omega)).mono ?_
    rintro e w1 ⟨v, rfl, hp, hb⟩
    exact ⟨v, rfl, ⟨ks, hp, by unfold ST.size; rw [hB.en, hB.kn, nbs_len, Nat.zero_add], fun k hk => ⟨(hks k hk).1.below hb, (hks k hk).2⟩, hfl.symm, FewNew.of (fun x hx => by rw [hid]; exact List.mem_cons_of_mem _ hx) 0⟩, hb⟩
/-- Two nodes' parts together. -/
theorem join_parts {w : World} {h n1 n2 m1 m2 : Nat} {v1 v2 : Value} {l1 l2 : List Ent} {old : List Nat} (h1 : Parts w h v1 l1 n1 old m1) (h2 : Parts w h v2 l2 n2 old m2) (hb : n1 + n2 ≤ 1000) :
    Calls Tryz.prog 121 #[v1, v2] w fun e w' => ∃ u, e = .returned u ∧ Parts w' h u (l1 ++ l2) (n1 + n2) old (m1 + m2) ∧ Below w.heap.size w w' := by
  cases h with
  | zero =>
    refine (join_pt h1.1 h2.1 (by rw [h1.2, h2.2]; exact hb) (by simp)).mono ?_
    rintro e w1 ⟨u, rfl, hp, hb1⟩
    exact ⟨u, rfl, ⟨hp, by rw [List.length_append, h1.2, h2.2]⟩, hb1⟩
  | succ h =>
    obtain ⟨k1, p1, e1, t1, f1, o1⟩ := h1
    obtain ⟨k2, p2, e2, t2, f2, o2⟩ := h2
    refine (join_pt p1 p2 (by simp) (by rw [ptrS_len, ptrS_len, e1, e2]; exact hb)).mono ?_
    rintro e w1 ⟨u, rfl, hp, hb1⟩
    rw [← ptrS_append] at hp
    refine ⟨u, rfl, ⟨k1 ++ k2, hp, by rw [List.length_append, e1, e2], fun k hk => ?_, by rw [flat_append, f1, f2], by rw [idsOf_append]; exact o1.join o2⟩, hb1⟩
    rcases List.mem_append.1 hk with hk | hk
    · exact ⟨(t1 k hk).1.below hb1, (t1 k hk).2⟩
    · exact ⟨(t2 k hk).1.below hb1, (t2 k hk).2⟩

/-- A box of parts. -/
def Bx (g : Nat) (u v : Value) (w : World) : Prop := w.heap[g]? = some (.cells #[u, v] 154 (0, 0))
theorem Bx.lt {g : Nat} {u v : Value} {w : World} (h : Bx g u v w) : g < w.heap.size := lt_of_block h
theorem Bx.next {g : Nat} {u v : Value} {w w' : World} (h : Bx g u v w) (hb : Below w.heap.size w w') : Bx g u v w' := (hb.block _ (lt_of_block h)).trans h
theorem Bx.c0 {g : Nat} {u v : Value} {w : World} (h : Bx g u v w) : w.cell? ⟨g, 0, none⟩ = some u := cell_at h 0 _ rfl
theorem Bx.c1 {g : Nat} {u v : Value} {w : World} (h : Bx g u v w) : w.cell? ⟨g, 1, none⟩ = some v := cell_at h 1 _ rfl
theorem Bx.f0 {g : Nat} {u v : Value} {w : World} (h : Bx g u v w) : w.frozen? ⟨g, 0, none⟩ = false := free_at h 0
theorem Bx.f1 {g : Nat} {u v : Value} {w : World} (h : Bx g u v w) : w.frozen? ⟨g, 1, none⟩ = false := free_at h 1
theorem Bx.p0 {g : Nat} {u v : Value} {w : World} (h : Bx g u v w) : ∀ z : Dc.Past [] w, z.val.cell? ⟨g, 0, none⟩ = some u := fun z => (z.ok.cell h.lt (by simp)).trans h.c0
theorem Bx.p1 {g : Nat} {u v : Value} {w : World} (h : Bx g u v w) : ∀ z : Dc.Past [] w, z.val.cell? ⟨g, 1, none⟩ = some v := fun z => (z.ok.cell h.lt (by simp)).trans h.c1
theorem Bx.new (w : World) (u v : Value) : Bx w.heap.size u v (w.alloc (.cells #[u, v] 154)) := heap_alloc_new w _

/-- What tree.without answers. -/
def TOPost (w : World) (h : Nat) (s : ST) (key : ByteArray) (r : Ending) (w' : World) : Prop :=
  ∃ v n, r = .returned v ∧ Parts w' h v (del s.l key) n s.ids (2 * h) ∧ s.size ≤ n + 1 ∧ n ≤ s.size + 1 ∧ Below w.heap.size w w'

set_option maxHeartbeats 2000000 in
set_option maxRecDepth 100000 in
theorem without_leaf {w : World} {s : ST} {key : ByteArray} (ht : Tr w 0 s) :
    Calls Tryz.prog 82 #[pn s.b, .string key] w (TOPost w 0 s key) := by
  obtain ⟨hN, hL, hE, hok, hid⟩ := ht
  have hlen := okLeaf_len hok
  have HS := Lib.hid (okLeaf_sorted hok)
  have HSZ := Lib.hid (show s.size = s.l.length by unfold ST.size; rw [hL.en, hL.kn]; rfl)
  obtain ⟨n, hn⟩ : ∃ n, n = s.l.length := ⟨_, rfl⟩
  rw [← hn] at hlen
  have hbW : Below w.heap.size w (w.alloc (.cells #[.slice none 0 0, .slice none 0 0] 154)) := (Below.refl _ _).alloc (Nat.le_refl _) _
  have k0 := Bx.new w (.slice none 0 0) (.slice none 0 0)
  have HN := Lib.hid (hN.below hbW)
  have HE := Lib.hid (hE.below hbW)
  have HEN := Lib.hid hL.en
  have HKN := Lib.hid hL.kn
  have Hn := Lib.hid hn
  have HBW := Lib.hid hbW
  have K0 := Lib.hid k0
  clear hN hL hE hok hid hbW k0 hn
  go_enter Tryz.func82, Tryz.ntmps82
  go_wp2_with fail
  refine (partsOf_pt HN.out HE.out HEN.out.symm (Ls.nil (f := pcP) _ _) HKN.out.symm (by rw [HEN.out, ← Hn.out]; omega) (by rw [HKN.out]; omega)).mono ?_
  rintro r w1 ⟨v, rfl, ⟨A, c, B, d, rfl, hc, hd, h1, h2⟩, hb1⟩
  rw [← Hn.out] at hc ⊢
  simp only [List.length_nil]
  have hb2 : Below w1.heap.size w1 (w1.alloc (.cells #[.slice A n c, .slice B (0 : Nat) d] 154)) := (Below.refl _ _).alloc (Nat.le_refl _) _
  have hb12 := bthen hb1 hb2
  have HB4 := Lib.hid (K0.out.next hb12)
  have HB5 := Lib.hid (Bx.new w1 (.slice A n c) (.slice B (0 : Nat) d))
  have HBB := Lib.hid (bthen HBW.out hb12)
  have HES := Lib.hid (h1.below hb2)
  clear hb1 hb2 hb12 h1 h2
  go_wp2_with fail
  generalize hw2 : w1.alloc (.cells #[.slice A n c, .slice B (0 : Nat) d] 154) = w2 at *
  refine (ofLeaf_any _ A B n c 0 d).mono ?_
  rintro r w3 ⟨rfl, hb3⟩
  generalize w1.heap.size = g at *
  have HB43 := Lib.hid (HB4.out.next hb3)
  have q50 := (HB5.out.next hb3).c0
  have HES3 := Lib.hid (HES.out.below hb3)
  have HBB3 := Lib.hid (bthen HBB.out hb3)
  clear hb3 hw2
  go_wp2_with fail
  refine (without_any A n c s.l key w3 HES3.out Hn.out.symm hc (by omega)).mono ?_
  rintro r w4 ⟨i, f, v, rfl, hpl, ho4, hb4⟩
  rw [hpl.wout HS.out] at ho4
  obtain ⟨A4, c4, rfl, hc4, hes4⟩ := ho4.form
  have hblk := HB43.out.next hb4
  have HT := Lib.hid (set_two hblk (.slice A4 (del s.l key).length c4) (.slice none 0 0))
  have HB := Lib.hid (two_below (bthen HBB3.out hb4) (Nat.le_refl _) (.slice A4 (del s.l key).length c4) (.slice none 0 0))
  have HE4 := Lib.hid (hes4.off (Off.two hblk (.slice A4 (del s.l key).length c4) (.slice none 0 0)))
  have hd0 := hblk.c0
  have hd1 := hblk.c1
  have hf0 := hblk.f0
  have hf1 := hblk.f1
  clear q50 ho4 hes4 hb4 hblk
  go_wp2
  refine bodyPost_ret (v := .agg #[.slice A4 (del s.l key).length c4, .slice none 0 0]) ?_ rfl ⟨_, (del s.l key).length, rfl, ⟨⟨A4, c4, none, 0, rfl, hc4, Nat.le_refl _, HE4.out, Ls.nil _ _⟩, rfl⟩, ?_, ?_, HB.out⟩
  · have k0 := cell_at HT.out 0 _ rfl
    have k1 := cell_at HT.out 1 _ rfl
    simp [results, Tryz.results82, go_sem, k0, k1]
  · rw [HSZ.out]
    exact del_one HS.out key
  · rw [HSZ.out]
    exact Nat.le_succ_of_le (del_length key HS.out)

theorem Parts.enough {w : World} {h : Nat} {v : Value} {l : List Ent} {n m : Nat} {old : List Nat} (hp : Parts w h v l n old m) (h1 : h ≠ 0 → 1 ≤ n) : ∃ A a c B b d, v = .agg #[.slice A (a : Nat) c, .slice B (b : Nat) d] ∧ decide (if b = 0 then 2 ≤ a else 3 ≤ b) = decide (least h ≤ n) := by
  cases h with
  | zero =>
    obtain ⟨⟨A, c, B, d, rfl, _⟩, rfl⟩ := hp
    exact ⟨A, _, c, B, _, d, rfl, by simp [least]⟩
  | succ h =>
    obtain ⟨ks, ⟨A, c, B, d, rfl, _⟩, rfl, _⟩ := hp
    have h2 := h1 (by omega)
    refine ⟨A, _, c, B, _, d, rfl, decide_eq_decide.2 ?_⟩
    rw [ptrS_len, if_neg (by omega)]
    exact Iff.rfl
theorem repl_parts {w w7 : World} {h i j q : Nat} {s : ST} {ks ms : List ST} {L : List Ent} {u : Value} (hpt : Pt w7 u [] (ptrS (ks.take i ++ ms ++ ks.drop j))) (hks : ∀ k ∈ ks, Tr w h k ∧ k.good = true) (hb : Below w.heap.size w w7) (hms : ∀ k ∈ ms, Tr w7 h k ∧ k.good = true)
    (hf : flat (ks.take i) ++ flat ms ++ flat (ks.drop j) = L) (hid : s.ids = s.b :: idsOf ks) (hfew : FewNew s.ids q (idsOf ms)) (hij : i ≤ j) (hj : j ≤ ks.length) : Parts w7 (h + 1) u L (i + ms.length + (ks.length - j)) s.ids q := by
  refine ⟨ks.take i ++ ms ++ ks.drop j, hpt, ?_, fun y hy => ?_, by rw [flat_append, flat_append, hf], few_repl hfew fun y hy => by rw [hid]; exact List.mem_cons_of_mem _ hy⟩
  · rw [List.length_append, List.length_append, List.length_take, List.length_drop]
    omega
  · rcases List.mem_append.1 hy with hy | hy
    · rcases List.mem_append.1 hy with hy | hy
      · have := hks y (List.mem_of_mem_take hy)
        exact ⟨this.1.below hb, this.2⟩
      · exact hms y hy
    · have := hks y (List.mem_of_mem_drop hy)
      exact ⟨this.1.below hb, this.2⟩
theorem flat_take_succ {ks : List ST} {i : Nat} {k : ST} (h : ks[i]? = some k) : flat (ks.take (i + 1)) = flat (ks.take i) ++ k.l := by
  rw [List.take_add_one, h, flat_append]
  simp [flat]
theorem flat_drop_one {ks : List ST} {i : Nat} {k : ST} (h : ks[i]? = some k) : flat (ks.drop i) = k.l ++ flat (ks.drop (i + 1)) := by
  have hi := (List.getElem?_eq_some_iff.1 h).1
  rw [List.drop_eq_getElem_cons hi, (List.getElem?_eq_some_iff.1 h).2]
  rfl

set_option maxHeartbeats 4000000 in
set_option maxRecDepth 100000 in
theorem without_branch {w : World} {h : Nat} {s : ST} {key : ByteArray} (ht : Tr w (h + 1) s) (hh : h ≤ 90000)
    (ih : ∀ (w' : World) (k : ST), Tr w' h k → Calls Tryz.prog 82 #[pn k.b, .string key] w' (TOPost w' h k key)) :
    Calls Tryz.prog 82 #[pn s.b, .string key] w (TOPost w (h + 1) s key) := by
  obtain ⟨ks, hN, hB, hP, hk2, hk6, hso, hks, hfl, hid⟩ := ht
  obtain ⟨n, hn⟩ : ∃ n, ks.length = n := ⟨_, rfl⟩
  have HSZ := Lib.hid (show s.size = n by unfold ST.size; rw [hB.en, hB.kn, nbs_len, Nat.zero_add, hn])
  rw [hn] at hk2 hk6
  rw [hfl] at hso
  have hbW : Below w.heap.size w (w.alloc (.cells #[.slice none 0 0, .slice none 0 0] 154)) := (Below.refl _ _).alloc (Nat.le_refl _) _
  have k0 := Bx.new w (.slice none 0 0) (.slice none 0 0)
  have HN := Lib.hid (hN.below hbW)
  have HP := Lib.hid (hP.below hbW)
  have HEN := Lib.hid hB.en
  have HKN := Lib.hid (show s.N.kn = n by rw [hB.kn, nbs_len, hn])
  have Hn := Lib.hid hn
  have HBW := Lib.hid hbW
  have K0 := Lib.hid k0
  have HSO := Lib.hid hso
  have HKS := Lib.hid hks
  have HFL := Lib.hid hfl
  have HID := Lib.hid hid
  clear hN hB hP hbW k0 hn hso hks hfl hid
  go_enter Tryz.func82, Tryz.ntmps82
  go_wp2_with fail
  refine (partsOf_pt HN.out (Es.nil _ _) HEN.out.symm HP.out (by rw [ptrS_len, Hn.out, HKN.out]) (by rw [HEN.out]; omega) (by rw [HKN.out]; omega)).mono ?_
  rintro r w1 ⟨v, rfl, ⟨A, c, B, d, rfl, hc, hd, h1, h2⟩, hb1⟩
  rw [ptrS_len, Hn.out] at hd ⊢
  simp only [List.length_nil] at hc ⊢
  have hb2 : Below w1.heap.size w1 (w1.alloc (.cells #[.slice A (0 : Nat) c, .slice B n d] 154)) := (Below.refl _ _).alloc (Nat.le_refl _) _
  have hb12 := bthen hb1 hb2
  have HB4 := Lib.hid (K0.out.next hb12)
  have HB5 := Lib.hid (Bx.new w1 (.slice A (0 : Nat) c) (.slice B n d))
  have HBB := Lib.hid (bthen HBW.out hb12)
  have HLS := Lib.hid (h2.below hb2)
  clear hb1 hb2 hb12 h1 h2
  go_wp2_with fail
  generalize hw2 : w1.alloc (.cells #[.slice A (0 : Nat) c, .slice B n d] 154) = w2 at *
  refine (ofLeaf_any _ A B 0 c n d).mono ?_
  rintro r w3 ⟨rfl, hb3⟩
  generalize w1.heap.size = g at *
  have hn0 : ¬ n = 0 := by omega
  have HB43 := Lib.hid (HB4.out.next hb3)
  have HB53 := Lib.hid (HB5.out.next hb3)
  have q51 := HB53.out.c1
  have HBB3 := Lib.hid (bthen HBB.out hb3)
  have HLS3 := Lib.hid (HLS.out.below hb3)
  have HT3 := Lib.hid (show ∀ k ∈ ks, Tr w3 h k ∧ k.good = true from fun k hk => ⟨(HKS.out k hk).1.below HBB3.out, (HKS.out k hk).2⟩)
  clear hb3 hw2
  go_wp2_with fail
  refine (kidFor_any HLS3.out Hn.out (by omega) (by omega) (all_of HT3.out)).mono ?_
  rintro r w4 ⟨i, rfl, hkid, hb4⟩
  obtain ⟨k, hki, hsplit, hlo, hhi⟩ := hkid.split HT3.out HSO.out
  have hilt : i < n := by have := hkid.lt; rw [Hn.out] at this; exact this
  have HB44 := Lib.hid (HB43.out.next hb4)
  have HB54 := Lib.hid (HB53.out.next hb4)
  have q51 := HB54.out.c1
  have hls4 := HLS3.out.below hb4
  obtain ⟨ad, x, rfl, hx, hadl, hcx⟩ := Ls.node_at hls4 (i := i) (by rw [nbs_len, Hn.out]; exact hilt)
  rw [nbs_at hki] at hx
  cases hx
  have HLS4 := Lib.hid hls4
  have HBB4 := Lib.hid (bthen HBB3.out hb4)
  have HKI := Lib.hid hki
  have HSP := Lib.hid hsplit
  have HLO := Lib.hid hlo
  have HHI := Lib.hid hhi
  have hmem := List.mem_of_getElem? HKI.out
  have HTK := Lib.hid ((HKS.out k hmem).1.below HBB4.out)
  have HMEM := Lib.hid hmem
  clear hkid hki hsplit hlo hhi hb4 hls4 hmem
  go_wp2_with fail
  refine (ih w4 k HTK.out).mono ?_
  rintro r w5 ⟨v2, n2, rfl, hpa, hn2, hn3, hb5⟩
  have hks1 := HTK.out.size_le
  have hlst : least h ≤ k.size := by
    have hg := (HKS.out k HMEM.out).2
    rw [HTK.out.good_iff] at hg
    exact of_decide_eq_true hg
  obtain ⟨A2, a2, c2, B2, b2, d2, rfl, hen⟩ := hpa.enough (fun h0 => by unfold least at hlst; rw [if_neg h0] at hlst; omega)
  have hb6 : Below w5.heap.size w5 (w5.alloc (.cells #[.slice A2 a2 c2, .slice B2 b2 d2] 154)) := (Below.refl _ _).alloc (Nat.le_refl _) _
  have hb56 := bthen hb5 hb6
  have HEN2 := Lib.hid hen
  have HPA := Lib.hid (hpa.below hb6)
  have HB46 := Lib.hid (HB44.out.next hb56)
  have HB56 := Lib.hid (HB54.out.next hb56)
  have HB96 := Lib.hid (Bx.new w5 (.slice A2 a2 c2) (.slice B2 b2 d2))
  have HLS6 := Lib.hid (HLS4.out.below hb56)
  have HBB6 := Lib.hid (bthen HBB4.out hb56)
  have HSK := Lib.hid (show Sorted k.l from HTK.out.sorted)
  clear hpa hen hb5 hb6 hb56 q51 hcx
  go_wp2_with fail
  generalize hw6 : w5.alloc (.cells #[.slice A2 a2 c2, .slice B2 b2 d2] 154) = w6 at *
  refine (enough_any w6 A2 B2 a2 c2 b2 d2).mono ?_
  rintro r w7 ⟨rfl, hb7⟩
  rw [HEN2.out]
  generalize w5.heap.size = g9 at *
  have HB47 := Lib.hid (HB46.out.next hb7)
  have HB57 := Lib.hid (HB56.out.next hb7)
  have HB97 := Lib.hid (HB96.out.next hb7)
  have HLS7 := Lib.hid (HLS6.out.below hb7)
  have HPA7 := Lib.hid (HPA.out.below hb7)
  have HBB7 := Lib.hid (bthen HBB6.out hb7)
  have HPT7 := Lib.hid (show Pt w7 (.agg #[.slice A (0 : Nat) c, .slice (some ad) n d]) [] (ptrS ks) from ⟨A, c, some ad, d, by rw [ptrS_len, Hn.out]; rfl, Nat.zero_le _, by rw [ptrS_len, Hn.out]; exact hd, Es.nil _ _, HLS7.out⟩)
  have HSD := Lib.hid (sorted_del HSK.out key)
  have HOD := Lib.hid (show ∀ y ∈ del k.l key, okE y = true from fun y hy => HTK.out.okE y (mem_del.1 hy).1)
  have HKW := Lib.hid (show ∀ y ∈ k.ids, y ∈ s.ids from fun y hy => by rw [HID.out]; exact List.mem_cons_of_mem _ (mem_ids HMEM.out hy))
  have HDEL := Lib.hid (show del s.l key = flat (ks.take i) ++ del k.l key ++ flat (ks.drop (i + 1)) by
    rw [HFL.out]
    conv => lhs; rw [HSP.out]
    rw [flat_append, flat_append, show flat [k] = k.l ++ [] from rfl, List.append_nil, del_mid HLO.out HHI.out])
  clear hb7 hw6
  -- ARMS
  by_cases hen : least h ≤ n2
  · rw [decide_eq_true hen]
    have q50 := HB57.out.c0
    have q51 := HB57.out.c1
    have q90 := HB97.out.c0
    have q91 := HB97.out.c1
    go_wp2_with fail
    rw [show ((i : Int) + 1) = ((i + 1 : Nat) : Int) from rfl]
    refine (replace_any HPT7.out Hn.out (Nat.le_succ i) hilt hk6 HPA7.out (by unfold fits; unfold least at hen; split at hen <;> rename_i h0 <;> simp only [h0, if_true, if_false] <;> omega) (by omega) HSD.out HOD.out).mono ?_
    rintro r w8 ⟨u, ms, rfl, hpt, hml, hmk, hmf, hmn, hb8⟩
    obtain ⟨A8, c8, B8, d8, rfl⟩ := hpt.form
    have hblk := HB47.out.next hb8
    have hbw8 := bthen HBB7.out hb8
    obtain ⟨m8, hm8⟩ : ∃ m8, m8 = (ptrS (ks.take i ++ ms ++ ks.drop (i + 1))).length := ⟨_, rfl⟩
    simp only [List.length_nil] at hpt ⊢
    rw [← hm8] at hpt ⊢
    have hml2 : 1 ≤ ms.length ∧ ms.length ≤ 2 := by rw [hml]; split <;> omega
    have hof := Off.two hblk (.slice A8 (0 : Nat) c8) (.slice B8 m8 d8)
    have HT := Lib.hid (set_two hblk (.slice A8 (0 : Nat) c8) (.slice B8 m8 d8))
    have HB := Lib.hid (two_below hbw8 (Nat.le_refl _) (.slice A8 (0 : Nat) c8) (.slice B8 m8 d8))
    have hpo := repl_parts (L := del s.l key) (q := 2 * (h + 1)) hpt HKS.out hbw8 (fun y hy => ⟨(hmk y hy).1, (hmk y hy).2.2 (by omega)⟩) (by rw [hmf, HDEL.out]) HID.out ((hmn.wide HKW.out).more (by omega)) (by omega) (by rw [Hn.out]; omega)
    have HPO := Lib.hid (hpo.off hof)
    have hd0 := hblk.c0
    have hd1 := hblk.c1
    have hf0 := hblk.f0
    have hf1 := hblk.f1
    have HN2 := Lib.hid (show s.size ≤ i + ms.length + (ks.length - (i + 1)) + 1 ∧ i + ms.length + (ks.length - (i + 1)) ≤ s.size + 1 by rw [HSZ.out, Hn.out]; omega)
    clear hpt hml hmk hmf hmn hb8 hblk hbw8 hof hpo hm8 q50 q51 q90 q91
    go_wp2
    refine bodyPost_ret (v := .agg #[.slice A8 (0 : Nat) c8, .slice B8 m8 d8]) ?_ rfl ⟨_, _, rfl, HPO.out, HN2.out.1, HN2.out.2, HB.out⟩
    have k0 := cell_at HT.out 0 _ rfl
    have k1 := cell_at HT.out 1 _ rfl
    simp [results, Tryz.results82, go_sem, k0, k1]
  · rw [decide_eq_false hen]
    by_cases hi0 : i = 0
    · skip
      subst hi0
      obtain ⟨kk, hkk⟩ : ∃ kk, ks[1]? = some kk := ⟨_, List.getElem?_eq_getElem (by rw [Hn.out]; omega)⟩
      have hkm := List.mem_of_getElem? hkk
      obtain ⟨W8, hW8⟩ : ∃ W8, W8 = w7.drew := ⟨_, rfl⟩
      have hb8 : Below w7.heap.size w7 W8 := by rw [hW8]; exact (Below.refl _ _).drew
      have HB48 := Lib.hid (HB47.out.next hb8)
      have HB58 := HB57.out.next hb8
      have HB98 := HB97.out.next hb8
      have hls8 := HLS7.out.below hb8
      obtain ⟨ad', x, hadd, hx, hadl8, hcx⟩ := Ls.node_at hls8 (i := 1) (by rw [nbs_len, Hn.out]; omega)
      cases hadd
      rw [nbs_at hkk] at hx
      cases hx
      have q50 := HB58.p0
      have q51 := HB58.p1
      have q90 := HB98.p0
      have q91 := HB98.p1
      have qk : ∀ z : Dc.Past [] W8, z.val.cell? ⟨ad.block, ad.off + 1, none⟩ = some (pn kk.b) := fun z => (z.ok.cell (by exact hadl8) (by simp)).trans hcx
      have HPT8 := Lib.hid (HPT7.out.below hb8)
      have HPA8 := Lib.hid ((HPA7.out.below hb8).wide HKW.out)
      have HBB8 := Lib.hid (bthen HBB7.out hb8)
      have HTKK := Lib.hid ((HKS.out kk hkm).1.below HBB8.out)
      have hks2 := HTKK.out.size_le
      have hlst2 : least h ≤ kk.size := by
        have hg := (HKS.out kk hkm).2
        rw [HTKK.out.good_iff] at hg
        exact of_decide_eq_true hg
      have HKW2 := Lib.hid (show ∀ y ∈ kk.ids, y ∈ s.ids from fun y hy => by rw [HID.out]; exact List.mem_cons_of_mem _ (mem_ids hkm hy))
      have HOK2 := Lib.hid (show ∀ y ∈ kk.l, okE y = true from HTKK.out.okE)
      have HW8 := Lib.hid hW8
      have HKK := Lib.hid hkk
      have hls3 : least h ≤ 3 := by unfold least; split <;> omega
      have hsl : h = 0 → kk.size ≤ 4 := by
        intro h0
        subst h0
        have h4 := okLeaf_len HTKK.out.2.2.2.1
        unfold ST.size
        rw [HTKK.out.2.1.en, HTKK.out.2.1.kn]
        omega
      have hfit : fits h (kk.size + n2) := by
        unfold fits
        unfold least at hen hlst hlst2
        split
        · rename_i h0
          simp only [h0, if_true] at hen hlst hlst2
          omega
        · rename_i h0
          simp only [h0, if_false] at hen hlst hlst2
          omega
      clear hW8 hb8 HB58 HB98 hls8 hcx hkk hkm
      go_wp2
      refine Dc.wp_region_segs 14 [] [([0, 1, 2, 3, 4, 5, 6, 7, 8, 9, 10], 11), ([], 12), ([], 13), ([], 14)] [] (by kernel_rfl) (by kernel_rfl) (by kernel_rfl) (by kernel_rfl) (by kernel_rfl) (by intro c a d v w h; cases d <;> exact h) ?_
      rw [← HW8.out]
      refine Dc.wpSegs_more ?_
      simp only [Dc.pick, List.getElem?_cons_zero, List.getElem?_cons_succ]
      repeat (first | go_big_quiet_step (fail) | quiet_step (fail))
      refine wpQuiet_nil ?_
      refine Dc.wpOp_heavy rfl (by rfl) (fun K hK => ?_)
      go_simp
      refine (partsOf_tr HTKK.out).mono ?_
      rintro r w9 ⟨v9, rfl, hpk, hb9⟩
      refine hK _ _ (fun _ => Dc.But.of_below hb9) ?_
      have HPK := Lib.hid (hpk.wide HKW2.out)
      have HPA9 := Lib.hid (HPA8.out.below hb9)
      have HPT9 := Lib.hid (HPT8.out.below hb9)
      have HBB9 := Lib.hid (bthen HBB8.out hb9)
      have HB49 := Lib.hid (HB48.out.next hb9)
      clear hK K q50 q51 q90 q91 qk hpk hb9
      refine Dc.wpSegs_more ?_
      simp only [Dc.pick]
      refine wpQuiet_nil ?_
      refine Dc.wpOp_heavy rfl (by rfl) (fun K hK => ?_)
      go_simp
      refine (join_parts HPA9.out HPK.out (by omega)).mono ?_
      rintro r wa ⟨va, rfl, hpj, hba⟩
      refine hK _ _ (fun _ => Dc.But.of_below hba) ?_
      have HPJ := Lib.hid hpj
      have HPTa := Lib.hid (HPT9.out.below hba)
      have HBBa := Lib.hid (bthen HBB9.out hba)
      have HB4a := Lib.hid (HB49.out.next hba)
      have hSJ : Sorted (del k.l key ++ kk.l) := by
        have h1 := sorted_del HSO.out key
        rw [← HFL.out, HDEL.out] at h1
        rw [flat_drop_one HKK.out, ← List.append_assoc] at h1
        have h2 := (List.pairwise_append.1 h1).1
        rw [List.append_assoc] at h2
        exact (List.pairwise_append.1 h2).2.1
      have hOJ : ∀ y ∈ del k.l key ++ kk.l, okE y = true := fun y hy => by
        rcases List.mem_append.1 hy with hy | hy
        · exact HOD.out y hy
        · exact HOK2.out y hy
      have HSJ := Lib.hid hSJ
      have HOJ := Lib.hid hOJ
      clear hK K hpj hba hSJ hOJ
      refine Dc.wpSegs_more ?_
      simp only [Dc.pick]
      refine wpQuiet_nil ?_
      refine Dc.wpOp_heavy rfl (by rfl) (fun K hK => ?_)
      go_simp
      refine (replace_any (i := 0) (j := 2) HPTa.out Hn.out (by omega) (by omega) hk6 HPJ.out (by rw [Nat.add_comm]; exact hfit) (by omega) HSJ.out HOJ.out).mono ?_
      rintro r w8 ⟨u, ms, rfl, hpt, hml, hmk, hmf, hmn, hb8⟩
      refine hK _ _ (fun _ => Dc.But.of_below hb8) ?_
      obtain ⟨A8, c8, B8, d8, rfl⟩ := hpt.form
      have hblk := HB4a.out.next hb8
      have hbw8 := bthen HBBa.out hb8
      obtain ⟨m8, hm8⟩ : ∃ m8, m8 = (ptrS (ks.take 0 ++ ms ++ ks.drop (2))).length := ⟨_, rfl⟩
      simp only [List.length_nil] at hpt ⊢
      rw [← hm8] at hpt ⊢
      have hml2 : 1 ≤ ms.length ∧ ms.length ≤ 2 := by rw [hml]; split <;> omega
      have hof := Off.two hblk (.slice A8 (0 : Nat) c8) (.slice B8 m8 d8)
      have HT := Lib.hid (set_two hblk (.slice A8 (0 : Nat) c8) (.slice B8 m8 d8))
      have HB := Lib.hid (two_below hbw8 (Nat.le_refl _) (.slice A8 (0 : Nat) c8) (.slice B8 m8 d8))
      have hpo := repl_parts (L := del s.l key) (q := 2 * (h + 1)) hpt HKS.out hbw8 (fun y hy => ⟨(hmk y hy).1, (hmk y hy).2.2 (by omega)⟩) (by rw [hmf, HDEL.out, flat_drop_one HKK.out]; simp only [List.append_assoc]) HID.out ((hmn.wide (fun y hy => hy)).more (by omega)) (by omega) (by rw [Hn.out]; omega)
      have HPO := Lib.hid (hpo.off hof)
      have hd0 := hblk.c0
      have hd1 := hblk.c1
      have hf0 := hblk.f0
      have hf1 := hblk.f1
      have HN2 := Lib.hid (show s.size ≤ 0 + ms.length + (ks.length - (2)) + 1 ∧ 0 + ms.length + (ks.length - (2)) ≤ s.size + 1 by rw [HSZ.out, Hn.out]; omega)
      clear hK K hpt hml hmk hmf hmn hb8 hblk hbw8 hof hpo hm8
      refine Dc.wpSegs_more ?_
      simp only [Dc.pick]
      refine wpQuiet_nil ?_
      refine Dc.wpOp_heavy rfl (by rfl) (fun K hK => ?_)
      go_simp
      refine hK _ _ (fun h => absurd rfl h) ?_
      clear hK K
      refine Dc.wpSegs_last ?_
      simp only [Dc.pick]
      refine wpQuiet_nil ?_
      go_wp2
      refine bodyPost_ret (v := .agg #[.slice A8 (0 : Nat) c8, .slice B8 m8 d8]) ?_ rfl ⟨_, _, rfl, HPO.out, HN2.out.1, HN2.out.2, HB.out⟩
      have k0 := cell_at HT.out 0 _ rfl
      have k1 := cell_at HT.out 1 _ rfl
      simp [results, Tryz.results82, go_sem, k0, k1]
    · skip
      obtain ⟨j, hj⟩ : ∃ j, i = j + 1 := ⟨i - 1, by omega⟩
      have hij : (i : Int) - 1 = (j : Int) := by omega
      have hneg : (0 : Int) < (i : Int) := by omega
      obtain ⟨kk, hkk⟩ : ∃ kk, ks[j]? = some kk := ⟨_, List.getElem?_eq_getElem (by rw [Hn.out]; omega)⟩
      have hkm := List.mem_of_getElem? hkk
      obtain ⟨W8, hW8⟩ : ∃ W8, W8 = w7.drew := ⟨_, rfl⟩
      have hb8 : Below w7.heap.size w7 W8 := by rw [hW8]; exact (Below.refl _ _).drew
      have HB48 := Lib.hid (HB47.out.next hb8)
      have HB58 := HB57.out.next hb8
      have HB98 := HB97.out.next hb8
      have hls8 := HLS7.out.below hb8
      obtain ⟨ad', x, hadd, hx, hadl8, hcx⟩ := Ls.node_at hls8 (i := j) (by rw [nbs_len, Hn.out]; omega)
      cases hadd
      rw [nbs_at hkk] at hx
      cases hx
      have q50 := HB58.p0
      have q51 := HB58.p1
      have q90 := HB98.p0
      have q91 := HB98.p1
      have qk : ∀ z : Dc.Past [] W8, z.val.cell? (ad.add j) = some (pn kk.b) := fun z => (z.ok.cell (by rw [block_of_add]; exact hadl8) (by simp)).trans hcx
      have HPT8 := Lib.hid (HPT7.out.below hb8)
      have HPA8 := Lib.hid ((HPA7.out.below hb8).wide HKW.out)
      have HBB8 := Lib.hid (bthen HBB7.out hb8)
      have HTKK := Lib.hid ((HKS.out kk hkm).1.below HBB8.out)
      have hks2 := HTKK.out.size_le
      have hlst2 : least h ≤ kk.size := by
        have hg := (HKS.out kk hkm).2
        rw [HTKK.out.good_iff] at hg
        exact of_decide_eq_true hg
      have HKW2 := Lib.hid (show ∀ y ∈ kk.ids, y ∈ s.ids from fun y hy => by rw [HID.out]; exact List.mem_cons_of_mem _ (mem_ids hkm hy))
      have HOK2 := Lib.hid (show ∀ y ∈ kk.l, okE y = true from HTKK.out.okE)
      have HW8 := Lib.hid hW8
      have HKK := Lib.hid hkk
      have hls3 : least h ≤ 3 := by unfold least; split <;> omega
      have hsl : h = 0 → kk.size ≤ 4 := by
        intro h0
        subst h0
        have h4 := okLeaf_len HTKK.out.2.2.2.1
        unfold ST.size
        rw [HTKK.out.2.1.en, HTKK.out.2.1.kn]
        omega
      have hfit : fits h (kk.size + n2) := by
        unfold fits
        unfold least at hen hlst hlst2
        split
        · rename_i h0
          simp only [h0, if_true] at hen hlst hlst2
          omega
        · rename_i h0
          simp only [h0, if_false] at hen hlst hlst2
          omega
      clear hW8 hb8 HB58 HB98 hls8 hcx hkk hkm
      go_wp2
      refine Dc.wp_region_segs 15 [] [([0, 1, 2, 3, 4, 5, 6, 7, 8, 9, 10, 12], 11), ([], 13), ([], 14), ([], 15)] [] (by kernel_rfl) (by kernel_rfl) (by kernel_rfl) (by kernel_rfl) (by kernel_rfl) (by intro c a d v w h; cases d <;> exact h) ?_
      rw [← HW8.out]
      refine Dc.wpSegs_more ?_
      simp only [Dc.pick, List.getElem?_cons_zero, List.getElem?_cons_succ]
      repeat (first | go_big_quiet_step (fail) | quiet_step (fail))
      refine wpQuiet_nil ?_
      refine Dc.wpOp_heavy rfl (by rfl) (fun K hK => ?_)
      go_simp
      refine (partsOf_tr HTKK.out).mono ?_
      rintro r w9 ⟨v9, rfl, hpk, hb9⟩
      refine hK _ _ (fun _ => Dc.But.of_below hb9) ?_
      have HPK := Lib.hid (hpk.wide HKW2.out)
      have HPA9 := Lib.hid (HPA8.out.below hb9)
      have HPT9 := Lib.hid (HPT8.out.below hb9)
      have HBB9 := Lib.hid (bthen HBB8.out hb9)
      have HB49 := Lib.hid (HB48.out.next hb9)
      clear hK K q50 q51 q90 q91 qk hpk hb9
      refine Dc.wpSegs_more ?_
      simp only [Dc.pick]
      refine wpQuiet_nil ?_
      refine Dc.wpOp_heavy rfl (by rfl) (fun K hK => ?_)
      go_simp
      refine (join_parts HPK.out HPA9.out (by omega)).mono ?_
      rintro r wa ⟨va, rfl, hpj, hba⟩
      refine hK _ _ (fun _ => Dc.But.of_below hba) ?_
      have HPJ := Lib.hid hpj
      have HPTa := Lib.hid (HPT9.out.below hba)
      have HBBa := Lib.hid (bthen HBB9.out hba)
      have HB4a := Lib.hid (HB49.out.next hba)
      have hSJ : Sorted (kk.l ++ del k.l key) := by
        have h1 := sorted_del HSO.out key
        rw [← HFL.out, HDEL.out] at h1
        rw [hj, flat_take_succ HKK.out] at h1
        rw [List.append_assoc (flat (ks.take j)), List.append_assoc] at h1
        have h2 := (List.pairwise_append.1 h1).2.1
        exact (List.pairwise_append.1 h2).1
      have hOJ : ∀ y ∈ kk.l ++ del k.l key, okE y = true := fun y hy => by
        rcases List.mem_append.1 hy with hy | hy
        · exact HOK2.out y hy
        · exact HOD.out y hy
      have HSJ := Lib.hid hSJ
      have HOJ := Lib.hid hOJ
      clear hK K hpj hba hSJ hOJ
      refine Dc.wpSegs_more ?_
      simp only [Dc.pick]
      refine wpQuiet_nil ?_
      refine Dc.wpOp_heavy rfl (by rfl) (fun K hK => ?_)
      go_simp
      rw [show ((j : Int) + 1 + 1) = ((i + 1 : Nat) : Int) by omega]
      refine (replace_any (i := j) (j := i + 1) HPTa.out Hn.out (by omega) (by omega) hk6 HPJ.out hfit (by omega) HSJ.out HOJ.out).mono ?_
      rintro r w8 ⟨u, ms, rfl, hpt, hml, hmk, hmf, hmn, hb8⟩
      refine hK _ _ (fun _ => Dc.But.of_below hb8) ?_
      obtain ⟨A8, c8, B8, d8, rfl⟩ := hpt.form
      have hblk := HB4a.out.next hb8
      have hbw8 := bthen HBBa.out hb8
      obtain ⟨m8, hm8⟩ : ∃ m8, m8 = (ptrS (ks.take j ++ ms ++ ks.drop (i + 1))).length := ⟨_, rfl⟩
      simp only [List.length_nil] at hpt ⊢
      rw [← hm8] at hpt ⊢
      have hml2 : 1 ≤ ms.length ∧ ms.length ≤ 2 := by rw [hml]; split <;> omega
      have hof := Off.two hblk (.slice A8 (0 : Nat) c8) (.slice B8 m8 d8)
      have HT := Lib.hid (set_two hblk (.slice A8 (0 : Nat) c8) (.slice B8 m8 d8))
      have HB := Lib.hid (two_below hbw8 (Nat.le_refl _) (.slice A8 (0 : Nat) c8) (.slice B8 m8 d8))
      have hpo := repl_parts (L := del s.l key) (q := 2 * (h + 1)) hpt HKS.out hbw8 (fun y hy => ⟨(hmk y hy).1, (hmk y hy).2.2 (by omega)⟩) (by rw [hmf, HDEL.out, hj, flat_take_succ HKK.out]; simp only [List.append_assoc]) HID.out ((hmn.wide (fun y hy => hy)).more (by omega)) (by omega) (by rw [Hn.out]; omega)
      have HPO := Lib.hid (hpo.off hof)
      have hd0 := hblk.c0
      have hd1 := hblk.c1
      have hf0 := hblk.f0
      have hf1 := hblk.f1
      have HN2 := Lib.hid (show s.size ≤ j + ms.length + (ks.length - (i + 1)) + 1 ∧ j + ms.length + (ks.length - (i + 1)) ≤ s.size + 1 by rw [HSZ.out, Hn.out]; omega)
      clear hK K hpt hml hmk hmf hmn hb8 hblk hbw8 hof hpo hm8
      refine Dc.wpSegs_more ?_
      simp only [Dc.pick]
      refine wpQuiet_nil ?_
      refine Dc.wpOp_heavy rfl (by rfl) (fun K hK => ?_)
      go_simp
      refine hK _ _ (fun h => absurd rfl h) ?_
      clear hK K
      refine Dc.wpSegs_last ?_
      simp only [Dc.pick]
      refine wpQuiet_nil ?_
      go_wp2
      refine bodyPost_ret (v := .agg #[.slice A8 (0 : Nat) c8, .slice B8 m8 d8]) ?_ rfl ⟨_, _, rfl, HPO.out, HN2.out.1, HN2.out.2, HB.out⟩
      have k0 := cell_at HT.out 0 _ rfl
      have k1 := cell_at HT.out 1 _ rfl
      simp [results, Tryz.results82, go_sem, k0, k1]

theorem without_tr {key : ByteArray} : ∀ (h : Nat) (w : World) (s : ST), h ≤ 90000 → Tr w h s → Calls Tryz.prog 82 #[pn s.b, .string key] w (TOPost w h s key)
  | 0, w, s, _, ht => without_leaf ht
  | h + 1, w, s, hh, ht => without_branch ht (by omega) fun w' k hk => without_tr h w' k (by omega) hk

end Go.Proofs.YtelenboncejdaaaGreatDoor

/-
  The contract of parts.root; conditions: the parts can be read, and fit into two nodes.
-/
namespace Go.Proofs.YtelenboncejdaaaGreatDoor
open Go.RowKit Go.Sort
set_option linter.unusedVariables false

/-- A tree, or none: its level and its root. -/
abbrev TO := Option (Nat × ST)
def TreeIs (w : World) (T : TO) : Prop := ∀ x, T = some x → Tr w x.1 x.2
def tb (T : TO) : Value := ptr (T.map (·.2.b))
def tl : TO → List Ent
  | none => []
  | some x => x.2.l
def tids : TO → List Nat
  | none => []
  | some x => x.2.ids
theorem TreeIs.below {w w' : World} {T : TO} (h : TreeIs w T) (hb : Below w.heap.size w w') : TreeIs w' T := fun x hx => (h x hx).below hb
theorem TreeIs.none (w : World) : TreeIs w none := fun x hx => by cases hx
theorem TreeIs.some {w : World} {h : Nat} {s : ST} (t : Tr w h s) : TreeIs w (some (h, s)) := fun x hx => by cases hx; exact t
theorem TreeIs.sorted {w : World} {T : TO} (h : TreeIs w T) : Sorted (tl T) := by
  cases T with
  | none => exact List.Pairwise.nil
  | some x => exact (h x rfl).sorted
theorem TreeIs.okE {w : World} {T : TO} (h : TreeIs w T) : ∀ e ∈ tl T, okE e = true := by
  cases T with
  | none => intro e he; cases he
  | some x => exact (h x rfl).okE

/-- What parts.root answers. -/
def RootPost (w : World) (h : Nat) (l : List Ent) (n : Nat) (old : List Nat) (q : Nat) (r : Ending) (w' : World) : Prop :=
  ∃ T, r = .returned (tb T) ∧ TreeIs w' T ∧ tl T = l ∧ FewNew old (q + 3) (tids T) ∧ (∀ x, T = some x → (h = 0 ∨ n ≠ 1) → w.heap.size ≤ x.2.b) ∧ Below w.heap.size w w'

set_option maxHeartbeats 2000000 in
set_option maxRecDepth 100000 in
theorem root_leaf {w : World} {v : Value} {l : List Ent} {n q : Nat} {old : List Nat} (hp : Parts w 0 v l n old q) (hn : n ≤ 8) (hs : Sorted l) (ho : ∀ e ∈ l, okE e = true) :
    Calls Tryz.prog 71 #[v] w (RootPost w 0 l n old q) := by
  have HP := Lib.hid hp
  have HS := Lib.hid hs
  have HO := Lib.hid ho
  obtain ⟨⟨A, c, B, d, rfl, hc, hd, he, hl⟩, hn2⟩ := hp
  rw [hn2] at hc ⊢
  rw [hn2] at HP
  simp only [List.length_nil] at hd ⊢
  simp only [List.length_nil] at HP
  have HN := Lib.hid hn2
  clear he hl hs ho hn2
  go_enter Tryz.func71, Tryz.ntmps71
  go_wp2_with fail
  have hb0 : Below w.heap.size w (w.alloc (.cells #[.slice A n c, .slice B (0 : Nat) d] 154)) := (Below.refl _ _).alloc (Nat.le_refl _) _
  have hbx := Bx.new w (.slice A n c) (.slice B (0 : Nat) d)
  refine (ofLeaf_any _ A B n c 0 d).mono ?_
  rintro r w1 ⟨rfl, hb1⟩
  have hbx1 := hbx.next hb1
  have q0 := hbx1.c0
  have q1 := hbx1.c1
  have HBW := Lib.hid (bthen hb0 hb1)
  have HP1 := Lib.hid (HP.out.below HBW.out)
  clear hb0 hbx hb1 hbx1
  by_cases h0 : n = 0
  · subst h0
    go_wp2
    go_ret
    refine ⟨none, rfl, TreeIs.none _, ?_, FewNew.of (fun x hx => by cases hx) _, (fun x hx => by cases hx), HBW.out⟩
    exact (List.eq_nil_of_length_eq_zero HN.out).symm
  · have h0' : ¬ (n : Int) = 0 := by omega
    go_wp2_with fail
    refine (nodes_any HP1.out (show fits 0 n from ⟨by omega, hn⟩) (by omega) HS.out HO.out).mono ?_
    rintro r w2 ⟨u, rfl, hu, hb1⟩
    obtain ⟨ms, A3, c3, rfl, hc3, hl3, hm3, hk3, hf3, hw3⟩ := hu.older HBW.out.size
    have HL3 := Lib.hid hl3
    have HK3 := Lib.hid hk3
    have HF3 := Lib.hid hf3
    have HW3 := Lib.hid hw3
    have HB3 := Lib.hid (bthen HBW.out hb1)
    by_cases hmost : n ≤ most 0
    · rw [if_pos hmost] at hm3
      obtain ⟨k, rfl⟩ : ∃ k, ms = [k] := by
        cases ms with
        | nil => cases hm3
        | cons k r => exact ⟨k, by cases r with | nil => rfl | cons _ _ => cases hm3⟩
      obtain ⟨ad, x, rfl, hx, hadl, hcx⟩ := Ls.node_at (L := nbs [k]) hl3 (i := 0) (by simp [nbs])
      cases hx
      have hcx : w2.cell? ad = some (pn k.b) := by simpa [Addr.add] using hcx
      have hkm := HK3.out k (List.mem_singleton.2 rfl)
      have HKM := Lib.hid hkm
      clear hu hl3 hm3 hk3 hf3 hw3 hb1 hkm
      simp only [List.length_singleton] at hc3 ⊢
      go_wp2
      go_ret
      refine ⟨some (0, k), rfl, TreeIs.some HKM.out.1, ?_, ?_, fun x hx _ => by cases hx; exact HKM.out.2.1, HB3.out⟩
      · rw [← HF3.out]
        simp [tl, flat]
      · exact ((HW3.out).more (by omega)).sub fun x hx => by simpa [idsOf, tids] using hx
    · rw [if_neg hmost] at hm3
      have hgood : ∀ k ∈ ms, Tr w2 0 k ∧ k.good = true := fun k hk => ⟨(hk3 k hk).1, (hk3 k hk).2.2 (by unfold least; unfold most at hmost; split at hmost <;> split <;> omega)⟩
      have hso : Sorted (flat ms) := by rw [hf3]; exact HS.out
      have hok := krs_ok hgood hso (by omega) (by omega)
      have HG := Lib.hid hgood
      have HSO := Lib.hid hso
      have HOK := Lib.hid hok
      have HM := Lib.hid hm3
      rw [hm3] at hc3 ⊢
      clear hu hl3 hm3 hk3 hf3 hw3 hb1 hgood hso hok
      go_wp2_with fail
      refine (branch_any A3 2 c3 (nbs ms) w2 HL3.out (by rw [nbs_len]; exact HM.out) hc3 (by omega) (all_of HG.out) (tame_of HG.out (by omega))).mono ?_
      rintro r w4 ⟨hb4, ⟨_, b, N, rfl, hbb, hN, hL, hE, _⟩ | ⟨h, _⟩⟩
      · obtain ⟨ht, _⟩ := made_tr hN hL hE (by rw [HM.out]; omega) (by rw [HM.out]; omega) HSO.out HG.out hb4
        have HT := Lib.hid ht
        have HB4 := Lib.hid (bthen HB3.out hb4)
        have HBB := Lib.hid (show w.heap.size ≤ b from Nat.le_trans HB3.out.size hbb)
        clear ht hN hL hE hb4 hbb
        go_wp2
        go_ret
        refine ⟨some (0 + 1, ⟨b, N, flat ms, b :: idsOf ms⟩), rfl, TreeIs.some HT.out, HF3.out, ?_, fun x hx _ => by cases hx; exact HBB.out, HB4.out⟩
        exact (HW3.out.new b).more (by omega)
      · rw [HOK.out] at h
        cases h

set_option maxHeartbeats 2000000 in
set_option maxRecDepth 100000 in
theorem root_branch {w : World} {h : Nat} {v : Value} {l : List Ent} {n q : Nat} {old : List Nat} (hp : Parts w (h + 1) v l n old q) (hh : h ≤ 90000) (hn1 : 1 ≤ n) (hn : n ≤ 12) (hs : Sorted l) (ho : ∀ e ∈ l, okE e = true) :
    Calls Tryz.prog 71 #[v] w (RootPost w (h + 1) l n old q) := by
  have HP := Lib.hid hp
  have HS := Lib.hid hs
  have HO := Lib.hid ho
  obtain ⟨ks, ⟨A, c, B, d, rfl, hc, hd, he, hl⟩, hn2, hks, hfl, hq⟩ := hp
  rw [ptrS_len, hn2] at hd ⊢
  rw [ptrS_len, hn2] at HP
  simp only [List.length_nil] at hc ⊢
  simp only [List.length_nil] at HP
  have HL := Lib.hid hl
  have HN := Lib.hid hn2
  have HKS := Lib.hid hks
  have HFL := Lib.hid hfl
  have HQ := Lib.hid hq
  clear he hl hs ho hn2 hks hfl hq
  go_enter Tryz.func71, Tryz.ntmps71
  go_wp2_with fail
  have hb0 : Below w.heap.size w (w.alloc (.cells #[.slice A (0 : Nat) c, .slice B n d] 154)) := (Below.refl _ _).alloc (Nat.le_refl _) _
  have hbx := Bx.new w (.slice A (0 : Nat) c) (.slice B n d)
  refine (ofLeaf_any _ A B 0 c n d).mono ?_
  rintro r w1 ⟨rfl, hb1⟩
  have hbx1 := hbx.next hb1
  have q0 := hbx1.c0
  have q1 := hbx1.c1
  have HBW := Lib.hid (bthen hb0 hb1)
  have HP1 := Lib.hid (HP.out.below HBW.out)
  have hl1 := HL.out.below HBW.out
  have hn0 : ¬ n = 0 := by omega
  clear hb0 hbx hb1 hbx1
  by_cases h1 : n = 1
  · subst h1
    obtain ⟨k, hk⟩ : ∃ k, ks = [k] := by
      have := HN.out
      cases ks with
      | nil => cases this
      | cons k r => exact ⟨k, by cases r with | nil => rfl | cons _ _ => cases this⟩
    subst hk
    obtain ⟨ad, x, rfl, hx, hadl, hcx⟩ := Ls.node_at (L := nbs [k]) hl1 (i := 0) (by simp [nbs])
    cases hx
    have hcx : w1.cell? ad = some (pn k.b) := by simpa [Addr.add] using hcx
    clear hl1
    go_wp2
    go_ret
    refine ⟨some (h, k), rfl, TreeIs.some ((HKS.out k (List.mem_singleton.2 rfl)).1.below HBW.out), ?_, ?_, fun x hx hc => by rcases hc with hc | hc <;> omega, HBW.out⟩
    · rw [← HFL.out]
      simp [tl, flat]
    · exact ((HQ.out).more (by omega)).sub fun x hx => by simpa [idsOf, tids] using hx
  · have h1' : ¬ (n : Int) = 1 := by omega
    clear hl1
    go_wp2_with fail
    refine (nodes_any HP1.out (show fits (h + 1) n by unfold fits; rw [if_neg (by omega)]; omega) (by omega) HS.out HO.out).mono ?_
    rintro r w2 ⟨u, rfl, hu, hb1⟩
    obtain ⟨ms, A3, c3, rfl, hc3, hl3, hm3, hk3, hf3, hw3⟩ := hu.older HBW.out.size
    have HL3 := Lib.hid hl3
    have HK3 := Lib.hid hk3
    have HF3 := Lib.hid hf3
    have HW3 := Lib.hid hw3
    have HB3 := Lib.hid (bthen HBW.out hb1)
    by_cases hmost : n ≤ most (h + 1)
    · rw [if_pos hmost] at hm3
      obtain ⟨k, rfl⟩ : ∃ k, ms = [k] := by
        cases ms with
        | nil => cases hm3
        | cons k r => exact ⟨k, by cases r with | nil => rfl | cons _ _ => cases hm3⟩
      obtain ⟨ad, x, rfl, hx, hadl, hcx⟩ := Ls.node_at (L := nbs [k]) hl3 (i := 0) (by simp [nbs])
      cases hx
      have hcx : w2.cell? ad = some (pn k.b) := by simpa [Addr.add] using hcx
      have hkm := HK3.out k (List.mem_singleton.2 rfl)
      have HKM := Lib.hid hkm
      clear hu hl3 hm3 hk3 hf3 hw3 hb1 hkm
      simp only [List.length_singleton] at hc3 ⊢
      go_wp2
      go_ret
      refine ⟨some ((h + 1), k), rfl, TreeIs.some HKM.out.1, ?_, ?_, fun x hx _ => by cases hx; exact HKM.out.2.1, HB3.out⟩
      · rw [← HF3.out]
        simp [tl, flat]
      · exact ((HW3.out).more (by omega)).sub fun x hx => by simpa [idsOf, tids] using hx
    · rw [if_neg hmost] at hm3
      have hgood : ∀ k ∈ ms, Tr w2 (h + 1) k ∧ k.good = true := fun k hk => ⟨(hk3 k hk).1, (hk3 k hk).2.2 (by unfold least; unfold most at hmost; split at hmost <;> split <;> omega)⟩
      have hso : Sorted (flat ms) := by rw [hf3]; exact HS.out
      have hok := krs_ok hgood hso (by omega) (by omega)
      have HG := Lib.hid hgood
      have HSO := Lib.hid hso
      have HOK := Lib.hid hok
      have HM := Lib.hid hm3
      rw [hm3] at hc3 ⊢
      clear hu hl3 hm3 hk3 hf3 hw3 hb1 hgood hso hok
      go_wp2_with fail
      refine (branch_any A3 2 c3 (nbs ms) w2 HL3.out (by rw [nbs_len]; exact HM.out) hc3 (by omega) (all_of HG.out) (tame_of HG.out (by omega))).mono ?_
      rintro r w4 ⟨hb4, ⟨_, b, N, rfl, hbb, hN, hL, hE, _⟩ | ⟨h, _⟩⟩
      · obtain ⟨ht, _⟩ := made_tr hN hL hE (by rw [HM.out]; omega) (by rw [HM.out]; omega) HSO.out HG.out hb4
        have HT := Lib.hid ht
        have HB4 := Lib.hid (bthen HB3.out hb4)
        have HBB := Lib.hid (show w.heap.size ≤ b from Nat.le_trans HB3.out.size hbb)
        clear ht hN hL hE hb4 hbb
        go_wp2
        go_ret
        refine ⟨some ((h + 1) + 1, ⟨b, N, flat ms, b :: idsOf ms⟩), rfl, TreeIs.some HT.out, HF3.out, ?_, fun x hx _ => by cases hx; exact HBB.out, HB4.out⟩
        exact (HW3.out.new b).more (by omega)
      · rw [HOK.out] at h
        cases h

end Go.Proofs.YtelenboncejdaaaGreatDoor

/-
  The contracts of tree.Path and tree.Get; conditions: the tree is valid and lies in memory, or is nil.
-/
namespace Go.Proofs.YtelenboncejdaaaGreatDoor
open Go.RowKit Go.Sort
set_option linter.unusedVariables false

/-- The kids of a branch. -/
structure KidsOf (w : World) (h : Nat) (s : ST) (ks : List ST) : Prop where
  br : BranchR s.N (nbs ks)
  ls : Ls pcP w s.N.ka (ptrS ks)
  two : 2 ≤ ks.length
  six : ks.length ≤ 6
  so : Sorted (flat ks)
  all : ∀ k ∈ ks, Tr w h k ∧ k.good = true
  l : s.l = flat ks
/-- A way from a node down to a leaf, each time by the kid for the key. -/
def Way (w : World) (key : ByteArray) : Nat → ST → List ST → Prop
  | 0, s, ps => ps = [s]
  | h + 1, s, ps => ∃ ks i k r, KidsOf w h s ks ∧ Kid ks key i ∧ ks[i]? = some k ∧ ps = s :: r ∧ Way w key h k r
theorem Way.length {w : World} {key : ByteArray} : ∀ {h : Nat} {s : ST} {ps : List ST}, Way w key h s ps → ps.length = h + 1
  | 0, s, ps, hp => by subst hp; rfl
  | h + 1, s, ps, ⟨ks, i, k, r, _, _, _, e, hr⟩ => by rw [e, List.length_cons, Way.length hr]
theorem Way.head {w : World} {key : ByteArray} {h : Nat} {s : ST} {ps : List ST} (hp : Way w key h s ps) : ps[0]? = some s := by
  cases h with
  | zero => rw [show ps = [s] from hp]; rfl
  | succ h =>
    obtain ⟨ks, i, k, r, _, _, _, e, _⟩ := hp
    rw [e]
    rfl
theorem Way.last {w : World} {key : ByteArray} : ∀ {h : Nat} {s : ST} {ps : List ST}, Way w key h s ps → Tr w h s → ∃ k, ps[h]? = some k ∧ Tr w 0 k ∧ look k.l key = look s.l key
  | 0, s, ps, hp, t => ⟨s, by rw [show ps = [s] from hp]; rfl, t, rfl⟩
  | h + 1, s, ps, ⟨ks, i, k, r, hk, hi, hki, e, hr⟩, t => by
    obtain ⟨k', hk', hs, hlo, hhi⟩ := hi.split hk.all hk.so
    rw [hki] at hk'
    cases hk'
    obtain ⟨x, hx, tx, hl⟩ := Way.last hr (hk.all k (List.mem_of_getElem? hki)).1
    refine ⟨x, by rw [e]; exact hx, tx, ?_⟩
    rw [hl, hk.l]
    conv => rhs; rw [hs]
    rw [flat_append, flat_append, show flat [k] = k.l ++ [] from rfl, List.append_nil, look_mid hlo hhi]
theorem Tr.kids {w : World} {h : Nat} {s : ST} (t : Tr w (h + 1) s) : ∃ ks, KidsOf w h s ks := by
  obtain ⟨ks, hN, hB, hP, hk2, hk6, hso, hks, hfl, hid⟩ := t
  exact ⟨ks, hB, hP, hk2, hk6, hfl ▸ hso, hks, hfl⟩
def lenOf : Value → Nat
  | .slice _ n _ => n
  | _ => 0
/-- Half-way down. -/
structure Down (w wr : World) (key : ByteArray) (h : Nat) (s : ST) (h' : Nat) (s' : ST) (v : Value) (done : List ST) : Prop where
  tr : Tr w h' s'
  own : OwnP wr w.heap.size v (ptrS done)
  rest : ∀ r, Way w key h' s' r → Way w key h s (done ++ r)
  len : done.length + h' = h
  below : Below w.heap.size w wr
theorem Way.step {w : World} {key : ByteArray} {h : Nat} {s : ST} {h' : Nat} {s' k : ST} {ks done : List ST} {i : Nat} (hr : ∀ r, Way w key (h' + 1) s' r → Way w key h s (done ++ r)) (hk : KidsOf w h' s' ks) (hi : Kid ks key i) (hki : ks[i]? = some k) :
    ∀ r, Way w key h' k r → Way w key h s (done ++ [s'] ++ r) := fun r h1 => by
  rw [List.append_assoc]
  exact hr (s' :: r) ⟨ks, i, k, r, hk, hi, hki, rfl, h1⟩
/-- What tree.Path answers. -/
def PathPost (w : World) (key : ByteArray) (h : Nat) (s : ST) (r : Ending) (w' : World) : Prop :=
  ∃ v ps, r = .returned v ∧ OwnP w' w.heap.size v (ptrS ps) ∧ Way w key h s ps ∧ Below w.heap.size w w'

set_option maxHeartbeats 2000000 in
set_option maxRecDepth 100000 in
theorem path_tr {w : World} {h : Nat} {s : ST} {key : ByteArray} (ht : Tr w h s) (hh : h ≤ 90000) :
    Calls Tryz.prog 88 #[pn s.b, .string key] w (PathPost w key h s) := by
  have HT := Lib.hid ht
  clear ht
  go_enter Tryz.func88, Tryz.ntmps88
  go_wp2
  go_loopw [0, 5] (fun s0 s5 wr => ∃ h' s' done, s0 = pn s'.b ∧ Hid (Down w wr key h s h' s' s5 done)) (fun _ s5 _ => h + 1 - lenOf s5)
  case atStart => exact ⟨h, s, [], rfl, Lib.hid ⟨HT.out, OwnL.nil_ _ _ _, fun r hr => hr, by simp, Below.refl _ _⟩⟩
  case round =>
    obtain ⟨h', s', done, rfl, HD⟩ := hrel
    obtain ⟨A, c, hv, hc, hls⟩ := HD.out.own.form
    subst hv
    have hb1 : Below wr.heap.size wr (wr.alloc (.cells #[pn s'.b] 25)) := (Below.refl _ _).alloc (Nat.le_refl _) _
    have hbw1 := bthen HD.out.below hb1
    obtain ⟨v', w2, hrun, hown2, hg2⟩ := run_append_ls encP 83 25 83 _ _ ⟨_, Tryz.underlying83, rfl⟩ ptrInfo rfl (by omega) (by omega) (HD.out.own.below hb1) 1 1 (ls_one wr s'.b 25) rfl (by rw [ptrS_len]; have := HD.out.len; omega) hbw1.size
    have hb2 := (HD.out.own.below hb1).grow_below hbw1 hbw1.size hg2
    obtain ⟨A2, c2, hv2, hc2, hls2⟩ := hown2.form
    have hlen2 : (ptrS done ++ [some s'.b]).length = done.length + 1 := by rw [List.length_append, ptrS_len]; rfl
    rw [hlen2] at hv2 hc2
    rw [ptrS_len] at hc hrun ⊢
    have hpd : ptrS done ++ [some s'.b] = ptrS (done ++ [s']) := by rw [ptrS_append]; rfl
    rw [hpd] at hown2 hls2
    subst hv2
    have HO2 := Lib.hid hown2
    have HR := Lib.hid hrun
    have HB2 := Lib.hid hb2
    clear hls hb1 hbw1 hrun hown2 hg2 hb2 hls2 hpd hlen2
    go_wp2_with (at_builtin; refine wpList_append_ran rfl (.tmp 9) (.tmp 11) 83 rfl _ _ _ _ rfl rfl HR.out ?_)
    cases h' with
    | zero =>
      have hT := HD.out.tr.below HB2.out
      obtain ⟨hN, hL, hE, hok, hid⟩ := hT
      refine (kids_any hN (Ls.nil (f := pcP) _ _) (by rw [hL.kn]; rfl) (by rw [hL.kn]; omega)).mono ?_
      rintro r w3 ⟨v3, rfl, ho3, hb3⟩
      obtain ⟨A3, c3, rfl, hc3, hls3⟩ := ho3.form
      have HW := Lib.hid (bthen HB2.out hb3)
      have HO3 := Lib.hid (HO2.out.below hb3)
      have hwy : Way w key 0 s' [s'] := rfl
      have HWY := Lib.hid (HD.out.rest [s'] hwy)
      clear hN hL hE hok hid ho3 hc3 hls3 hb3 hwy
      simp only [List.length_nil]
      go_wp2
      go_ret
      exact ⟨_, done ++ [s'], rfl, HO3.out, HWY.out, HW.out⟩
    | succ h' =>
      obtain ⟨ks, hks⟩ := HD.out.tr.kids
      obtain ⟨n, hn⟩ : ∃ n, ks.length = n := ⟨_, rfl⟩
      have h2 := hks.two
      have h6 := hks.six
      rw [hn] at h2 h6
      have HKS := Lib.hid hks
      have Hn := Lib.hid hn
      clear hks hn
      refine (kids_any (HD.out.tr.at_.below HB2.out) (HKS.out.ls.below HB2.out) (by rw [HKS.out.br.kn, ptrS_len, nbs_len]) (by rw [HKS.out.br.kn, nbs_len, Hn.out]; omega)).mono ?_
      rintro r w3 ⟨v3, rfl, ho3, hb3⟩
      obtain ⟨A3, c3, rfl, hc3, hls3⟩ := ho3.form
      rw [ptrS_len, Hn.out] at hc3 ⊢
      have hb13 := bthen HB2.out hb3
      have HA3 := Lib.hid (show All w3 (nbs ks) from (all_of HKS.out.all).below hb13)
      have HLS3 := Lib.hid hls3
      have HW3 := Lib.hid hb13
      have HO3 := Lib.hid (HO2.out.below hb3)
      have hn0 : ¬ (n : Int) = 0 := by omega
      clear ho3 hls3 hb3 hb13
      go_wp2_with fail
      refine (kidFor_any HLS3.out Hn.out (by omega) (by omega) HA3.out).mono ?_
      rintro r w4 ⟨i, rfl, hkid, hb4⟩
      have hilt : i < n := by have := hkid.lt; rw [Hn.out] at this; exact this
      obtain ⟨k, hki⟩ : ∃ k, ks[i]? = some k := ⟨_, List.getElem?_eq_getElem hkid.lt⟩
      obtain ⟨ad, x, rfl, hx, hadl, hcx⟩ := Ls.node_at (HLS3.out.below hb4) (i := i) (by rw [nbs_len, Hn.out]; exact hilt)
      rw [nbs_at hki] at hx
      cases hx
      have HD2 : Hid (Down w w4 key h s h' k (.slice A2 (done.length + 1) c2) (done ++ [s'])) := Lib.hid ⟨(HKS.out.all k (List.mem_of_getElem? hki)).1, HO3.out.below hb4, Way.step HD.out.rest HKS.out hkid hki, by have := HD.out.len; simp; omega, bthen HW3.out hb4⟩
      have hdl := HD.out.len
      clear hkid hb4 hki
      go_wp2
      exact ⟨⟨h', k, done ++ [s'], rfl, HD2⟩, by show h + 1 - (done.length + 1) < h + 1 - done.length; omega⟩

end Go.Proofs.YtelenboncejdaaaGreatDoor

/-
  The contract of tree.Get; conditions: the tree is valid and lies in memory, or is nil.
-/
namespace Go.Proofs.YtelenboncejdaaaGreatDoor
open Go.RowKit Go.Sort
set_option linter.unusedVariables false

set_option maxHeartbeats 1000000 in
set_option maxRecDepth 100000 in
theorem path_nil (w : World) (key : ByteArray) : Calls Tryz.prog 88 #[.pointer none, .string key] w fun r w' => r = .returned (.slice none 0 0) ∧ w = w' := by
  go_enter Tryz.func88, Tryz.ntmps88
  go_wp2
  go_loopw [0, 5] (fun s0 s5 wr => s0 = .pointer none ∧ s5 = .slice none 0 0 ∧ w = wr) (fun _ s5 _ => 0)
  case atStart => exact ⟨rfl, rfl, rfl⟩
  case round =>
    obtain ⟨rfl, rfl, rfl⟩ := hrel
    go_wp2
    go_ret
    exact ⟨rfl, rfl⟩

/-- The value of a key, and whether there is one. -/
def lookV (o : Option ByteArray) : Value := .tuple #[.string (o.getD ByteArray.empty), .bool o.isSome]
/-- A tree of few levels. -/
def Low (T : TO) : Prop := ∀ x, T = some x → x.1 ≤ 90000
theorem TreeIs.low {w : World} {T : TO} (h : TreeIs w T) (hl : (tl T).length ≤ 80000) : Low T := fun x hx => by
  subst hx
  have := (h x rfl).len
  have h2 : (tl (Option.some x)).length = x.2.l.length := rfl
  omega

set_option maxHeartbeats 2000000 in
set_option maxRecDepth 100000 in
theorem get_tr {w : World} {h : Nat} {s : ST} {key : ByteArray} (ht : Tr w h s) (hh : h ≤ 90000) :
    Calls Tryz.prog 69 #[pn s.b, .string key] w fun r w' => r = .returned (lookV (look s.l key)) ∧ Below w.heap.size w w' := by
  have HT := Lib.hid ht
  obtain ⟨o, ho⟩ : ∃ o, o = look s.l key := ⟨_, rfl⟩
  rw [← ho]
  have HO := Lib.hid ho
  clear ht ho
  go_enter Tryz.func69, Tryz.ntmps69
  go_wp2_with fail
  refine (path_tr HT.out hh).mono ?_
  rintro r w1 ⟨v1, ps, rfl, ho1, hwy, hb1⟩
  obtain ⟨A, c, rfl, hc, hls⟩ := ho1.form
  have hln := hwy.length
  rw [ptrS_len, hln] at hc ⊢
  obtain ⟨k, hk, tk, hlk⟩ := hwy.last HT.out
  obtain ⟨ad, x, rfl, hx, hadl, hcx⟩ := Ls.node_at hls (i := h) (by rw [nbs_len, hln]; omega)
  rw [nbs_at hk] at hx
  cases hx
  obtain ⟨hN, hL, hE, hok, hid⟩ := tk.below hb1
  have hlen := okLeaf_len hok
  have HN := Lib.hid hN
  have HL := Lib.hid hL
  have HE := Lib.hid hE
  have HS := Lib.hid (okLeaf_sorted hok)
  have HB1 := Lib.hid hb1
  have HLK := Lib.hid hlk
  have hh0 : ¬ (h : Int) + 1 = 0 := by omega
  clear ho1 hls hwy hln hk tk hN hL hE hok hid hb1 hlk
  go_wp2_with fail
  refine (entries_any HN.out HE.out HL.out.en.symm (by rw [HL.out.en]; omega)).mono ?_
  rintro r w2 ⟨v2, rfl, ho2, hb2⟩
  obtain ⟨A2, c2, rfl, hc2, hes2⟩ := ho2.form
  obtain ⟨n, hn⟩ : ∃ n, k.l.length = n := ⟨_, rfl⟩
  rw [hn] at hc2 hlen ⊢
  have Hn := Lib.hid hn
  have HES := Lib.hid hes2
  have HB2 := Lib.hid (bthen HB1.out hb2)
  clear hcx ho2 hes2 hb2 hn
  go_wp2_with fail
  refine (find_any A2 n c2 k.l key w2 HES.out Hn.out (by omega)).mono ?_
  rintro r w3 ⟨i, f, rfl, hpl, hb3⟩
  have HB3 := Lib.hid (bthen HB2.out hb3)
  rcases hpl.look HS.out with ⟨rfl, e, he, hek, hle⟩ | ⟨rfl, hle⟩
  · have hil : i < n := by rw [← Hn.out]; exact (List.getElem?_eq_some_iff.1 he).1
    obtain ⟨ad2, y, rfl, hy, hadl2, hy0, hy1⟩ := (HES.out.below hb3).at_ (i := i) (by rw [Hn.out]; exact hil)
    rw [he] at hy
    cases hy
    have HF := Lib.hid (show o = some e.v by rw [HO.out, ← HLK.out, hle])
    clear hpl he hek hle hb3
    go_wp2
    go_ret2
    rw [HF.out]
    exact ⟨rfl, HB3.out⟩
  · have HF := Lib.hid (show o = none by rw [HO.out, ← HLK.out, hle])
    clear hpl hle hb3
    go_wp2
    go_ret2
    rw [HF.out]
    exact ⟨rfl, HB3.out⟩
theorem get_nil (w : World) (key : ByteArray) : Calls Tryz.prog 69 #[.pointer none, .string key] w fun r w' => r = .returned (lookV none) ∧ Below w.heap.size w w' := by
  go_enter Tryz.func69, Tryz.ntmps69
  go_wp2_with fail
  refine (path_nil w key).mono ?_
  rintro r w1 ⟨rfl, rfl⟩
  go_wp2
  go_ret2
  exact ⟨rfl, Below.refl _ _⟩
theorem get_any {w : World} {T : TO} {key : ByteArray} (ht : TreeIs w T) (hl : Low T) :
    Calls Tryz.prog 69 #[tb T, .string key] w fun r w' => r = .returned (lookV (look (tl T) key)) ∧ Below w.heap.size w w' := by
  cases T with
  | none => exact get_nil w key
  | some x => exact get_tr (ht x rfl) (hl x rfl)

end Go.Proofs.YtelenboncejdaaaGreatDoor

/-
  The contracts of tree.Put and tree.Del; conditions: the tree is valid and lies in memory, or is nil; strings of a size that can be.
-/
namespace Go.Proofs.YtelenboncejdaaaGreatDoor
open Go.RowKit Go.Sort
set_option linter.unusedVariables false

set_option maxHeartbeats 2000000 in
set_option maxRecDepth 100000 in
theorem with_nil (w : World) (e : Ent) :
    Calls Tryz.prog 70 #[.pointer none, .agg #[.string e.k, .string e.v]] w fun r w' => ∃ v, r = .returned v ∧ Parts w' 0 v (put [] e) 1 [] 0 ∧ Below w.heap.size w w' := by
  obtain ⟨W, hW⟩ : ∃ W, W = (w.alloc (.cells #[.string e.k, .string e.v] 87)).alloc (.cells #[.slice none 0 0, .slice none 0 0] 154) := ⟨_, rfl⟩
  obtain ⟨hbW, k0, k1, hsz⟩ := two_new w #[.string e.k, .string e.v] #[.slice none 0 0, .slice none 0 0] 87 154
  rw [← hW] at hbW k0 k1 hsz
  have HW := Lib.hid hW
  have HBW := Lib.hid hbW
  have K0 := Lib.hid k0
  have K1 := Lib.hid k1
  have KS := Lib.hid hsz
  clear hW hbW k0 k1 hsz
  go_enter Tryz.func70, Tryz.ntmps70
  go_wp2_with fail
  rw [← HW.out]
  refine (partsOf_nil W).mono ?_
  rintro r w1 ⟨rfl, hb1⟩
  obtain ⟨hb2, hg⟩ := box_new w1 (.slice none (0 : Nat) 0) (.slice none (0 : Nat) 0) 154
  have hb12 := bthen hb1 hb2
  have hWB : WB w w1.heap.size e (.slice none (0 : Nat) 0) (.slice none (0 : Nat) 0) (w1.alloc (.cells #[.slice none (0 : Nat) 0, .slice none (0 : Nat) 0] 154)) := by
    refine ⟨(hb12.block _ (lt_of_block K0.out)).trans K0.out, (hb12.block _ (lt_of_block K1.out)).trans K1.out, hg, by have := hb1.size; rw [KS.out] at this; omega, bthen HBW.out hb12⟩
  have HWB := Lib.hid hWB
  clear hb1 hb2 hb12 hWB hg
  go_wp2_with fail
  generalize hw2 : w1.alloc (.cells #[.slice none (0 : Nat) 0, .slice none (0 : Nat) 0] 154) = w2 at *
  refine (ofLeaf_any _ none none 0 0 0 0).mono ?_
  rintro r w3 ⟨rfl, hb3⟩
  generalize w1.heap.size = g at *
  have hWB3 := HWB.out.next hb3
  have q50 := cell_at hWB3.h5 0 _ rfl
  have q30 := cell_at hWB3.h3 0 _ rfl
  have q31 := cell_at hWB3.h3 1 _ rfl
  have HWB3 := Lib.hid hWB3
  clear hb3 hWB3 hw2
  go_wp2_with fail
  refine (with_any none 0 0 [] e w3 (Es.nil _ _) rfl (Nat.le_refl _) (by omega)).mono ?_
  rintro r w4 ⟨i, f, v, rfl, hpl, ho4, hb4⟩
  rw [hpl.wth List.Pairwise.nil] at ho4
  have hWB4 := HWB3.out.next hb4
  obtain ⟨A4, c4, rfl, hc4, hes4⟩ := ho4.form
  have hblk := hWB4.h4
  have HT := Lib.hid (set_two hblk (.slice A4 (put [] e).length c4) (.slice none 0 0))
  have HB := Lib.hid (two_below hWB4.below (Nat.le_succ _) (.slice A4 (put [] e).length c4) (.slice none 0 0))
  have HE4 := Lib.hid (hes4.off (Off.two hblk (.slice A4 (put [] e).length c4) (.slice none 0 0)))
  have hd0 := cell_at hblk 0 _ rfl
  have hd1 := cell_at hblk 1 _ rfl
  have hf0 := free_at hblk 0
  have hf1 := free_at hblk 1
  clear q50 q30 q31 ho4 hes4 hb4 hWB4 hblk
  go_wp2
  refine bodyPost_ret (v := .agg #[.slice A4 (put [] e).length c4, .slice none 0 0]) ?_ rfl ⟨_, rfl, ⟨⟨A4, c4, none, 0, rfl, hc4, Nat.le_refl _, HE4.out, Ls.nil _ _⟩, rfl⟩, HB.out⟩
  have k0 := cell_at HT.out 0 _ rfl
  have k1 := cell_at HT.out 1 _ rfl
  simp [results, Tryz.results70, go_sem, k0, k1]

/-- The height of a tree. -/
def th : TO → Nat
  | none => 0
  | some x => x.1 + 1
def errOf (e : Ent) : Int := if keyNo e.k ≠ 0 then keyNo e.k else valNo e.v
theorem errOf_ok (e : Ent) : okE e = decide (errOf e = 0) := by
  unfold okE errOf
  by_cases hk : keyNo e.k = 0
  · simp [hk]
  · simp [hk]
theorem tr_size_two {w : World} {h : Nat} {s : ST} (t : Tr w (h + 1) s) : 2 ≤ s.size := by
  obtain ⟨ks, hk⟩ := t.kids
  unfold ST.size
  rw [hk.br.en, hk.br.kn, nbs_len]
  have := hk.two
  omega
theorem root_any {w : World} {h : Nat} {v : Value} {l : List Ent} {n q : Nat} {old : List Nat} (hp : Parts w h v l n old q) (hh : h ≤ 90000) (h0 : h = 0 → n ≤ 8) (h1 : h ≠ 0 → 1 ≤ n ∧ n ≤ 12) (hs : Sorted l) (ho : ∀ e ∈ l, okE e = true) :
    Calls Tryz.prog 71 #[v] w (RootPost w h l n old q) := by
  cases h with
  | zero => exact root_leaf hp (h0 rfl) hs ho
  | succ h => exact root_branch hp (by omega) (h1 (by omega)).1 (h1 (by omega)).2 hs ho
/-- What with and root answer together. -/
theorem with_tree {w : World} {T : TO} {e : Ent} (ht : TreeIs w T) (hl : Low T) (he : okE e = true) :
    Calls Tryz.prog 70 #[tb T, .agg #[.string e.k, .string e.v]] w fun r w' => ∃ v h n, r = .returned v ∧ Parts w' h v (put (tl T) e) n (tids T) (2 * h) ∧ h ≤ 90000 ∧ h ≤ th T ∧ (h = 0 → n ≤ 8) ∧ (h ≠ 0 → 2 ≤ n ∧ n ≤ 12) ∧ Below w.heap.size w w' := by
  cases T with
  | none =>
    refine (with_nil w e).mono ?_
    rintro r w1 ⟨v, rfl, hp, hb⟩
    exact ⟨v, 0, 1, rfl, hp, by omega, Nat.zero_le _, fun _ => by omega, fun h => absurd rfl h, hb⟩
  | some x =>
    have t := ht x rfl
    refine (with_tr he x.1 w x.2 (hl x rfl) t).mono ?_
    rintro r w1 ⟨v, n, rfl, hp, h1, h2, hb⟩
    have h3 := t.size_le
    refine ⟨v, x.1, n, rfl, hp, hl x rfl, Nat.le_succ _, fun _ => by omega, fun h0 => ?_, hb⟩
    obtain ⟨h, s⟩ := x
    cases h with
    | zero => exact absurd rfl h0
    | succ h =>
      have h4 : 2 ≤ s.size := tr_size_two t
      simp only at h1 h2 h3
      omega
/-- What tree.Put answers. -/
def PutPost (w : World) (T : TO) (e : Ent) (r : Ending) (w' : World) : Prop :=
  ∃ T', r = .returned (.tuple #[tb T', .int .i64 (errOf e)]) ∧ TreeIs w' T' ∧ Below w.heap.size w w' ∧ (okE e = false → T' = none) ∧
    (okE e = true → tl T' = put (tl T) e ∧ FewNew (tids T) (3 * th T + 3) (tids T') ∧ ((look (tl T) e.k = some e.v ∧ T' = T) ∨ (look (tl T) e.k ≠ some e.v ∧ ∃ x, T' = some x ∧ w.heap.size ≤ x.2.b)))

set_option maxHeartbeats 2000000 in
set_option maxRecDepth 100000 in
theorem put_any {w : World} {T : TO} {e : Ent} (ht : TreeIs w T) (hl : Low T) (hk : e.k.size ≤ 140737488351232) (hv : e.v.size ≤ 140737488351232) :
    Calls Tryz.prog 40 #[tb T, .agg #[.string e.k, .string e.v]] w (PutPost w T e) := by
  have HT := Lib.hid ht
  have hb0 : Below w.heap.size w (w.alloc (.cells #[.string e.k, .string e.v] 87)) := (Below.refl _ _).alloc (Nat.le_refl _) _
  have hbx := heap_alloc_new w (.cells #[.string e.k, .string e.v] 87)
  clear ht
  obtain ⟨tv, htv⟩ : ∃ tv, tv = tb T := ⟨_, rfl⟩
  rw [← htv]
  have HTV := Lib.hid htv
  clear htv
  go_enter Tryz.func40, Tryz.ntmps40
  go_wp2_with fail
  generalize hw0 : w.alloc (.cells #[.string e.k, .string e.v] 87) = w0 at *
  have c0 := cell_at hbx 0 _ rfl
  have c1 := cell_at hbx 1 _ rfl
  refine (key_any e.k w0 hk).mono ?_
  rintro r w1 ⟨rfl, rfl⟩
  by_cases hkn : keyNo e.k = 0
  · have HKN := Lib.hid hkn
    rw [hkn]
    clear hkn
    go_wp2_with fail
    refine (value_any e.v w0 hv).mono ?_
    rintro r w1 ⟨rfl, rfl⟩
    by_cases hvn : valNo e.v = 0
    · have HVN := Lib.hid hvn
      have HOK := Lib.hid (show okE e = true by unfold okE; rw [HKN.out, hvn]; rfl)
      have HER := Lib.hid (show errOf e = 0 by unfold errOf; rw [HKN.out, hvn]; rfl)
      rw [hvn]
      clear hvn
      go_wp2_with fail
      rw [HTV.out]
      refine (get_any (HT.out.below hb0) hl).mono ?_
      rintro r w2 ⟨rfl, hb2⟩
      rw [← HTV.out]
      have hbx2 := (hb2.block _ (lt_of_block hbx)).trans hbx
      have hb02 := bthen hb0 hb2
      have d0 := cell_at hbx2 0 _ rfl
      have d1 := cell_at hbx2 1 _ rfl
      have HB2 := Lib.hid hb02
      have HT2 := Lib.hid (HT.out.below hb02)
      clear hb0 hbx c0 c1 hb2 hb02 hbx2 hw0
      obtain ⟨o, ho⟩ : ∃ o, o = look (tl T) e.k := ⟨_, rfl⟩
      rw [← ho]
      have HO := Lib.hid ho
      clear ho
      have stay : Hid (o = some e.v → PutPost w T e (.returned (.tuple #[tv, .int .i64 0])) w2) := Lib.hid fun h1 => ⟨T, by rw [HTV.out, HER.out], HT2.out, HB2.out, (fun h => by rw [HOK.out] at h; cases h), fun _ => ⟨(put_same HT.out.sorted (look_mem (by rw [← HO.out, h1]))).symm, FewNew.of (fun x hx => hx) _, .inl ⟨by rw [← HO.out, h1], rfl⟩⟩⟩
      have go : Hid (o ≠ some e.v → Calls Tryz.prog 70 #[tv, .agg #[.string e.k, .string e.v]] w2 fun r w' => ∃ v h n, r = .returned v ∧ Hid (Parts w' h v (put (tl T) e) n (tids T) (2 * h) ∧ h ≤ 90000 ∧ h ≤ th T ∧ (h = 0 → n ≤ 8) ∧ (h ≠ 0 → 2 ≤ n ∧ n ≤ 12) ∧ Below w2.heap.size w2 w')) := Lib.hid fun h1 => by
        rw [HTV.out]
        exact (with_tree HT2.out hl HOK.out).mono fun r w' ⟨v, h, n, h2, h3⟩ => ⟨v, h, n, h2, Lib.hid h3⟩
      have fin : Hid (o ≠ some e.v → ∀ (w3 : World) (v : Value) (h n : Nat), Hid (Parts w3 h v (put (tl T) e) n (tids T) (2 * h) ∧ h ≤ 90000 ∧ h ≤ th T ∧ (h = 0 → n ≤ 8) ∧ (h ≠ 0 → 2 ≤ n ∧ n ≤ 12) ∧ Below w2.heap.size w2 w3) →
          Calls Tryz.prog 71 #[v] w3 fun r w' => ∃ u, r = .returned u ∧ PutPost w T e (.returned (.tuple #[u, .int .i64 0])) w') := Lib.hid fun h1 w3 v h n hp => by
        obtain ⟨hpa, hh, hth, hn0, hn1, hb3⟩ := hp.out
        refine (root_any hpa hh hn0 (fun h0 => by have := hn1 h0; omega) (sorted_put HT.out.sorted e) (fun x hx => by
          rcases mem_put.1 hx with rfl | ⟨hx, _⟩
          · exact HOK.out
          · exact HT.out.okE x hx)).mono ?_
        rintro r w4 ⟨T', rfl, ht', hl', hf', hx', hb4⟩
        refine ⟨_, rfl, T', by rw [HER.out], ht', bthen HB2.out (bthen hb3 hb4), (fun h => by rw [HOK.out] at h; cases h), fun _ => ⟨hl', hf'.more (by omega), .inr ⟨by rw [← HO.out]; exact h1, ?_⟩⟩⟩
        cases T' with
        | none => exact absurd (show (e : Ent) ∈ tl none by rw [hl']; exact mem_put.2 (.inl rfl)) (by simp [tl])
        | some x => exact ⟨x, rfl, Nat.le_trans (bthen HB2.out hb3).size (hx' x rfl (by by_cases h0 : h = 0; exact .inl h0; exact .inr (by have := hn1 h0; omega)))⟩
      unfold lookV
      cases o with
      | none =>
        simp only [Option.getD_none, Option.isSome_none]
        go_wp2_with fail
        refine (go.out (by simp)).mono ?_
        rintro r w3 ⟨v, h, n, rfl, hp⟩
        go_wp2_with fail
        refine (fin.out (by simp) w3 v h n hp).mono ?_
        rintro r w4 ⟨u, rfl, hpost⟩
        have HPO := Lib.hid hpost
        clear hpost
        go_wp2
        go_ret2
        exact HPO.out
      | some v0 =>
        simp only [Option.getD_some, Option.isSome_some]
        have hsm := same_eq v0 e.v
        by_cases hv0 : v0 = e.v
        · rw [decide_eq_true hv0] at hsm
          have HPO := Lib.hid (stay.out (by rw [hv0]))
          clear hv0
          go_wp2
          go_ret2
          exact HPO.out
        · rw [decide_eq_false hv0] at hsm
          have hne : some v0 ≠ some e.v := fun h => hv0 (Option.some.inj h)
          have HNE := Lib.hid hne
          clear hne hv0
          go_wp2_with fail
          refine (go.out HNE.out).mono ?_
          rintro r w3 ⟨v, h, n, rfl, hp⟩
          go_wp2_with fail
          refine (fin.out HNE.out w3 v h n hp).mono ?_
          rintro r w4 ⟨u, rfl, hpost⟩
          have HPO := Lib.hid hpost
          clear hpost
          go_wp2
          go_ret2
          exact HPO.out
    · have HPO : Hid (PutPost w T e (.returned (.tuple #[.pointer none, .int .i64 (valNo e.v)])) w0) := Lib.hid ⟨none, by unfold errOf; rw [HKN.out]; rfl, TreeIs.none _, hb0, (fun _ => rfl), fun h => by unfold okE at h; rw [HKN.out, decide_eq_false hvn] at h; cases h⟩
      go_wp2
      go_ret2
      exact HPO.out
  · have HPO : Hid (PutPost w T e (.returned (.tuple #[.pointer none, .int .i64 (keyNo e.k)])) w0) := Lib.hid ⟨none, by unfold errOf; rw [if_pos hkn]; rfl, TreeIs.none _, hb0, (fun _ => rfl), fun h => by unfold okE at h; rw [decide_eq_false hkn] at h; cases h⟩
    go_wp2
    go_ret2
    exact HPO.out

/-- What tree.Del answers. -/
def DelPost (w : World) (T : TO) (key : ByteArray) (r : Ending) (w' : World) : Prop :=
  ∃ T', r = .returned (.tuple #[tb T', .bool (look (tl T) key).isSome]) ∧ TreeIs w' T' ∧ Below w.heap.size w w' ∧ tl T' = del (tl T) key ∧ FewNew (tids T) (3 * th T + 3) (tids T') ∧ ((look (tl T) key).isSome = false → T' = T)

set_option maxHeartbeats 2000000 in
set_option maxRecDepth 100000 in
theorem del_any {w : World} {T : TO} {key : ByteArray} (ht : TreeIs w T) (hl : Low T) :
    Calls Tryz.prog 56 #[tb T, .string key] w (DelPost w T key) := by
  have HT := Lib.hid ht
  clear ht
  obtain ⟨tv, htv⟩ : ∃ tv, tv = tb T := ⟨_, rfl⟩
  rw [← htv]
  have HTV := Lib.hid htv
  clear htv
  go_enter Tryz.func56, Tryz.ntmps56
  go_wp2_with fail
  rw [HTV.out]
  refine (get_any HT.out hl).mono ?_
  rintro r w2 ⟨rfl, hb2⟩
  rw [← HTV.out]
  have HB2 := Lib.hid hb2
  have HT2 := Lib.hid (HT.out.below hb2)
  clear hb2
  obtain ⟨o, ho⟩ : ∃ o, o = look (tl T) key := ⟨_, rfl⟩
  rw [← ho]
  have HO := Lib.hid ho
  clear ho
  unfold lookV
  cases o with
  | none =>
    simp only [Option.getD_none, Option.isSome_none]
    have HPO : Hid (DelPost w T key (.returned (.tuple #[tv, .bool false])) w2) := Lib.hid ⟨T, by rw [HTV.out, ← HO.out]; rfl, HT2.out, HB2.out, (del_none HT.out.sorted (look_none_iff.1 HO.out.symm)).symm, FewNew.of (fun x hx => hx) _, fun _ => rfl⟩
    go_wp2
    go_ret2
    exact HPO.out
  | some v0 =>
    simp only [Option.getD_some, Option.isSome_some]
    cases T with
    | none => exact absurd HO.out (by simp [tl, look])
    | some x =>
      obtain ⟨h, s⟩ := x
      have t := HT2.out (h, s) rfl
      have hh : h ≤ 90000 := hl (h, s) rfl
      have htv : tv = pn s.b := HTV.out
      subst htv
      have HTR := Lib.hid t
      clear t
      go_wp2_with fail
      refine (without_tr h w2 s hh HTR.out).mono ?_
      rintro r w3 ⟨v, n, rfl, hp, h1, h2, hb3⟩
      have h3 := HTR.out.size_le
      have HB3 := Lib.hid (bthen HB2.out hb3)
      have HP := Lib.hid hp
      have hn1 : h ≠ 0 → 1 ≤ n ∧ n ≤ 12 := fun h0 => by
        have : 2 ≤ s.size := by
          cases h with
          | zero => exact absurd rfl h0
          | succ h => exact tr_size_two HTR.out
        omega
      clear hp hb3
      go_wp2_with fail
      refine (root_any HP.out hh (fun _ => by omega) hn1 (sorted_del HTR.out.sorted key) (fun y hy => HTR.out.okE y (mem_del.1 hy).1)).mono ?_
      rintro r w4 ⟨T', rfl, ht', hl', hf', hx', hb4⟩
      have HPO : Hid (DelPost w (some (h, s)) key (.returned (.tuple #[tb T', .bool true])) w4) := Lib.hid ⟨T', by rw [← HO.out]; rfl, ht', bthen HB3.out hb4, hl', hf'.more (by show 2 * h + 3 ≤ 3 * (h + 1) + 3; omega), fun h => by rw [← HO.out] at h; cases h⟩
      clear ht' hl' hf' hx' hb4
      generalize tb T' = tv' at *
      go_wp2
      go_ret2
      exact HPO.out

end Go.Proofs.YtelenboncejdaaaGreatDoor

/-
  The contracts of tree.Items and tree.Right; conditions: the tree is valid and lies in memory, or is nil; few entries.
-/
namespace Go.Proofs.YtelenboncejdaaaGreatDoor
open Go.RowKit Go.Sort
set_option linter.unusedVariables false

theorem ownP_ls {w : World} {base n c : Nat} {A : Option Addr} {p : List (Option Nat)} (h : OwnP w base (.slice A n c) p) : Ls pcP w A p := by
  obtain ⟨A', c', e, _, hl⟩ := h.form
  cases e
  exact hl
/-- Rows of unlike types lie apart. -/
theorem own_apart {w : World} {base base' : Nat} {v v' : Value} {l : List Ent} {p : List (Option Nat)} (h : Own w base v l) (k : OwnP w base' v' p) : ∀ g, v.ownBlock = some g → v'.ownBlock ≠ some g := by
  intro g h1 h2
  rcases h.2 with ⟨rfl, _⟩ | ⟨g1, cap, cur, rfl, _, hh, _⟩
  · simp [Value.ownBlock] at h1
  · rcases k.2 with ⟨rfl, _⟩ | ⟨g2, cap2, cur2, rfl, _, kk, _⟩
    · simp [Value.ownBlock] at h2
    · have e1 : g1 = g := by simpa [Value.ownBlock] using h1
      have e2 : g2 = g := by simpa [Value.ownBlock] using h2
      subst e1
      subst e2
      rw [hh] at kk
      simp at kk
/-- What tree.Items answers. -/
def ItPost (w : World) (l : List Ent) (r : Ending) (w' : World) : Prop := ∃ v, r = .returned v ∧ Own w' w.heap.size v l ∧ Below w.heap.size w w'

set_option maxHeartbeats 2000000 in
set_option maxRecDepth 100000 in
theorem items_gen {w : World} {b : Nat} {N : NR} {l0 : List Ent} {ks : List ST} {n : Nat} (hN : NodeAt w b N) (he : Es w N.ea l0) (hl : l0.length = N.en) (h1 : N.en ≤ 1000) (hp : Ls pcP w N.ka (ptrS ks)) (hn : ks.length = n) (hk : N.kn = n) (h2 : n ≤ 1000)
    (hall : ∀ k ∈ ks, ∀ w', Below w.heap.size w w' → Calls Tryz.prog 14 #[pn k.b] w' (ItPost w' k.l)) (hlen : (l0 ++ flat ks).length ≤ 80000) :
    Calls Tryz.prog 14 #[pn b] w (ItPost w (l0 ++ flat ks)) := by
  have HN := Lib.hid hN
  have HP := Lib.hid hp
  have Hn := Lib.hid hn
  have HK := Lib.hid hk
  have HALL := Lib.hid hall
  have HE := Lib.hid he
  have HL := Lib.hid hl
  have hsub : ∀ j k, ks[j]? = some k → (l0 ++ flat (ks.take j)).length + k.l.length ≤ 80000 := by
    intro j k hj
    have h3 := flat_take_succ hj
    have h4 : flat ks = flat (ks.take (j + 1)) ++ flat (ks.drop (j + 1)) := by rw [← flat_append, List.take_append_drop]
    rw [h4, h3] at hlen
    simp at hlen ⊢
    omega
  have HS := Lib.hid hsub
  clear hN hp hn hk hall he hl hsub hlen
  go_enter Tryz.func14, Tryz.ntmps14
  go_wp2_with fail
  refine (entries_any HN.out HE.out HL.out (by omega)).mono ?_
  rintro r w1 ⟨v1, rfl, ho1, hb1⟩
  have HB1 := Lib.hid hb1
  have HO1 := Lib.hid ho1
  clear hb1 ho1
  go_wp2_with fail
  refine (kids_any (HN.out.below HB1.out) (HP.out.below HB1.out) (by rw [HK.out, ptrS_len, Hn.out]) (by rw [HK.out]; omega)).mono ?_
  rintro r w2 ⟨v2, rfl, ho2, hb2⟩
  obtain ⟨A2, c2, rfl, hc2, hls2⟩ := ho2.form
  rw [ptrS_len, Hn.out] at hc2 ⊢
  have HB2 := Lib.hid (bthen HB1.out hb2)
  have HO2 := Lib.hid (HO1.out.below hb2)
  rw [ptrS_len, Hn.out] at ho2
  have HLS2 := Lib.hid (ho2.mono HB1.out.size)
  clear ho2 hls2 hb2
  go_wp2
  go_loopw [3, 11] (fun s3 s11 wr => ∃ j : Nat, j ≤ n ∧ s11 = .int .i64 j ∧ Own wr w.heap.size s3 (l0 ++ flat (ks.take j)) ∧ OwnP wr w.heap.size (.slice A2 n c2) (ptrS ks) ∧ Below w.heap.size w wr) (fun _ s11 _ => n - (intOf s11).toNat)
  case atStart => exact ⟨0, Nat.zero_le _, rfl, by simpa [flat] using HO2.out, HLS2.out, HB2.out⟩
  case round =>
    obtain ⟨j, hj, rfl, hown, hop, hbw⟩ := hrel
    by_cases hlt : j < n
    · obtain ⟨k, hk⟩ : ∃ k, ks[j]? = some k := ⟨_, List.getElem?_eq_getElem (by rw [Hn.out]; exact hlt)⟩
      obtain ⟨ad, x, rfl, hx, hadl, hcx⟩ := Ls.node_at (ownP_ls hop) (i := j) (by rw [nbs_len, Hn.out]; exact hlt)
      rw [nbs_at hk] at hx
      cases hx
      have HKJ := Lib.hid hk
      have HBW := Lib.hid hbw
      have HOW := Lib.hid hown
      have HOP := Lib.hid hop
      clear hk hbw hown hop
      go_wp2_with fail
      refine (HALL.out k (List.mem_of_getElem? HKJ.out) wr HBW.out).mono ?_
      rintro r w3 ⟨v3, rfl, ho3, hb3⟩
      obtain ⟨A3, c3, rfl, hc3, hes3⟩ := ho3.form
      have hbw3 := bthen HBW.out hb3
      have hsm := HS.out j k HKJ.out
      obtain ⟨v', w4, hrun, hown4, hg4⟩ := run_append_ents 22 (HOW.out.below hb3) k.l.length c3 hes3 rfl (by omega) hbw3.size
      have hb4 := (HOW.out.below hb3).grow_below hbw3 hbw3.size hg4
      have hap := own_apart (HOW.out.below hb3) (HOP.out.below hb3)
      have hop4 := (HOP.out.below hb3).keep fun g hg hlt => hg4.block g hlt fun e => hap g e.symm hg
      rw [List.append_assoc, ← flat_take_succ HKJ.out] at hown4
      have HR := Lib.hid hrun
      have HO4 := Lib.hid hown4
      have HB4 := Lib.hid hb4
      have HOP4 := Lib.hid hop4
      clear ho3 hes3 hb3 hbw3 hrun hown4 hg4 hb4 hap hop4 hcx
      go_wp2_with (at_builtin; refine wpList_append_ran rfl (.tmp 15) (.tmp 17) 22 rfl _ _ _ _ rfl rfl HR.out ?_)
      exact ⟨⟨j + 1, by omega, by go_num, HO4.out, HOP4.out, HB4.out⟩, by simp [intOf]; omega⟩
    · have he : j = n := by omega
      subst he
      rw [List.take_of_length_le (by rw [Hn.out]; exact Nat.le_refl _)] at hown
      clear hop
      go_wp2
      go_ret
      exact ⟨_, rfl, hown, hbw⟩

theorem items_tr : ∀ (h : Nat) (w : World) (s : ST), Tr w h s → s.l.length ≤ 80000 → Calls Tryz.prog 14 #[pn s.b] w (ItPost w s.l)
  | 0, w, s, ⟨hN, hL, hE, hok, hid⟩, hb => by
    have hl := okLeaf_len hok
    have := items_gen (ks := []) (n := 0) hN hE hL.en.symm (by rw [hL.en]; omega) (Ls.nil (f := pcP) _ _) rfl hL.kn (by omega) (fun k hk => by cases hk) (by simpa [flat] using hb)
    simpa [flat] using this
  | h + 1, w, s, ⟨ks, hN, hB, hP, hk2, hk6, hso, hks, hfl, hid⟩, hb => by
    have := items_gen (l0 := []) (n := ks.length) hN (Es.nil _ _) hB.en.symm (by rw [hB.en]; omega) hP rfl (by rw [hB.kn, nbs_len]) (by omega) (fun k hk w' hb' => items_tr h w' k ((hks k hk).1.below hb') (by
      have := flat_len_mem hk
      rw [hfl] at hb
      omega)) (by rw [List.nil_append, ← hfl]; exact hb)
    rw [List.nil_append, ← hfl] at this
    exact this
set_option maxHeartbeats 1000000 in
set_option maxRecDepth 100000 in
theorem items_nil (w : World) : Calls Tryz.prog 14 #[.pointer none] w (ItPost w []) := by
  go_enter Tryz.func14, Tryz.ntmps14
  go_wp2_with fail
  refine (entries_nil w).mono ?_
  rintro r w1 ⟨rfl, rfl⟩
  go_wp2_with fail
  refine (kids_nil w).mono ?_
  rintro r w1 ⟨rfl, rfl⟩
  go_wp2
  go_loopw [3, 11] (fun s3 s11 wr => s11 = .int .i64 0 ∧ s3 = .slice none 0 0 ∧ w = wr) (fun _ s11 _ => 0)
  case atStart => exact ⟨rfl, rfl, rfl⟩
  case round =>
    obtain ⟨rfl, rfl, rfl⟩ := hrel
    go_wp2
    go_ret
    exact ⟨_, rfl, Own.nil_ _ _, Below.refl _ _⟩
theorem items_any {w : World} {T : TO} (ht : TreeIs w T) (hl : (tl T).length ≤ 80000) : Calls Tryz.prog 14 #[tb T] w (ItPost w (tl T)) := by
  cases T with
  | none => exact items_nil w
  | some x => exact items_tr x.1 w x.2 (ht x rfl) hl

set_option maxHeartbeats 1000000 in
set_option maxRecDepth 100000 in
theorem right_tr {w : World} {h : Nat} {s : ST} (ht : Tr w h s) : Calls Tryz.prog 16 #[pn s.b] w fun r w' => r = .returned (.bool true) ∧ Below w.heap.size w w' := by
  have HT := Lib.hid ht
  have HB : Hid ((s.N.h : Int) > 0) := Lib.hid (by rw [ht.high]; omega)
  clear ht
  go_enter Tryz.func16, Tryz.ntmps16
  go_wp2_with fail
  refine (height_any HT.out.at_).mono ?_
  rintro r w1 ⟨rfl, rfl⟩
  have hh : (0 : Int) < (s.N.h : Int) := HB.out
  go_wp2_with fail
  refine (full_any HT.out.at_).mono ?_
  rintro r w1 ⟨rfl, rfl⟩
  rw [HT.out.lk]
  go_wp2
  go_ret
  exact ⟨rfl, Below.refl _ _⟩
theorem right_nil (w : World) : Calls Tryz.prog 16 #[.pointer none] w fun r w' => r = .returned (.bool true) ∧ Below w.heap.size w w' := by
  go_enter Tryz.func16, Tryz.ntmps16
  go_wp2
  go_ret
  exact ⟨rfl, Below.refl _ _⟩
theorem right_tree {w : World} {T : TO} (ht : TreeIs w T) : Calls Tryz.prog 16 #[tb T] w fun r w' => r = .returned (.bool true) ∧ Below w.heap.size w w' := by
  cases T with
  | none => exact right_nil w
  | some x => exact right_tr (ht x rfl)

end Go.Proofs.YtelenboncejdaaaGreatDoor

/-
  The contracts of the document's answers for layer 10 (Put, Del, Height) and of layer 3's Get; how high a tree of some entries is; conditions stand at each.
-/
namespace Go.Proofs.YtelenboncejdaaaGreatDoor
open Go.RowKit Go.Sort
set_option linter.unusedVariables false
set_option linter.unusedSimpArgs false

theorem good_len {w : World} : ∀ {h : Nat} {s : ST}, Tr w h s → s.good = true → 2 * 3 ^ h ≤ s.l.length
  | 0, s, t, hg => by
    rw [t.good_iff] at hg
    have := of_decide_eq_true hg
    have h2 := t.2.1.en
    have h3 := t.2.1.kn
    unfold ST.size at this
    simp at this
    omega
  | h + 1, s, t, hg => by
    rw [t.good_iff] at hg
    have h1 := of_decide_eq_true hg
    obtain ⟨ks, hk⟩ := t.kids
    have h2 : s.size = ks.length := by unfold ST.size; rw [hk.br.en, hk.br.kn, nbs_len, Nat.zero_add]
    rw [if_neg (by omega), h2] at h1
    have h3 := flat_len_ge (ks := ks) (m := 2 * 3 ^ h) fun k hm => good_len (hk.all k hm).1 (hk.all k hm).2
    rw [hk.l, Nat.pow_succ]
    have h4 : 3 * (2 * 3 ^ h) ≤ ks.length * (2 * 3 ^ h) := Nat.mul_le_mul_right _ h1
    omega
theorem high_len {w : World} {h : Nat} {s : ST} (t : Tr w (h + 1) s) : 4 * 3 ^ h ≤ s.l.length := by
  obtain ⟨ks, hk⟩ := t.kids
  have h3 := flat_len_ge (ks := ks) (m := 2 * 3 ^ h) fun k hm => good_len (hk.all k hm).1 (hk.all k hm).2
  have h4 : 2 * (2 * 3 ^ h) ≤ ks.length * (2 * 3 ^ h) := Nat.mul_le_mul_right _ hk.two
  rw [hk.l]
  omega
/-- What the reference's Height answers. -/
def HiPost (n : Nat) (h : Nat) : Prop := (n = 0 ∧ h = 0) ∨ (1 ≤ h ∧ n < 4 * 3 ^ (h - 1))
theorem HiPost.le {w : World} {T : TO} (ht : TreeIs w T) {h : Nat} (hp : HiPost (tl T).length h) : th T ≤ h := by
  cases T with
  | none => exact Nat.zero_le _
  | some x =>
    obtain ⟨k, s⟩ := x
    have t : Tr w k s := ht (k, s) rfl
    have hl : (tl (some (k, s))).length = s.l.length := rfl
    rw [hl] at hp
    show k + 1 ≤ h
    rcases hp with ⟨h0, _⟩ | ⟨h1, h2⟩
    · have := t.len
      omega
    · cases k with
      | zero => exact h1
      | succ k =>
        have h3 := high_len t
        by_cases h4 : h ≤ k + 1
        · have h5 : 3 ^ (h - 1) ≤ 3 ^ k := Nat.pow_le_pow_right (by omega) (by omega)
          omega
        · omega

end Go.Proofs.YtelenboncejdaaaGreatDoor

/-
  Arguments of the rows of layer 10: a script of calls; the contracts of few, built, after and awake; conditions stand at each.
-/
namespace Go.Proofs.YtelenboncejdaaaGreatDoor
open Go.RowKit Go.Sort Go.ChangeShapes Go.WideShapes Go.Joins Go.Deep
set_option linter.unusedVariables false
set_option linter.unusedSimpArgs false

/-- A call: whether it takes away, and its entry. -/
structure TOp where
  d : Bool
  e : Ent
def pcT (o : TOp) : List Value := [.bool o.d, .string o.e.k, .string o.e.v]
theorem encT : Enc pcT 3 := ⟨fun _ => rfl, fun x u hu => by
  simp only [pcT, List.mem_cons, List.not_mem_nil, or_false] at hu
  rcases hu with rfl | rfl | rfl <;> rfl⟩
structure OkT (o : TOp) : Prop where
  key : o.e.k.size ≤ 140737488351232
  val : o.e.v.size ≤ 140737488351232
structure ArgT (W : World) (A : Option Addr) (n c : Nat) (l : List TOp) : Prop where
  len : l.length = n
  cap : n ≤ c
  small : n ≤ 140737488351232
  ls : Ls pcT W A l
  ok : ∀ o ∈ l, OkT o
theorem ArgT.below {W W' : World} {A : Option Addr} {n c : Nat} {l : List TOp} (h : ArgT W A n c l) (hb : Below W.heap.size W W') : ArgT W' A n c l := ⟨h.len, h.cap, h.small, h.ls.below hb, h.ok⟩
theorem fields_top : ∃ f0 f1, Tryz.prog.underlying 128 = some (.struct #[f0, f1]) ∧ f0.offset = 0 ∧ f1.offset = 1 ∧ f0.type = 4 ∧ f1.type = 87 := ⟨_, _, Tryz.underlying128, rfl, rfl, rfl, rfl⟩
set_option maxRecDepth 100000 in
theorem elemT {H : Type} {enc : TypeId × Value → H} {W : World} (fuel : Nat) (cs : List Value) (y : DataW H × List MemPlace) (h : DataW.trod enc Tryz.prog W 0 (fun _ => true) true fuel 128 cs = some y)
    (hsz : ∀ m ∈ y.1.weights Tryz.prog 128, m ≤ reachBytes) : ∃ z : TOp, cs = pcT z ∧ OkT z := by
  obtain ⟨f0, f1, he, o0, o1, t0, t1⟩ := fields_top
  obtain ⟨g0, g1, hee, p0, p1, u0, u1⟩ := fields_ent
  have cb : Tryz.prog.cellsOf 4 = 1 := by kernel_rfl
  have cs9 : Tryz.prog.cellsOf 9 = 1 := by kernel_rfl
  have ce : Tryz.prog.cellsOf 87 = 2 := by kernel_rfl
  have c4 : Tryz.prog.cellsOf 128 = 3 := by kernel_rfl
  obtain ⟨xs, n, _, hx, hlen, hxl, hf⟩ := DataW.trod_struct he h
  rw [c4] at hlen
  match xs, hxl, cs, hlen with
  | [y0, y1], _, [v0, v1, v2], _ =>
    have k0 := hf 0 f0 rfl
    have k1 := hf 1 f1 rfl
    simp [o0, o1, t0, t1, cb, ce] at k0 k1
    obtain ⟨b, hb, hdb⟩ := DataW.trod_bool Tryz.underlying4 k0
    obtain ⟨ys, m, _, hy, hlen2, hyl, hg⟩ := DataW.trod_struct hee k1
    match ys, hyl with
    | [z0, z1], _ =>
      have q0 := hg 0 g0 rfl
      have q1 := hg 1 g1 rfl
      simp [p0, p1, u0, u1, cs9] at q0 q1
      obtain ⟨s, hs, hds, _⟩ := DataW.trod_string Tryz.underlying9 q0
      obtain ⟨s', hs', hds', _⟩ := DataW.trod_string Tryz.underlying9 q1
      simp only [List.cons.injEq, and_true] at hb hs hs'
      subst hb hs hs' hx hy hds hds'
      simp only [List.map_cons, List.map_nil, DataW.weights, he, hee, DataW.weightsEach, List.append_nil, List.mem_append, t0, t1, u0, u1] at hsz
      refine ⟨⟨b, ⟨s, s'⟩⟩, rfl, ?_, ?_⟩
      · exact hsz _ (.inr (.inl (by simp [DataW.weights, Tryz.underlying9])))
      · exact hsz _ (.inr (.inr (by simp [DataW.weights, Tryz.underlying9])))
theorem open_tops {H : Type} {enc : TypeId × Value → H} {W : World} {A : Option Addr} {n c : Nat} {d : DataW H} {p : List MemPlace}
    (h : DataW.Trod enc Tryz.prog W 0 (fun _ => true) true 54 (.slice A n c) d p) (hsz : ∀ m ∈ d.weights Tryz.prog 54, m ≤ reachBytes) : ∃ l, ArgT W A n c l := by
  obtain ⟨fuel, hf⟩ := h
  obtain ⟨l, h1, h2, h3, h4, h5⟩ := open_list (f := pcT) (k := 3) (ok := OkT) encT (by omega) Tryz.underlying54 (by kernel_rfl) (by_ := 40) (by kernel_rfl) (by omega) elemT hf hsz
  exact ⟨l, h1, h2, h3, h4, h5⟩
/-- A call by value. -/
def topV (o : TOp) : Value := .agg #[.bool o.d, .string o.e.k, .string o.e.v]
set_option maxRecDepth 100000 in
theorem open_top {H : Type} {enc : TypeId × Value → H} {W : World} {base : Nat} {v : Value} {d : DataW H} {p : List MemPlace} (hv : Value.okWide Tryz.prog W .any base 128 v)
    (h : DataW.Trod enc Tryz.prog W 0 (fun _ => true) true 128 v d p) (hsz : ∀ m ∈ d.weights Tryz.prog 128, m ≤ reachBytes) : ∃ x : TOp, v = topV x ∧ OkT x := by
  obtain ⟨f0, f1, he, _⟩ := fields_top
  obtain ⟨cs, rfl, hcs⟩ := okWide_struct he hv
  obtain ⟨fuel, hf⟩ := h
  obtain ⟨z, hz, hok⟩ := elemT fuel _ _ hf hsz
  refine ⟨z, ?_, hok⟩
  have : cs = (pcT z).toArray := Array.toList_inj.1 (by simpa [Value.cells] using hz)
  rw [this]
  rfl
theorem Ls.top_at {w : World} {A : Option Addr} {l : List TOp} (h : Ls pcT w A l) {i : Nat} (hi : i < l.length) : ∃ ad o, A = some ad ∧ l[i]? = some o ∧ ad.block < w.heap.size ∧ w.cell? (ad.add (i * 3)) = some (.bool o.d) ∧
    w.cell? ⟨(ad.add (i * 3)).block, (ad.add (i * 3)).off + 1, none⟩ = some (.string o.e.k) ∧ w.cell? ⟨(ad.add (i * 3)).block, (ad.add (i * 3)).off + 1 + 1, none⟩ = some (.string o.e.v) := by
  obtain ⟨ad, o, e, hp, hl, hc⟩ := h.at_ encT hi
  have hz : w.cell? (ad.add (i * 3)) = some (.bool o.d) := by
    have := hc 0 (.bool o.d) (by omega) rfl
    rw [add_of_add] at this
    simpa using this
  exact ⟨ad, o, e, hp, hl, hz, hc 1 (.string o.e.k) (by omega) rfl, hc 2 (.string o.e.v) (by omega) rfl⟩

/-- What few answers. -/
def FewT (w : World) (l : List TOp) (e : Ending) (w' : World) : Prop := Below w.heap.size w w' ∧ ∃ r : Bool, e = .returned (.bool r) ∧ (r = true → l.length ≤ 60)

set_option maxRecDepth 100000 in
set_option maxHeartbeats 2000000 in
theorem fewT_any (A : Option Addr) (n c : Nat) (l : List TOp) (w : World) (ha : ArgT w A n c l) :
    Calls Tryz.prog 26 #[.slice A n c] w (FewT w l) := by
  obtain ⟨hlen, hcap, hsm, hls, hok⟩ := ha
  have HL := Lib.hid hlen
  have HOK := Lib.hid hok
  clear hlen hok
  by_cases h60 : 60 < n
  · go_enter Tryz.func26, Tryz.ntmps26
    go_wp2
    go_ret
    exact ⟨Below.refl _ _, false, rfl, fun h => by cases h⟩
  have HN : Hid (l.length ≤ 60) := Lib.hid (by rw [HL.out]; omega)
  go_enter Tryz.func26, Tryz.ntmps26
  go_wp2
  go_loopw [9] (fun i wr => ∃ k : Nat, k ≤ n ∧ i = .int .i64 k ∧ Below w.heap.size w wr) (fun i _ => n - (intOf i).toNat)
  case atStart => exact ⟨0, Nat.zero_le _, rfl, Below.refl _ _⟩
  case round =>
    obtain ⟨k, hk, rfl, hbw⟩ := hrel
    by_cases hlt : k < n
    · obtain ⟨ad, o, rfl, ho, hl, q0, q1, q2⟩ := (hls.below hbw).top_at (i := k) (by rw [HL.out]; exact hlt)
      have hok := HOK.out o (List.mem_of_getElem? ho)
      have hk1 := hok.key
      have hv1 := hok.val
      clear ho hok q0
      by_cases hd : 2000 < o.e.k.size + o.e.v.size
      · go_wp2
        go_quiet (fail)
        go_wp2
        go_ret
        exact ⟨below_drewN hbw _, false, rfl, fun h => by cases h⟩
      · go_wp2
        go_quiet (fail)
        go_wp2
        exact ⟨⟨k + 1, by omega, by go_num, below_drewN hbw _⟩, by simp [intOf]; omega⟩
    · have he : k = n := by omega
      subst he
      go_wp2
      go_ret
      exact ⟨hbw, true, rfl, fun _ => HN.out⟩

/-- What a call makes of the entries. -/
def play (l : List Ent) (o : TOp) : List Ent := if o.d then del l o.e.k else if okE o.e then put l o.e else l
def plays (s : List TOp) : List Ent := s.foldl play []
theorem plays_snoc {s : List TOp} {k : Nat} {o : TOp} (h : s[k]? = some o) : plays (s.take (k + 1)) = play (plays (s.take k)) o := by
  rw [List.take_add_one, h]
  simp [plays]
theorem play_len {l : List Ent} (h : Sorted l) (o : TOp) : (play l o).length ≤ l.length + 1 := by
  unfold play
  split
  · exact Nat.le_succ_of_le (del_length _ h)
  · split
    · rcases put_length h o.e with h | h <;> omega
    · omega

end Go.Proofs.YtelenboncejdaaaGreatDoor

/-
  Tools for the laws of layer 10: trees compared as pointers, what puts and takes come to, the document's answers; conditions stand at each.
-/
namespace Go.Proofs.YtelenboncejdaaaGreatDoor
open Go.RowKit Go.Sort Go.ChangeShapes Go.WideShapes
set_option linter.unusedVariables false
set_option linter.unusedSimpArgs false

theorem eql_nil_nil (w : World) : (binOp .eql 25 (.pointer none) (.pointer none)).run Tryz.prog w = .ok (.bool true) w := by
  have h : ∀ d : Nat, (Op.equalIn (d + 1) 25 (.pointer none) (.pointer none)).run Tryz.prog w = .ok true w := fun d => by
    simp [Op.equalIn, run_underlying Tryz.underlying25]
  simp only [binOp]
  simp [Op.equal, Op.maxDepth, h 9999]
theorem eql_some_nil (a : Addr) (w : World) : (binOp .eql 25 (.pointer (some a)) (.pointer none)).run Tryz.prog w = .ok (.bool false) w := by
  have h : ∀ d : Nat, (Op.equalIn (d + 1) 25 (.pointer (some a)) (.pointer none)).run Tryz.prog w = .ok false w := fun d => by
    simp [Op.equalIn, run_underlying Tryz.underlying25]
  simp only [binOp]
  simp [Op.equal, Op.maxDepth, h 9999]
theorem eql_ptr_other {a b : Nat} {w : World} {M N : NR} (ha : NodeAt w a M) (hb : NodeAt w b N) (hne : a ≠ b) : (binOp .eql 25 (pn a) (pn b)).run Tryz.prog w = .ok (.bool false) w := by
  have hi : (Tryz.prog.info? 103).map (·.size) = some 6 := by kernel_rfl
  obtain ⟨j, hj, hj6⟩ := Option.map_eq_some_iff.1 hi
  have hab : (⟨a, 0, none⟩ : Addr) ≠ ⟨b, 0, none⟩ := fun e => hne (by cases e; rfl)
  have hs := run_sameAddr_other (P := Tryz.prog) (w := w) hab ha hb
  have h : ∀ d : Nat, (Op.equalIn (d + 1) 25 (pn a) (pn b)).run Tryz.prog w = .ok false w := fun d => by
    simp [Op.equalIn, run_underlying Tryz.underlying25, sizeOf, typeInfo, hj, hj6, hs]
  simp only [binOp]
  simp [Op.equal, Op.maxDepth, h 9999]
/-- A tree is itself. -/
theorem eql_tb_same (T : TO) (w : World) : (binOp .eql 25 (tb T) (tb T)).run Tryz.prog w = .ok (.bool true) w := by
  cases T with
  | none => exact eql_nil_nil w
  | some x => exact eql_ptr_same ⟨x.2.b, 0, none⟩ w
theorem treeIs_lt {w : World} {T : TO} (h : TreeIs w T) : ∀ x, T = some x → x.2.b < w.heap.size := fun x hx => (h x hx).lt
/-- A new tree is none of the old ones. -/
theorem eql_tb_new {w : World} {T : TO} {x : Nat × ST} {m : Nat} (h1 : TreeIs w T) (h2 : TreeIs w (some x)) (ho : ∀ y, T = some y → y.2.b < m) (hx : m ≤ x.2.b) : (binOp .eql 25 (tb (some x)) (tb T)).run Tryz.prog w = .ok (.bool false) w := by
  cases T with
  | none => exact eql_some_nil ⟨x.2.b, 0, none⟩ w
  | some y => exact eql_ptr_other (h2 x rfl).at_ (h1 y rfl).at_ (by show x.2.b ≠ y.2.b; have := ho y rfl; omega)

theorem okE_err {e : Ent} (h : okE e = true) : errOf e = 0 := by rw [errOf_ok] at h; exact of_decide_eq_true h
theorem okE_no {e : Ent} (h : ¬ okE e = true) : errOf e ≠ 0 := by rw [errOf_ok] at h; simpa using h
theorem put_back {l : List Ent} (h : Sorted l) {e : Ent} {v : ByteArray} (hl : look l e.k = some v) : put (del (put l e) e.k) ⟨e.k, v⟩ = l := by
  refine sorted_ext (sorted_put (sorted_del (sorted_put h e) e.k) _) h fun x => ?_
  have hm := look_mem hl
  simp only [mem_put, mem_del]
  constructor
  · rintro (rfl | ⟨⟨rfl | ⟨h1, _⟩, h2⟩, _⟩)
    · exact hm
    · exact absurd rfl h2
    · exact h1
  · intro hx
    by_cases hk : x.k = e.k
    · exact .inl (sorted_once h hx hm hk)
    · exact .inr ⟨⟨.inr ⟨hx, hk⟩, hk⟩, hk⟩
theorem del_back {l : List Ent} (h : Sorted l) {e : Ent} (hl : look l e.k = none) : del (put l e) e.k = l := by
  refine sorted_ext (sorted_del (sorted_put h e) e.k) h fun x => ?_
  simp only [mem_put, mem_del]
  constructor
  · rintro ⟨rfl | ⟨h1, _⟩, h2⟩
    · exact absurd rfl h2
    · exact h1
  · intro hx
    have hk := look_none_iff.1 hl x hx
    exact ⟨.inr ⟨hx, hk⟩, hk⟩
/-- Two calls on unlike keys. -/
theorem play_swap {l : List Ent} (h : Sorted l) {a b : TOp} (hk : a.e.k ≠ b.e.k) : play (play l a) b = play (play l b) a := by
  obtain ⟨ad, a⟩ := a
  obtain ⟨bd, b⟩ := b
  unfold play
  simp only at hk ⊢
  cases ad <;> cases bd <;> by_cases ha : okE a = true <;> by_cases hb : okE b = true <;> simp only [ha, hb, if_true, if_false, Bool.false_eq_true]
  · exact put_put h hk
  all_goals first | rfl | exact put_del_swap h hk | exact (put_del_swap h (Ne.symm hk)).symm | exact del_del h | skip
theorem play_sorted {l : List Ent} (h : Sorted l) (o : TOp) : Sorted (play l o) := by
  unfold play
  split
  · exact sorted_del h _
  · split
    · exact sorted_put h _
    · exact h
theorem plays_sorted : ∀ (s : List TOp) (l : List Ent), Sorted l → Sorted (s.foldl play l)
  | [], _, h => h
  | o :: s, l, h => plays_sorted s (play l o) (play_sorted h o)

end Go.Proofs.YtelenboncejdaaaGreatDoor
