/-
  The contracts of parts.replace, parts.join and tree.kidFor; conditions stand at each.
-/
import Derived.Test.YtkooaechcbopnaaTreeBuild
namespace Go.Proofs.Ytkooaechcbopnaa
open Go.RowKit Go.Sort
set_option linter.unusedVariables false

theorem Pt.form {w : World} {v : Value} {l : List Ent} {p : List (Option Nat)} (h : Pt w v l p) : ∃ A c B d, v = .agg #[.slice A l.length c, .slice B p.length d] := by
  obtain ⟨A, c, B, d, h, _⟩ := h
  exact ⟨_, _, _, _, h⟩
theorem Parts.form {w : World} {h : Nat} {v : Value} {l : List Ent} {n q : Nat} {old : List Nat} (hp : Parts w h v l n old q) : ∃ A a c B b d, v = .agg #[.slice A (a : Nat) c, .slice B (b : Nat) d] := by
  cases h with
  | zero =>
    obtain ⟨A, c, B, d, h⟩ := hp.1.form
    exact ⟨_, _, _, _, _, _, h⟩
  | succ h =>
    obtain ⟨ks, h, _⟩ := hp
    obtain ⟨A, c, B, d, h⟩ := h.form
    exact ⟨_, _, _, _, _, _, h⟩

theorem three_new (w : World) (c0 c1 c2 : Array Value) (t0 t1 t2 : TypeId) {W : World} (hW : W = (((w.alloc (.cells c0 t0)).alloc (.cells c1 t1)).alloc (.cells c2 t2)).drew) :
    Below w.heap.size w W ∧ W.heap[w.heap.size]? = some (.cells c0 t0 (0, 0)) ∧ W.heap[w.heap.size + 1]? = some (.cells c1 t1 (0, 0)) ∧ W.heap[w.heap.size + 1 + 1]? = some (.cells c2 t2 (0, 0)) ∧ W.heap.size = w.heap.size + 3 := by
  have k0 := heap_alloc_new w (.cells c0 t0)
  have k1 := heap_alloc_new (w.alloc (.cells c0 t0)) (.cells c1 t1)
  have k2 := heap_alloc_new ((w.alloc (.cells c0 t0)).alloc (.cells c1 t1)) (.cells c2 t2)
  have b1 : Below (w.alloc (.cells c0 t0)).heap.size (w.alloc (.cells c0 t0)) ((w.alloc (.cells c0 t0)).alloc (.cells c1 t1)) := (Below.refl _ _).alloc (Nat.le_refl _) _
  have b2 : Below ((w.alloc (.cells c0 t0)).alloc (.cells c1 t1)).heap.size ((w.alloc (.cells c0 t0)).alloc (.cells c1 t1)) (((w.alloc (.cells c0 t0)).alloc (.cells c1 t1)).alloc (.cells c2 t2)) := (Below.refl _ _).alloc (Nat.le_refl _) _
  have b0 : Below w.heap.size w (w.alloc (.cells c0 t0)) := (Below.refl _ _).alloc (Nat.le_refl _) _
  have b3 : Below (((w.alloc (.cells c0 t0)).alloc (.cells c1 t1)).alloc (.cells c2 t2)).heap.size (((w.alloc (.cells c0 t0)).alloc (.cells c1 t1)).alloc (.cells c2 t2)) W := by rw [hW]; exact (Below.refl _ _).drew
  have s0 : (w.alloc (.cells c0 t0)).heap.size = w.heap.size + 1 := by simp
  have s1 : ((w.alloc (.cells c0 t0)).alloc (.cells c1 t1)).heap.size = w.heap.size + 1 + 1 := by simp
  have s2 : (((w.alloc (.cells c0 t0)).alloc (.cells c1 t1)).alloc (.cells c2 t2)).heap.size = w.heap.size + 3 := by simp
  refine ⟨bthen b0 (bthen b1 (bthen b2 b3)), ?_, ?_, ?_, ?_⟩
  · exact (b3.block _ (by omega)).trans ((b2.block _ (by omega)).trans ((b1.block _ (by omega)).trans k0))
  · rw [s0] at k1
    exact (b3.block _ (by omega)).trans ((b2.block _ (by omega)).trans k1)
  · rw [s1] at k2
    exact (b3.block _ (by omega)).trans k2
  · rw [hW, ← s2]
    rfl

/-- At most a box of slices has turned. -/
structure Off (g : Nat) (w w' : World) : Prop where
  size : w.heap.size ≤ w'.heap.size
  block : ∀ i, i < w.heap.size → i ≠ g → w'.heap[i]? = w.heap[i]?
  slices : ∀ a u, a.block = g → w.cell? a = some u → ∃ A n c, u = .slice A n c
theorem Off.two {w : World} {g : Nat} {t : TypeId} {A B : Option Addr} {a b c d : Nat} (h : w.heap[g]? = some (.cells #[.slice A a b, .slice B c d] t (0, 0))) (u v : Value) : Off g w (World.two w g u v) := by
  refine ⟨by rw [two_size]; exact Nat.le_refl _, fun i _ hi => two_other w g u v i hi, fun ad x he hx => ?_⟩
  unfold World.cell? at hx
  rw [he, h] at hx
  simp only at hx
  split at hx
  · cases hx
  · have := Array.getElem?_eq_some_iff.1 hx
    obtain ⟨hlt, hx⟩ := this
    have hlt : ad.off < 2 := hlt
    match h0 : ad.off, hlt with
    | 0, _ =>
      simp only [h0] at hx
      exact ⟨_, _, _, hx.symm⟩
    | 1, _ =>
      simp only [h0] at hx
      exact ⟨_, _, _, hx.symm⟩
theorem Off.cell {g : Nat} {w w' : World} (h : Off g w w') {a : Addr} {u : Value} (hx : w.cell? a = some u) (hu : ∀ A n c, u ≠ .slice A n c) : a.block ≠ g ∧ w'.cell? a = some u := by
  have hne : a.block ≠ g := fun e => by
    obtain ⟨A, n, c, he⟩ := h.slices a u e hx
    exact hu A n c he
  have hlt : a.block < w.heap.size := by
    unfold World.cell? at hx
    rcases Nat.lt_or_ge a.block w.heap.size with h1 | h1
    · exact h1
    · rw [Array.getElem?_eq_none h1] at hx
      cases hx
  refine ⟨hne, ?_⟩
  rw [← hx]
  unfold World.cell?
  rw [h.block _ hlt hne]
section
variable {g : Nat} {w w' : World}
theorem NodeAt.off {b : Nat} {N : NR} (h : NodeAt w b N) (ho : Off g w w') : NodeAt w' b N := h.keep (ho.block b h.lt (ho.cell (a := ⟨b, 2, none⟩) h.c2 (by intro A n c e; cases e)).1)
theorem ecells_no_slice : ∀ (l : List Ent) (A : Option Addr) (n c : Nat), Value.slice A n c ∉ ecells l
  | [], _, _, _ => by simp [ecells]
  | e :: l, A, n, c => by simp [ecells, ecells_no_slice l A n c]
theorem Es.off {A : Option Addr} {l : List Ent} (h : Es w A l) (ho : Off g w w') : Es w' A l := fun h0 => by
  obtain ⟨ad, e, hlt, hc⟩ := h h0
  refine ⟨ad, e, Nat.lt_of_lt_of_le hlt ho.size, fun j x hx => (ho.cell (hc j x hx) fun A n c hs => ?_).2⟩
  subst hs
  exact ecells_no_slice l A n c (List.mem_of_getElem? hx)
theorem Ls.off {A : Option Addr} {l : List (Option Nat)} (h : Ls pcP w A l) (ho : Off g w w') : Ls pcP w' A l := fun h0 => by
  obtain ⟨ad, e, hlt, hc⟩ := h h0
  refine ⟨ad, e, Nat.lt_of_lt_of_le hlt ho.size, fun j x hx => (ho.cell (hc j x hx) fun A n c hs => ?_).2⟩
  obtain ⟨e, he, hm⟩ := List.mem_flatMap.1 (List.mem_of_getElem? hx)
  subst hs
  simp [pcP, ptr] at hm
theorem Tr.off : ∀ {h : Nat} {s : ST}, Tr w h s → Off g w w' → Tr w' h s
  | 0, s, t, hb => ⟨t.1.off hb, t.2.1, t.2.2.1.off hb, t.2.2.2⟩
  | h + 1, s, ⟨ks, t1, t2, t3, t4, t5, t6, t7, t8⟩, hb => ⟨ks, t1.off hb, t2, t3.off hb, t4, t5, t6, fun k hk => ⟨(t7 k hk).1.off hb, (t7 k hk).2⟩, t8⟩
theorem Pt.off {v : Value} {l : List Ent} {p : List (Option Nat)} (h : Pt w v l p) (hb : Off g w w') : Pt w' v l p := by
  obtain ⟨A, c, B, d, h1, h2, h3, h4, h5⟩ := h
  exact ⟨A, c, B, d, h1, h2, h3, h4.off hb, h5.off hb⟩
theorem Parts.off {h : Nat} {v : Value} {l : List Ent} {n m : Nat} {old : List Nat} (hp : Parts w h v l n old m) (hb : Off g w w') : Parts w' h v l n old m := by
  cases h with
  | zero => exact ⟨hp.1.off hb, hp.2⟩
  | succ h =>
    obtain ⟨ks, h1, h2, h3, h4⟩ := hp
    exact ⟨ks, h1.off hb, h2, fun k hk => ⟨(h3 k hk).1.off hb, (h3 k hk).2⟩, h4⟩
end
/-- What parts.replace answers: the kids with others in place of some. -/
def ReplPost (w : World) (h : Nat) (ks : List ST) (i j : Nat) (l2 : List Ent) (n2 : Nat) (old : List Nat) (q : Nat) (e : Ending) (w' : World) : Prop :=
  ∃ u ms, e = .returned u ∧ Pt w' u [] (ptrS (ks.take i ++ ms ++ ks.drop j)) ∧ ms.length = (if n2 ≤ most h then 1 else 2) ∧ (∀ k ∈ ms, Tr w' h k ∧ w.heap.size ≤ k.b ∧ (least h ≤ n2 → k.good = true)) ∧ flat ms = l2 ∧ FewNew old (q + 2) (idsOf ms) ∧ Below w.heap.size w w'

/-- Three lists of pointers side by side, as concat wants them. -/
theorem cells3 {w : World} {A B C : Option Addr} {c d e a b n : Nat} {l m r : List (Option Nat)} (t : TypeId) (hl : Ls pcP w A l) (hm : Ls pcP w B m) (hr : Ls pcP w C r) (ha : l.length = a) (hb : m.length = b) (hn : r.length = n) :
    ∀ j p, ([⟨A, c, l⟩, ⟨B, d, m⟩, ⟨C, e, r⟩] : List PartP)[j]? = some p → (w.alloc (.cells #[.slice A a c, .slice B b d, .slice C n e] t)).cell? ((⟨w.heap.size, 0, none⟩ : Addr).add j) = some (.slice p.A p.l.length p.c) ∧ Ls pcP (w.alloc (.cells #[.slice A a c, .slice B b d, .slice C n e] t)) p.A p.l := by
  have hb1 : Below w.heap.size w (w.alloc (.cells #[.slice A a c, .slice B b d, .slice C n e] t)) := (Below.refl _ _).alloc (Nat.le_refl _) _
  have hN := heap_alloc_new w (.cells #[.slice A a c, .slice B b d, .slice C n e] t)
  subst ha hb hn
  intro j p hp
  match j, hp with
  | 0, hp =>
    cases hp
    exact ⟨cell_at hN 0 _ rfl, hl.below hb1⟩
  | 1, hp =>
    cases hp
    exact ⟨cell_at hN 1 _ rfl, hm.below hb1⟩
  | 2, hp =>
    cases hp
    exact ⟨cell_at hN 2 _ rfl, hr.below hb1⟩
theorem OwnP.slice {w : World} {base : Nat} {v : Value} {l : List (Option Nat)} (h : OwnP w base v l) : ∃ A c, v = .slice A l.length c ∧ l.length ≤ c ∧ Ls pcP w A l ∧ ∀ ad, A = some ad → base ≤ ad.block := by
  obtain ⟨A, c, rfl, hc, hl⟩ := h.form
  exact ⟨A, c, rfl, hc, hl, fun ad e => (h.addr_ge ad e).1⟩

set_option maxHeartbeats 2000000 in
set_option maxRecDepth 100000 in
theorem replace_any {w : World} {h : Nat} {v v2 : Value} {ks : List ST} {l2 : List Ent} {n n2 q i j : Nat} {old : List Nat} (hp : Pt w v [] (ptrS ks)) (hn : ks.length = n) (hij : i ≤ j) (hj : j ≤ n) (hks : n ≤ 6)
    (hq : Parts w h v2 l2 n2 old q) (hf : fits h n2) (hh : h ≤ 100000) (hs : Sorted l2) (ho : ∀ e ∈ l2, okE e = true) :
    Calls Try.prog 53 #[v, .int .i64 (i : Int), .int .i64 (j : Int), v2] w (ReplPost w h ks i j l2 n2 old q) := by
  obtain ⟨A, c, B, d, rfl, hc, hd, he, hl⟩ := hp
  obtain ⟨A2, a2, c2, B2, b2, d2, rfl⟩ := hq.form
  rw [ptrS_len, hn] at hd ⊢
  simp only [List.length_nil] at hc ⊢
  have HQ := Lib.hid hq
  have HL := Lib.hid hl
  have HN := Lib.hid hn
  have HS := Lib.hid hs
  have HO := Lib.hid ho
  clear hq hl hn hs ho he
  go_enter Try.func53, Try.ntmps53
  obtain ⟨W, hW⟩ : ∃ W, W = (((w.alloc (.cells #[.slice A (0 : Nat) c, .slice B n d] 65)).alloc (.cells #[.slice A2 a2 c2, .slice B2 b2 d2] 65)).alloc (.cells #[.slice none 0 0, .slice none 0 0] 65)).drew := ⟨_, rfl⟩
  obtain ⟨hbW, k0, k1, k2, hsz⟩ := three_new w _ _ _ _ _ _ hW
  have q1 : ∀ z : Dc.Past [] W, z.val.cell? ⟨w.heap.size, 1, none⟩ = some (.slice B n d) := fun z => (z.ok.cell (by rw [hsz]; simp only; omega) (by simp)).trans (cell_at k0 1 _ rfl)
  have q2 : ∀ z : Dc.Past [] W, z.val.cell? ⟨w.heap.size + 1, 0, none⟩ = some (.slice A2 a2 c2) := fun z => (z.ok.cell (by rw [hsz]; simp only; omega) (by simp)).trans (cell_at k1 0 _ rfl)
  have q3 : ∀ z : Dc.Past [] W, z.val.cell? ⟨w.heap.size + 1, 1, none⟩ = some (.slice B2 b2 d2) := fun z => (z.ok.cell (by rw [hsz]; simp only; omega) (by simp)).trans (cell_at k1 1 _ rfl)
  have HW := Lib.hid hW
  have HBW := Lib.hid hbW
  have HSZ := Lib.hid hsz
  have HK2 := Lib.hid k2
  clear hW hbW k0 k1 k2 hsz
  go_wp2
  refine Dc.wp_region_segs 13 [] [([0, 1, 2, 3, 4, 6, 7, 8, 9], 5), ([], 10), ([], 11), ([12], 13)] [] (by kernel_rfl) (by kernel_rfl) (by kernel_rfl) (by kernel_rfl) (by kernel_rfl) (by intro c a d v w h; cases d <;> exact h) ?_
  rw [← HW.out]
  refine Dc.wpSegs_more ?_
  simp only [Dc.pick, List.getElem?_cons_zero, List.getElem?_cons_succ]
  repeat (first | go_big_quiet_step (fail) | quiet_step (fail))
  refine wpQuiet_nil ?_
  refine Dc.wpOp_heavy rfl (by rfl) (fun K hK => ?_)
  go_simp
  refine (nodes_any (HQ.out.below HBW.out) hf hh HS.out HO.out).mono ?_
  rintro e w1 ⟨u, rfl, hu, hb1⟩
  refine hK _ _ (fun _ => Dc.But.of_below hb1) ?_
  obtain ⟨ms, A3, c3, rfl, hc3, hl3, hm3, hk3, hf3, hw3⟩ := hu.older HBW.out.size
  have HL3 := Lib.hid hl3
  have HM3 := Lib.hid hm3
  have HK3 := Lib.hid hk3
  have HF3 := Lib.hid hf3
  have HW3 := Lib.hid hw3
  have HB1 := Lib.hid hb1
  clear hK K q1 q2 q3 hu hl3 hm3 hk3 hf3 hw3 hb1
  refine Dc.wpSegs_more ?_
  simp only [Dc.pick]
  refine wpQuiet_nil ?_
  refine Dc.wpOp_heavy rfl (by rfl) (fun K hK => ?_)
  go_simp
  have hbn : Below w1.heap.size w1 (w1.alloc (.cells #[.slice B i d, .slice A3 ms.length c3, .slice (if d = j then B else Option.map (fun x => x.add j) B) (n - j) (d - j)] 63)) := (Below.refl _ _).alloc (Nat.le_refl _) _
  refine hK _ _ (fun _ => Dc.But.of_below hbn) ?_
  clear hK K
  have hl1 := (HL.out.below HBW.out).below HB1.out
  have hcut := hl1.cut encP (k := j) (c := d) (by rw [ptrS_len, HN.out]; exact hd)
  simp only [Nat.mul_one] at hcut
  have hc3' := cells3 (c := d) (d := c3) (e := d - j) 63 (hl1.take_ i) HL3.out hcut (a := i) (b := ms.length) (n := n - j) (by rw [List.length_take, ptrS_len, HN.out]; omega) (ptrS_len _) (by rw [List.length_drop, ptrS_len, HN.out])
  have hpall : pallP [⟨B, d, (ptrS ks).take i⟩, ⟨A3, c3, ptrS ms⟩, ⟨if d = j then B else Option.map (fun x => x.add j) B, d - j, (ptrS ks).drop j⟩] = ptrS (ks.take i ++ ms ++ ks.drop j) := by
    rw [ptrS_append, ptrS_append, ptrS_take, ptrS_drop]
    simp [pallP]
  have hplen : (ptrS (ks.take i ++ ms ++ ks.drop j)).length ≤ 100 := by
    rw [ptrS_len, List.length_append, List.length_append, List.length_take, List.length_drop, HN.out, HM3.out]
    split <;> omega
  have HC3 := Lib.hid hc3'
  have HPA := Lib.hid hpall
  have HPL := Lib.hid hplen
  have HBN := Lib.hid hbn
  clear hl1 hcut hc3' hpall hplen hbn
  generalize (if d = j then B else Option.map (fun x => x.add j) B) = Bj at *
  obtain ⟨w2, hw2⟩ : ∃ w2, w2 = w1.alloc (.cells #[.slice B i d, .slice A3 ms.length c3, .slice Bj (n - j) (d - j)] 63) := ⟨_, rfl⟩
  have hlt2 : w1.heap.size < w2.heap.size := by rw [hw2]; simp
  rw [← hw2] at HBN HC3 ⊢
  clear hw2
  refine Dc.wpSegs_more ?_
  simp only [Dc.pick]
  refine wpQuiet_nil ?_
  refine Dc.wpOp_heavy rfl (by rfl) (fun K hK => ?_)
  go_simp
  refine (concatP_any ⟨w1.heap.size, 0, none⟩ 3 3 _ w2 hlt2 rfl HC3.out (by rw [HPA.out]; have := HPL.out; omega) (by omega)).mono ?_
  rintro e w3 ⟨v3, rfl, ho3, hb3⟩
  rw [HPA.out] at ho3
  obtain ⟨A4, c4, rfl, hc4, hl4, ha4⟩ := ho3.slice
  refine hK _ _ (fun _ => Dc.But.of_below hb3) ?_
  have hb02 := bthen HBW.out (bthen HB1.out HBN.out)
  have hbW3 := bthen HB1.out (bthen HBN.out hb3)
  have hblk : w3.heap[w.heap.size + 1 + 1]? = some (.cells #[.slice none 0 0, .slice none 0 0] 65 (0, 0)) := (hbW3.block _ (by rw [HSZ.out]; omega)).trans HK2.out
  have hs2 : w.heap.size + 3 ≤ w2.heap.size := by rw [← HSZ.out]; exact (bthen HB1.out HBN.out).size
  generalize hP : ptrS (ks.take i ++ ms ++ ks.drop j) = P at *
  have HP := Lib.hid hP
  have HL5 := Lib.hid (hl4.two (g := w.heap.size + 1 + 1) (fun ad e => by have := ha4 ad e; omega) (.slice none 0 0) (.slice A4 P.length c4))
  have HB5 := Lib.hid (two_below (bthen hb02 hb3) (g := w.heap.size + 1 + 1) (by omega) (.slice none 0 0) (.slice A4 P.length c4))
  have HOF := Lib.hid (Off.two hblk (.slice none 0 0) (.slice A4 P.length c4))
  have HB13 := Lib.hid (bthen HBN.out hb3)
  have HT := Lib.hid (set_two hblk (.slice none 0 0) (.slice A4 P.length c4))
  have hd0 := cell_at hblk 0 _ rfl
  have hd1 := cell_at hblk 1 _ rfl
  have hf0 := free_at hblk 0
  have hf1 := free_at hblk 1
  clear hK K hb02 hbW3 ho3 hl4 ha4 hb3 hblk hP hs2
  refine Dc.wpSegs_more ?_
  simp only [Dc.pick, List.getElem?_cons_zero, List.getElem?_cons_succ]
  repeat (first | go_big_quiet_step (fail) | quiet_step (fail))
  refine wpQuiet_nil ?_
  refine Dc.wpOp_heavy rfl (by rfl) (fun K hK => ?_)
  go_simp
  refine hK _ _ (fun h => absurd rfl h) ?_
  clear hK K
  refine Dc.wpSegs_last ?_
  simp only [Dc.pick]
  refine wpQuiet_nil ?_
  go_wp2
  refine bodyPost_ret (v := .agg #[.slice none 0 0, .slice A4 P.length c4]) ?_ rfl ⟨_, ms, rfl, ⟨none, 0, A4, c4, by rw [HP.out]; rfl, Nat.le_refl _, ?_, Es.nil _ _, ?_⟩, HM3.out, fun k hk => ⟨((HK3.out k hk).1.below HB13.out).off HOF.out, (HK3.out k hk).2⟩, HF3.out, HW3.out, HB5.out⟩
  · have k0 := cell_at HT.out 0 _ rfl
    have k1 := cell_at HT.out 1 _ rfl
    simp [results, Try.results53, go_sem, k0, k1]
  · rw [HP.out]
    exact hc4
  · rw [HP.out]
    exact HL5.out

end Go.Proofs.Ytkooaechcbopnaa
