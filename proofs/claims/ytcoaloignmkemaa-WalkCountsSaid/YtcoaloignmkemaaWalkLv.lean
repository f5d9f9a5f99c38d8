/-
  The iterator over the leaves of a tree from a key on, for every tree: its leaves' entries, from the key on, are the tree's; conditions stand at each.
-/
import Derived.Test.YtcoaloignmkemaaWalkFwd
namespace Go.Proofs.Ytcoaloignmkemaa
open Go.RowKit Go.Sort Go.Shelf Rt
set_option linter.unusedVariables false
attribute [local go_sem] Oper.semAt_some wide_fn wide_depth

/-- What a node without kids answers to Kids. -/
def NoKids (w0 : World) (x : OS) : Prop := ∀ W, Below w0.heap.size w0 W → Calls Try.prog 40 #[ptr (x.map (·.b))] W fun e w' => ∃ A c, e = .returned (.slice A 0 c) ∧ Below W.heap.size W w'

set_option maxHeartbeats 4000000 in
set_option maxRecDepth 100000 in
theorem leaves_one {w0 : World} {x : OS} (hk : NoKids w0 x) {W : World} {bn bk : Nat} (hb : Below w0.heap.size w0 W) (hbn : W.cell? ⟨bn, 0, none⟩ = some (ptr (x.map (·.b)))) :
    Gives Try.prog 39 #[pb bn, pb bk] encO [x] (Kf w0.heap.size bn bk) W := by
  intro l J Jx T hT hJ hJx hY h0
  obtain ⟨px, hpx⟩ : ∃ px, (x.map (·.b)).map (fun b => (⟨b, 0, none⟩ : Addr)) = px := ⟨_, rfl⟩
  have hpv : ptr (x.map (·.b)) = .pointer px := by rw [← hpx]; rfl
  have HPX : Hid (encO x = #[.pointer px]) := Lib.hid (by rw [← hpv]; rfl)
  rw [hpv] at hbn
  have HT := Lib.hid hT
  have HJ := Lib.hid hJ
  have HJx := Lib.hid hJx
  have HY := Lib.hid hY
  have H0 := Lib.hid h0
  have HK := Lib.hid hk
  have HB := Lib.hid hb
  have HPV := Lib.hid hpv
  clear hT hJ hJx hY h0 hk hb hpx hpv
  refine callsIn_of_wp_marks Try.func39 rfl trivial ?_ rfl
  simp only [Try.ntmps39, List.size_toArray, List.length_cons, List.length_nil, Nat.reduceAdd, Nat.reduceSub, Array.replicate_succ, Array.replicate_zero, List.push_toArray, List.append_toArray, List.nil_append, List.cons_append]
  have hb1 : Below W.heap.size W (W.alloc (.cells #[.func (.yield l) #[] #[]] 74)) := (Below.refl _ _).alloc (Nat.le_refl _) _
  have HY1 : Hid ((W.alloc (.cells #[.func (.yield l) #[] #[]] 74)).heap[W.heap.size]? = some (.cells #[.func (.yield l) #[] #[]] 74 (0, 0))) := Lib.hid (heap_alloc_new W _)
  have q1 : (W.alloc (.cells #[.func (.yield l) #[] #[]] 74)).cell? ⟨bn, 0, none⟩ = some (.pointer px) := (hb1.cell (p := ⟨bn, 0, none⟩) (cell_lt hbn)).trans hbn
  have HBN := Lib.hid hbn
  have HB1 := Lib.hid hb1
  clear hb1 hbn
  gi_wp2_with fail
  refine CallsIn.mono (callsIn_wide.2 (by have := HK.out _ (HB.out.trans (HB1.out.mono HB.out.size)); rw [HPV.out] at this; exact this)) ?_
  rintro r w2 ⟨A2, c2, rfl, hb2⟩
  have HB2 := Lib.hid (bthen HB1.out hb2)
  have hby : w2.cell? ⟨W.heap.size, 0, none⟩ = some (.func (.yield l) #[] #[]) := cell_row ((hb2.block _ (Nat.lt_of_lt_of_le (Nat.lt_succ_self _) (by simp))).trans HY1.out) 0 _ rfl
  have q2 : w2.cell? ⟨bn, 0, none⟩ = some (.pointer px) := (HB2.out.cell (p := ⟨bn, 0, none⟩) (cell_lt HBN.out)).trans HBN.out
  obtain ⟨fn, tmps, assign, body, hy, hR⟩ := HY.out [] x T w2 (List.prefix_refl _) (HJ.out _ _ _ _ H0.out (.of_below HB2.out))
  rw [HPX.out] at hy
  clear hb2
  gi_wp2_with fail
  refine hR.mono ?_
  rintro e W3 ⟨T3, hst3, ⟨rfl, hj3⟩ | ⟨rfl, hj3⟩⟩
  · have HS3 := Lib.hid ((Stp.of_below HB2.out fun k hk => (HT.out k hk).1).trans hst3)
    have HJ3 := Lib.hid hj3
    clear hst3 hj3 hy hby
    gi_wp2_with fail
    exact ⟨_, results_none rfl _ _ _, ⟨_, rfl⟩, T3, HS3.out, .inl HJ3.out⟩
  · have HS3 := Lib.hid ((Stp.of_below HB2.out fun k hk => (HT.out k hk).1).trans hst3)
    have HJ3 := Lib.hid hj3
    clear hst3 hj3 hy hby
    gi_wp2_with fail
    exact ⟨_, results_none rfl _ _ _, ⟨_, rfl⟩, T3, HS3.out, .inr ⟨_, by simp, List.prefix_refl _, HJ3.out⟩⟩

/-- From a key on. -/
def ge (key : ByteArray) (e : Ent) : Bool := decide (¬ kl e.k key)
/-- Up to a key. -/
def le (key : ByteArray) (e : Ent) : Bool := decide (¬ kl key e.k)
theorem Tr.le_hi {w : World} {h : Nat} {s : ST} (t : Tr w h s) {e : Ent} (he : e ∈ s.l) : ¬ kl s.N.hi e.k := by
  obtain ⟨r, x, hl, hx⟩ := t.last
  have hs := t.sorted
  rw [hl] at he hs
  rw [hx]
  rcases List.mem_append.1 he with he | he
  · exact kl_asymm ((List.pairwise_append.1 hs).2.2 e he x (by simp))
  · rw [List.mem_singleton.1 he]
    exact kl_irrefl _
theorem flatO_flatMap (ks : List ST) (F : ST → List OS) : flatO (ks.flatMap F) = ks.flatMap fun k => flatO (F k) := by
  unfold flatO
  rw [List.flatMap_assoc]
theorem flat_sub {ks : List ST} {G : ST → List Ent} (h : ∀ k ∈ ks, (G k).Sublist k.l) : (ks.flatMap G).Sublist (flat ks) := by
  induction ks with
  | nil => exact List.Sublist.slnil
  | cons k ks ih => exact (h k (List.mem_cons_self ..)).append (ih fun x hx => h x (List.mem_cons_of_mem _ hx))
theorem flat_filter {ks : List ST} {G : ST → List Ent} {p : Ent → Bool} (h : ∀ k ∈ ks, (G k).filter p = k.l.filter p) : (ks.flatMap G).filter p = (flat ks).filter p := by
  induction ks with
  | nil => rfl
  | cons k ks ih =>
    rw [List.flatMap_cons, show flat (k :: ks) = k.l ++ flat ks from rfl, List.filter_append, List.filter_append, h k (List.mem_cons_self ..), ih fun x hx => h x (List.mem_cons_of_mem _ hx)]
theorem ex_fun {α β : Type} {l : List α} {P : α → List β → Prop} (h : ∀ x ∈ l, ∃ y, P x y) : ∃ f : α → List β, ∀ x ∈ l, P x (f x) := by
  classical
  exact ⟨fun x => if hx : ∃ y, P x y then Classical.choose hx else [], fun x hx => by show P x (if hx : ∃ y, P x y then Classical.choose hx else []); rw [dif_pos (h x hx)]; exact Classical.choose_spec (h x hx)⟩
/-- What of the kids' leaves is the branch's. -/
theorem lvs_branch {w0 : World} {p : Ent → Bool} {ks : List ST} {F : ST → List OS} {l : List Ent} (hl : l = flat ks) (h : ∀ k ∈ ks, Lvs w0 p k.l (F k)) : Lvs w0 p l (ks.flatMap F) := by
  subst hl
  refine ⟨fun s hs => ?_, ?_, ?_⟩
  · obtain ⟨k, hk, hs⟩ := List.mem_flatMap.1 hs
    exact (h k hk).leaf s hs
  · rw [flatO_flatMap]
    exact flat_sub fun k hk => (h k hk).sub
  · rw [flatO_flatMap]
    exact flat_filter fun k hk => (h k hk).filt
theorem lvs_none {w0 : World} {p : Ent → Bool} {l : List Ent} (h : ∀ e ∈ l, p e = false) : Lvs w0 p l [] :=
  ⟨fun s hs => (by cases hs), List.nil_sublist _, by rw [filter_none h]; rfl⟩
theorem lvs_one {w0 : World} {p : Ent → Bool} {s : ST} (h : Tr w0 0 s) : Lvs w0 p s.l [some s] :=
  ⟨fun x hx => by rw [List.mem_singleton] at hx; cases hx; exact h, by simp [flatO, leafL], by simp [flatO, leafL]⟩
theorem noKids_leaf {w0 : World} {s : ST} (h : Tr w0 0 s) : NoKids w0 (some s) := fun W hb => by
  refine (kids_any (h.at_.below hb) (Ls.nil (f := pcP) _ _) (by rw [h.2.1.kn]; rfl) (by rw [h.2.1.kn]; omega)).mono ?_
  rintro e w' ⟨v, rfl, ho, hb'⟩
  obtain ⟨A, c, rfl, _, _⟩ := ho.form
  exact ⟨A, c, rfl, hb'⟩
theorem noKids_none (w0 : World) : NoKids w0 none := fun W hb => by
  refine (kids_nil W).mono ?_
  rintro e w' ⟨rfl, rfl⟩
  exact ⟨none, 0, rfl, Below.refl _ _⟩

theorem leaves_tr {w0 : World} (key : ByteArray) : ∀ (h : Nat) (s : ST), Tr w0 h s → ∃ ls, Lvs w0 (ge key) s.l ls ∧ ∀ W bn bk, Below w0.heap.size w0 W → W.cell? ⟨bn, 0, none⟩ = some (pn s.b) → W.cell? ⟨bk, 0, none⟩ = some (.string key) →
    Gives Try.prog 39 #[pb bn, pb bk] encO ls (Kf w0.heap.size bn bk) W
  | 0, s, t => ⟨[some s], lvs_one t, fun W bn bk hb hn _ => leaves_one (noKids_leaf t) hb hn⟩
  | h + 1, s, t => by
    obtain ⟨ks, hk⟩ := t.kids
    obtain ⟨f, hf⟩ := ex_fun fun k hm => leaves_tr key h k (hk.all k hm).1
    refine ⟨ks.flatMap (Fk key f), lvs_branch hk.l fun k hm => ?_, fun W bn bk hb hn hbk => leaves_branch t.at_ hk key f hb hn hbk fun k hm => (hf k hm).2⟩
    unfold Fk
    by_cases hd : kl k.N.hi key
    · rw [if_pos hd]
      exact lvs_none fun e he => by
        have := (hk.all k hm).1.le_hi he
        simp only [ge, decide_eq_false_iff_not, Decidable.not_not]
        exact le_kl_trans this hd
    · rw [if_neg hd]
      exact (hf k hm).1
/-- The pointer to a tree, or nil. -/
theorem leaves_any {w0 : World} {T : TO} (ht : TreeIs w0 T) (key : ByteArray) : ∃ ls, Lvs w0 (ge key) (tl T) ls ∧ ∀ W bn bk, Below w0.heap.size w0 W → W.cell? ⟨bn, 0, none⟩ = some (tb T) → W.cell? ⟨bk, 0, none⟩ = some (.string key) →
    Gives Try.prog 39 #[pb bn, pb bk] encO ls (Kf w0.heap.size bn bk) W := by
  cases T with
  | none => exact ⟨[none], ⟨fun s hs => by simp at hs, by simp [flatO, leafL], by simp [flatO, leafL, tl]⟩, fun W bn bk hb hn _ => leaves_one (noKids_none w0) hb hn⟩
  | some x => exact leaves_tr key x.1 x.2 (ht x rfl)

end Go.Proofs.Ytcoaloignmkemaa
