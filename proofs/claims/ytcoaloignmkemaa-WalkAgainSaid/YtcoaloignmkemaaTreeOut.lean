/-
  The contract of tree.without; conditions: the tree is valid and lies in memory.
-/
import Derived.Test.YtcoaloignmkemaaTreeWith
namespace Go.Proofs.Ytcoaloignmkemaa
open Go.RowKit Go.Sort
set_option linter.unusedVariables false

/-- The parts of a valid tree. -/
theorem partsOf_tr {w : World} {h : Nat} {s : ST} (t : Tr w h s) : Calls Try.prog 48 #[pn s.b] w fun e w' => ∃ v, e = .returned v ∧ Parts w' h v s.l s.size s.ids 0 ∧ Below w.heap.size w w' := by
  have hsz := t.size_le
  cases h with
  | zero =>
    obtain ⟨hN, hL, hE, hok, hid⟩ := t
    refine (partsOf_pt hN hE hL.en.symm (Ls.nil (f := pcP) _ _) hL.kn.symm (by omega) (by omega)).mono ?_
    rintro e w1 ⟨v, rfl, hp, hb⟩
    exact ⟨v, rfl, ⟨hp, by unfold ST.size; rw [hL.en, hL.kn]; rfl⟩, hb⟩
  | succ h =>
    obtain ⟨ks, hN, hB, hP, hk2, hk6, hso, hks, hfl, hid⟩ := t
    refine (partsOf_pt hN (Es.nil _ _) hB.en.symm hP (by rw [hB.kn, ptrS_len, nbs_len]) (by omega) (by omega)).mono ?_
    rintro e w1 ⟨v, rfl, hp, hb⟩
    exact ⟨v, rfl, ⟨ks, hp, by unfold ST.size; rw [hB.en, hB.kn, nbs_len, Nat.zero_add], fun k hk => ⟨(hks k hk).1.below hb, (hks k hk).2⟩, hfl.symm, FewNew.of (fun x hx => by rw [hid]; exact List.mem_cons_of_mem _ hx) 0⟩, hb⟩
/-- A box of parts. -/
def Bx (g : Nat) (u v : Value) (w : World) : Prop := w.heap[g]? = some (.cells #[u, v] 69 (0, 0))
theorem Bx.lt {g : Nat} {u v : Value} {w : World} (h : Bx g u v w) : g < w.heap.size := lt_of_block h
theorem Bx.next {g : Nat} {u v : Value} {w w' : World} (h : Bx g u v w) (hb : Below w.heap.size w w') : Bx g u v w' := (hb.block _ (lt_of_block h)).trans h
theorem Bx.c0 {g : Nat} {u v : Value} {w : World} (h : Bx g u v w) : w.cell? ⟨g, 0, none⟩ = some u := cell_at h 0 _ rfl
theorem Bx.c1 {g : Nat} {u v : Value} {w : World} (h : Bx g u v w) : w.cell? ⟨g, 1, none⟩ = some v := cell_at h 1 _ rfl
theorem Bx.f0 {g : Nat} {u v : Value} {w : World} (h : Bx g u v w) : w.frozen? ⟨g, 0, none⟩ = false := free_at h 0
theorem Bx.f1 {g : Nat} {u v : Value} {w : World} (h : Bx g u v w) : w.frozen? ⟨g, 1, none⟩ = false := free_at h 1
theorem Bx.p0 {g : Nat} {u v : Value} {w : World} (h : Bx g u v w) : ∀ z : Dc.Past [] w, z.val.cell? ⟨g, 0, none⟩ = some u := fun z => (z.ok.cell h.lt (by simp)).trans h.c0
theorem Bx.p1 {g : Nat} {u v : Value} {w : World} (h : Bx g u v w) : ∀ z : Dc.Past [] w, z.val.cell? ⟨g, 1, none⟩ = some v := fun z => (z.ok.cell h.lt (by simp)).trans h.c1
theorem Bx.new (w : World) (u v : Value) : Bx w.heap.size u v (w.alloc (.cells #[u, v] 69)) := heap_alloc_new w _

/-- What tree.without answers. -/
def TOPost (w : World) (h : Nat) (s : ST) (key : ByteArray) (r : Ending) (w' : World) : Prop :=
  ∃ v n, r = .returned v ∧ Parts w' h v (del s.l key) n s.ids (2 * h) ∧ s.size ≤ n + 1 ∧ n ≤ s.size + 1 ∧ Below w.heap.size w w'

theorem Parts.enough {w : World} {h : Nat} {v : Value} {l : List Ent} {n m : Nat} {old : List Nat} (hp : Parts w h v l n old m) (h1 : h ≠ 0 → 1 ≤ n) : ∃ A a c B b d, v = .agg #[.slice A (a : Nat) c, .slice B (b : Nat) d] ∧ decide (if b = 0 then 2 ≤ a else 3 ≤ b) = decide (least h ≤ n) := by
  cases h with
  | zero =>
    obtain ⟨⟨A, c, B, d, rfl, _⟩, rfl⟩ := hp
    exact ⟨A, _, c, B, _, d, rfl, by simp [least]⟩
  | succ h =>
    obtain ⟨ks, ⟨A, c, B, d, rfl, _⟩, rfl, _⟩ := hp
    have h2 := h1 (by omega)
    refine ⟨A, _, c, B, _, d, rfl, decide_eq_decide.2 ?_⟩
    rw [ptrS_len, if_neg (by omega)]
    exact Iff.rfl
theorem repl_parts {w w7 : World} {h i j q : Nat} {s : ST} {ks ms : List ST} {L : List Ent} {u : Value} (hpt : Pt w7 u [] (ptrS (ks.take i ++ ms ++ ks.drop j))) (hks : ∀ k ∈ ks, Tr w h k ∧ k.good = true) (hb : Below w.heap.size w w7) (hms : ∀ k ∈ ms, Tr w7 h k ∧ k.good = true)
    (hf : flat (ks.take i) ++ flat ms ++ flat (ks.drop j) = L) (hid : s.ids = s.b :: idsOf ks) (hfew : FewNew s.ids q (idsOf ms)) (hij : i ≤ j) (hj : j ≤ ks.length) : Parts w7 (h + 1) u L (i + ms.length + (ks.length - j)) s.ids q := by
  refine ⟨ks.take i ++ ms ++ ks.drop j, hpt, ?_, fun y hy => ?_, by rw [flat_append, flat_append, hf], few_repl hfew fun y hy => by rw [hid]; exact List.mem_cons_of_mem _ hy⟩
  · rw [List.length_append, List.length_append, List.length_take, List.length_drop]
    omega
  · rcases List.mem_append.1 hy with hy | hy
    · rcases List.mem_append.1 hy with hy | hy
      · have := hks y (List.mem_of_mem_take hy)
        exact ⟨this.1.below hb, this.2⟩
      · exact hms y hy
    · have := hks y (List.mem_of_mem_drop hy)
      exact ⟨this.1.below hb, this.2⟩
theorem flat_take_succ {ks : List ST} {i : Nat} {k : ST} (h : ks[i]? = some k) : flat (ks.take (i + 1)) = flat (ks.take i) ++ k.l := by
  rw [List.take_add_one, h, flat_append]
  simp [flat]
theorem flat_drop_one {ks : List ST} {i : Nat} {k : ST} (h : ks[i]? = some k) : flat (ks.drop i) = k.l ++ flat (ks.drop (i + 1)) := by
  have hi := (List.getElem?_eq_some_iff.1 h).1
  rw [List.drop_eq_getElem_cons hi, (List.getElem?_eq_some_iff.1 h).2]
  rfl

end Go.Proofs.Ytcoaloignmkemaa
