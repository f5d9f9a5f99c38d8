/-
  The contract of lies of the rows of layer 14: each page is one node's alone; conditions: the tree and both sets of pages lie in memory, the pages are apart.
-/
import Derived.Test.YtelenboncejdaaaGreatDoorShKnown
namespace Go.Proofs.YtelenboncejdaaaGreatDoor
open Go.RowKit Go.Sort
open Rt (Fx Stp)
set_option linter.unusedVariables false
set_option linter.unusedSimpArgs false

/-- The pages of nodes; how many of them are known. -/
def pl (M : PM) (L : List PN) : List Int := L.flatMap fun P => pgs M P.b
def cntP (M : PM) (L : List PN) : Nat := (L.map fun P => (pgs M P.b).length).sum
theorem pl_append (M : PM) (a b : List PN) : pl M (a ++ b) = pl M a ++ pl M b := by simp [pl]
theorem cntP_append (M : PM) (a b : List PN) : cntP M (a ++ b) = cntP M a + cntP M b := by simp [cntP]
/-- What lies is told: how many, and which pages were seen. -/
structure LS (wq : World) (mb sb : Nat) (x : Int) (f : Nat → Bool) (W : World) : Prop where
  bel : Below wq.heap.size wq W
  box : W.heap[mb]? = some (.cells #[.int .i64 x] 3 (0, 0))
  row : ∃ cs, W.heap[sb]? = some (.cells cs 4 (0, 0)) ∧ cs.size = 512 ∧ ∀ i, i < 512 → cs[i]? = some (.bool (f i))
  bm : wq.heap.size ≤ mb
  bs : wq.heap.size ≤ sb
section
variable {wq W W' : World} {mb sb : Nat} {x : Int} {f : Nat → Bool}
theorem LS.below (h : LS wq mb sb x f W) (hb : Below W.heap.size W W') : LS wq mb sb x f W' := by
  obtain ⟨cs, h1, h2⟩ := h.row
  exact ⟨h.bel.trans (hb.mono h.bel.size), (hb.block _ (lt_of_block h.box)).trans h.box, ⟨cs, (hb.block _ (lt_of_block h1)).trans h1, h2⟩, h.bm, h.bs⟩
theorem LS.mlt (h : LS wq mb sb x f W) : mb < W.heap.size := lt_of_block h.box
theorem LS.slt (h : LS wq mb sb x f W) : sb < W.heap.size := by
  obtain ⟨cs, h1, _⟩ := h.row
  exact lt_of_block h1
theorem LS.ne (h : LS wq mb sb x f W) : mb ≠ sb := fun e => by
  obtain ⟨cs, h1, _⟩ := h.row
  rw [← e, h.box] at h1
  cases h1
theorem LS.seen (h : LS wq mb sb x f W) {i : Nat} (hi : i < 512) : W.cell? ⟨sb, i, none⟩ = some (.bool (f i)) := by
  obtain ⟨cs, h1, _, h3⟩ := h.row
  exact cell_at h1 _ _ (h3 i hi)
theorem LS.free (h : LS wq mb sb x f W) (i : Nat) : W.frozen? ⟨sb, i, none⟩ = false := by
  obtain ⟨cs, h1, _⟩ := h.row
  exact free_at h1 i
theorem LS.count (h : LS wq mb sb x f W) (y : Int) : LS wq mb sb y f (W.setCell ⟨mb, 0, none⟩ (.int .i64 y)) := by
  obtain ⟨cs, h1, h2⟩ := h.row
  refine ⟨⟨h.bel.os, h.bel.tape, h.bel.output, by simpa [World.setCell] using h.bel.size, fun k hk => ?_⟩, ?_, ⟨cs, ?_, h2⟩, h.bm, h.bs⟩
  · rw [Below.heap_setCell _ _ _ _ (by have := h.bm; simp only; omega)]
    exact h.bel.block k hk
  · have := blk_set h.box 0 (.int .i64 y)
    exact this
  · rw [Below.heap_setCell _ _ _ _ (fun e => h.ne e.symm)]
    exact h1
theorem LS.mark (h : LS wq mb sb x f W) {i : Nat} (hi : i < 512) : LS wq mb sb x (mark1 f i) (W.setCell ⟨sb, i, none⟩ (.bool true)) := by
  obtain ⟨cs, h1, h2, h3⟩ := h.row
  refine ⟨⟨h.bel.os, h.bel.tape, h.bel.output, by simpa [World.setCell] using h.bel.size, fun k hk => ?_⟩, ?_, ⟨_, blk_set h1 i _, by simpa using h2, fun j hj => ?_⟩, h.bm, h.bs⟩
  · rw [Below.heap_setCell _ _ _ _ (by have := h.bs; simp only; omega)]
    exact h.bel.block k hk
  · rw [Below.heap_setCell _ _ _ _ h.ne]
    exact h.box
  · unfold mark1
    by_cases hij : j = i
    · subst hij
      rw [Array.getElem?_setIfInBounds_self_of_lt (by omega)]
      simp
    · rw [Array.getElem?_setIfInBounds_ne (by omega), h3 j hj]
      simp [hij]
theorem LS.congr {g : Nat → Bool} (h : LS wq mb sb x f W) (hg : ∀ i, f i = g i) : LS wq mb sb x g W := by
  rw [show g = f from (funext hg).symm]
  exact h
end
def FF (mb sb : Nat) : Nat → Prop := fun k => k = mb ∨ k = sb
theorem keep_set {mb sb : Nat} {W : World} (p : Addr) (u : Value) (hp : p.block = mb ∨ p.block = sb) : Keep (FF mb sb) W (W.setCell p u) :=
  ⟨rfl, rfl, rfl, by simp [World.setCell], fun k _ hk => Below.heap_setCell _ _ _ _ fun e => hk (by rw [e]; exact hp)⟩
/-- What lies answers. -/
def LiesPost (wq : World) (Mp Mq : PM) (mb sb : Nat) (L : List PN) (x : Int) (f : Nat → Bool) (W : World) (e : Ending) (W' : World) : Prop :=
  e = .returned (.bool true) ∧ ∃ g, LS wq mb sb (x + cntP Mp L) g W' ∧ (∀ i, g i = (f i || decide ((i : Int) ∈ pl Mq L))) ∧ Keep (FF mb sb) W W'
theorem own_ls {w : World} {base : Nat} {A : Option Addr} {n c : Nat} {l : List Int} (h : OwnI w base (.slice A n c) l) : Ls icell w A l ∧ l.length = n := by
  obtain ⟨A', c', e, _, hr⟩ := h.form
  cases e
  exact ⟨hr, rfl⟩

theorem not_mem_take_nodup {l : List Int} (h : l.Nodup) {i : Nat} {y : Int} (hy : l[i]? = some y) : y ∉ l.take i := fun hm => by
  obtain ⟨j, hj⟩ := List.getElem?_of_mem hm
  have hji : j < i := by
    have := (List.getElem?_eq_some_iff.1 hj).1
    rw [List.length_take] at this
    omega
  rw [List.getElem?_take_of_lt hji] at hj
  obtain ⟨h1, e1⟩ := List.getElem?_eq_some_iff.1 hy
  obtain ⟨h2, e2⟩ := List.getElem?_eq_some_iff.1 hj
  exact List.pairwise_iff_getElem.1 h j i h2 h1 hji (e2.trans e1.symm)
theorem Ls.lt_of {α : Type} {f : α → List Value} {w : World} {A : Option Addr} {l : List α} (h : Ls f w A l) (ad : Addr) (e : A = some ad) (h0 : 0 < l.length) : ad.block < w.heap.size := by
  obtain ⟨a, e1, h1, _⟩ := h h0
  rw [e] at e1
  cases e1
  exact h1

end Go.Proofs.YtelenboncejdaaaGreatDoor
