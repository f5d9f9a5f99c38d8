/-
  Nodes that were laid and told; a set that was told pages of a node (Add, whichever set), and what abides; conditions stand at each.
-/
import Derived.Test.YtelenboncejdaaaGreatDoorShPgPure
namespace Go.Proofs.YtelenboncejdaaaGreatDoor
open Go.RowKit Go.Sort
open Rt (Fx Stp)
set_option linter.unusedVariables false
set_option linter.unusedSimpArgs false

/-- Nodes laid and told so far: their pointers in a row, told's list. -/
structure Ld1 (wB : World) (sb : Nat) (v8 v9 : Value) (l : List (Nat × Nat)) (W : World) : Prop where
  row : OwnP W wB.heap.size v8 (l.map fun x => some x.1)
  memo : Memo W wB.heap.size sb v9 l
  bel : Below wB.heap.size wB W
  inj : l.Pairwise fun a b => a.1 ≠ b.1 ∧ a.2 ≠ b.2
theorem Ld1.next {wB W2 W3 : World} {sb : Nat} {v8 v9 v' : Value} {l : List (Nat × Nat)} {b r : Nat} (hrow : OwnP W2 wB.heap.size v8 ((l ++ [(b, r)]).map fun x => some x.1)) (hbel : Below wB.heap.size wB W2) (hsb : wB.heap.size ≤ sb)
    (hm2 : Memo W2 wB.heap.size sb v9 l) (hinj : l.Pairwise fun a b => a.1 ≠ b.1 ∧ a.2 ≠ b.2) (hb : ∀ x ∈ l, x.1 ≠ b) (hr : W2.heap.size ≤ r) (hm : Memo W3 wB.heap.size sb v' (l ++ [(b, r)])) (hst : Stp (XM sb v9) W2 (XM sb v') W3) :
    Ld1 wB sb v8 v' (l ++ [(b, r)]) W3 := by
  refine ⟨hrow.keep fun g hg hl => hst.same g hl fun hx => ?_, hm, ⟨hst.fx.os.trans hbel.os, hst.fx.tape.trans hbel.tape, hst.fx.output.trans hbel.output, Nat.le_trans hbel.size hst.fx.size, fun i hi => ?_⟩, ?_⟩
  · obtain ⟨cur, hcur⟩ := own_cells hrow g hg
    rcases hx with rfl | hx
    · rw [hm2.box] at hcur
      cases hcur
    · obtain ⟨cur2, hcur2⟩ := own_cells hm2.row g hx
      rw [hcur] at hcur2
      cases hcur2
  · refine (hst.same i (Nat.lt_of_lt_of_le hi hbel.size) fun hx => ?_).trans (hbel.block i hi)
    rcases hx with rfl | hx
    · omega
    · have := hm2.row.at_block i hx
      omega
  · refine List.pairwise_append.2 ⟨hinj, List.pairwise_singleton _ _, fun x hx y hy => ?_⟩
    rw [List.mem_singleton.1 hy]
    refine ⟨hb x hx, fun e => ?_⟩
    obtain ⟨_, u, z, h2⟩ := hm2.nodes x hx
    have := lt_of_block h2
    simp only at e
    omega
theorem Ld1.alike {wB W : World} {sb : Nat} {v8 v9 : Value} {l : List (Nat × Nat)} (h : Ld1 wB sb v8 v9 l W) : ∀ p ∈ l, ∀ p' ∈ l, p.1 = p'.1 ↔ p.2 = p'.2 := fun p hp p' hp' => by
  have hi := h.inj
  rw [List.pairwise_iff_getElem] at hi
  obtain ⟨i, hil, rfl⟩ := List.getElem_of_mem hp
  obtain ⟨j, hjl, rfl⟩ := List.getElem_of_mem hp'
  rcases Nat.lt_trichotomy i j with hlt | he | hgt
  · exact ⟨fun e => absurd e (hi i j hil hjl hlt).1, fun e => absurd e (hi i j hil hjl hlt).2⟩
  · subst he
    exact ⟨fun _ => rfl, fun _ => rfl⟩
  · exact ⟨fun e => absurd e.symm (hi j i hjl hil hgt).1, fun e => absurd e.symm (hi j i hjl hil hgt).2⟩
theorem Ld1.first {wB W : World} {sb : Nat} {v8 v9 : Value} {l : List (Nat × Nat)} (h : Ld1 wB sb v8 v9 l W) {i : Nat} {x : Nat × Nat} (hx : l[i]? = some x) : ∀ (j : Nat) (y : Nat × Nat), j < i → l[j]? = some y → y.1 ≠ x.1 := fun j y hj hy => by
  have hi := h.inj
  rw [List.pairwise_iff_getElem] at hi
  obtain ⟨hil, rfl⟩ := List.getElem?_eq_some_iff.1 hx
  obtain ⟨hjl, rfl⟩ := List.getElem?_eq_some_iff.1 hy
  exact (hi j i hjl hil hj).1
/-- Add, of whichever set. -/
theorem addAny {wL W : World} {F : Nat → Prop} {g b n c : Nat} {o : Option Nat} {R : List PR} {N : NR} {A : Option Addr} {l : List Int} (hp : PB W g o R) (hk : Keep F wL W) (ho : ∀ m, o = some m → F m ∨ wL.heap.size ≤ m) (hg : F g) (hb : NodeAt W b N) (hr : Ls icell W A l) (hn : l.length = n) (hl : n ≤ 1000000)
    (hag : ∀ ad, A = some ad → 0 < l.length → ad.block ≠ g) :
    Calls Tryz.prog 38 #[.pointer (some ⟨g, 0, none⟩), pn b, .slice A n c] W fun e w' => e = .returned (.tuple #[]) ∧ ∃ o' v, PB w' g o' (addR R b v l) ∧ Keep F wL w' ∧ (∀ m, o' = some m → F m ∨ wL.heap.size ≤ m) ∧ Pst 82 W w' := by
  cases o with
  | some m =>
    refine (add_some hp hb hr hn hl).mono ?_
    rintro e w' ⟨rfl, v, h1, _, h3⟩
    refine ⟨rfl, some m, v, h1, ⟨h3.os.trans hk.os, h3.tape.trans hk.tape, h3.output.trans hk.output, Nat.le_trans hk.size h3.size, fun i hi hf => (h3.block i (Nat.lt_of_lt_of_le hi hk.size) fun e => ?_).trans (hk.block i hi hf)⟩, ho, Pst.of_keep h3 fun i cs t hi hcs => ?_⟩
    · subst e
      rcases ho i rfl with h | h
      · exact hf h
      · omega
    · subst hi
      have hm := hp.map i rfl
      unfold MapIs at hm
      rw [hcs] at hm
      cases hm
  | none =>
    refine (add_zero hp hb hr hn hl hag).mono ?_
    rintro e w' ⟨rfl, v, m, h1, h2, _, h3⟩
    refine ⟨rfl, some m, v, h1, ⟨h3.os.trans hk.os, h3.tape.trans hk.tape, h3.output.trans hk.output, Nat.le_trans hk.size h3.size, fun i hi hf => (h3.block i (Nat.lt_of_lt_of_le hi hk.size) fun e => ?_).trans (hk.block i hi hf)⟩, (fun k hk' => ?_), Pst.of_keep h3 fun i cs t hi hcs => ?_⟩
    · subst e
      exact hf hg
    · cases hk'
      exact .inr (Nat.le_trans hk.size h2)
    · subst hi
      have hm := hp.box
      rw [hcs] at hm
      cases hm
      rfl
theorem row_ls {α : Type} {f : α → List Value} {k : Nat} {t : TypeId} {w : World} {base n c : Nat} {A : Option Addr} {l : List α} (h : OwnL f t k w base (.slice A n c) l) : Ls f w A l := by
  obtain ⟨A', c', e, _, hl⟩ := h.form
  injection e with e1 e2 e3
  rw [e1]
  exact hl
/-- What was told is of the argument. -/
def FromL (L : List SL) (K : List KN) : Prop := ∀ x ∈ K, ∃ y ∈ L, y.A = x.A ∧ y.l = x.l
theorem FromL.arg {W : World} {A : Option Addr} {n c : Nat} {L : List SL} {K : List KN} (h : FromL L K) (ha : ArgSL W A n c L) {B : Option Addr} {m : Nat} (hl : Ls pcKn W B K) (hm : K.length = m) : ArgK W B m K :=
  ⟨hm, hl, fun x hx => by
    obtain ⟨y, hy, h1, h2⟩ := h x hx
    have := (ha.ok y hy).ls
    rw [h1, h2] at this
    exact this⟩
/-- A round of the row: what was told to the set, to the reference's list. -/
structure Pg2 (wL : World) (base : Nat) (F : Nat → Prop) (g i : Nat) (q : List (Nat × Nat)) (L : List SL) (o : Option Nat) (R : List PR) (K : List KN) (v : Value) (W : World) : Prop where
  keep : Keep F wL W
  pb : PB W g o R
  out : ∀ m, o = some m → F m ∨ wL.heap.size ≤ m
  cor : Cor R K q
  row : OwnL pcKn 76 2 W base v K
  fromL : FromL L K
  fewR : ∀ r ∈ R, r.l.length ≤ 100
  fewK : ∀ x ∈ K, x.l.length ≤ 100
  lenR : R.length ≤ i
  lenK : K.length ≤ i
theorem neq_rn {a b : Nat} {w : World} {u v u' v' : Value} (ha : RefAt w a u v) (hb : RefAt w b u' v') : (binOp .neq 67 (.pointer (some ⟨a, 0, none⟩)) (.pointer (some ⟨b, 0, none⟩))).run Tryz.prog w = .ok (.bool (!decide (a = b))) w := by
  simp only [binOp]
  simp [equal_rn ha hb]
theorem knInfo : (Tryz.prog.info? 76).map (fun i => (i.zero, i.size, i.bytes)) = some (some (.agg #[.pointer none, .slice none 0 0]), 2, 32) := by kernel_rfl

end Go.Proofs.YtelenboncejdaaaGreatDoor
