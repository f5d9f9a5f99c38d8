/-
  Nodes as they lie in memory: their boxes, lists of pointers and of kids, append of a whole list onto a row of the call's own; conditions stand at each.
-/
import Derived.Test.YtkooaechcbopnaaNodePure
import Derived.Test.YtkooaechcbopnaaPairRoom
import Derived.Test.YtkooaechcbopnaaLs
import Derived.Test.YtkooaechcbopnaaRooms
namespace Go.Proofs.Ytkooaechcbopnaa
open Go.RowKit Go.Sort
set_option linter.unusedVariables false

/-- A node: its two slices, its height, its ends, whether a node below lacks something. -/
structure NR where
  ea : Option Addr
  en : Nat
  ec : Nat
  ka : Option Addr
  kn : Nat
  kc : Nat
  h : Nat
  lo : ByteArray
  hi : ByteArray
  lk : Bool
def NR.cells (N : NR) : Array Value := #[.slice N.ea N.en N.ec, .slice N.ka N.kn N.kc, .int .i64 (N.h : Int), .string N.lo, .string N.hi, .bool N.lk]
def NR.zero : NR := ⟨none, 0, 0, none, 0, 0, 0, ByteArray.empty, ByteArray.empty, false⟩
/-- What is known of it as a kid. -/
def NR.kr (N : NR) : KR := ⟨N.h, N.lo, N.hi, !N.lk, decide ((if N.h = 1 then 2 else 3) ≤ N.en + N.kn)⟩
def NodeAt (w : World) (b : Nat) (N : NR) : Prop := w.heap[b]? = some (.cells N.cells 93 (0, 0))
section
variable {w w' : World} {b : Nat} {N : NR}
theorem NodeAt.lt (h : NodeAt w b N) : b < w.heap.size := lt_of_block h
theorem NodeAt.keep (h : NodeAt w b N) (hb : w'.heap[b]? = w.heap[b]?) : NodeAt w' b N := hb.trans h
theorem NodeAt.below (h : NodeAt w b N) (hb : Below w.heap.size w w') : NodeAt w' b N := h.keep (hb.block b h.lt)
theorem cell_row {w : World} {g : Nat} {cs : Array Value} {t : TypeId} (h : w.heap[g]? = some (.cells cs t (0, 0))) (j : Nat) (u : Value) (hu : cs[j]? = some u) : w.cell? ⟨g, j, none⟩ = some u := (cell_of_row w g j _ _ _ h).trans hu
theorem NodeAt.c0 (h : NodeAt w b N) : w.cell? ⟨b, 0, none⟩ = some (.slice N.ea N.en N.ec) := cell_row h 0 _ rfl
theorem NodeAt.c1 (h : NodeAt w b N) : w.cell? ⟨b, 1, none⟩ = some (.slice N.ka N.kn N.kc) := cell_row h 1 _ rfl
theorem NodeAt.c2 (h : NodeAt w b N) : w.cell? ⟨b, 2, none⟩ = some (.int .i64 (N.h : Int)) := cell_row h 2 _ rfl
theorem NodeAt.c3 (h : NodeAt w b N) : w.cell? ⟨b, 3, none⟩ = some (.string N.lo) := cell_row h 3 _ rfl
theorem NodeAt.c4 (h : NodeAt w b N) : w.cell? ⟨b, 4, none⟩ = some (.string N.hi) := cell_row h 4 _ rfl
theorem NodeAt.c5 (h : NodeAt w b N) : w.cell? ⟨b, 5, none⟩ = some (.bool N.lk) := cell_row h 5 _ rfl
theorem NodeAt.new (w : World) (N : NR) : NodeAt (w.alloc (.cells N.cells 93)) w.heap.size N := heap_alloc_new w _
end

/-- Pointers to nodes as cells. -/
def ptr (p : Option Nat) : Value := .pointer (p.map fun b => ⟨b, 0, none⟩)
def pcP (p : Option Nat) : List Value := [ptr p]
theorem encP : Enc pcP 1 := ⟨fun _ => rfl, fun x u hu => by simp only [pcP, List.mem_singleton] at hu; subst hu; rfl⟩
/-- Kids as cells. -/
def pcKd (k : KR) : List Value := [.int .i64 (k.h : Int), .string k.lo, .string k.hi, .bool k.full, .bool k.enough]
theorem encKd : Enc pcKd 5 := ⟨fun _ => rfl, fun x u hu => by
  simp only [pcKd, List.mem_cons, List.not_mem_nil, or_false] at hu
  rcases hu with rfl | rfl | rfl | rfl | rfl <;> rfl⟩
def kidV (k : KR) : Value := .agg #[.int .i64 (k.h : Int), .string k.lo, .string k.hi, .bool k.full, .bool k.enough]

theorem Ls.ptr_at {w : World} {A : Option Addr} {l : List (Option Nat)} (h : Ls pcP w A l) {i : Nat} (hi : i < l.length) : ∃ ad p, A = some ad ∧ l[i]? = some p ∧ ad.block < w.heap.size ∧ w.cell? (ad.add i) = some (ptr p) := by
  obtain ⟨ad, p, e, hp, hl, hc⟩ := h.at_ encP hi
  refine ⟨ad, p, e, hp, hl, ?_⟩
  have := hc 0 (ptr p) (by omega) rfl
  rw [add_of_add] at this
  simpa using this
theorem Ls.kid_at {w : World} {A : Option Addr} {l : List KR} (h : Ls pcKd w A l) {i : Nat} (hi : i < l.length) : ∃ ad k, A = some ad ∧ l[i]? = some k ∧ ad.block < w.heap.size ∧ w.cell? (ad.add (i * 5)) = some (.int .i64 (k.h : Int)) ∧
    w.cell? ⟨(ad.add (i * 5)).block, (ad.add (i * 5)).off + 1, none⟩ = some (.string k.lo) ∧ w.cell? ⟨(ad.add (i * 5)).block, (ad.add (i * 5)).off + 2, none⟩ = some (.string k.hi) ∧
    w.cell? ⟨(ad.add (i * 5)).block, (ad.add (i * 5)).off + 3, none⟩ = some (.bool k.full) ∧ w.cell? ⟨(ad.add (i * 5)).block, (ad.add (i * 5)).off + 4, none⟩ = some (.bool k.enough) := by
  obtain ⟨ad, k, e, hp, hl, hc⟩ := h.at_ encKd hi
  have hz : w.cell? (ad.add (i * 5)) = some (.int .i64 (k.h : Int)) := by
    have := hc 0 (.int .i64 (k.h : Int)) (by omega) rfl
    rw [add_of_add] at this
    simpa using this
  exact ⟨ad, k, e, hp, hl, hz, hc 1 (.string k.lo) (by omega) rfl, hc 2 (.string k.hi) (by omega) rfl, hc 3 (.bool k.full) (by omega) rfl, hc 4 (.bool k.enough) (by omega) rfl⟩

theorem Ls.take_ {α : Type} {f : α → List Value} {w : World} {A : Option Addr} {l : List α} (h : Ls f w A l) (i : Nat) : Ls f w A (l.take i) := fun h0 => by
  obtain ⟨ad, e, hlt, hc⟩ := h (by rw [List.length_take] at h0; omega)
  refine ⟨ad, e, hlt, fun j u hu => hc j u ?_⟩
  have hl : l.flatMap f = (l.take i).flatMap f ++ (l.drop i).flatMap f := by rw [← List.flatMap_append, List.take_append_drop]
  rw [hl, List.getElem?_append_left (List.getElem?_eq_some_iff.1 hu).1]
  exact hu
theorem Ls.cut {α : Type} {f : α → List Value} {m : Nat} (he : Enc f m) {w : World} {A : Option Addr} {l : List α} (h : Ls f w A l) {k c : Nat} (hc : l.length ≤ c) : Ls f w (if c = k then A else A.map (·.add (k * m))) (l.drop k) := fun h0 => by
  rw [List.length_drop] at h0
  obtain ⟨ad, rfl, hlt, hcl⟩ := h (by omega)
  rw [if_neg (by omega)]
  refine ⟨_, rfl, by rw [block_of_add]; exact hlt, fun j u hu => ?_⟩
  have hl : l.flatMap f = (l.take k).flatMap f ++ (l.drop k).flatMap f := by rw [← List.flatMap_append, List.take_append_drop]
  rw [add_of_add]
  refine hcl _ u ?_
  rw [hl, List.getElem?_append_right (by rw [he.flen, List.length_take]; rw [show min k l.length = k by omega]; omega), he.flen, List.length_take, show min k l.length = k by omega, Nat.add_sub_cancel_left]
  exact hu

/-- append(v, s...): onto a row of the call's own. -/
theorem run_append_ls {α : Type} {f : α → List Value} {k : Nat} (he : Enc f k) (ts t ty : TypeId) (z : Value) (by_ : Nat) (hu : ∃ d, Try.prog.underlying ts = some d ∧ d = .slice t) (hi : (Try.prog.info? t).map (fun i => (i.zero, i.size, i.bytes)) = some (some z, k, by_)) (hz : z.cells.size = k) (hk : 0 < k) (hby : by_ ≤ 1000)
    {w : World} {base : Nat} {v : Value} {xs : List α} (hown : OwnL f t k w base v xs) {A : Option Addr} {l : List α} (n c : Nat) (hr : Ls f w A l) (hn : l.length = n) (hb : xs.length + n ≤ 1000000) (hbase : base ≤ w.heap.size) :
    ∃ v' w', (Builtin.append_ #[ts, ts] ty #[v, .slice A n c]).run Try.prog w = .ok v' w' ∧ OwnL f t k w' base v' (xs ++ l) ∧ w.grownBy w' v.ownBlock := by
  subst hn
  obtain ⟨i0, hi0, hz0, hz1, hz2⟩ := info_parts hi
  obtain ⟨d, hu, rfl⟩ := hu
  rcases A with _ | ad
  · have h0 : l = [] := by
      rcases Nat.eq_zero_or_pos l.length with h0 | h0
      · exact List.eq_nil_of_length_eq_zero h0
      · obtain ⟨ad, e, _⟩ := hr h0
        cases e
    subst h0
    refine ⟨v, w, ?_, by simpa using hown, World.grownBy.refl w _⟩
    rcases hown.2 with ⟨rfl, h1⟩ | ⟨g, cap, cur, rfl, _, _, hnc, _⟩
    · simp [Builtin.append_, run_underlying hu, sizeOf, typeInfo, hi0, Builtin.lenOf, Builtin.firstCells]
    · simp [Builtin.append_, run_underlying hu, sizeOf, typeInfo, hi0, Builtin.lenOf, Builtin.firstCells, hnc, storeCells]
  · have hcells : ∀ j u, (l.flatMap f)[j]? = some u → w.cell? (ad.add j) = some u := by
      intro j u hu
      have hl : 0 < l.length := by
        have := (List.getElem?_eq_some_iff.1 hu).1
        rw [he.flen] at this
        rcases Nat.eq_zero_or_pos l.length with h0 | h0
        · rw [h0] at this
          omega
        · exact h0
      obtain ⟨ad', e, _, hc⟩ := hr hl
      cases e
      exact hc j u hu
    obtain ⟨v', w', h1, h2, h3, _⟩ := run_append_own (P := Try.prog) w base ts ty t i0 z k by_ hu hi0 hz0 hz1 hz2 hz hk v xs.length (xs.flatMap f) hown ad l.length c (l.flatMap f) (he.flen l) hcells (he.fone l) (by simp only [maxLen]; omega) (by
      have : (xs.length + l.length) * by_ ≤ 1000000 * 1000 := Nat.mul_le_mul (by omega) hby
      omega) hbase
    refine ⟨v', w', h1, ?_, h3⟩
    unfold OwnL
    rw [List.flatMap_append, List.length_append]
    exact h2

theorem ptrInfo : (Try.prog.info? 26).map (fun i => (i.zero, i.size, i.bytes)) = some (some (.pointer none), 1, 8) := by kernel_rfl
abbrev OwnP (w : World) (base : Nat) (v : Value) (l : List (Option Nat)) : Prop := OwnL pcP 26 1 w base v l
/-- An empty row. -/
theorem OwnL.empty {α : Type} {f : α → List Value} {k : Nat} (t : TypeId) (w : World) : OwnL f t k (w.alloc (.cells #[] t)) w.heap.size (.slice (some ⟨w.heap.size, 0, none⟩) 0 0) ([] : List α) :=
  ⟨by simp, .inr ⟨w.heap.size, 0, #[], rfl, Nat.le_refl _, heap_alloc_new w _, Nat.zero_le _, by simp only [maxLen]; omega, by simp, by simp⟩⟩
theorem Own.empty (w : World) : Own (w.alloc (.cells #[] 39)) w.heap.size (.slice (some ⟨w.heap.size, 0, none⟩) 0 0) [] :=
  ⟨rfl, .inr ⟨w.heap.size, 0, #[], rfl, Nat.le_refl _, heap_alloc_new w _, Nat.zero_le _, by simp only [maxLen]; omega, by simp, rfl⟩⟩
/-- A row in a new block only: nothing older has turned. -/
theorem grown_new {a w w' : World} {v : Value} (hb : Below a.heap.size a w) (hs : ∀ g, v.ownBlock = some g → a.heap.size ≤ g) (hg : w.grownBy w' v.ownBlock) : Below a.heap.size a w' := hb.grown hg hb.size hs

end Go.Proofs.Ytkooaechcbopnaa
