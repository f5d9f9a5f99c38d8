/-
  Several texts in one: NodePure, NodeMem, NodeGet, NodeLeaf, NodeBranch, NodeHelp, Grow. Each says what it proves, and under which conditions.
-/
import Derived.Test.YtelenboncejdaaaGreatDoorK6
import Derived.LaidEql

/-
  Nodes, without a program: what is known of a kid, when a leaf and a branch can be, what is known of a branch; no condition beyond those stated.
-/
namespace Go.Proofs.YtelenboncejdaaaGreatDoor
open Go.RowKit Go.Sort
set_option linter.unusedVariables false

/-- What is known of a kid. -/
structure KR where
  h : Nat
  lo : ByteArray
  hi : ByteArray
  full : Bool
  enough : Bool
def KR.zero : KR := ⟨0, ByteArray.empty, ByteArray.empty, true, false⟩

/-- An entry that may stand in a leaf; a leaf that can be. -/
def okE (e : Ent) : Bool := decide (keyNo e.k = 0) && decide (valNo e.v = 0)
def okLeaf (l : List Ent) : Bool := decide (1 ≤ l.length) && decide (l.length ≤ 4) && l.all okE && decide (Sorted l)
theorem okLeaf_len {l : List Ent} (h : okLeaf l = true) : 1 ≤ l.length ∧ l.length ≤ 4 := by
  simp only [okLeaf, Bool.and_eq_true, decide_eq_true_eq] at h
  exact ⟨h.1.1.1, h.1.1.2⟩
theorem okLeaf_short {l : List Ent} (h : l.length < 1) : okLeaf l = false := by
  unfold okLeaf
  rw [decide_eq_false (show ¬ 1 ≤ l.length by omega)]
  rfl
theorem okLeaf_long {l : List Ent} (h : 4 < l.length) : okLeaf l = false := by
  unfold okLeaf
  rw [decide_eq_false (show ¬ l.length ≤ 4 by omega)]
  simp
theorem okLeaf_bad {l : List Ent} {e : Ent} (he : e ∈ l) (h : okE e = false) : okLeaf l = false := by
  unfold okLeaf
  rw [show l.all okE = false from Bool.eq_false_iff.2 fun hh => by rw [List.all_eq_true.1 hh e he] at h; cases h]
  simp
theorem okLeaf_wild {l : List Ent} (h : ¬ Sorted l) : okLeaf l = false := by
  unfold okLeaf
  rw [decide_eq_false h]
  simp
theorem okLeaf_good {l : List Ent} (h1 : 1 ≤ l.length) (h4 : l.length ≤ 4) (h : ∀ e ∈ l, okE e = true) : okLeaf l = decide (Sorted l) := by
  unfold okLeaf
  rw [decide_eq_true h1, decide_eq_true h4, List.all_eq_true.2 h]
  simp
theorem okLeaf_sorted {l : List Ent} (h : okLeaf l = true) : Sorted l := by
  simp only [okLeaf, Bool.and_eq_true, decide_eq_true_eq] at h
  exact h.2

/-- The heights are alike and the keys rise from kid to kid. -/
def adjK : List KR → Bool
  | a :: b :: l => decide (a.h = b.h) && decide (kl a.hi b.lo) && adjK (b :: l)
  | _ => true
def okBr (l : List KR) : Bool := decide (2 ≤ l.length) && decide (l.length ≤ 6) && adjK l
theorem adjK_iff : ∀ l : List KR, adjK l = true ↔ ∀ (j : Nat) (a b : KR), l[j]? = some a → l[j + 1]? = some b → a.h = b.h ∧ kl a.hi b.lo
  | [] => by simp [adjK]
  | [x] => by simp [adjK]
  | x :: y :: l => by
    rw [adjK]
    simp only [Bool.and_eq_true, decide_eq_true_eq, adjK_iff (y :: l)]
    constructor
    · rintro ⟨⟨h1, h2⟩, h3⟩ j a b ha hb
      cases j with
      | zero =>
        simp at ha hb
        subst ha hb
        exact ⟨h1, h2⟩
      | succ j => exact h3 j a b (by simpa using ha) (by simpa using hb)
    · intro h
      exact ⟨h 0 x y rfl rfl, fun j a b ha hb => h (j + 1) a b (by simpa using ha) (by simpa using hb)⟩
theorem okBr_short {l : List KR} (h : l.length < 2) : okBr l = false := by
  unfold okBr
  rw [decide_eq_false (show ¬ 2 ≤ l.length by omega)]
  rfl
theorem okBr_long {l : List KR} (h : 6 < l.length) : okBr l = false := by
  unfold okBr
  rw [decide_eq_false (show ¬ l.length ≤ 6 by omega)]
  simp
theorem okBr_bad {l : List KR} {j : Nat} {a b : KR} (ha : l[j]? = some a) (hb : l[j + 1]? = some b) (h : ¬ (a.h = b.h ∧ kl a.hi b.lo)) : okBr l = false := by
  unfold okBr
  rw [show adjK l = false from Bool.eq_false_iff.2 fun hh => h ((adjK_iff l).1 hh j a b ha hb)]
  simp
theorem okBr_good {l : List KR} (h2 : 2 ≤ l.length) (h6 : l.length ≤ 6) (h : ∀ (j : Nat) (a b : KR), l[j]? = some a → l[j + 1]? = some b → a.h = b.h ∧ kl a.hi b.lo) : okBr l = true := by
  unfold okBr
  rw [decide_eq_true h2, decide_eq_true h6, (adjK_iff l).2 h]
  rfl
theorem okBr_len {l : List KR} (h : okBr l = true) : 2 ≤ l.length ∧ l.length ≤ 6 := by
  simp only [okBr, Bool.and_eq_true, decide_eq_true_eq] at h
  exact ⟨h.1.1, h.1.2⟩
theorem okBr_adj {l : List KR} (h : okBr l = true) : ∀ (j : Nat) (a b : KR), l[j]? = some a → l[j + 1]? = some b → a.h = b.h ∧ kl a.hi b.lo := by
  simp only [okBr, Bool.and_eq_true] at h
  exact (adjK_iff l).1 h.2
/-- All are of the first one's height. -/
theorem adj_first {l : List KR} {x : KR} (hx : l[0]? = some x) : ∀ (k : Nat) (a : KR), (∀ (j : Nat) (a b : KR), j < k → l[j]? = some a → l[j + 1]? = some b → a.h = b.h ∧ kl a.hi b.lo) → l[k]? = some a → a.h = x.h
  | 0, a, _, ha => by rw [hx] at ha; cases ha; rfl
  | k + 1, a, h, ha => by
    have hk : k < l.length := by have := (List.getElem?_eq_some_iff.1 ha).1; omega
    have h1 := adj_first hx k l[k] (fun j a b hj => h j a b (by omega)) (List.getElem?_eq_getElem hk)
    exact (h k l[k] a (by omega) (List.getElem?_eq_getElem hk) ha).1.symm.trans h1

/-- What is known of a branch. -/
def goodK (k : KR) : Bool := k.full && k.enough
def ofK (l : List KR) : KR := ⟨(l.headD .zero).h + 1, (l.headD .zero).lo, (l.getLastD .zero).hi, l.all goodK, decide (3 ≤ l.length)⟩
theorem headD_at {l : List KR} {x : KR} (h : l[0]? = some x) : l.headD .zero = x := by
  cases l with
  | nil => simp at h
  | cons y l => simpa using h
theorem lastD_at {l : List KR} {x : KR} {n : Nat} (h : l[n]? = some x) (hn : n + 1 = l.length) : l.getLastD .zero = x := by
  rw [List.getLastD_eq_getLast?, List.getLast?_eq_getElem?, show l.length - 1 = n by omega, h]
  rfl

end Go.Proofs.YtelenboncejdaaaGreatDoor

/-
  Nodes as they lie in memory: their boxes, lists of pointers and of kids, append of a whole list onto a row of the call's own; conditions stand at each.
-/
namespace Go.Proofs.YtelenboncejdaaaGreatDoor
open Go.RowKit Go.Sort
set_option linter.unusedVariables false

/-- A node: its two slices, its height, its ends, whether a node below lacks something. -/
structure NR where
  ea : Option Addr
  en : Nat
  ec : Nat
  ka : Option Addr
  kn : Nat
  kc : Nat
  h : Nat
  lo : ByteArray
  hi : ByteArray
  lk : Bool
def NR.cells (N : NR) : Array Value := #[.slice N.ea N.en N.ec, .slice N.ka N.kn N.kc, .int .i64 (N.h : Int), .string N.lo, .string N.hi, .bool N.lk]
def NR.zero : NR := ⟨none, 0, 0, none, 0, 0, 0, ByteArray.empty, ByteArray.empty, false⟩
/-- What is known of it as a kid. -/
def NR.kr (N : NR) : KR := ⟨N.h, N.lo, N.hi, !N.lk, decide ((if N.h = 1 then 2 else 3) ≤ N.en + N.kn)⟩
def NodeAt (w : World) (b : Nat) (N : NR) : Prop := w.heap[b]? = some (.cells N.cells 103 (0, 0))
section
variable {w w' : World} {b : Nat} {N : NR}
theorem NodeAt.lt (h : NodeAt w b N) : b < w.heap.size := lt_of_block h
theorem NodeAt.keep (h : NodeAt w b N) (hb : w'.heap[b]? = w.heap[b]?) : NodeAt w' b N := hb.trans h
theorem NodeAt.below (h : NodeAt w b N) (hb : Below w.heap.size w w') : NodeAt w' b N := h.keep (hb.block b h.lt)
theorem cell_row {w : World} {g : Nat} {cs : Array Value} {t : TypeId} (h : w.heap[g]? = some (.cells cs t (0, 0))) (j : Nat) (u : Value) (hu : cs[j]? = some u) : w.cell? ⟨g, j, none⟩ = some u := (cell_of_row w g j _ _ _ h).trans hu
theorem NodeAt.c0 (h : NodeAt w b N) : w.cell? ⟨b, 0, none⟩ = some (.slice N.ea N.en N.ec) := cell_row h 0 _ rfl
theorem NodeAt.c1 (h : NodeAt w b N) : w.cell? ⟨b, 1, none⟩ = some (.slice N.ka N.kn N.kc) := cell_row h 1 _ rfl
theorem NodeAt.c2 (h : NodeAt w b N) : w.cell? ⟨b, 2, none⟩ = some (.int .i64 (N.h : Int)) := cell_row h 2 _ rfl
theorem NodeAt.c3 (h : NodeAt w b N) : w.cell? ⟨b, 3, none⟩ = some (.string N.lo) := cell_row h 3 _ rfl
theorem NodeAt.c4 (h : NodeAt w b N) : w.cell? ⟨b, 4, none⟩ = some (.string N.hi) := cell_row h 4 _ rfl
theorem NodeAt.c5 (h : NodeAt w b N) : w.cell? ⟨b, 5, none⟩ = some (.bool N.lk) := cell_row h 5 _ rfl
theorem NodeAt.new (w : World) (N : NR) : NodeAt (w.alloc (.cells N.cells 103)) w.heap.size N := heap_alloc_new w _
end

/-- Pointers to nodes as cells. -/
def ptr (p : Option Nat) : Value := .pointer (p.map fun b => ⟨b, 0, none⟩)
def pcP (p : Option Nat) : List Value := [ptr p]
theorem encP : Enc pcP 1 := ⟨fun _ => rfl, fun x u hu => by simp only [pcP, List.mem_singleton] at hu; subst hu; rfl⟩
/-- Kids as cells. -/
def pcKd (k : KR) : List Value := [.int .i64 (k.h : Int), .string k.lo, .string k.hi, .bool k.full, .bool k.enough]
theorem encKd : Enc pcKd 5 := ⟨fun _ => rfl, fun x u hu => by
  simp only [pcKd, List.mem_cons, List.not_mem_nil, or_false] at hu
  rcases hu with rfl | rfl | rfl | rfl | rfl <;> rfl⟩
def kidV (k : KR) : Value := .agg #[.int .i64 (k.h : Int), .string k.lo, .string k.hi, .bool k.full, .bool k.enough]

theorem Ls.ptr_at {w : World} {A : Option Addr} {l : List (Option Nat)} (h : Ls pcP w A l) {i : Nat} (hi : i < l.length) : ∃ ad p, A = some ad ∧ l[i]? = some p ∧ ad.block < w.heap.size ∧ w.cell? (ad.add i) = some (ptr p) := by
  obtain ⟨ad, p, e, hp, hl, hc⟩ := h.at_ encP hi
  refine ⟨ad, p, e, hp, hl, ?_⟩
  have := hc 0 (ptr p) (by omega) rfl
  rw [add_of_add] at this
  simpa using this
theorem Ls.kid_at {w : World} {A : Option Addr} {l : List KR} (h : Ls pcKd w A l) {i : Nat} (hi : i < l.length) : ∃ ad k, A = some ad ∧ l[i]? = some k ∧ ad.block < w.heap.size ∧ w.cell? (ad.add (i * 5)) = some (.int .i64 (k.h : Int)) ∧
    w.cell? ⟨(ad.add (i * 5)).block, (ad.add (i * 5)).off + 1, none⟩ = some (.string k.lo) ∧ w.cell? ⟨(ad.add (i * 5)).block, (ad.add (i * 5)).off + 2, none⟩ = some (.string k.hi) ∧
    w.cell? ⟨(ad.add (i * 5)).block, (ad.add (i * 5)).off + 3, none⟩ = some (.bool k.full) ∧ w.cell? ⟨(ad.add (i * 5)).block, (ad.add (i * 5)).off + 4, none⟩ = some (.bool k.enough) := by
  obtain ⟨ad, k, e, hp, hl, hc⟩ := h.at_ encKd hi
  have hz : w.cell? (ad.add (i * 5)) = some (.int .i64 (k.h : Int)) := by
    have := hc 0 (.int .i64 (k.h : Int)) (by omega) rfl
    rw [add_of_add] at this
    simpa using this
  exact ⟨ad, k, e, hp, hl, hz, hc 1 (.string k.lo) (by omega) rfl, hc 2 (.string k.hi) (by omega) rfl, hc 3 (.bool k.full) (by omega) rfl, hc 4 (.bool k.enough) (by omega) rfl⟩

theorem Ls.take_ {α : Type} {f : α → List Value} {w : World} {A : Option Addr} {l : List α} (h : Ls f w A l) (i : Nat) : Ls f w A (l.take i) := fun h0 => by
  obtain ⟨ad, e, hlt, hc⟩ := h (by rw [List.length_take] at h0; omega)
  refine ⟨ad, e, hlt, fun j u hu => hc j u ?_⟩
  have hl : l.flatMap f = (l.take i).flatMap f ++ (l.drop i).flatMap f := by rw [← List.flatMap_append, List.take_append_drop]
  rw [hl, List.getElem?_append_left (List.getElem?_eq_some_iff.1 hu).1]
  exact hu
theorem Ls.cut {α : Type} {f : α → List Value} {m : Nat} (he : Enc f m) {w : World} {A : Option Addr} {l : List α} (h : Ls f w A l) {k c : Nat} (hc : l.length ≤ c) : Ls f w (if c = k then A else A.map (·.add (k * m))) (l.drop k) := fun h0 => by
  rw [List.length_drop] at h0
  obtain ⟨ad, rfl, hlt, hcl⟩ := h (by omega)
  rw [if_neg (by omega)]
  refine ⟨_, rfl, by rw [block_of_add]; exact hlt, fun j u hu => ?_⟩
  have hl : l.flatMap f = (l.take k).flatMap f ++ (l.drop k).flatMap f := by rw [← List.flatMap_append, List.take_append_drop]
  rw [add_of_add]
  refine hcl _ u ?_
  rw [hl, List.getElem?_append_right (by rw [he.flen, List.length_take]; rw [show min k l.length = k by omega]; omega), he.flen, List.length_take, show min k l.length = k by omega, Nat.add_sub_cancel_left]
  exact hu

/-- append(v, s...): onto a row of the call's own. -/
theorem run_append_ls {α : Type} {f : α → List Value} {k : Nat} (he : Enc f k) (ts t ty : TypeId) (z : Value) (by_ : Nat) (hu : ∃ d, Tryz.prog.underlying ts = some d ∧ d = .slice t) (hi : (Tryz.prog.info? t).map (fun i => (i.zero, i.size, i.bytes)) = some (some z, k, by_)) (hz : z.cells.size = k) (hk : 0 < k) (hby : by_ ≤ 1000)
    {w : World} {base : Nat} {v : Value} {xs : List α} (hown : OwnL f t k w base v xs) {A : Option Addr} {l : List α} (n c : Nat) (hr : Ls f w A l) (hn : l.length = n) (hb : xs.length + n ≤ 1000000) (hbase : base ≤ w.heap.size) :
    ∃ v' w', (Builtin.append_ #[ts, ts] ty #[v, .slice A n c]).run Tryz.prog w = .ok v' w' ∧ OwnL f t k w' base v' (xs ++ l) ∧ w.grownBy w' v.ownBlock := by
  subst hn
  obtain ⟨i0, hi0, hz0, hz1, hz2⟩ := info_parts hi
  obtain ⟨d, hu, rfl⟩ := hu
  rcases A with _ | ad
  · have h0 : l = [] := by
      rcases Nat.eq_zero_or_pos l.length with h0 | h0
      · exact List.eq_nil_of_length_eq_zero h0
      · obtain ⟨ad, e, _⟩ := hr h0
        cases e
    subst h0
    refine ⟨v, w, ?_, by simpa using hown, World.grownBy.refl w _⟩
    rcases hown.2 with ⟨rfl, h1⟩ | ⟨g, cap, cur, rfl, _, _, hnc, _⟩
    · simp [Builtin.append_, run_underlying hu, sizeOf, typeInfo, hi0, Builtin.lenOf, Builtin.firstCells]
    · simp [Builtin.append_, run_underlying hu, sizeOf, typeInfo, hi0, Builtin.lenOf, Builtin.firstCells, hnc, storeCells]
  · have hcells : ∀ j u, (l.flatMap f)[j]? = some u → w.cell? (ad.add j) = some u := by
      intro j u hu
      have hl : 0 < l.length := by
        have := (List.getElem?_eq_some_iff.1 hu).1
        rw [he.flen] at this
        rcases Nat.eq_zero_or_pos l.length with h0 | h0
        · rw [h0] at this
          omega
        · exact h0
      obtain ⟨ad', e, _, hc⟩ := hr hl
      cases e
      exact hc j u hu
    obtain ⟨v', w', h1, h2, h3, _⟩ := run_append_own (P := Tryz.prog) w base ts ty t i0 z k by_ hu hi0 hz0 hz1 hz2 hz hk v xs.length (xs.flatMap f) hown ad l.length c (l.flatMap f) (he.flen l) hcells (he.fone l) (by simp only [maxLen]; omega) (by
      have : (xs.length + l.length) * by_ ≤ 1000000 * 1000 := Nat.mul_le_mul (by omega) hby
      omega) hbase
    refine ⟨v', w', h1, ?_, h3⟩
    unfold OwnL
    rw [List.flatMap_append, List.length_append]
    exact h2

theorem ptrInfo : (Tryz.prog.info? 25).map (fun i => (i.zero, i.size, i.bytes)) = some (some (.pointer none), 1, 8) := by kernel_rfl
abbrev OwnP (w : World) (base : Nat) (v : Value) (l : List (Option Nat)) : Prop := OwnL pcP 25 1 w base v l
/-- An empty row. -/
theorem OwnL.empty {α : Type} {f : α → List Value} {k : Nat} (t : TypeId) (w : World) : OwnL f t k (w.alloc (.cells #[] t)) w.heap.size (.slice (some ⟨w.heap.size, 0, none⟩) 0 0) ([] : List α) :=
  ⟨by simp, .inr ⟨w.heap.size, 0, #[], rfl, Nat.le_refl _, heap_alloc_new w _, Nat.zero_le _, by simp only [maxLen]; omega, by simp, by simp⟩⟩
theorem Own.empty (w : World) : Own (w.alloc (.cells #[] 87)) w.heap.size (.slice (some ⟨w.heap.size, 0, none⟩) 0 0) [] :=
  ⟨rfl, .inr ⟨w.heap.size, 0, #[], rfl, Nat.le_refl _, heap_alloc_new w _, Nat.zero_le _, by simp only [maxLen]; omega, by simp, rfl⟩⟩
/-- A row in a new block only: nothing older has turned. -/
theorem grown_new {a w w' : World} {v : Value} (hb : Below a.heap.size a w) (hs : ∀ g, v.ownBlock = some g → a.heap.size ≤ g) (hg : w.grownBy w' v.ownBlock) : Below a.heap.size a w' := hb.grown hg hb.size hs

end Go.Proofs.YtelenboncejdaaaGreatDoor

/-
  The contracts of the methods of a node and of slices.Clone: Height, Size, Ends, Full, Entries, Kids, of a node and of nil; conditions: the node lies in memory, its slices can be read.
-/
namespace Go.Proofs.YtelenboncejdaaaGreatDoor
open Go.RowKit Go.Sort
set_option linter.unusedVariables false

abbrev pn (b : Nat) : Value := .pointer (some ⟨b, 0, none⟩)

theorem height_any {w : World} {b : Nat} {N : NR} (h : NodeAt w b N) : Calls Tryz.prog 15 #[pn b] w fun e w' => e = .returned (.int .i64 (N.h : Int)) ∧ w = w' := by
  have c2 := h.c2
  clear h
  go_enter Tryz.func15, Tryz.ntmps15
  go_wp2
  go_ret
  exact ⟨rfl, rfl⟩
theorem height_nil (w : World) : Calls Tryz.prog 15 #[.pointer none] w fun e w' => e = .returned (.int .i64 0) ∧ w = w' := by
  go_enter Tryz.func15, Tryz.ntmps15
  go_wp2
  go_ret
  exact ⟨rfl, rfl⟩
theorem size_any {w : World} {b : Nat} {N : NR} (h : NodeAt w b N) (hb : N.en + N.kn ≤ 1000000000) : Calls Tryz.prog 162 #[pn b] w fun e w' => e = .returned (.int .i64 ((N.en + N.kn : Nat) : Int)) ∧ ∃ nq, w' = w.drewN nq := by
  have c0 := h.c0
  have c1 := h.c1
  clear h
  go_enter Tryz.func162, Tryz.ntmps162
  go_wp2
  go_quiet (fail)
  go_wp2
  go_ret
  exact ⟨by go_num, nq, rfl⟩
theorem size_nil (w : World) : Calls Tryz.prog 162 #[.pointer none] w fun e w' => e = .returned (.int .i64 0) ∧ w = w' := by
  go_enter Tryz.func162, Tryz.ntmps162
  go_wp2
  go_ret
  exact ⟨rfl, rfl⟩
theorem ends_any {w : World} {b : Nat} {N : NR} (h : NodeAt w b N) : Calls Tryz.prog 127 #[pn b] w fun e w' => e = .returned (.tuple #[.string N.lo, .string N.hi]) ∧ ∃ nq, w' = w.drewN nq := by
  have c3 := h.c3
  have c4 := h.c4
  clear h
  go_enter Tryz.func127, Tryz.ntmps127
  go_wp2
  go_quiet (fail)
  go_wp2
  go_ret2
  exact ⟨rfl, nq, rfl⟩
theorem ends_nil (w : World) : Calls Tryz.prog 127 #[.pointer none] w fun e w' => e = .returned (.tuple #[.string ByteArray.empty, .string ByteArray.empty]) ∧ w = w' := by
  go_enter Tryz.func127, Tryz.ntmps127
  go_wp2
  go_ret2
  exact ⟨rfl, rfl⟩
theorem full_any {w : World} {b : Nat} {N : NR} (h : NodeAt w b N) : Calls Tryz.prog 46 #[pn b] w fun e w' => e = .returned (.bool (!N.lk)) ∧ w = w' := by
  have c5 := h.c5
  clear h
  go_enter Tryz.func46, Tryz.ntmps46
  go_wp2
  go_ret
  exact ⟨rfl, rfl⟩
theorem full_nil (w : World) : Calls Tryz.prog 46 #[.pointer none] w fun e w' => e = .returned (.bool true) ∧ w = w' := by
  go_enter Tryz.func46, Tryz.ntmps46
  go_wp2
  go_ret
  exact ⟨rfl, rfl⟩

set_option maxHeartbeats 400000 in
theorem cloneE_any (A : Option Addr) (n c : Nat) (l : List Ent) (w : World) (hr : Es w A l) (hn : l.length = n) (hb : n ≤ 1000000) :
    Calls Tryz.prog 66 #[.slice A n c] w fun e w' => ∃ v, e = .returned v ∧ Own w' w.heap.size v l ∧ Below w.heap.size w w' := by
  rcases A with _ | ad
  · have h0 : l = [] := by
      rcases Nat.eq_zero_or_pos l.length with h0 | h0
      · exact List.eq_nil_of_length_eq_zero h0
      · obtain ⟨ad, e, _⟩ := hr h0
        cases e
    subst h0
    have hq : ∀ (w : World) (a : Option Addr) (n c n' c' : Nat), (binOp .eql 22 (.slice a n c) (.slice none n' c')).run Tryz.prog w = .ok (.bool a.isNone) w := fun w a n c n' c' => Lib.run_eql_slice_nil w _ _ a n c n' c' Tryz.underlying22
    go_enter Tryz.func66, Tryz.ntmps66
    go_wp2
    go_ret
    exact ⟨_, rfl, Own.nil_ _ _, Below.refl _ _⟩
  · have hb0 : Below w.heap.size w (w.alloc (.cells #[] 87)) := (Below.refl _ _).alloc (Nat.le_refl _) _
    obtain ⟨v', w', h1, h2, h3⟩ := run_append_ents 22 (Own.empty w) n c (hr.below hb0) hn (by simpa using hb) hb0.size
    have HR := Lib.hid h1
    have HO := Lib.hid h2
    have HB := Lib.hid ((Own.empty w).grow_below hb0 hb0.size h3)
    clear h1 h2 h3 hb0
    have hq : ∀ (w : World) (a : Option Addr) (n c n' c' : Nat), (binOp .eql 22 (.slice a n c) (.slice none n' c')).run Tryz.prog w = .ok (.bool a.isNone) w := fun w a n c n' c' => Lib.run_eql_slice_nil w _ _ a n c n' c' Tryz.underlying22
    go_enter Tryz.func66, Tryz.ntmps66
    go_wp2_with (at_builtin; refine wpList_append_ran rfl (.tmp 5) (.tmp 6) 22 rfl _ _ _ _ rfl rfl HR.out ?_)
    go_ret
    exact ⟨_, rfl, by simpa using HO.out, HB.out⟩

set_option maxHeartbeats 400000 in
theorem cloneP_any (A : Option Addr) (n c : Nat) (l : List (Option Nat)) (w : World) (hr : Ls pcP w A l) (hn : l.length = n) (hb : n ≤ 1000000) :
    Calls Tryz.prog 74 #[.slice A n c] w fun e w' => ∃ v, e = .returned v ∧ OwnP w' w.heap.size v l ∧ Below w.heap.size w w' := by
  rcases A with _ | ad
  · have h0 : l = [] := by
      rcases Nat.eq_zero_or_pos l.length with h0 | h0
      · exact List.eq_nil_of_length_eq_zero h0
      · obtain ⟨ad, e, _⟩ := hr h0
        cases e
    subst h0
    have hq : ∀ (w : World) (a : Option Addr) (n c n' c' : Nat), (binOp .eql 83 (.slice a n c) (.slice none n' c')).run Tryz.prog w = .ok (.bool a.isNone) w := fun w a n c n' c' => Lib.run_eql_slice_nil w _ _ a n c n' c' Tryz.underlying83
    go_enter Tryz.func74, Tryz.ntmps74
    go_wp2
    go_ret
    exact ⟨_, rfl, OwnL.nil_ _ _ _, Below.refl _ _⟩
  · have hb0 : Below w.heap.size w (w.alloc (.cells #[] 25)) := (Below.refl _ _).alloc (Nat.le_refl _) _
    obtain ⟨v', w', h1, h2, h3⟩ := run_append_ls encP 83 25 83 _ _ ⟨_, Tryz.underlying83, rfl⟩ ptrInfo rfl (by omega) (by omega) (OwnL.empty _ w) n c (hr.below hb0) hn (by simpa using hb) hb0.size
    have HR := Lib.hid h1
    have HO := Lib.hid h2
    have HB := Lib.hid (grown_new hb0 (fun g hg => by simp [Value.ownBlock] at hg; omega) h3)
    clear h1 h2 h3 hb0
    have hq : ∀ (w : World) (a : Option Addr) (n c n' c' : Nat), (binOp .eql 83 (.slice a n c) (.slice none n' c')).run Tryz.prog w = .ok (.bool a.isNone) w := fun w a n c n' c' => Lib.run_eql_slice_nil w _ _ a n c n' c' Tryz.underlying83
    go_enter Tryz.func74, Tryz.ntmps74
    go_wp2_with (at_builtin; refine wpList_append_ran rfl (.tmp 5) (.tmp 6) 83 rfl _ _ _ _ rfl rfl HR.out ?_)
    go_ret
    exact ⟨_, rfl, by simpa using HO.out, HB.out⟩

theorem entries_any {w : World} {b : Nat} {N : NR} (h : NodeAt w b N) {l : List Ent} (hr : Es w N.ea l) (hn : l.length = N.en) (hb : N.en ≤ 1000000) :
    Calls Tryz.prog 44 #[pn b] w fun e w' => ∃ v, e = .returned v ∧ Own w' w.heap.size v l ∧ Below w.heap.size w w' := by
  have c0 := h.c0
  obtain ⟨ea, en, ec, ka, kn, kc, hh, lo, hi, lk⟩ := N
  simp only at c0 hr hn hb
  have HN := Lib.hid hn
  clear h hn
  go_enter Tryz.func44, Tryz.ntmps44
  go_wp2_with fail
  refine (cloneE_any ea en ec l w hr HN.out hb).mono ?_
  rintro e w1 ⟨v, rfl, ho, hb1⟩
  go_wp2
  go_ret
  exact ⟨v, rfl, ho, hb1⟩
theorem entries_nil (w : World) : Calls Tryz.prog 44 #[.pointer none] w fun e w' => e = .returned (.slice none 0 0) ∧ w = w' := by
  go_enter Tryz.func44, Tryz.ntmps44
  go_wp2
  go_ret
  exact ⟨rfl, rfl⟩
theorem kids_any {w : World} {b : Nat} {N : NR} (h : NodeAt w b N) {l : List (Option Nat)} (hr : Ls pcP w N.ka l) (hn : l.length = N.kn) (hb : N.kn ≤ 1000000) :
    Calls Tryz.prog 45 #[pn b] w fun e w' => ∃ v, e = .returned v ∧ OwnP w' w.heap.size v l ∧ Below w.heap.size w w' := by
  have c1 := h.c1
  obtain ⟨ea, en, ec, ka, kn, kc, hh, lo, hi, lk⟩ := N
  simp only at c1 hr hn hb
  have HN := Lib.hid hn
  clear h hn
  go_enter Tryz.func45, Tryz.ntmps45
  go_wp2_with fail
  refine (cloneP_any ka kn kc l w hr HN.out hb).mono ?_
  rintro e w1 ⟨v, rfl, ho, hb1⟩
  go_wp2
  go_ret
  exact ⟨v, rfl, ho, hb1⟩
theorem kids_nil (w : World) : Calls Tryz.prog 45 #[.pointer none] w fun e w' => e = .returned (.slice none 0 0) ∧ w = w' := by
  go_enter Tryz.func45, Tryz.ntmps45
  go_wp2
  go_ret
  exact ⟨rfl, rfl⟩

end Go.Proofs.YtelenboncejdaaaGreatDoor

/-
  The contracts of node.validLeaf, node.Leaf and the reference's Leaf; conditions: the slice can be read, its strings are of a size that there is.
-/
namespace Go.Proofs.YtelenboncejdaaaGreatDoor
open Go.RowKit Go.Sort
set_option linter.unusedVariables false

theorem okE_key {e : Ent} (h : keyNo e.k ≠ 0) : okE e = false := by unfold okE; rw [decide_eq_false h]; rfl
theorem okE_val {e : Ent} (h : valNo e.v ≠ 0) : okE e = false := by unfold okE; rw [decide_eq_false h]; simp
theorem okE_good {e : Ent} (h : keyNo e.k = 0) (h2 : valNo e.v = 0) : okE e = true := by unfold okE; rw [decide_eq_true h, decide_eq_true h2]; rfl

set_option maxHeartbeats 1000000 in
theorem validLeaf_any (A : Option Addr) (n c : Nat) (l : List Ent) (w : World) (hr : Es w A l) (hn : l.length = n) (hb : n ≤ 100000000000) (hs : ∀ e ∈ l, e.k.size ≤ 140737488351232 ∧ e.v.size ≤ 140737488351232) :
    Calls Tryz.prog 65 #[.slice A n c] w fun e w' => e = .returned (.bool (okLeaf l)) ∧ Below w.heap.size w w' := by
  have Hn := Lib.hid hn
  have HS := Lib.hid hs
  clear hn hs
  by_cases h1 : n < 1
  · rw [okLeaf_short (by rw [Hn.out]; exact h1)]
    go_enter Tryz.func65, Tryz.ntmps65
    go_wp2
    go_ret
    exact ⟨rfl, Below.refl _ _⟩
  by_cases h4 : 4 < n
  · rw [okLeaf_long (by rw [Hn.out]; exact h4)]
    go_enter Tryz.func65, Tryz.ntmps65
    go_wp2
    go_ret
    exact ⟨rfl, Below.refl _ _⟩
  obtain ⟨r, hR⟩ : ∃ r, r = okLeaf l := ⟨_, rfl⟩
  rw [← hR]
  have HR := Lib.hid hR
  clear hR
  go_enter Tryz.func65, Tryz.ntmps65
  go_wp2
  go_loopw [15] (fun i wr => ∃ k : Nat, k ≤ n ∧ i = .int .i64 k ∧ Below w.heap.size w wr ∧ Hid (∀ j e, j < k → l[j]? = some e → okE e = true)) (fun i _ => n - (intOf i).toNat)
  case atStart => exact ⟨0, Nat.zero_le _, rfl, Below.refl _ _, Lib.hid fun j _ hj => absurd hj (by omega)⟩
  case round =>
    obtain ⟨k, hk, rfl, hbw, HA⟩ := hrel
    by_cases hlt : k < n
    · obtain ⟨ad, x, rfl, hx, hl, q1, q2⟩ := (hr.below hbw).at_ (i := k) (by rw [Hn.out]; exact hlt)
      obtain ⟨hs1, hs2⟩ := HS.out x (List.mem_of_getElem? hx)
      have Hx := Lib.hid hx
      have hb2 := bthen hbw ((Below.refl wr.heap.size wr).alloc (Nat.le_refl _) (.cells #[.string x.k, .string x.v] 87))
      have HB2 := Lib.hid hb2
      clear hx hb2
      go_wp2_with fail
      refine (key_any x.k _ hs1).mono ?_
      rintro e w1 ⟨rfl, rfl⟩
      obtain ⟨kn, hkn⟩ : ∃ kn, kn = keyNo x.k := ⟨_, rfl⟩
      rw [← hkn]
      have HK := Lib.hid hkn
      clear hkn
      by_cases hk0 : kn = 0
      · subst hk0
        go_wp2_with fail
        refine (value_any x.v _ hs2).mono ?_
        rintro e w1 ⟨rfl, rfl⟩
        obtain ⟨vn, hvn⟩ : ∃ vn, vn = valNo x.v := ⟨_, rfl⟩
        rw [← hvn]
        have HV := Lib.hid hvn
        clear hvn
        by_cases hv0 : vn = 0
        · subst hv0
          go_wp2
          refine ⟨⟨k + 1, by omega, by go_num, HB2.out, Lib.hid fun j e hj he => ?_⟩, by simp [intOf]; omega⟩
          rcases Nat.lt_or_ge j k with h | h
          · exact HA.out j e h he
          · have : j = k := by omega
            subst this
            rw [Hx.out] at he
            cases he
            exact okE_good HK.out.symm HV.out.symm
        · go_wp2
          go_ret
          rw [HR.out, okLeaf_bad (List.mem_of_getElem? Hx.out) (okE_val fun h => hv0 (HV.out.trans h))]
          exact ⟨rfl, HB2.out⟩
      · go_wp2
        go_ret
        rw [HR.out, okLeaf_bad (List.mem_of_getElem? Hx.out) (okE_key fun h => hk0 (HK.out.trans h))]
        exact ⟨rfl, HB2.out⟩
    · have he : k = n := by omega
      subst he
      have hg : okLeaf l = decide (Sorted l) := okLeaf_good (by rw [Hn.out]; omega) (by rw [Hn.out]; omega) fun e he => by
        obtain ⟨j, hj⟩ := List.getElem?_of_mem he
        exact HA.out j e (by have := (List.getElem?_eq_some_iff.1 hj).1; rw [Hn.out] at this; exact this) hj
      have HG := Lib.hid (HR.out.trans hg)
      clear hg
      go_wp2_with fail
      refine (rise_any A k c l wr (hr.below hbw) Hn.out hb).mono ?_
      rintro e w2 ⟨rfl, hb2⟩
      rw [← HG.out]
      go_wp2
      go_ret
      exact ⟨rfl, bthen hbw hb2⟩

/-- A leaf of these entries: its box. -/
structure LeafR (N : NR) (l : List Ent) : Prop where
  en : N.en = l.length
  kn : N.kn = 0
  ka : N.ka = none
  h : N.h = 1
  lo : ∀ e, l[0]? = some e → N.lo = e.k
  hi : ∀ e, l[l.length - 1]? = some e → N.hi = e.k
  lk : N.lk = false
/-- What node.Leaf answers: a new node, or none. -/
def LeafPost (w : World) (l : List Ent) (e : Ending) (w' : World) : Prop :=
  Below w.heap.size w w' ∧ ((okLeaf l = true ∧ ∃ b N, e = .returned (.tuple #[pn b, .int .i64 0]) ∧ w.heap.size ≤ b ∧ NodeAt w' b N ∧ LeafR N l ∧ Es w' N.ea l ∧ (∀ ad, N.ea = some ad → w.heap.size ≤ ad.block ∧ ad.block < w'.heap.size)) ∨
    (okLeaf l = false ∧ e = .returned (.tuple #[.pointer none, .int .i64 1])))

theorem Own.addr_ge {w : World} {base n c : Nat} {A : Option Addr} {l : List Ent} (h : Own w base (.slice A n c) l) : ∀ ad, A = some ad → base ≤ ad.block ∧ ad.block < w.heap.size := by
  intro ad e
  subst e
  rcases h.2 with ⟨hv, _⟩ | ⟨g, cap, cur, hv, hg, hh, _⟩
  · cases hv
  · cases hv
    exact ⟨hg, lt_of_block hh⟩

set_option maxHeartbeats 1000000 in
set_option maxRecDepth 100000 in
theorem leaf_any (A : Option Addr) (n c : Nat) (l : List Ent) (w : World) (hr : Es w A l) (hn : l.length = n) (hb : n ≤ 100000000000) (hs : ∀ e ∈ l, e.k.size ≤ 140737488351232 ∧ e.v.size ≤ 140737488351232) :
    Calls Tryz.prog 37 #[.slice A n c] w (LeafPost w l) := by
  have Hn := Lib.hid hn
  have HS := Lib.hid hs
  clear hn hs
  go_enter Tryz.func37, Tryz.ntmps37
  go_wp2_with fail
  refine (validLeaf_any A n c l w hr Hn.out hb HS.out).mono ?_
  rintro e w1 ⟨rfl, hb1⟩
  obtain ⟨r, hR⟩ : ∃ r, r = okLeaf l := ⟨_, rfl⟩
  rw [← hR]
  have HR := Lib.hid hR
  clear hR
  cases r with
  | false =>
    go_wp2
    go_ret2
    exact ⟨hb1, .inr ⟨HR.out.symm, rfl⟩⟩
  | true =>
    have hlen := okLeaf_len HR.out.symm
    have hn1 : 1 ≤ n := by rw [← Hn.out]; exact hlen.1
    have hn4 : n ≤ 4 := by rw [← Hn.out]; exact hlen.2
    clear hlen
    have hr1 := hr.below hb1
    obtain ⟨ad, x, rfl, hx, hl, q1, _⟩ := hr1.at_ (i := 0) (by rw [Hn.out]; omega)
    obtain ⟨ad', y, e', hy, _, p1, _⟩ := hr1.at_ (i := n - 1) (by rw [Hn.out]; omega)
    cases e'
    rw [show 0 * 2 = 0 from rfl, show ad.add 0 = ad by simp [Addr.add]] at q1
    obtain ⟨W, hW⟩ : ∃ W, W = w1.drew := ⟨_, rfl⟩
    have hbW : Below w1.heap.size w1 W := by rw [hW]; exact (Below.refl _ _).drew
    have f1 : ∀ d os, (grow (redrawn W d) os).cell? ad = some (.string x.k) := fun d os => (((bthen hbW (below_regrown W d os)).cell hl).trans q1)
    have f2 : ∀ d os, (grow (redrawn W d) os).cell? (ad.add ((n - 1) * 2)) = some (.string y.k) := fun d os => (((bthen hbW (below_regrown W d os)).cell (by rw [block_of_add]; exact hl)).trans p1)
    have HX := Lib.hid hx
    have HY := Lib.hid hy
    have HW := Lib.hid hW
    have HRW := Lib.hid (hr1.below hbW)
    have HBW := Lib.hid (bthen hb1 hbW)
    clear hx hy hW q1 p1 hbW hr1 hb1 hr
    go_wp2_with fail
    refine wp_region_segs [([0, 2, 3, 4, 5, 6, 7, 8, 9, 10, 11, 12], 1), ([13], 14)] [15, 16] (by kernel_rfl) (by kernel_rfl) (by kernel_rfl) (by kernel_rfl) (by intro c a d v w h; cases d <;> exact h) ?_
    rw [← HW.out]
    refine wpSegs_more ?_
    simp only [pick, List.getElem?_cons_zero, List.getElem?_cons_succ]
    repeat (first | go_big_quiet_step (fail) | quiet_step (fail))
    refine wpQuiet_nil ?_
    refine wpOp_heavy rfl (by rfl) (fun K hK => ?_)
    go_simp
    refine (cloneE_any (some ad) n c l W HRW.out Hn.out (by omega)).mono ?_
    rintro e w2 ⟨v, rfl, hown, hb2⟩
    obtain ⟨A2, c2, rfl, hc2, hes2⟩ := hown.form
    have HOW := Lib.hid hown
    have HES := Lib.hid hes2
    have HB2 := Lib.hid hb2
    refine hK _ _ hb2 ?_
    clear hK K hown hes2 hb2 f1 f2
    refine wpSegs_more ?_
    simp only [pick, List.getElem?_cons_zero, List.getElem?_cons_succ]
    repeat (first | go_big_quiet_step (fail) | quiet_step (fail))
    refine wpQuiet_nil ?_
    refine wpOp_heavy rfl (by rfl) (fun K hK => ?_)
    go_simp
    have hbn : Below w2.heap.size w2 (w2.alloc (.cells (NR.cells ⟨A2, l.length, c2, none, 0, 0, 1, x.k, y.k, false⟩) 103)) := (Below.refl _ _).alloc (Nat.le_refl _) _
    refine hK _ _ hbn ?_
    clear hK K
    refine wpSegs_last ?_
    simp only [pick, List.getElem?_cons_zero, List.getElem?_cons_succ]
    repeat (first | go_big_quiet_step (fail) | quiet_step (fail))
    refine wpQuiet_nil ?_
    go_wp2
    go_ret2
    refine ⟨bthen HBW.out (bthen HB2.out hbn), .inl ⟨HR.out.symm, w2.heap.size, ⟨A2, l.length, c2, none, 0, 0, 1, x.k, y.k, false⟩, rfl, ?_, NodeAt.new w2 ⟨A2, l.length, c2, none, 0, 0, 1, x.k, y.k, false⟩, ⟨rfl, rfl, rfl, rfl, ?_, ?_, rfl⟩, HES.out.below hbn, ?_⟩⟩
    · exact Nat.le_trans HBW.out.size HB2.out.size
    · intro e he
      rw [HX.out] at he
      cases he
      rfl
    · intro e he
      rw [Hn.out, HY.out] at he
      cases he
      rfl
    · intro a he
      obtain ⟨h1, h2⟩ := HOW.out.addr_ge a he
      exact ⟨Nat.le_trans HBW.out.size h1, Nat.lt_of_lt_of_le h2 hbn.size⟩

end Go.Proofs.YtelenboncejdaaaGreatDoor

/-
  The contracts of node.validBranch, node.Branch and what they call: slices.Index, Contains, IndexFunc, ContainsFunc, node.lacks; conditions: the slice can be read, its nodes lie in memory.
-/
namespace Go.Proofs.YtelenboncejdaaaGreatDoor
open Go.RowKit Go.Sort
set_option linter.unusedVariables false

theorem ptr_nil_eq (p : Option Nat) : (ptr p = .pointer none) ↔ p = none := by cases p <;> simp [ptr]

theorem eql_nil_some (a : Addr) (w : World) : (binOp .eql 25 (.pointer none) (.pointer (some a))).run Tryz.prog w = .ok (.bool false) w := by
  have h : ∀ d : Nat, (Op.equalIn (d + 1) 25 (.pointer none) (.pointer (some a))).run Tryz.prog w = .ok false w := fun d => by
    simp [Op.equalIn, run_underlying Tryz.underlying25]
  simp only [binOp]
  simp [Op.equal, Op.maxDepth, h 9999]
theorem eql_ptr_same (a : Addr) (w : World) : (binOp .eql 25 (.pointer (some a)) (.pointer (some a))).run Tryz.prog w = .ok (.bool true) w := by
  obtain ⟨j, hj⟩ : ∃ j, Tryz.prog.info? 103 = some j := Option.isSome_iff_exists.1 (by kernel_rfl)
  have h : ∀ d : Nat, (Op.equalIn (d + 1) 25 (.pointer (some a)) (.pointer (some a))).run Tryz.prog w = .ok true w := fun d => by
    simp [Op.equalIn, run_underlying Tryz.underlying25, sizeOf, typeInfo, hj, run_sameAddr_same]
  simp only [binOp]
  simp [Op.equal, Op.maxDepth, h 9999]
theorem neq_ptr_same (a : Addr) (w : World) : (binOp .neq 25 (.pointer (some a)) (.pointer (some a))).run Tryz.prog w = .ok (.bool false) w := by
  obtain ⟨j, hj⟩ : ∃ j, Tryz.prog.info? 103 = some j := Option.isSome_iff_exists.1 (by kernel_rfl)
  have h : ∀ d : Nat, (Op.equalIn (d + 1) 25 (.pointer (some a)) (.pointer (some a))).run Tryz.prog w = .ok true w := fun d => by
    simp [Op.equalIn, run_underlying Tryz.underlying25, sizeOf, typeInfo, hj, run_sameAddr_same]
  simp only [binOp]
  simp [Op.equal, Op.maxDepth, h 9999]

set_option maxHeartbeats 1000000 in
theorem index_nil (A : Option Addr) (n c : Nat) (l : List (Option Nat)) (w : World) (hr : Ls pcP w A l) (hn : l.length = n) (hb : n ≤ 100000000000) :
    Calls Tryz.prog 177 #[.slice A n c, .pointer none] w fun e w' => w = w' ∧ ((none ∉ l ∧ e = .returned (.int .i64 (-1))) ∨ (none ∈ l ∧ ∃ k : Nat, k ≤ n ∧ e = .returned (.int .i64 (k : Int)))) := by
  have Hn := Lib.hid hn
  clear hn
  go_enter Tryz.func177, Tryz.ntmps177
  go_wp2
  go_loop [8] (fun i => ∃ k : Nat, k ≤ n ∧ i = .int .i64 k ∧ Hid (∀ j, j < k → l[j]? ≠ some none)) (fun i => n - (intOf i).toNat)
  case atStart => exact ⟨0, Nat.zero_le _, rfl, Lib.hid fun j hj => absurd hj (by omega)⟩
  case round =>
    obtain ⟨k, hk, rfl, HA⟩ := hrel
    by_cases hlt : k < n
    · obtain ⟨ad, p, rfl, hp, hl, q1⟩ := hr.ptr_at (i := k) (by rw [Hn.out]; exact hlt)
      have HP := Lib.hid hp
      clear hp
      cases p with
      | none =>
        simp only [ptr, Option.map_none] at q1
        go_wp2
        go_ret
        exact ⟨rfl, .inr ⟨List.mem_of_getElem? HP.out, k, by omega, rfl⟩⟩
      | some b =>
        simp only [ptr, Option.map_some] at q1
        have hq := eql_nil_some ⟨b, 0, none⟩
        go_wp2
        refine ⟨⟨k + 1, by omega, by go_num, Lib.hid fun j hj => ?_⟩, by simp [intOf]; omega⟩
        rcases Nat.lt_or_ge j k with h | h
        · exact HA.out j h
        · have : j = k := by omega
          subst this
          rw [HP.out]
          simp
    · have he : k = n := by omega
      subst he
      go_wp2
      go_ret
      refine ⟨rfl, .inl ⟨fun hm => ?_, rfl⟩⟩
      obtain ⟨j, hj⟩ := List.getElem?_of_mem hm
      exact HA.out j (by have := (List.getElem?_eq_some_iff.1 hj).1; rw [Hn.out] at this; exact this) hj
theorem contains_nil (A : Option Addr) (n c : Nat) (l : List (Option Nat)) (w : World) (hr : Ls pcP w A l) (hn : l.length = n) (hb : n ≤ 100000000000) :
    Calls Tryz.prog 160 #[.slice A n c, .pointer none] w fun e w' => w = w' ∧ e = .returned (.bool (decide (none ∈ l))) := by
  have Hn := Lib.hid hn
  clear hn
  go_enter Tryz.func160, Tryz.ntmps160
  go_wp2_with fail
  refine (index_nil A n c l w hr Hn.out hb).mono ?_
  rintro e w1 ⟨rfl, ⟨hm, rfl⟩ | ⟨hm, k, hk, rfl⟩⟩
  · have HM := Lib.hid hm
    clear hm
    go_wp2
    go_ret
    rw [decide_eq_false HM.out]
    exact ⟨rfl, rfl⟩
  · have HM := Lib.hid hm
    clear hm
    go_wp2
    go_ret
    rw [decide_eq_true HM.out]
    exact ⟨rfl, rfl⟩

/-- Nodes in memory, by their blocks. -/
def All (w : World) (L : List (Nat × NR)) : Prop := ∀ x ∈ L, NodeAt w x.1 x.2
def ptrs (L : List (Nat × NR)) : List (Option Nat) := L.map fun x => some x.1
def krs (L : List (Nat × NR)) : List KR := L.map fun x => x.2.kr
/-- Heights and sizes are small numbers. -/
def Tame (L : List (Nat × NR)) : Prop := ∀ x ∈ L, 1 ≤ x.2.h ∧ x.2.h ≤ 1000000 ∧ x.2.en + x.2.kn ≤ 1000000
theorem All.below {w w' : World} {L : List (Nat × NR)} (h : All w L) (hb : Below w.heap.size w w') : All w' L := fun x hx => (h x hx).below hb
theorem All.at_ {w : World} {L : List (Nat × NR)} (h : All w L) {i : Nat} {x : Nat × NR} (hx : L[i]? = some x) : NodeAt w x.1 x.2 := h x (List.mem_of_getElem? hx)
theorem ptrs_len (L : List (Nat × NR)) : (ptrs L).length = L.length := by simp [ptrs]
theorem krs_len (L : List (Nat × NR)) : (krs L).length = L.length := by simp [krs]
theorem ptrs_at {L : List (Nat × NR)} {i : Nat} {x : Nat × NR} (h : L[i]? = some x) : (ptrs L)[i]? = some (some x.1) := by simp [ptrs, h]
theorem krs_at {L : List (Nat × NR)} {i : Nat} {x : Nat × NR} (h : L[i]? = some x) : (krs L)[i]? = some x.2.kr := by simp [krs, h]
theorem krs_inv {L : List (Nat × NR)} {i : Nat} {k : KR} (h : (krs L)[i]? = some k) : ∃ x, L[i]? = some x ∧ k = x.2.kr := by
  simp only [krs, List.getElem?_map, Option.map_eq_some_iff] at h
  obtain ⟨x, hx, rfl⟩ := h
  exact ⟨x, hx, rfl⟩
theorem none_ptrs (L : List (Nat × NR)) : none ∉ ptrs L := by simp [ptrs]
/-- The pointer and the node at a place. -/
theorem Ls.node_at {w : World} {A : Option Addr} {L : List (Nat × NR)} (h : Ls pcP w A (ptrs L)) {i : Nat} (hi : i < L.length) : ∃ ad x, A = some ad ∧ L[i]? = some x ∧ ad.block < w.heap.size ∧ w.cell? (ad.add i) = some (pn x.1) := by
  obtain ⟨ad, p, e, hp, hl, hc⟩ := h.ptr_at (i := i) (by rw [ptrs_len]; exact hi)
  have hx : L[i]? = some L[i] := List.getElem?_eq_getElem hi
  rw [ptrs_at hx] at hp
  cases hp
  exact ⟨ad, L[i], e, hx, hl, hc⟩

set_option maxHeartbeats 1000000 in
theorem lacks_any {w : World} {b : Nat} {N : NR} (h : NodeAt w b N) (hs : N.en + N.kn ≤ 1000000) : Calls Tryz.prog 133 #[pn b] w fun e w' => e = .returned (.bool (!goodK N.kr)) ∧ ∃ nq, w' = w.drewN nq := by
  have c2 := h.c2
  have c5 := h.c5
  have HN := Lib.hid h
  obtain ⟨ea, en, ec, ka, kn, kc, hh, lo, hi, lk⟩ := N
  simp only at c2 c5 hs
  have HG := Lib.hid (show goodK (NR.kr ⟨ea, en, ec, ka, kn, kc, hh, lo, hi, lk⟩) = (!lk && decide ((if hh = 1 then 2 else 3) ≤ en + kn)) from rfl)
  obtain ⟨r, hr⟩ : ∃ r, r = goodK (NR.kr ⟨ea, en, ec, ka, kn, kc, hh, lo, hi, lk⟩) := ⟨_, rfl⟩
  rw [← hr]
  have HR := Lib.hid (hr.trans HG.out)
  clear hr HG h
  obtain ⟨m, hm⟩ : ∃ m, m = en + kn := ⟨_, rfl⟩
  have HM := Lib.hid hm
  have hm1 : m ≤ 1000000 := by omega
  clear hs hm
  cases lk with
  | true =>
    have hr : r = false := HR.out
    subst hr
    by_cases h1 : hh = 1
    · subst h1
      go_enter Tryz.func133, Tryz.ntmps133
      go_wp2
      go_ret
      exact ⟨rfl, 0, rfl⟩
    · go_enter Tryz.func133, Tryz.ntmps133
      go_wp2
      go_ret
      exact ⟨rfl, 0, rfl⟩
  | false =>
    by_cases h1 : hh = 1
    · have hr : r = decide (2 ≤ m) := by rw [HR.out, HM.out, if_pos h1]; rfl
      subst hr h1
      go_enter Tryz.func133, Tryz.ntmps133
      go_wp2_with fail
      refine (size_any HN.out (by simp only; rw [← HM.out]; omega)).mono ?_
      rintro e w1 ⟨rfl, nq, rfl⟩
      simp only
      rw [← HM.out]
      go_wp2
      go_ret
      refine ⟨congrArg (fun b => Ending.returned (Value.bool b)) (show decide ((m : Int) < 2) = !decide (2 ≤ m) from ?_), nq, rfl⟩
      rw [← decide_not]
      exact decide_eq_decide.2 (by omega)
    · have hr : r = decide (3 ≤ m) := by rw [HR.out, HM.out, if_neg h1]; rfl
      subst hr
      go_enter Tryz.func133, Tryz.ntmps133
      go_wp2_with fail
      refine (size_any HN.out (by simp only; rw [← HM.out]; omega)).mono ?_
      rintro e w1 ⟨rfl, nq, rfl⟩
      simp only
      rw [← HM.out]
      go_wp2
      go_ret
      refine ⟨congrArg (fun b => Ending.returned (Value.bool b)) (show decide ((m : Int) < 3) = !decide (3 ≤ m) from ?_), nq, rfl⟩
      rw [← decide_not]
      exact decide_eq_decide.2 (by omega)

theorem drewN_add (w : World) (i j : Nat) : (w.drewN i).drewN j = w.drewN (i + j) := by
  unfold World.drewN
  simp [Nat.add_assoc]

set_option maxHeartbeats 1000000 in
theorem indexLacks_any (A : Option Addr) (n c : Nat) (L : List (Nat × NR)) (w : World) (hr : Ls pcP w A (ptrs L)) (hn : L.length = n) (hb : n ≤ 1000000) (ha : All w L) (ht : Tame L) :
    Calls Tryz.prog 161 #[.slice A n c, .func (.func 133) #[] #[]] w fun e w' => Below w.heap.size w w' ∧ (((krs L).all goodK = true ∧ e = .returned (.int .i64 (-1))) ∨ ((krs L).all goodK = false ∧ ∃ k : Nat, k ≤ n ∧ e = .returned (.int .i64 (k : Int)))) := by
  have Hn := Lib.hid hn
  have HA := Lib.hid ha
  have HT := Lib.hid ht
  clear hn ha ht
  go_enter Tryz.func161, Tryz.ntmps161
  go_wp2
  go_loopw [8] (fun i wr => ∃ k : Nat, k ≤ n ∧ i = .int .i64 k ∧ Below w.heap.size w wr ∧ Hid (∀ j x, j < k → (krs L)[j]? = some x → goodK x = true)) (fun i _ => n - (intOf i).toNat)
  case atStart => exact ⟨0, Nat.zero_le _, rfl, Below.refl _ _, Lib.hid fun j _ hj => absurd hj (by omega)⟩
  case round =>
    obtain ⟨k, hk, rfl, hbw, HG⟩ := hrel
    by_cases hlt : k < n
    · obtain ⟨ad, x, rfl, hx, hl, q1⟩ := (hr.below hbw).node_at (i := k) (by rw [Hn.out]; exact hlt)
      have hnx := (HA.out.below hbw).at_ hx
      have htx := HT.out x (List.mem_of_getElem? hx)
      have HX := Lib.hid (krs_at hx)
      clear hx
      go_wp2_with fail
      refine (lacks_any hnx htx.2.2).mono ?_
      rintro e w1 ⟨rfl, nq, rfl⟩
      obtain ⟨r, hrr⟩ : ∃ r, r = goodK x.2.kr := ⟨_, rfl⟩
      rw [← hrr]
      have HR := Lib.hid hrr
      have HB := Lib.hid (below_drewN hbw nq)
      clear hrr hnx htx
      cases r with
      | true =>
        go_wp2
        refine ⟨⟨k + 1, by omega, by go_num, HB.out, Lib.hid fun j y hj hy => ?_⟩, by simp [intOf]; omega⟩
        rcases Nat.lt_or_ge j k with h | h
        · exact HG.out j y h hy
        · have : j = k := by omega
          subst this
          rw [HX.out] at hy
          cases hy
          exact HR.out.symm
      | false =>
        go_wp2
        go_ret
        refine ⟨HB.out, .inr ⟨Bool.eq_false_iff.2 fun h => ?_, k, by omega, rfl⟩⟩
        have := List.all_eq_true.1 h _ (List.mem_of_getElem? HX.out)
        rw [← HR.out] at this
        cases this
    · have he : k = n := by omega
      subst he
      go_wp2
      go_ret
      refine ⟨hbw, .inl ⟨List.all_eq_true.2 fun y hy => ?_, rfl⟩⟩
      obtain ⟨j, hj⟩ := List.getElem?_of_mem hy
      exact HG.out j y (by have := (List.getElem?_eq_some_iff.1 hj).1; rw [krs_len, Hn.out] at this; exact this) hj
theorem anyLacks_any (A : Option Addr) (n c : Nat) (L : List (Nat × NR)) (w : World) (hr : Ls pcP w A (ptrs L)) (hn : L.length = n) (hb : n ≤ 1000000) (ha : All w L) (ht : Tame L) :
    Calls Tryz.prog 132 #[.slice A n c, .func (.func 133) #[] #[]] w fun e w' => Below w.heap.size w w' ∧ e = .returned (.bool (!(krs L).all goodK)) := by
  have Hn := Lib.hid hn
  have HA := Lib.hid ha
  have HT := Lib.hid ht
  clear hn ha ht
  go_enter Tryz.func132, Tryz.ntmps132
  go_wp2_with fail
  refine (indexLacks_any A n c L w hr Hn.out hb HA.out HT.out).mono ?_
  rintro e w1 ⟨hb1, ⟨hm, rfl⟩ | ⟨hm, k, hk, rfl⟩⟩
  · have HM := Lib.hid hm
    clear hm
    go_wp2
    go_ret
    rw [HM.out]
    exact ⟨hb1, rfl⟩
  · have HM := Lib.hid hm
    clear hm
    go_wp2
    go_ret
    rw [HM.out]
    exact ⟨hb1, rfl⟩


set_option maxHeartbeats 1000000 in
/-- Some kid is nil. -/
theorem validBranch_nil (A : Option Addr) (n c : Nat) (l : List (Option Nat)) (w : World) (hr : Ls pcP w A l) (hn : l.length = n) (hb : n ≤ 100000000000) (hm : n < 2 ∨ none ∈ l) :
    Calls Tryz.prog 131 #[.slice A n c] w fun e w' => e = .returned (.bool false) ∧ w = w' := by
  have Hn := Lib.hid hn
  clear hn
  by_cases h2 : n < 2
  · clear hm
    go_enter Tryz.func131, Tryz.ntmps131
    go_wp2
    go_ret
    exact ⟨rfl, rfl⟩
  have HM := Lib.hid (hm.resolve_left h2)
  clear hm
  by_cases h6 : 6 < n
  · go_enter Tryz.func131, Tryz.ntmps131
    go_wp2
    go_ret
    exact ⟨rfl, rfl⟩
  go_enter Tryz.func131, Tryz.ntmps131
  go_wp2_with fail
  refine (contains_nil A n c l w hr Hn.out hb).mono ?_
  rintro e w1 ⟨rfl, rfl⟩
  rw [decide_eq_true HM.out]
  go_wp2
  go_ret
  exact ⟨rfl, rfl⟩

theorem NR.kr_h (N : NR) : N.kr.h = N.h := rfl
theorem NR.kr_lo (N : NR) : N.kr.lo = N.lo := rfl
theorem NR.kr_hi (N : NR) : N.kr.hi = N.hi := rfl

set_option maxHeartbeats 1000000 in
set_option maxRecDepth 100000 in
theorem validBranch_any (A : Option Addr) (n c : Nat) (L : List (Nat × NR)) (w : World) (hr : Ls pcP w A (ptrs L)) (hn : L.length = n) (hc : n ≤ c) (hb : n ≤ 1000000) (ha : All w L) (ht : Tame L) :
    Calls Tryz.prog 131 #[.slice A n c] w fun e w' => e = .returned (.bool (okBr (krs L))) ∧ Below w.heap.size w w' := by
  have Hn := Lib.hid hn
  have HA := Lib.hid ha
  have HT := Lib.hid ht
  clear hn ha ht
  by_cases h2 : n < 2
  · rw [okBr_short (by rw [krs_len, Hn.out]; exact h2)]
    go_enter Tryz.func131, Tryz.ntmps131
    go_wp2
    go_ret
    exact ⟨rfl, Below.refl _ _⟩
  by_cases h6 : 6 < n
  · rw [okBr_long (by rw [krs_len, Hn.out]; exact h6)]
    go_enter Tryz.func131, Tryz.ntmps131
    go_wp2
    go_ret
    exact ⟨rfl, Below.refl _ _⟩
  obtain ⟨r, hR⟩ : ∃ r, r = okBr (krs L) := ⟨_, rfl⟩
  rw [← hR]
  have HR := Lib.hid hR
  clear hR
  obtain ⟨ad, x0, rfl, _, hl, _⟩ := hr.node_at (i := 0) (by rw [Hn.out]; omega)
  go_enter Tryz.func131, Tryz.ntmps131
  go_wp2_with fail
  refine (contains_nil (some ad) n c (ptrs L) w hr ((ptrs_len L).trans Hn.out) (by omega)).mono ?_
  rintro e w1 ⟨rfl, rfl⟩
  rw [decide_eq_false (none_ptrs L)]
  go_wp2
  simp only [show decide ((n : Int) < 2) = false from decide_eq_false (by omega), show decide ((6 : Int) < n) = false from decide_eq_false (by omega), Bool.or_self]
  obtain ⟨ae, hae⟩ : ∃ ae : Addr, ae = ⟨ad.block, ad.off + 1, none⟩ := ⟨_, rfl⟩
  rw [← hae]
  have HAE := Lib.hid hae
  clear hae
  go_loopw [21] (fun i wr => ∃ k : Nat, k ≤ n - 1 ∧ i = .int .i64 k ∧ Below w.heap.size w wr ∧ Hid (∀ (j : Nat) (a b : KR), j < k → (krs L)[j]? = some a → (krs L)[j + 1]? = some b → a.h = b.h ∧ kl a.hi b.lo)) (fun i _ => n - (intOf i).toNat)
  case atStart => exact ⟨0, Nat.zero_le _, rfl, Below.refl _ _, Lib.hid fun j _ _ hj => absurd hj (by omega)⟩
  case round =>
    obtain ⟨k, hk, rfl, hbw, HG⟩ := hrel
    by_cases hlt : k < n - 1
    · obtain ⟨ad', x, e', hx, _, q1⟩ := (hr.below hbw).node_at (i := k) (by rw [Hn.out]; omega)
      cases e'
      obtain ⟨ad', y, e', hy, _, p1⟩ := (hr.below hbw).node_at (i := k + 1) (by rw [Hn.out]; omega)
      cases e'
      rw [show ad.add (k + 1) = ae.add k by rw [Nat.add_comm, ← add_of_add, HAE.out]; rfl] at p1
      have hnx := (HA.out.below hbw).at_ hx
      have hny := (HA.out.below hbw).at_ hy
      have HX := Lib.hid (krs_at hx)
      have HY := Lib.hid (krs_at hy)
      have x2 := hnx.c2
      have x4 := hnx.c4
      have y2 := hny.c2
      have y3 := hny.c3
      have htx := HT.out x (List.mem_of_getElem? hx)
      have hty := HT.out y (List.mem_of_getElem? hy)
      clear hx hy hnx hny
      obtain ⟨b1, N1⟩ := x
      obtain ⟨b2, N2⟩ := y
      simp only at *
      have HXH := Lib.hid (NR.kr_h N1)
      have HYH := Lib.hid (NR.kr_h N2)
      have HXI := Lib.hid (NR.kr_hi N1)
      have HYL := Lib.hid (NR.kr_lo N2)
      generalize N1.h = h1 at *
      generalize N1.hi = i1 at *
      generalize N2.h = h2' at *
      generalize N2.lo = l2 at *
      generalize N1.kr = K1 at *
      generalize N2.kr = K2 at *
      have hle := less_eq i1 l2
      by_cases hh : h1 = h2'
      · subst hh
        by_cases hd : kl i1 l2
        · rw [decide_eq_true hd] at hle
          go_wp2
          go_quiet (fail)
          go_wp2
          refine ⟨⟨k + 1, by omega, by go_num, below_drewN hbw _, Lib.hid fun j a b hj ha hbb => ?_⟩, by simp [intOf]; omega⟩
          rcases Nat.lt_or_ge j k with hjk | hjk
          · exact HG.out j a b hjk ha hbb
          · have : j = k := by omega
            subst this
            rw [HX.out] at ha
            rw [HY.out] at hbb
            cases ha; cases hbb
            exact ⟨HXH.out.trans HYH.out.symm, by rw [HXI.out, HYL.out]; exact hd⟩
        · rw [decide_eq_false hd] at hle
          go_wp2
          go_quiet (fail)
          go_wp2
          go_ret
          rw [HR.out, okBr_bad HX.out HY.out fun h => hd (by rw [← HXI.out, ← HYL.out]; exact h.2)]
          exact ⟨rfl, below_drewN hbw _⟩
      · have hq : ((h1 : Int) == (h2' : Int)) = false := by simp only [beq_eq_false_iff_ne, ne_eq]; omega
        have hq2 : ((h1 : Int) != (h2' : Int)) = true := by simp only [bne_iff_ne, ne_eq]; omega
        go_wp2
        go_quiet (fail)
        go_wp2
        go_ret
        rw [HR.out, okBr_bad HX.out HY.out fun h => hh (by rw [← HXH.out, ← HYH.out]; exact h.1)]
        exact ⟨rfl, below_drewN hbw _⟩
    · have he : k = n - 1 := by omega
      subst he
      go_wp2
      go_ret
      rw [HR.out, okBr_good (by rw [krs_len, Hn.out]; omega) (by rw [krs_len, Hn.out]; omega) fun j a b ha hbb => HG.out j a b (by have := (List.getElem?_eq_some_iff.1 hbb).1; rw [krs_len, Hn.out] at this; omega) ha hbb]
      exact ⟨rfl, hbw⟩

/-- A branch of these nodes: its box. -/
structure BranchR (N : NR) (L : List (Nat × NR)) : Prop where
  ea : N.ea = none
  en : N.en = 0
  kn : N.kn = L.length
  h : ∀ x, L[0]? = some x → N.h = x.2.h + 1
  lo : ∀ x, L[0]? = some x → N.lo = x.2.lo
  hi : ∀ x, L[L.length - 1]? = some x → N.hi = x.2.hi
  lk : N.lk = !(krs L).all goodK
/-- What node.Branch answers: a new node, or none. -/
def BranchPost (w : World) (L : List (Nat × NR)) (e : Ending) (w' : World) : Prop :=
  Below w.heap.size w w' ∧ ((okBr (krs L) = true ∧ ∃ b N, e = .returned (.tuple #[pn b, .int .i64 0]) ∧ w.heap.size ≤ b ∧ NodeAt w' b N ∧ BranchR N L ∧ Ls pcP w' N.ka (ptrs L) ∧ (∀ ad, N.ka = some ad → w.heap.size ≤ ad.block ∧ ad.block < w'.heap.size)) ∨
    (okBr (krs L) = false ∧ e = .returned (.tuple #[.pointer none, .int .i64 1])))

theorem OwnL.addr_ge {α : Type} {f : α → List Value} {k : Nat} {t : TypeId} {w : World} {base n c : Nat} {A : Option Addr} {l : List α} (h : OwnL f t k w base (.slice A n c) l) : ∀ ad, A = some ad → base ≤ ad.block ∧ ad.block < w.heap.size := by
  intro ad e
  subst e
  rcases h.2 with ⟨hv, _⟩ | ⟨g, cap, cur, hv, hg, hh, _⟩
  · cases hv
  · cases hv
    exact ⟨hg, lt_of_block hh⟩

theorem branch_nil (A : Option Addr) (n c : Nat) (l : List (Option Nat)) (w : World) (hr : Ls pcP w A l) (hn : l.length = n) (hb : n ≤ 100000000000) (hm : n < 2 ∨ none ∈ l) :
    Calls Tryz.prog 96 #[.slice A n c] w fun e w' => e = .returned (.tuple #[.pointer none, .int .i64 1]) ∧ w = w' := by
  have Hn := Lib.hid hn
  have HM := Lib.hid hm
  clear hn hm
  go_enter Tryz.func96, Tryz.ntmps96
  go_wp2_with fail
  refine (validBranch_nil A n c l w hr Hn.out hb HM.out).mono ?_
  rintro e w1 ⟨rfl, rfl⟩
  go_wp2
  go_ret2
  exact ⟨rfl, rfl⟩

set_option maxHeartbeats 1000000 in
set_option maxRecDepth 100000 in
theorem branch_any (A : Option Addr) (n c : Nat) (L : List (Nat × NR)) (w : World) (hr : Ls pcP w A (ptrs L)) (hn : L.length = n) (hc : n ≤ c) (hb : n ≤ 1000000) (ha : All w L) (ht : Tame L) :
    Calls Tryz.prog 96 #[.slice A n c] w (BranchPost w L) := by
  have Hn := Lib.hid hn
  have HA := Lib.hid ha
  have HT := Lib.hid ht
  clear hn ha ht
  go_enter Tryz.func96, Tryz.ntmps96
  go_wp2_with fail
  refine (validBranch_any A n c L w hr Hn.out hc hb HA.out HT.out).mono ?_
  rintro e w1 ⟨rfl, hb1⟩
  obtain ⟨r, hR⟩ : ∃ r, r = okBr (krs L) := ⟨_, rfl⟩
  rw [← hR]
  have HR := Lib.hid hR
  clear hR
  cases r with
  | false =>
    go_wp2
    go_ret2
    exact ⟨hb1, .inr ⟨HR.out.symm, rfl⟩⟩
  | true =>
    have hlen := okBr_len HR.out.symm
    rw [krs_len, Hn.out] at hlen
    have hn1 : 2 ≤ n := hlen.1
    have hn6 : n ≤ 6 := hlen.2
    clear hlen
    have hr1 := hr.below hb1
    obtain ⟨ad, x, rfl, hx, hl, q1⟩ := hr1.node_at (i := 0) (by rw [Hn.out]; omega)
    obtain ⟨ad', y, e', hy, _, p1⟩ := hr1.node_at (i := n - 1) (by rw [Hn.out]; omega)
    cases e'
    rw [show ad.add 0 = ad by simp [Addr.add]] at q1
    have ha1 := HA.out.below hb1
    have hnx := ha1.at_ hx
    have hny := ha1.at_ hy
    have htx := HT.out x (List.mem_of_getElem? hx)
    obtain ⟨W, hW⟩ : ∃ W, W = w1.drew := ⟨_, rfl⟩
    have hbW : Below w1.heap.size w1 W := by rw [hW]; exact (Below.refl _ _).drew
    have f1 : ∀ d os, (grow (redrawn W d) os).cell? ad = some (pn x.1) := fun d os => (((bthen hbW (below_regrown W d os)).cell hl).trans q1)
    have f2 : ∀ d os, (grow (redrawn W d) os).cell? (ad.add (n - 1)) = some (pn y.1) := fun d os => (((bthen hbW (below_regrown W d os)).cell (by rw [block_of_add]; exact hl)).trans p1)
    have f3 : ∀ d os, (grow (redrawn W d) os).cell? ⟨x.1, 2, none⟩ = some (.int .i64 (x.2.h : Int)) := fun d os => (hnx.below (bthen hbW (below_regrown W d os))).c2
    have f4 : ∀ d os, (grow (redrawn W d) os).cell? ⟨x.1, 3, none⟩ = some (.string x.2.lo) := fun d os => (hnx.below (bthen hbW (below_regrown W d os))).c3
    have f5 : ∀ d os, (grow (redrawn W d) os).cell? ⟨y.1, 4, none⟩ = some (.string y.2.hi) := fun d os => (hny.below (bthen hbW (below_regrown W d os))).c4
    have HX := Lib.hid hx
    have HY := Lib.hid hy
    have HW := Lib.hid hW
    have HRW := Lib.hid (hr1.below hbW)
    have HAW := Lib.hid (ha1.below hbW)
    have HBW := Lib.hid (bthen hb1 hbW)
    clear hx hy hW q1 p1 hbW hr1 hb1 hr hnx hny ha1
    obtain ⟨bx, Nx⟩ := x
    obtain ⟨by_, Ny⟩ := y
    simp only at *
    obtain ⟨hxx, hhxx⟩ : ∃ h, h = Nx.h := ⟨_, rfl⟩
    obtain ⟨lox, hlox⟩ : ∃ h, h = Nx.lo := ⟨_, rfl⟩
    obtain ⟨hiy, hhiy⟩ : ∃ h, h = Ny.hi := ⟨_, rfl⟩
    rw [← hhxx] at f3 htx
    rw [← hlox] at f4
    rw [← hhiy] at f5
    have H1 := Lib.hid hhxx
    have H2 := Lib.hid hlox
    have H3 := Lib.hid hhiy
    clear hhxx hlox hhiy
    go_wp2_with fail
    refine wp_region_segs [([0, 2, 3, 4, 5, 6, 7, 8, 9, 10, 11, 12, 13, 14, 15, 16, 17, 18, 19, 20, 21, 22, 23, 24], 1), ([], 25), ([26], 27)] [28, 29] (by kernel_rfl) (by kernel_rfl) (by kernel_rfl) (by kernel_rfl) (by intro c a d v w h; cases d <;> exact h) ?_
    rw [← HW.out]
    refine wpSegs_more ?_
    simp only [pick, List.getElem?_cons_zero, List.getElem?_cons_succ]
    repeat (first | go_big_quiet_step (fail) | quiet_step (fail))
    refine wpQuiet_nil ?_
    refine wpOp_heavy rfl (by rfl) (fun K hK => ?_)
    go_simp
    refine (cloneP_any (some ad) n c (ptrs L) W HRW.out ((ptrs_len L).trans Hn.out) (by omega)).mono ?_
    rintro e w2 ⟨v, rfl, hown, hb2⟩
    obtain ⟨A2, c2, rfl, hc2, hls2⟩ := hown.form
    rw [ptrs_len, Hn.out] at hown ⊢
    have HOW := Lib.hid hown
    have HLS := Lib.hid hls2
    have HB2 := Lib.hid hb2
    refine hK _ _ hb2 ?_
    clear hK K hown hls2 hb2 f1 f2 f3 f4 f5 hc2
    refine wpSegs_more ?_
    simp only [pick]
    refine wpQuiet_nil ?_
    refine wpOp_heavy rfl (by rfl) (fun K hK => ?_)
    go_simp
    refine (anyLacks_any (some ad) n c L w2 (HRW.out.below HB2.out) Hn.out hb (HAW.out.below HB2.out) HT.out).mono ?_
    rintro e w3 ⟨hb3, rfl⟩
    obtain ⟨lk, hlk⟩ : ∃ lk, lk = (!(krs L).all goodK) := ⟨_, rfl⟩
    rw [← hlk]
    have HLK := Lib.hid hlk
    have HB3 := Lib.hid hb3
    refine hK _ _ hb3 ?_
    clear hK K hlk hb3
    refine wpSegs_more ?_
    simp only [pick, List.getElem?_cons_zero, List.getElem?_cons_succ]
    repeat (first | go_big_quiet_step (fail) | quiet_step (fail))
    refine wpQuiet_nil ?_
    refine wpOp_heavy rfl (by rfl) (fun K hK => ?_)
    go_simp
    have hbn : Below w3.heap.size w3 (w3.alloc (.cells (NR.cells ⟨none, 0, 0, A2, n, c2, hxx + 1, lox, hiy, lk⟩) 103)) := (Below.refl _ _).alloc (Nat.le_refl _) _
    refine hK _ _ hbn ?_
    clear hK K
    refine wpSegs_last ?_
    simp only [pick, List.getElem?_cons_zero, List.getElem?_cons_succ]
    repeat (first | go_big_quiet_step (fail) | quiet_step (fail))
    refine wpQuiet_nil ?_
    go_wp2
    go_ret2
    refine ⟨bthen HBW.out (bthen HB2.out (bthen HB3.out hbn)), .inl ⟨HR.out.symm, w3.heap.size, ⟨none, 0, 0, A2, n, c2, hxx + 1, lox, hiy, lk⟩, rfl, ?_, NodeAt.new w3 ⟨none, 0, 0, A2, n, c2, hxx + 1, lox, hiy, lk⟩, ⟨rfl, rfl, Hn.out.symm, ?_, ?_, ?_, HLK.out⟩, HLS.out.below (bthen HB3.out hbn), ?_⟩⟩
    · exact Nat.le_trans HBW.out.size (Nat.le_trans HB2.out.size HB3.out.size)
    · intro e he
      rw [HX.out] at he
      cases he
      exact congrArg (· + 1) H1.out
    · intro e he
      rw [HX.out] at he
      cases he
      exact H2.out
    · intro e he
      rw [Hn.out, HY.out] at he
      cases he
      exact H3.out
    · intro a he
      obtain ⟨h1, h2⟩ := HOW.out.addr_ge a he
      exact ⟨Nat.le_trans HBW.out.size h1, Nat.lt_of_lt_of_le h2 (bthen HB3.out hbn).size⟩

end Go.Proofs.YtelenboncejdaaaGreatDoor

/-
  The contracts of the law's helpers awake and known; make of nil nodes; conditions stand at each.
-/
namespace Go.Proofs.YtelenboncejdaaaGreatDoor
open Go.RowKit Go.Sort
set_option linter.unusedVariables false
set_option linter.unusedSimpArgs false

theorem quiet_is {P : Program} {f : FuncId} {args : Array Value} {w : World} {n : Nat} {v : Value}
    (h : Calls P f args (w.drewN n) fun e w' => e = .returned v ∧ w.drewN n = w') : Calls P f args (w.drewN n) fun e w'' => e = .returned v ∧ ∃ m, w'' = w.drewN m :=
  h.mono fun _ _ ⟨he, hm⟩ => ⟨he, n, hm.symm⟩
theorem quiet_more {P : Program} {f : FuncId} {args : Array Value} {w : World} {n : Nat} {v : Value}
    (h : Calls P f args (w.drewN n) fun e w' => e = .returned v ∧ ∃ nq, w' = (w.drewN n).drewN nq) : Calls P f args (w.drewN n) fun e w'' => e = .returned v ∧ ∃ m, w'' = w.drewN m :=
  h.mono fun _ _ ⟨he, nq, hm⟩ => ⟨he, n + nq, hm.trans (drewN_add _ _ _)⟩
theorem NodeAt.drewN {w : World} {b : Nat} {N : NR} (h : NodeAt w b N) (n : Nat) : NodeAt (w.drewN n) b N := h
theorem byte_of {x : Int} (h : (Lit.int .u8 x).wf = true) : ∃ y : Nat, y < 256 ∧ x = (y : Int) := by
  have : 0 ≤ x ∧ x ≤ 255 := by simpa [Lit.wf, IntKind.min, IntKind.max, IntKind.signed, IntKind.bits] using h
  exact ⟨x.toNat, by omega, by omega⟩

theorem okLeaf_a : okLeaf [⟨⟨#[97]⟩, ByteArray.empty⟩] = true := by decide

/-- make([]*Node, n), n a byte. -/
theorem run_make_nils (n : Nat) (hb : n ≤ 255) (w : World) :
    (Instr.makeSlice 83 (.int .u8 (n : Int)) (.int .u8 (n : Int))).run Tryz.prog w = .ok (.slice (some ⟨w.heap.size, 0, none⟩) n n) (w.alloc (.cells (List.replicate n (.pointer none)).toArray 25)) := by
  obtain ⟨i0, hi0, hz0, hz1, hz2⟩ := info_parts ptrInfo
  have hr := run_make (P := Tryz.prog) w 83 25 i0 _ Tryz.underlying83 hi0 hz0 .u8 .u8 (n : Int) (n : Int) (by omega) (by omega) (by rw [hz2]; omega) (by omega)
  rw [hz1] at hr
  rw [← made_list]
  simpa [Value.cells] using hr
theorem nils_cells : ∀ n : Nat, (List.replicate n (none : Option Nat)).flatMap pcP = List.replicate n (Value.pointer none)
  | 0 => rfl
  | n + 1 => by rw [List.replicate_succ, List.flatMap_cons, nils_cells n]; rfl
theorem ls_nils (n : Nat) (w : World) : Ls pcP (w.alloc (.cells (List.replicate n (.pointer none)).toArray 25)) (some ⟨w.heap.size, 0, none⟩) (List.replicate n none) := fun _ =>
  ⟨_, rfl, by simp, fun j u hu => by
    refine new_row w _ _ j u ?_
    rw [nils_cells] at hu
    simpa using hu⟩

end Go.Proofs.YtelenboncejdaaaGreatDoor

/-
  append onto a row of the call's own, the element anywhere in memory: the row behind, what may have turned, where it lies; conditions stand at each.
-/
namespace Go.Proofs.YtelenboncejdaaaGreatDoor
open Go.RowKit Go.Sort
set_option linter.unusedVariables false

/-- Where what was appended to lies: where it lay, or in a new block. -/
theorem append_block {w : World} {t ty e : TypeId} {i : TypeInfo} {z : Value} {size by_ : Nat} (ht : Tryz.prog.underlying t = some (.slice e)) (hi : Tryz.prog.info? e = some i) (hz : i.zero = some z) (hsize : i.size = size) (hby : i.bytes = by_) (hzs : z.cells.size = size)
    {base : Nat} {v : Value} {n : Nat} {xs : List Value} (hown : w.ownsRow base e size v n xs) {a : Addr} {m c : Nat} {news : List Value} (hl : news.length = m * size) (hnews : ∀ j u, news[j]? = some u → w.cell? (a.add j) = some u) (h1 : ∀ u ∈ news, u.oneCell' = true)
    (hm : 0 < m) (h63 : n + m ≤ maxLen) (hbytes : (n + m) * by_ ≤ 140737488355328) {v' : Value} {w' : World} (hrun : (Builtin.append_ #[t, t] ty #[v, .slice (some a) m c]).run Tryz.prog w = .ok v' w') : v'.ownBlock = v.ownBlock ∨ v'.ownBlock = some w.heap.size := by
  subst hsize
  subst hby
  have hsmall : n + m ≤ 9223372036854775807 := by simp only [maxLen] at h63; omega
  rcases hown.2 with ⟨rfl, rfl⟩ | ⟨g, cap, cur, rfl, hbg, hg, hnc, hcm, hcs, htake⟩
  · have hr := run_append_nil (P := Tryz.prog) w t ty e i z ht hi hz a m c news hl hnews (by omega) (by omega) (by have hb := hbytes; simp only [Nat.zero_add] at hb; omega)
    rw [hrun] at hr
    cases hr
    exact .inr rfl
  · by_cases hroom : n + m ≤ cap
    · have hfit : n * i.size + news.length ≤ cur.size := by rw [hl, hcs, ← Nat.add_mul]; exact Nat.mul_le_mul_right _ hroom
      have hr := run_append_room (P := Tryz.prog) w t ty e i ht hi g n cap cur hg a m c news hl hnews h1 hroom hfit
      rw [hrun] at hr
      cases hr
      exact .inl rfl
    · have holds : ∀ j u, xs[j]? = some u → w.cell? ((⟨g, 0, none⟩ : Addr).add j) = some u := hown.cells (g := g) rfl
      have hr := run_append_grow (P := Tryz.prog) w t ty e i z ht hi hz ⟨g, 0, none⟩ n cap xs hown.1 holds a m c news hl hnews (by omega) (by omega) (growslice_fits (by omega) hbytes)
      rw [hrun] at hr
      cases hr
      exact .inr rfl


set_option maxRecDepth 100000 in
/-- append(v, x): x lies in block h. -/
theorem run_append_at {α : Type} {f : α → List Value} {k : Nat} (he : Enc f k) (ts t ty : TypeId) (z : Value) (by_ : Nat) (hu : ∃ d, Tryz.prog.underlying ts = some d ∧ d = .slice t) (hi : (Tryz.prog.info? t).map (fun i => (i.zero, i.size, i.bytes)) = some (some z, k, by_)) (hz : z.cells.size = k) (hk : 0 < k) (hby : by_ ≤ 1000)
    {w : World} {base : Nat} {v : Value} {xs : List α} (hown : OwnL f t k w base v xs) (x : α) {h : Nat} (hh : w.heap[h]? = some (.cells (f x).toArray t (0, 0))) (hb : xs.length ≤ 1000000) (hbase : base ≤ w.heap.size) :
    ∃ v' w', (Builtin.append_ #[ts, ts] ty #[v, .slice (some ⟨h, 0, none⟩) 1 1]).run Tryz.prog w = .ok v' w' ∧ OwnL f t k w' base v' (xs ++ [x]) ∧ w.grownBy w' v.ownBlock ∧ (v'.ownBlock = v.ownBlock ∨ v'.ownBlock = some w.heap.size) := by
  obtain ⟨i0, hi0, hz0, hz1, hz2⟩ := info_parts hi
  obtain ⟨d, hu, rfl⟩ := hu
  have hcells : ∀ j u, (f x)[j]? = some u → w.cell? ((⟨h, 0, none⟩ : Addr).add j) = some u := fun j u hj => by
    rw [show (⟨h, 0, none⟩ : Addr).add j = ⟨h, j, none⟩ by unfold Addr.add; split <;> simp_all, cell_of_row w h j _ _ _ hh]
    simpa using hj
  have hs : (xs.length + 1) * by_ ≤ 140737488355328 := by
    have : (xs.length + 1) * by_ ≤ 1000001 * 1000 := Nat.mul_le_mul (by omega) hby
    omega
  obtain ⟨v', w', h1, h2, h3, _⟩ := run_append_own (P := Tryz.prog) w base ts ty t i0 z k by_ hu hi0 hz0 hz1 hz2 hz hk v xs.length (xs.flatMap f) hown ⟨h, 0, none⟩ 1 1 (f x) (by rw [he.len]; omega) hcells (he.one x) (by simp only [maxLen]; omega) hs hbase
  have h5 := append_block hu hi0 hz0 hz1 hz2 hz hown (a := ⟨h, 0, none⟩) (m := 1) (c := 1) (by rw [he.len]; omega) hcells (he.one x) (by omega) (by simp only [maxLen]; omega) hs h1
  refine ⟨v', w', h1, ?_, h3, h5⟩
  unfold OwnL
  rw [List.flatMap_append, List.length_append]
  simpa using h2

set_option maxRecDepth 100000 in
/-- append(s[:n:n], x): no room, so it goes into a new row; x lies in block h. -/
theorem run_append_full {α : Type} {f : α → List Value} {k : Nat} (he : Enc f k) (ts t ty : TypeId) (z : Value) (by_ : Nat) (hu : ∃ d, Tryz.prog.underlying ts = some d ∧ d = .slice t) (hi : (Tryz.prog.info? t).map (fun i => (i.zero, i.size, i.bytes)) = some (some z, k, by_)) (hz : z.cells.size = k) (hk : 0 < k) (hby : by_ ≤ 1000)
    {w : World} {A : Option Addr} {xs : List α} {n : Nat} (hr : Ls f w A xs) (hn : xs.length = n) (x : α) {h : Nat} (hh : w.heap[h]? = some (.cells (f x).toArray t (0, 0))) (hb : n ≤ 1000000) :
    ∃ v' w', (Builtin.append_ #[ts, ts] ty #[.slice A n n, .slice (some ⟨h, 0, none⟩) 1 1]).run Tryz.prog w = .ok v' w' ∧ OwnL f t k w' w.heap.size v' (xs ++ [x]) ∧ Below w.heap.size w w' := by
  subst hn
  obtain ⟨i0, hi0, hz0, hz1, hz2⟩ := info_parts hi
  obtain ⟨d, hu, rfl⟩ := hu
  have hcells : ∀ j u, (f x)[j]? = some u → w.cell? ((⟨h, 0, none⟩ : Addr).add j) = some u := fun j u hj => by
    rw [show (⟨h, 0, none⟩ : Addr).add j = ⟨h, j, none⟩ by unfold Addr.add; split <;> simp_all, cell_of_row w h j _ _ _ hh]
    simpa using hj
  have hs : (xs.length + 1) * by_ ≤ 140737488355328 := by
    have : (xs.length + 1) * by_ ≤ 1000001 * 1000 := Nat.mul_le_mul (by omega) hby
    omega
  have hlen : (xs.flatMap f ++ f x).length = (xs.length + 1) * k := by rw [List.length_append, he.flen, he.len, Nat.add_mul, Nat.one_mul]
  have grown : ∀ old, OwnL f t k (w.drew.alloc (.cells ((xs.flatMap f).toArray ++ (f x).toArray ++ Builtin.zeroCells z.cells (grownCap w (xs.length + 1) old t - (xs.length + 1))) t)) w.heap.size (.slice (some ⟨w.heap.size, 0, none⟩) (xs.length + 1) (grownCap w (xs.length + 1) old t)) (xs ++ [x]) := by
    intro old
    have hge := grownCap_ge w (xs.length + 1) old t
    have hcm : grownCap w (xs.length + 1) old t ≤ maxLen := grownCap_le_maxLen w (xs.length + 1) old t (by simp only [maxLen]; omega)
    have e1 : (xs ++ [x]).length = xs.length + 1 := by simp
    have e2 : (xs ++ [x]).flatMap f = xs.flatMap f ++ f x := by rw [List.flatMap_append]; simp
    unfold OwnL
    rw [e1, e2]
    refine ⟨hlen, .inr ⟨w.heap.size, _, _, rfl, Nat.le_refl _, heap_alloc_new w.drew _, hge, hcm, ?_, ?_⟩⟩
    · simp only [Array.size_append, List.size_toArray, size_zeroCells, hz, he.flen, he.len]
      rw [show xs.length * k + k = (xs.length + 1) * k by rw [Nat.add_mul, Nat.one_mul], ← Nat.add_mul]
      congr 1
      omega
    · simp only [Array.toList_append, List.append_assoc]
      rw [← List.append_assoc, ← hlen]
      exact List.take_left
  have bel : ∀ o, Below w.heap.size w (w.drew.alloc o) := fun o => (Below.refl _ _).drew.alloc (Nat.le_refl _) o
  rcases A with _ | ad
  · have h0 : xs = [] := by
      rcases Nat.eq_zero_or_pos xs.length with h0 | h0
      · exact List.eq_nil_of_length_eq_zero h0
      · obtain ⟨ad, e, _⟩ := hr h0
        cases e
    subst h0
    have hr := run_append_nil (P := Tryz.prog) w ts ty t i0 z hu hi0 hz0 ⟨h, 0, none⟩ 1 1 (f x) (by rw [he.len, hz1]; omega) hcells (by omega) (by omega) (by rw [hz2]; omega)
    refine ⟨_, _, hr, ?_, bel _⟩
    have hg := grown 0
    simpa using hg
  · have holds : ∀ j u, (xs.flatMap f)[j]? = some u → w.cell? (ad.add j) = some u := by
      intro j u hj
      have hl : 0 < xs.length := by
        have := (List.getElem?_eq_some_iff.1 hj).1
        rw [he.flen] at this
        rcases Nat.eq_zero_or_pos xs.length with h0 | h0
        · rw [h0] at this
          omega
        · exact h0
      obtain ⟨ad', e, _, hc⟩ := hr hl
      cases e
      exact hc j u hj
    have hr := run_append_grow (P := Tryz.prog) w ts ty t i0 z hu hi0 hz0 ad xs.length xs.length (xs.flatMap f) (by rw [he.flen, hz1]) holds ⟨h, 0, none⟩ 1 1 (f x) (by rw [he.len, hz1]; omega) hcells (by omega) (by omega) (growslice_fits (by omega) (by rw [hz2]; exact hs))
    exact ⟨_, _, hr, grown _, bel _⟩

end Go.Proofs.YtelenboncejdaaaGreatDoor
