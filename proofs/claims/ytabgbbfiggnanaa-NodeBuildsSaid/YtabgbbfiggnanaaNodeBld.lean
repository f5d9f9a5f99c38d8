/-
  What NodeBuilds builds: the row of nodes and the row of kids side by side; the two appends in one statement, whatever order is drawn; conditions stand at each.
-/
import Derived.Test.YtabgbbfiggnanaaNodeRow
import Derived.Test.YtabgbbfiggnanaaNodeRef
import Derived.Test.YtabgbbfiggnanaaDrawnX
import Derived.Great.BuildSlice
namespace Go.Proofs.Ytabgbbfiggnanaa
open Go.RowKit Go.Sort
set_option linter.unusedVariables false
set_option linter.unusedSimpArgs false

theorem OwnL.type_ {α : Type} {f : α → List Value} {k : Nat} {t : TypeId} {w : World} {base : Nat} {v : Value} {l : List α} (h : OwnL f t k w base v l) {g : Nat} (hg : v.ownBlock = some g) : ∃ cur, w.heap[g]? = some (.cells cur t (0, 0)) := by
  rcases h.2 with ⟨rfl, _⟩ | ⟨g', cap, cur, rfl, _, hh, _⟩
  · simp [Value.ownBlock] at hg
  · have : g' = g := by simpa [Value.ownBlock] using hg
    subst this
    exact ⟨cur, hh⟩
theorem OwnL.grown {α : Type} {f : α → List Value} {k : Nat} {t : TypeId} {w w' : World} {base : Nat} {v : Value} {l : List α} (h : OwnL f t k w base v l) {r : Option Nat} (hg : w.grownBy w' r) (hr : ∀ g, r = some g → v.ownBlock ≠ some g) : OwnL f t k w' base v l :=
  h.keep fun g hv hlt => hg.block g hlt fun e => hr g e.symm hv
theorem NodeAt.grown {w w' : World} {b : Nat} {N : NR} (h : NodeAt w b N) {r : Option Nat} (hg : w.grownBy w' r) (hr : r ≠ some b) : NodeAt w' b N := h.keep (hg.block b h.lt fun e => hr e.symm)
theorem Row.grown {w w' : World} {base : Nat} {v : Value} {L : List (Nat × NR)} (h : Row w base v L) {r : Option Nat} (hg : w.grownBy w' r) (hr : ∀ g, r = some g → v.ownBlock ≠ some g ∧ ∀ x ∈ L, x.1 ≠ g) : Row w' base v L :=
  ⟨h.own.grown hg fun g e => (hr g e).1, fun x hx => (h.all x hx).grown hg fun e => (hr _ e).2 x hx rfl, h.apart, Nat.le_trans h.base hg.size⟩

/-- The nodes that there are, and what is known of them. -/
structure Bld (w wr : World) (v1 v2 : Value) (L : List (Nat × NR)) (k : Nat) : Prop where
  row : Row wr w.heap.size v1 L
  kids : OwnK wr w.heap.size v2 (krs L)
  ok : ∀ x ∈ L, 1 ≤ x.2.h ∧ x.2.h ≤ k ∧ x.2.en + x.2.kn ≤ 1000
  len : L.length ≤ k
  below : Below w.heap.size w wr
theorem Bld.tame {w wr : World} {v1 v2 : Value} {L : List (Nat × NR)} {k : Nat} (h : Bld w wr v1 v2 L k) (hk : k ≤ 1000) : Tame L := fun x hx => by
  have := h.ok x hx
  omega
theorem Bld.next {w wr wr' : World} {v1 v2 : Value} {L : List (Nat × NR)} {k : Nat} (h : Bld w wr v1 v2 L k) (hb : Below wr.heap.size wr wr') : Bld w wr' v1 v2 L k := ⟨h.row.below hb, h.kids.below hb, h.ok, h.len, bthen h.below hb⟩
theorem Bld.wait {w wr : World} {v1 v2 : Value} {L : List (Nat × NR)} {k : Nat} (h : Bld w wr v1 v2 L k) : Bld w wr v1 v2 L (k + 1) := ⟨h.row, h.kids, fun x hx => by have := h.ok x hx; omega, by have := h.len; omega, h.below⟩
theorem types_ne {w : World} {g : Nat} {c1 c2 : Array Value} {t1 t2 : TypeId} (h1 : w.heap[g]? = some (.cells c1 t1 (0, 0))) (h2 : w.heap[g]? = some (.cells c2 t2 (0, 0))) (ht : t1 ≠ t2) : False := by
  rw [h1] at h2
  simp only [Option.some.injEq, Obj.cells.injEq] at h2
  exact ht h2.2.1
theorem Bld.apart {w wr : World} {v1 v2 : Value} {L : List (Nat × NR)} {k : Nat} (h : Bld w wr v1 v2 L k) {g : Nat} (hg : v2.ownBlock = some g) : v1.ownBlock ≠ some g ∧ ∀ x ∈ L, x.1 ≠ g := by
  obtain ⟨c2, h2⟩ := h.kids.type_ hg
  refine ⟨fun e => ?_, fun x hx e => ?_⟩
  · obtain ⟨c1, h1⟩ := h.row.own.type_ e
    exact types_ne h1 h2 (by decide)
  · have := h.row.all x hx
    rw [e] at this
    exact types_ne this h2 (by decide)

theorem ptr_row (w : World) (b : Nat) : (Instr.buildSlice 25 1 #[(0, pn b)]).run Try.prog w = .ok (.slice (some ⟨w.heap.size, 0, none⟩) 1 1) (w.alloc (.cells #[pn b] 30)) := by
  obtain ⟨i0, hi0, hz0, hz1, hz2⟩ := info_parts ptrInfo
  refine run_buildSlice (P := Try.prog) w 25 30 1 _ _ i0 _ Try.underlying25 hi0 hz0 (by rw [hz1]; omega) (by rw [hz1]; omega) ?_
  have h := Great.fill_whole (s := 1) (by omega) [pn b] ((Array.range (1 * i0.size)).map ((Value.pointer none).cells[· % (Value.pointer none).cells.size]!)) (by simp [Value.cells]) (by simp [hz1])
  rw [hz1] at h ⊢
  simpa [Value.cells] using h
theorem kid_row (w : World) (K : KR) : (Instr.buildSlice 26 1 #[(0, kidV K)]).run Try.prog w = .ok (.slice (some ⟨w.heap.size, 0, none⟩) 1 1) (w.alloc (.cells (pcKd K).toArray 38)) := by
  obtain ⟨i0, hi0, hz0, hz1, hz2⟩ := info_parts kidInfo
  refine run_buildSlice (P := Try.prog) w 26 38 1 _ _ i0 _ Try.underlying26 hi0 hz0 (by rw [hz1]; omega) (by rw [hz1]; omega) ?_
  generalize (Value.agg #[.int .i64 0, .string ByteArray.empty, .string ByteArray.empty, .bool false, .bool false]) = z
  have h := Great.fill_whole (s := 5) (by omega) [kidV K] ((Array.range (1 * i0.size)).map (z.cells[· % z.cells.size]!)) (by simp [Value.cells, kidV]) (by simp [hz1])
  rw [hz1] at h ⊢
  simpa [Value.cells, kidV, pcKd] using h
theorem kid_load {w : World} {kb : Nat} {K : KR} (h : w.heap[kb]? = some (.cells (pcKd K).toArray 38 (0, 0))) : (Instr.loadAt 38 (.pointer (some ⟨kb, 0, none⟩))).run Try.prog w = .ok (kidV K) w := by
  have c0 := cell_row h 0 (.int .i64 (K.h : Int)) rfl
  have c1 := cell_row h 1 (.string K.lo) rfl
  have c2 := cell_row h 2 (.string K.hi) rfl
  have c3 := cell_row h 3 (.bool K.full) rfl
  have c4 := cell_row h 4 (.bool K.enough) rfl
  have a38 := Try.isAgg38
  simp [go_sem, c0, c1, c2, c3, c4, kidV]
theorem cut_run {t e : TypeId} (hu : ∃ d, Try.prog.underlying t = some d ∧ d = .slice e) {k : Nat} {z : Value} {by_ : Nat} (hi : (Try.prog.info? e).map (fun i => (i.zero, i.size, i.bytes)) = some (some z, k, by_)) (A : Option Addr) (n c q : Nat) (hq : q ≤ n) (hc : n ≤ c) (w : World) :
    (Instr.sliceAt t (.slice A n c) none (some (.int .i64 (q : Int))) (some (.int .i64 (q : Int)))).run Try.prog w = .ok (.slice A q q) w := by
  obtain ⟨i0, hi0, hz0, hz1, hz2⟩ := info_parts hi
  obtain ⟨d, hu, rfl⟩ := hu
  have hel : Try.prog.elem t = e := by simp [Program.elem, hu]
  have hu' : Try.prog.underlying t = some (.slice (Try.prog.elem t)) := by rw [hel]; exact hu
  rw [run_sliceAt_slice _ t _ _ _ _ hu']
  rw [run_slice_hm _ t A n c hu' .i64 .i64 (q : Int) (q : Int) (by omega) (by omega) (by omega), hel]
  simp only [sizeOf, typeInfo, Sem.run_bind, Result.andThen]
  simp [hi0, sliced]
  intro _
  cases A <;> simp [Addr.add]

theorem Row.make {w : World} {base : Nat} {v : Value} {L : List (Nat × NR)} (ho : OwnP w base v (ptrs L)) (ha : All w L) (hb : base ≤ w.heap.size) : Row w base v L :=
  ⟨ho, ha, fun g hg x hx e => by
    obtain ⟨c, hc⟩ := ho.type_ hg
    have := ha x hx
    rw [e] at this
    exact types_ne this hc (by decide), hb⟩

/-- A row of one element that an operation laid behind w0. -/
def Laid (w0 : World) (cs : Array Value) (t : TypeId) (v : Value) (w : World) : Prop := ∃ h, v = .slice (some ⟨h, 0, none⟩) 1 1 ∧ w.heap[h]? = some (.cells cs t (0, 0)) ∧ w0.heap.size ≤ h
theorem Laid.new {w0 w : World} (cs : Array Value) (t : TypeId) (hs : w0.heap.size ≤ w.heap.size) : Laid w0 cs t (.slice (some ⟨w.heap.size, 0, none⟩) 1 1) (w.alloc (.cells cs t)) := ⟨_, rfl, heap_alloc_new w _, hs⟩
theorem below_of_none {w w' : World} (h : w.grownBy w' none) : Below w.heap.size w w' := ⟨h.os, h.tape, h.output, h.size, fun k hk => h.block k hk (by simp)⟩
theorem none_of_below {w w' : World} (h : Below w.heap.size w w') : w.grownBy w' none := ⟨h.os, h.tape, h.output, h.size, fun k hk _ => h.block k hk⟩
theorem grown_alloc (w : World) (o : Obj) : w.grownBy (w.alloc o) none := none_of_below ((Below.refl _ _).alloc (Nat.le_refl _) o)

/-- What stands at 'nodes, kids = append(nodes, n), append(kids, k)'. -/
structure At17 (w0 : World) (base : Nat) (v1 v2 : Value) (L : List (Nat × NR)) (b : Nat) (N : NR) (kb : Nat) : Prop where
  row : Row w0 base v1 L
  kids : OwnK w0 base v2 (krs L)
  node : NodeAt w0 b N
  kid : w0.heap[kb]? = some (.cells (pcKd N.kr).toArray 38 (0, 0))
  len : L.length ≤ 1000
  kb1 : v1.ownBlock ≠ some kb
  kb2 : v2.ownBlock ≠ some kb
section
variable {w0 w : World} {base : Nat} {v1 v2 : Value} {L : List (Nat × NR)} {b : Nat} {N : NR} {kb : Nat}
theorem At17.lt1 (h : At17 w0 base v1 v2 L b N kb) : ∀ g, v1.ownBlock = some g → g < w0.heap.size := h.row.own.lt
theorem At17.lt2 (h : At17 w0 base v1 v2 L b N kb) : ∀ g, v2.ownBlock = some g → g < w0.heap.size := h.kids.lt
theorem At17.two (h : At17 w0 base v1 v2 L b N kb) : ∀ g, v1.ownBlock = some g → v2.ownBlock ≠ some g := fun g h1 h2 => by
  obtain ⟨c1, e1⟩ := h.row.own.type_ h1
  obtain ⟨c2, e2⟩ := h.kids.type_ h2
  exact types_ne e1 e2 (by decide)
theorem At17.node1 (h : At17 w0 base v1 v2 L b N kb) : ∀ g, v1.ownBlock = some g → ∀ x ∈ L ++ [(b, N)], x.1 ≠ g := fun g h1 x hx e => by
  obtain ⟨c1, e1⟩ := h.row.own.type_ h1
  have : NodeAt w0 x.1 x.2 := by
    rcases List.mem_append.1 hx with hx | hx
    · exact h.row.all x hx
    · rw [List.mem_singleton] at hx
      subst hx
      exact h.node
  rw [e] at this
  exact types_ne this e1 (by decide)
theorem At17.node2 (h : At17 w0 base v1 v2 L b N kb) : ∀ g, v2.ownBlock = some g → ∀ x ∈ L ++ [(b, N)], x.1 ≠ g := fun g h1 x hx e => by
  obtain ⟨c1, e1⟩ := h.kids.type_ h1
  have : NodeAt w0 x.1 x.2 := by
    rcases List.mem_append.1 hx with hx | hx
    · exact h.row.all x hx
    · rw [List.mem_singleton] at hx
      subst hx
      exact h.node
  rw [e] at this
  exact types_ne this e1 (by decide)

def row17 (v1 v2 : Value) : Nat → Option Nat
  | 3 => v1.ownBlock
  | 7 => v2.ownBlock
  | _ => none
theorem row17_cases (v1 v2 : Value) (i : Nat) : (i = 3 ∧ row17 v1 v2 i = v1.ownBlock) ∨ (i = 7 ∧ row17 v1 v2 i = v2.ownBlock) ∨ (i ≠ 3 ∧ i ≠ 7 ∧ row17 v1 v2 i = none) := by
  by_cases h3 : i = 3
  · subst h3
    exact .inl ⟨rfl, rfl⟩
  by_cases h7 : i = 7
  · subst h7
    exact .inr (.inl ⟨rfl, rfl⟩)
  refine .inr (.inr ⟨h3, h7, ?_⟩)
  unfold row17
  split
  · exact absurd rfl h3
  · exact absurd rfl h7
  · rfl
structure G17 (w0 : World) (v1 v2 : Value) (w : World) : Prop where
  os : w.os = w0.os
  tape : w.tape = w0.tape
  output : w.output = w0.output
  size : w0.heap.size ≤ w.heap.size
  block : ∀ k, k < w0.heap.size → v1.ownBlock ≠ some k → v2.ownBlock ≠ some k → w.heap[k]? = w0.heap[k]?
def Row17 (w0 : World) (base : Nat) (v1 : Value) (L : List (Nat × NR)) (v : Value) (w : World) : Prop := Row w base v L ∧ ∀ g, v.ownBlock = some g → v1.ownBlock = some g ∨ w0.heap.size ≤ g
def Kid17 (w0 : World) (base : Nat) (v2 : Value) (l : List KR) (v : Value) (w : World) : Prop := OwnK w base v l ∧ ∀ g, v.ownBlock = some g → v2.ownBlock = some g ∨ w0.heap.size ≤ g
def V17 (w0 : World) (base : Nat) (v1 v2 : Value) (L : List (Nat × NR)) (b : Nat) (N : NR) : Nat → Value → World → Prop
  | 0, v, _ => v = v1
  | 1, v, _ => v = pn b
  | 2, v, w => Laid w0 #[pn b] 30 v w
  | 3, v, w => Row17 w0 base v1 (L ++ [(b, N)]) v w
  | 4, v, _ => v = v2
  | 5, v, _ => v = kidV N.kr
  | 6, v, w => Laid w0 (pcKd N.kr).toArray 38 v w
  | 7, v, w => Kid17 w0 base v2 (krs L ++ [N.kr]) v w
  | 8, v, w => Row17 w0 base v1 (L ++ [(b, N)]) v w
  | 9, v, w => Kid17 w0 base v2 (krs L ++ [N.kr]) v w
  | _, _, _ => True
def N17 (base : Nat) (v1 v2 : Value) (L : List (Nat × NR)) : Nat → World → Prop
  | 3, w => Row w base v1 L
  | 7, w => OwnK w base v2 (krs L)
  | _, _ => True
def D17 (w0 : World) (base : Nat) (v1 v2 : Value) (L : List (Nat × NR)) (b : Nat) (N : NR) : Dx.Words := ⟨G17 w0 v1 v2, N17 base v1 v2 L, V17 w0 base v1 v2 L b N, fun i w w' => w.grownBy w' (row17 v1 v2 i)⟩

theorem Laid.grown {cs : Array Value} {t : TypeId} {v : Value} {w w' : World} {r : Option Nat} (h : Laid w0 cs t v w) (hg : w.grownBy w' r) (hr : ∀ g, r = some g → g < w0.heap.size) : Laid w0 cs t v w' := by
  obtain ⟨k, e, hk, hge⟩ := h
  exact ⟨k, e, (hg.block k (lt_of_block hk) fun e => by have := hr k e.symm; omega).trans hk, hge⟩
theorem Row17.grown {v : Value} {w w' : World} {r : Option Nat} {M : List (Nat × NR)} (h : Row17 w0 base v1 M v w) (hg : w.grownBy w' r) (hr : ∀ g, r = some g → g < w0.heap.size ∧ v1.ownBlock ≠ some g ∧ ∀ x ∈ M, x.1 ≠ g) : Row17 w0 base v1 M v w' :=
  ⟨h.1.grown hg fun g e => ⟨fun e2 => by
    obtain ⟨h1, h2, _⟩ := hr g e
    rcases h.2 g e2 with h3 | h3
    · exact h2 h3
    · omega, (hr g e).2.2⟩, h.2⟩
theorem Kid17.grown {v : Value} {w w' : World} {r : Option Nat} {l : List KR} (h : Kid17 w0 base v2 l v w) (hg : w.grownBy w' r) (hr : ∀ g, r = some g → g < w0.heap.size ∧ v2.ownBlock ≠ some g) : Kid17 w0 base v2 l v w' :=
  ⟨h.1.grown hg fun g e e2 => by
    obtain ⟨h1, h2⟩ := hr g e
    rcases h.2 g e2 with h3 | h3
    · exact h2 h3
    · omega, h.2⟩

theorem d17_ok (h : At17 w0 base v1 v2 L b N kb) (l : List Oper) (h83 : Dx.depB l 8 3 = true) (h97 : Dx.depB l 9 7 = true) : (D17 w0 base v1 v2 L b N).Ok l := by
  have lt : ∀ i g, row17 v1 v2 i = some g → g < w0.heap.size := by
    intro i g hg
    rcases row17_cases v1 v2 i with ⟨_, e⟩ | ⟨_, e⟩ | ⟨_, _, e⟩ <;> rw [e] at hg
    · exact h.lt1 g hg
    · exact h.lt2 g hg
    · cases hg
  have not1 : ∀ j g, j ≠ 3 → row17 v1 v2 j = some g → v1.ownBlock ≠ some g ∧ ∀ x ∈ L ++ [(b, N)], x.1 ≠ g := by
    intro j g hj hg
    rcases row17_cases v1 v2 j with ⟨e3, _⟩ | ⟨_, e⟩ | ⟨_, _, e⟩
    · exact absurd e3 hj
    · rw [e] at hg
      exact ⟨fun e1 => h.two g e1 hg, h.node2 g hg⟩
    · rw [e] at hg
      cases hg
  have not2 : ∀ j g, j ≠ 7 → row17 v1 v2 j = some g → v2.ownBlock ≠ some g := by
    intro j g hj hg
    rcases row17_cases v1 v2 j with ⟨_, e⟩ | ⟨e7, _⟩ | ⟨_, _, e⟩
    · rw [e] at hg
      exact h.two g hg
    · exact absurd e7 hj
    · rw [e] at hg
      cases hg
  refine ⟨fun i w w' hG hS => ?_, fun i j w w' hij hG hN hS => ?_, fun i j u w w' hij hdd hG hV hS => ?_⟩
  · have hS : w.grownBy w' (row17 v1 v2 i) := hS
    have hG : G17 w0 v1 v2 w := hG
    refine ⟨hS.os.trans hG.os, hS.tape.trans hG.tape, hS.output.trans hG.output, Nat.le_trans hG.size hS.size, fun k hk h1 h2 => (hS.block k (Nat.lt_of_lt_of_le hk hG.size) fun e => ?_).trans (hG.block k hk h1 h2)⟩
    rcases row17_cases v1 v2 i with ⟨_, e'⟩ | ⟨_, e'⟩ | ⟨_, _, e'⟩ <;> rw [e'] at e
    · exact h1 e.symm
    · exact h2 e.symm
    · cases e
  · have hS : w.grownBy w' (row17 v1 v2 j) := hS
    by_cases h3 : i = 3
    · subst h3
      have hN : Row w base v1 L := hN
      exact hN.grown hS fun g e => ⟨(not1 j g (Ne.symm hij) e).1, fun x hx => (not1 j g (Ne.symm hij) e).2 x (List.mem_append_left _ hx)⟩
    by_cases h7 : i = 7
    · subst h7
      have hN : OwnK w base v2 (krs L) := hN
      exact hN.grown hS fun g e => not2 j g (Ne.symm hij) e
    show N17 base v1 v2 L i w'
    unfold N17
    split
    · exact absurd rfl h3
    · exact absurd rfl h7
    · trivial
  · have hS : w.grownBy w' (row17 v1 v2 j) := hS
    have hV : V17 w0 base v1 v2 L b N i u w := hV
    show V17 w0 base v1 v2 L b N i u w'
    match i, hij, hdd, hV with
    | 0, _, _, hV => exact hV
    | 1, _, _, hV => exact hV
    | 2, _, _, hV => exact Laid.grown hV hS (lt j)
    | 3, hij, _, hV => exact Row17.grown hV hS fun g e => ⟨lt j g e, (not1 j g (Ne.symm hij) e).1, (not1 j g (Ne.symm hij) e).2⟩
    | 4, _, _, hV => exact hV
    | 5, _, _, hV => exact hV
    | 6, _, _, hV => exact Laid.grown hV hS (lt j)
    | 7, hij, _, hV => exact Kid17.grown hV hS fun g e => ⟨lt j g e, not2 j g (Ne.symm hij) e⟩
    | 8, _, hdd, hV =>
      have hj : j ≠ 3 := fun e => by rw [e, h83] at hdd; cases hdd
      exact Row17.grown hV hS fun g e => ⟨lt j g e, (not1 j g hj e).1, (not1 j g hj e).2⟩
    | 9, _, hdd, hV =>
      have hj : j ≠ 7 := fun e => by rw [e, h97] at hdd; cases hdd
      exact Kid17.grown hV hS fun g e => ⟨lt j g e, not2 j g hj e⟩
    | i + 10, _, _, _ => trivial

theorem G17.node (hG : G17 w0 v1 v2 w) (h : At17 w0 base v1 v2 L b N kb) : NodeAt w b N :=
  h.node.keep (hG.block b h.node.lt (fun e => h.node1 b e (b, N) (List.mem_append_right _ (List.mem_singleton.2 rfl)) rfl) (fun e => h.node2 b e (b, N) (List.mem_append_right _ (List.mem_singleton.2 rfl)) rfl))
theorem G17.kid (hG : G17 w0 v1 v2 w) (h : At17 w0 base v1 v2 L b N kb) : w.heap[kb]? = some (.cells (pcKd N.kr).toArray 38 (0, 0)) :=
  (hG.block kb (lt_of_block h.kid) h.kb1 h.kb2).trans h.kid
theorem G17.start (w0 : World) (v1 v2 : Value) : G17 w0 v1 v2 w0 := ⟨rfl, rfl, rfl, Nat.le_refl _, fun _ _ _ _ => rfl⟩
theorem s17_nodes (h : At17 w0 base v1 v2 L b N kb) {u : Value} (hG : G17 w0 v1 v2 w) (hN : Row w base v1 L) (hu : Laid w0 #[pn b] 30 u w) :
    ∃ v' w', (Builtin.append_ #[25, 25] 25 #[v1, u]).run Try.prog w = .ok v' w' ∧ w.grownBy w' v1.ownBlock ∧ Row17 w0 base v1 (L ++ [(b, N)]) v' w' := by
  obtain ⟨k, rfl, hk, _⟩ := hu
  obtain ⟨v', w', h1, h2, h3, h4⟩ := hN.push (hG.node h) (fun g hg => h.node1 g hg (b, N) (List.mem_append_right _ (List.mem_singleton.2 rfl))) h.len hk
  refine ⟨v', w', h1, h3, h2, fun g hg => ?_⟩
  rcases h4 with h4 | h4
  · exact .inl (h4 ▸ hg)
  · rw [h4] at hg
    cases hg
    exact .inr hG.size
theorem s17_kids (h : At17 w0 base v1 v2 L b N kb) {u : Value} (hG : G17 w0 v1 v2 w) (hN : OwnK w base v2 (krs L)) (hu : Laid w0 (pcKd N.kr).toArray 38 u w) :
    ∃ v' w', (Builtin.append_ #[26, 26] 26 #[v2, u]).run Try.prog w = .ok v' w' ∧ w.grownBy w' v2.ownBlock ∧ Kid17 w0 base v2 (krs L ++ [N.kr]) v' w' := by
  obtain ⟨k, rfl, hk, _⟩ := hu
  obtain ⟨v', w', h1, h2, h3, h4⟩ := run_append_at encKd 26 38 26 _ _ ⟨_, Try.underlying26, rfl⟩ kidInfo rfl (by omega) (by omega) hN N.kr (h := k) hk (by rw [krs_len]; have := h.len; omega) (Nat.le_trans h.row.base hG.size)
  refine ⟨v', w', h1, h3, h2, fun g hg => ?_⟩
  rcases h4 with h4 | h4
  · exact .inl (h4 ▸ hg)
  · rw [h4] at hg
    cases hg
    exact .inr hG.size
end

/-- What stands at 'nodes, kids = append(nodes[:q:q], n), append(kids[:q:q], k)'. -/
structure At35 (w0 : World) (A1 A2 : Option Addr) (q : Nat) (M : List (Nat × NR)) (b : Nat) (N : NR) (kb : Nat) : Prop where
  ls1 : Ls pcP w0 A1 (ptrs M)
  ls2 : Ls pcKd w0 A2 (krs M)
  len : M.length = q
  small : q ≤ 1000
  kid : w0.heap[kb]? = some (.cells (pcKd N.kr).toArray 38 (0, 0))
def V35 (w0 : World) (v1 v2 : Value) (A1 A2 : Option Addr) (q : Nat) (M : List (Nat × NR)) (b : Nat) (N : NR) : Nat → Value → World → Prop
  | 0, v, _ => v = v1
  | 1, v, _ => v = .int .i64 (q : Int)
  | 2, v, _ => v = .int .i64 (q : Int)
  | 3, v, _ => v = .slice A1 q q
  | 4, v, _ => v = pn b
  | 5, v, w => Laid w0 #[pn b] 30 v w
  | 6, v, w => OwnP w w0.heap.size v (ptrs (M ++ [(b, N)]))
  | 7, v, _ => v = v2
  | 8, v, _ => v = .int .i64 (q : Int)
  | 9, v, _ => v = .int .i64 (q : Int)
  | 10, v, _ => v = .slice A2 q q
  | 11, v, _ => v = kidV N.kr
  | 12, v, w => Laid w0 (pcKd N.kr).toArray 38 v w
  | 13, v, w => OwnK w w0.heap.size v (krs M ++ [N.kr])
  | 14, v, w => OwnP w w0.heap.size v (ptrs (M ++ [(b, N)]))
  | 15, v, w => OwnK w w0.heap.size v (krs M ++ [N.kr])
  | _, _, _ => True
def D35 (w0 : World) (v1 v2 : Value) (A1 A2 : Option Addr) (q : Nat) (M : List (Nat × NR)) (b : Nat) (N : NR) : Dx.Words := ⟨fun w => Below w0.heap.size w0 w, fun _ _ => True, V35 w0 v1 v2 A1 A2 q M b N, fun _ w w' => Below w.heap.size w w'⟩
theorem Laid.below {w0 : World} {cs : Array Value} {t : TypeId} {v : Value} {w w' : World} (h : Laid w0 cs t v w) (hb : Below w.heap.size w w') : Laid w0 cs t v w' := by
  obtain ⟨k, e, hk, hge⟩ := h
  exact ⟨k, e, (hb.block k (lt_of_block hk)).trans hk, hge⟩
theorem d35_ok (w0 : World) (v1 v2 : Value) (A1 A2 : Option Addr) (q : Nat) (M : List (Nat × NR)) (b : Nat) (N : NR) (l : List Oper) : (D35 w0 v1 v2 A1 A2 q M b N).Ok l := by
  refine ⟨fun i w w' hG hS => ?_, fun i j w w' _ _ _ _ => trivial, fun i j u w w' _ _ hG hV hS => ?_⟩
  · exact bthen hG hS
  · have hS : Below w.heap.size w w' := hS
    have hV : V35 w0 v1 v2 A1 A2 q M b N i u w := hV
    show V35 w0 v1 v2 A1 A2 q M b N i u w'
    match i, hV with
    | 0, hV => exact hV
    | 1, hV => exact hV
    | 2, hV => exact hV
    | 3, hV => exact hV
    | 4, hV => exact hV
    | 5, hV => exact Laid.below hV hS
    | 6, hV => exact OwnL.below hV hS
    | 7, hV => exact hV
    | 8, hV => exact hV
    | 9, hV => exact hV
    | 10, hV => exact hV
    | 11, hV => exact hV
    | 12, hV => exact Laid.below hV hS
    | 13, hV => exact OwnL.below hV hS
    | 14, hV => exact OwnL.below hV hS
    | 15, hV => exact OwnL.below hV hS
    | i + 16, _ => trivial
section
variable {w0 w : World} {A1 A2 : Option Addr} {q : Nat} {M : List (Nat × NR)} {b : Nat} {N : NR} {kb : Nat}
theorem s35_nodes (h : At35 w0 A1 A2 q M b N kb) {u : Value} (hG : Below w0.heap.size w0 w) (hu : Laid w0 #[pn b] 30 u w) :
    ∃ v' w', (Builtin.append_ #[25, 25] 25 #[.slice A1 q q, u]).run Try.prog w = .ok v' w' ∧ Below w.heap.size w w' ∧ OwnP w' w0.heap.size v' (ptrs (M ++ [(b, N)])) := by
  obtain ⟨k, rfl, hk, _⟩ := hu
  obtain ⟨v', w', h1, h2, h3⟩ := run_append_full encP 25 30 25 _ _ ⟨_, Try.underlying25, rfl⟩ ptrInfo rfl (by omega) (by omega) (h.ls1.below hG) ((ptrs_len M).trans h.len) (some b) (h := k) hk (by have := h.small; omega)
  refine ⟨v', w', h1, h3, ?_⟩
  rw [ptrs_append]
  exact h2.mono hG.size
theorem s35_kids (h : At35 w0 A1 A2 q M b N kb) {u : Value} (hG : Below w0.heap.size w0 w) (hu : Laid w0 (pcKd N.kr).toArray 38 u w) :
    ∃ v' w', (Builtin.append_ #[26, 26] 26 #[.slice A2 q q, u]).run Try.prog w = .ok v' w' ∧ Below w.heap.size w w' ∧ OwnK w' w0.heap.size v' (krs M ++ [N.kr]) := by
  obtain ⟨k, rfl, hk, _⟩ := hu
  obtain ⟨v', w', h1, h2, h3⟩ := run_append_full encKd 26 38 26 _ _ ⟨_, Try.underlying26, rfl⟩ kidInfo rfl (by omega) (by omega) (h.ls2.below hG) ((krs_len M).trans h.len) N.kr (h := k) hk (by have := h.small; omega)
  exact ⟨v', w', h1, h3, h2.mono hG.size⟩
theorem At35.kid_later (h : At35 w0 A1 A2 q M b N kb) (hG : Below w0.heap.size w0 w) : w.heap[kb]? = some (.cells (pcKd N.kr).toArray 38 (0, 0)) := (hG.block kb (lt_of_block h.kid)).trans h.kid
end

theorem At17.n {w0 : World} {base : Nat} {v1 v2 : Value} {L : List (Nat × NR)} {b : Nat} {N : NR} {kb : Nat} (h : At17 w0 base v1 v2 L b N kb) : ∀ i, N17 base v1 v2 L i w0 := by
  intro i
  unfold N17
  split
  · exact h.row
  · exact h.kids
  · trivial
theorem bld_done {w w0 wf : World} {v1 v2 u1 u2 : Value} {L : List (Nat × NR)} {b k kb : Nat} {N : NR} (hB : Bld w w0 v1 v2 L k) (hG : G17 w0 v1 v2 wf) (h8 : Row17 w0 w.heap.size v1 (L ++ [(b, N)]) u1 wf) (h9 : Kid17 w0 w.heap.size v2 (krs L ++ [N.kr]) u2 wf)
    (hh : 1 ≤ N.h ∧ N.h ≤ k + 1 ∧ N.en + N.kn ≤ 1000) : Bld w wf u1 u2 (L ++ [(b, N)]) (k + 1) := by
  refine ⟨h8.1, by rw [krs_append]; exact h9.1, fun x hx => ?_, by have := hB.len; simp; omega, ?_⟩
  · rcases List.mem_append.1 hx with hx | hx
    · have := hB.ok x hx
      omega
    · rw [List.mem_singleton] at hx
      subst hx
      exact hh
  · refine ⟨hG.os.trans hB.below.os, hG.tape.trans hB.below.tape, hG.output.trans hB.below.output, Nat.le_trans hB.below.size hG.size, fun i hi => (hG.block i (Nat.lt_of_lt_of_le hi hB.below.size) (fun e => ?_) (fun e => ?_)).trans (hB.below.block i hi)⟩
    · have := hB.row.own.at_block i e
      omega
    · have := hB.kids.at_block i e
      omega
theorem bld_cut {w w0 wf : World} {v1 v2 u1 u2 : Value} {L : List (Nat × NR)} {b k q : Nat} {N : NR} (hB : Bld w w0 v1 v2 L k) (hN : NodeAt w0 b N) (hG : Below w0.heap.size w0 wf) (h1 : OwnP wf w0.heap.size u1 (ptrs (L.take q ++ [(b, N)]))) (h2 : OwnK wf w0.heap.size u2 (krs (L.take q) ++ [N.kr]))
    (hh : 1 ≤ N.h ∧ N.h ≤ k + 1 ∧ N.en + N.kn ≤ 1000) : Bld w wf u1 u2 (L.take q ++ [(b, N)]) (k + 1) := by
  refine ⟨Row.make (h1.mono hB.below.size) (fun x hx => ?_) (Nat.le_trans hB.below.size hG.size), by rw [krs_append]; exact h2.mono hB.below.size, fun x hx => ?_, by have := hB.len; simp; omega, bthen hB.below hG⟩
  · rcases List.mem_append.1 hx with hx | hx
    · exact (hB.row.all x (List.mem_of_mem_take hx)).below hG
    · rw [List.mem_singleton] at hx
      subst hx
      exact hN.below hG
  · rcases List.mem_append.1 hx with hx | hx
    · have := hB.ok x (List.mem_of_mem_take hx)
      omega
    · rw [List.mem_singleton] at hx
      subst hx
      exact hh

end Go.Proofs.Ytabgbbfiggnanaa
