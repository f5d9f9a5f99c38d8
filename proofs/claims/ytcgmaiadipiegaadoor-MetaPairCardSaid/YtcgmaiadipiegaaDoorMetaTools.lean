/-
  Steps that the laws of layer 6 share: the row of an encoding, a beginning copied over it; conditions stand at each.
-/
import Derived.Test.YtcgmaiadipiegaaDoorMetaAwake
import Derived.Test.YtcgmaiadipiegaaDoorRooms
namespace Go.Proofs.YtcgmaiadipiegaaDoor
open Go.RowKit Go.Sort
set_option linter.unusedVariables false

/-- The row of the call's own, by its block. -/
theorem OB.block {w : World} {base : Nat} {v : Value} {l : List UInt8} (h : OB w base v l) (h0 : 0 < l.length) :
    ∃ (g cap : Nat) (Z : List Value), v = .slice (some ⟨g, 0, none⟩) l.length cap ∧ base ≤ g ∧ w.heap[g]? = some (.cells Z.toArray 5 (0, 0)) ∧ l.length ≤ cap ∧ Z.take l.length = bcells l := by
  rcases h.2 with ⟨rfl, hz⟩ | ⟨g, cap, cur, rfl, hg, hh, hc, _, _, ht⟩
  · omega
  · refine ⟨g, cap, cur.toList, rfl, hg, ?_, hc, ?_⟩
    · rw [hh]
    · simpa using ht

/-- A beginning of P copied over cells that begin as Q. -/
theorem over_take {Z : List Value} {P Q : List UInt8} {k : Nat} (hp : P.length = 256) (hq : Q.length = 256) (hk : k ≤ 256) (hz : Z.take 256 = bcells Q) : (splice Z 0 (bcells (P.take k))).take 256 = bcells (ovr P Q k) := by
  have hlen : (bcells (P.take k)).length = k := by rw [bcells_length, List.length_take]; omega
  have hzl : 256 ≤ Z.length := by
    have := congrArg List.length hz
    rw [List.length_take, bcells_length, hq] at this
    omega
  have hs : splice Z 0 (bcells (P.take k)) = bcells (P.take k) ++ Z.drop k := by
    unfold splice
    rw [List.take_zero, List.nil_append, Nat.zero_add, hlen]
  rw [hs, List.take_append, List.take_of_length_le (by omega), hlen]
  unfold ovr
  rw [bcells_append]
  congr 1
  rw [List.take_drop, show k + (256 - k) = 256 by omega, hz]
  simp [bcells]
theorem rd_of_row {w : World} {g n : Nat} {Z : List Value} {l : List UInt8} (hz : Z.take n = bcells l) (hh : w.heap[g]? = some (.cells Z.toArray 5 (0, 0))) : Rd w (some ⟨g, 0, none⟩) l := by
  have hs2 : Z = bcells l ++ Z.drop n := by rw [← hz, List.take_append_drop]
  rw [hs2] at hh
  exact rd_pre hh
theorem rd_over {w : World} {g : Nat} {Z : List Value} {P Q : List UInt8} {k : Nat} (hp : P.length = 256) (hq : Q.length = 256) (hk : k ≤ 256) (hz : Z.take 256 = bcells Q)
    (hh : w.heap[g]? = some (.cells (splice Z 0 (bcells (P.take k))).toArray 5 (0, 0))) : Rd w (some ⟨g, 0, none⟩) (ovr P Q k) ∧ (splice Z 0 (bcells (P.take k))).take 256 = bcells (ovr P Q k) :=
  ⟨rd_of_row (over_take hp hq hk hz) hh, over_take hp hq hk hz⟩

theorem Rd.takeN {w : World} {A : Option Addr} {l : List UInt8} (h : Rd w A l) (k : Nat) : ∀ j u, (bcells (l.take k))[j]? = some u → ∀ ad, A = some ad → w.cell? (ad.add j) = some u := by
  intro j u hu ad e
  have h0 : 0 < (l.take k).length := by
    have := (List.getElem?_eq_some_iff.1 hu).1
    rw [bcells_length] at this
    omega
  obtain ⟨ad', e', _, hc⟩ := (h.take k) h0
  rw [e] at e'
  cases e'
  exact hc j u hu

/-- Two boxes, and what stays of them. -/
theorem two_boxes (w : World) (x y x' y' : Int) (t : TypeId) : ∃ W, W = (w.alloc (.cells #[.int .i64 x, .int .i64 y] t)).alloc (.cells #[.int .i64 x', .int .i64 y'] t) ∧ Below w.heap.size w W ∧ W.heap.size = w.heap.size + 2 ∧
    ∀ w', Below W.heap.size W w' → w'.cell? ⟨w.heap.size, 0, none⟩ = some (.int .i64 x) ∧ w'.cell? ⟨w.heap.size, 1, none⟩ = some (.int .i64 y) ∧ w'.cell? ⟨w.heap.size + 1, 0, none⟩ = some (.int .i64 x') ∧ w'.cell? ⟨w.heap.size + 1, 1, none⟩ = some (.int .i64 y') := by
  refine ⟨_, rfl, ((Below.refl _ _).alloc (Nat.le_refl _) _).alloc (by simp) _, by simp, fun w' hb => ?_⟩
  have h1 : ((w.alloc (.cells #[.int .i64 x, .int .i64 y] t)).alloc (.cells #[.int .i64 x', .int .i64 y'] t)).heap[w.heap.size]? = some (.cells #[.int .i64 x, .int .i64 y] t (0, 0)) := (Below.heap_alloc _ _ _ (by simp)).trans (heap_alloc_new w _)
  have h2 : ((w.alloc (.cells #[.int .i64 x, .int .i64 y] t)).alloc (.cells #[.int .i64 x', .int .i64 y'] t)).heap[w.heap.size + 1]? = some (.cells #[.int .i64 x', .int .i64 y'] t (0, 0)) := by
    have := heap_alloc_new (w.alloc (.cells #[.int .i64 x, .int .i64 y] t)) (.cells #[.int .i64 x', .int .i64 y'] t)
    simpa using this
  have k1 := (hb.block w.heap.size (by simp; omega)).trans h1
  have k2 := (hb.block (w.heap.size + 1) (by simp)).trans h2
  exact ⟨cell_at k1 0 _ rfl, cell_at k1 1 _ rfl, cell_at k2 0 _ rfl, cell_at k2 1 _ rfl⟩

theorem OB.rd {w : World} {base g n c : Nat} {l : List UInt8} (h : OB w base (.slice (some ⟨g, 0, none⟩) n c) l) : Rd w (some ⟨g, 0, none⟩) l := by
  obtain ⟨A, c', h1, _, h3⟩ := h.form
  cases h1
  exact h3
theorem Rd.kept {w w' : World} {g : Nat} {l : List UInt8} (h : Rd w (some ⟨g, 0, none⟩) l) (hk : w'.heap[g]? = w.heap[g]?) : Rd w' (some ⟨g, 0, none⟩) l := fun h0 => by
  obtain ⟨ad, e, hlt, hc⟩ := h h0
  cases e
  refine ⟨_, rfl, ?_, fun j u hu => (World.cell?_of_block (w := w) (by rw [block_of_add]; exact hk)).trans (hc j u hu)⟩
  have : w.heap[g]? = some w.heap[g] := Array.getElem?_eq_getElem hlt
  rw [this] at hk
  exact lt_of_block hk

/-- copy onto a row of the call's own: only that row turns. -/
theorem wpList_copy_at {w : World} {ops : Array Oper} {rest : List Oper} {o : Oper} {a : Act} {Q : Exit → Act → World → Prop} (hgd : o.guard = none) (d s : Operand)
    (ho : o.op = .call { callee := .builtin .copy, args := #[d, s], argTypes := #[25, 25] }) (g dLen dCap : Nat) (ad : Addr) (sLen sCap : Nat) (hd : a.eval d = .slice (some ⟨g, 0, none⟩) dLen dCap) (hs : a.eval s = .slice (some ad) sLen sCap)
    (Z : List Value) (hg : w.heap[g]? = some (.cells Z.toArray 5 (0, 0))) (cs : List Value) (hn : cs.length = Nat.min sLen dLen) (hsrc : ∀ j v, cs[j]? = some v → w.cell? (ad.add j) = some v) (hfit : cs.length ≤ Z.length) (h1 : ∀ v ∈ cs, v.oneCell' = true)
    (B : Nat) (w0 : World) (hb : Below B w0 w) (hB : B ≤ g)
    (h : ∀ w', Hid (w'.heap[g]? = some (.cells (splice Z 0 cs).toArray 5 (0, 0))) → Hid (∀ i, i ≠ g → w'.heap[i]? = w.heap[i]?) → Below B w0 w' → wpList Tryd.prog ops Q rest (a.put o.dst (goInt cs.length)) w') :
    wpList Tryd.prog ops Q (o :: rest) a w := by
  refine wpList_copy_own hgd d s 25 25 ho 5 Tryd.underlying25 (by kernel_rfl) g 0 dLen dCap ad sLen sCap hd hs Z.toArray 5 hg cs hn hsrc (by simpa using hfit) h1 ?_
  exact h _ (show _ = _ by simpa [splice] using setRow_heap w g _ _ 5 _ hg) (fun i hi => setRow_other w g i _ hi) (below_setRow hb hB _)

end Go.Proofs.YtcgmaiadipiegaaDoor
