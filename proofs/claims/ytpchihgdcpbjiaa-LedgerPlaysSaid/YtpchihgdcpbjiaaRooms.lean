/-
  A row with room behind what it holds; a row of bytes that may be written; conditions stand at each.
-/
import Derived.Test.YtpchihgdcpbjiaaBytes
import Derived.Lib.BufferWrite
namespace Go.Proofs.Ytpchihgdcpbjiaa
open Go.RowKit Go.Sort
set_option linter.unusedVariables false
set_option linter.unusedSimpArgs false

theorem rd_pre {w : World} {h : Nat} {l : List UInt8} {rest : List Value} (hh : w.heap[h]? = some (.cells (bcells l ++ rest).toArray 5 (0, 0))) : Rd w (some ⟨h, 0, none⟩) l := fun _ => ⟨_, rfl, lt_of_block hh, fun j u hu => by
  have e : ((⟨h, 0, none⟩ : Addr).add j) = ⟨h, j, none⟩ := by unfold Addr.add; split <;> simp_all
  rw [e, cell_of_block hh]
  have hj := (List.getElem?_eq_some_iff.1 hu).1
  rw [List.getElem?_toArray, List.getElem?_append_left hj]
  exact hu⟩

/-- A row of bytes that may be written. -/
def XRow (w : World) (g m : Nat) : Prop := g < w.heap.size ∧ ∀ j, j < m → (∃ v : Int, w.cell? ⟨g, j, none⟩ = some (.int .u8 v)) ∧ w.frozen? ⟨g, j, none⟩ = false
theorem XRow.set {w : World} {g m : Nat} (h : XRow w g m) (k : Nat) (v : Int) : XRow (w.setCell ⟨g, k, none⟩ (.int .u8 v)) g m := by
  refine ⟨by simpa [World.setCell] using h.1, fun j hj => ?_⟩
  obtain ⟨⟨u, hu⟩, hf⟩ := h.2 j hj
  refine ⟨?_, by simpa using hf⟩
  by_cases hjk : j = k
  · subst hjk
    exact ⟨v, World.cell?_setCell_same _ _ _ hu⟩
  · exact ⟨u, (World.cell?_setCell_other _ _ _ _ (fun e => hjk (by injection e with _ e; exact e.symm))).trans hu⟩
theorem XRow.of_own {w : World} {base g n c : Nat} {l : List UInt8} (h : w.ownsRow base 5 1 (.slice (some ⟨g, 0, none⟩) n c) n (bcells l)) : XRow w g n := by
  rcases h.2 with ⟨hv, _⟩ | ⟨g', cap, cur, hv, _, hh, hnc, _, hs, ht⟩
  · cases hv
  · cases hv
    have hln : l.length = n := by have := h.1; rw [bcells_length] at this; omega
    refine ⟨lt_of_block hh, fun j hj => ⟨⟨(l[j]'(by omega)).toNat, ?_⟩, by simp [World.frozen?, hh]⟩⟩
    rw [cell_of_block hh]
    have h2 : cur.toList[j]? = (bcells l)[j]? := by
      rw [← ht, List.getElem?_take_of_lt (by omega)]
    rw [Array.getElem?_toList] at h2
    rw [h2]
    simp [bcells, u8, show j < l.length by omega]
theorem XRow.block {w w' : World} {g m : Nat} (h : XRow w g m) (hb : w'.heap[g]? = w.heap[g]?) (hs : g < w'.heap.size) : XRow w' g m :=
  ⟨hs, fun j hj => ⟨(by obtain ⟨u, hu⟩ := (h.2 j hj).1; exact ⟨u, (World.cell?_of_block (w := w) (a := ⟨g, j, none⟩) hb).trans hu⟩), (World.frozen?_of_block (w := w) (a := ⟨g, j, none⟩) hb).trans (h.2 j hj).2⟩⟩

theorem below_only {B : Nat} {a w w' : World} {g : Nat} (h : Below B a w) (hg : w.grownBy w' (some g)) (hB : B ≤ w.heap.size) (hr : B ≤ g) : Below B a w' :=
  h.grown hg hB (fun k hk => by cases hk; exact hr)
theorem xor8 (x y : UInt8) : bits .xor .u8 (x.toNat : Int) (y.toNat : Int) = ((x ^^^ y).toNat : Int) := by
  show IntKind.u8.wrap ((BitVec.ofInt 8 (x.toNat : Int) ^^^ BitVec.ofInt 8 (y.toNat : Int)).toNat : Int) = _
  rw [BitVec.ofInt_natCast, BitVec.ofInt_natCast, BitVec.toNat_xor, BitVec.toNat_ofNat, BitVec.toNat_ofNat]
  have h1 := x.toNat_lt
  have h2 := y.toNat_lt
  have h3 := (x ^^^ y).toNat_lt
  rw [Nat.mod_eq_of_lt (by omega), Nat.mod_eq_of_lt (by omega), ← UInt8.toNat_xor, IntKind.wrap_u8]
  omega
theorem data_len (b : ByteArray) : b.data.toList.length = b.size := rfl
theorem XRow.below {w w' : World} {g m : Nat} (h : XRow w g m) (hb : Below w.heap.size w w') : XRow w' g m := h.block (hb.block g h.1) (Nat.lt_of_lt_of_le h.1 hb.size)

end Go.Proofs.Ytpchihgdcpbjiaa
