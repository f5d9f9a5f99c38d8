/-
  The contracts of the law's helpers awake and known; make of nil nodes; conditions stand at each.
-/
import Derived.Test.YtkooaechcbopnaaNodeBranch
namespace Go.Proofs.Ytkooaechcbopnaa
open Go.RowKit Go.Sort
set_option linter.unusedVariables false
set_option linter.unusedSimpArgs false

theorem quiet_is {P : Program} {f : FuncId} {args : Array Value} {w : World} {n : Nat} {v : Value}
    (h : Calls P f args (w.drewN n) fun e w' => e = .returned v ∧ w.drewN n = w') : Calls P f args (w.drewN n) fun e w'' => e = .returned v ∧ ∃ m, w'' = w.drewN m :=
  h.mono fun _ _ ⟨he, hm⟩ => ⟨he, n, hm.symm⟩
theorem quiet_more {P : Program} {f : FuncId} {args : Array Value} {w : World} {n : Nat} {v : Value}
    (h : Calls P f args (w.drewN n) fun e w' => e = .returned v ∧ ∃ nq, w' = (w.drewN n).drewN nq) : Calls P f args (w.drewN n) fun e w'' => e = .returned v ∧ ∃ m, w'' = w.drewN m :=
  h.mono fun _ _ ⟨he, nq, hm⟩ => ⟨he, n + nq, hm.trans (drewN_add _ _ _)⟩
theorem NodeAt.drewN {w : World} {b : Nat} {N : NR} (h : NodeAt w b N) (n : Nat) : NodeAt (w.drewN n) b N := h
theorem byte_of {x : Int} (h : (Lit.int .u8 x).wf = true) : ∃ y : Nat, y < 256 ∧ x = (y : Int) := by
  have : 0 ≤ x ∧ x ≤ 255 := by simpa [Lit.wf, IntKind.min, IntKind.max, IntKind.signed, IntKind.bits] using h
  exact ⟨x.toNat, by omega, by omega⟩

theorem okLeaf_a : okLeaf [⟨⟨#[97]⟩, ByteArray.empty⟩] = true := by decide

/-- make([]*Node, n), n a byte. -/
theorem run_make_nils (n : Nat) (hb : n ≤ 255) (w : World) :
    (Instr.makeSlice 63 (.int .u8 (n : Int)) (.int .u8 (n : Int))).run Try.prog w = .ok (.slice (some ⟨w.heap.size, 0, none⟩) n n) (w.alloc (.cells (List.replicate n (.pointer none)).toArray 26)) := by
  obtain ⟨i0, hi0, hz0, hz1, hz2⟩ := info_parts ptrInfo
  have hr := run_make (P := Try.prog) w 63 26 i0 _ Try.underlying63 hi0 hz0 .u8 .u8 (n : Int) (n : Int) (by omega) (by omega) (by rw [hz2]; omega) (by omega)
  rw [hz1] at hr
  rw [← made_list]
  simpa [Value.cells] using hr
theorem nils_cells : ∀ n : Nat, (List.replicate n (none : Option Nat)).flatMap pcP = List.replicate n (Value.pointer none)
  | 0 => rfl
  | n + 1 => by rw [List.replicate_succ, List.flatMap_cons, nils_cells n]; rfl
theorem ls_nils (n : Nat) (w : World) : Ls pcP (w.alloc (.cells (List.replicate n (.pointer none)).toArray 26)) (some ⟨w.heap.size, 0, none⟩) (List.replicate n none) := fun _ =>
  ⟨_, rfl, by simp, fun j u hu => by
    refine new_row w _ _ j u ?_
    rw [nils_cells] at hu
    simpa using hu⟩

end Go.Proofs.Ytkooaechcbopnaa
