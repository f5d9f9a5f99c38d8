/-
  Conversions between strings and bytes, now and in later worlds; what a row of the call's own reads as.
-/
import Derived.Test.YtpobnifjgajgkaaFixRef
import Derived.Test.YtpobnifjgajgkaaDrawn
namespace Go.Proofs.Ytpobnifjgajgkaa
open Go.RowKit Go.Sort
set_option linter.unusedVariables false

/-- string(b) of a row of the call's own, now and later. -/
theorem conv_own {w : World} {base g n c : Nat} {l : List UInt8} (h : w.ownsRow base 5 1 (.slice (some ⟨g, 0, none⟩) n c) n (bcells l)) (w' : World) (hb : w'.heap[g]? = w.heap[g]?) :
    (convert 23 9 (.slice (some ⟨g, 0, none⟩) n c)).run Try.prog w' = .ok (.string ⟨l.toArray⟩) w' := by
  have hn : l.length = n := by have := h.1; rw [bcells_length] at this; omega
  subst hn
  refine run_convert_bytes_back (P := Try.prog) w' 23 9 5 ⟨g, 0, none⟩ c l Try.underlying23 Try.underlying5 Try.underlying9 (fun j hj => ?_)
  have e : ((⟨g, 0, none⟩ : Addr).add j) = ⟨g, j, none⟩ := by unfold Addr.add; split <;> simp_all
  rw [World.cell?_of_block (w := w) (by rw [block_of_add]; exact hb), e]
  have hc := h.cells (g := g) rfl j (u8 l[j]) (by simp [bcells, hj])
  rw [e] at hc
  exact hc

theorem own_lt {w : World} {base g n c : Nat} {xs : List Value} {e : TypeId} (h : w.ownsRow base e 1 (.slice (some ⟨g, 0, none⟩) n c) n xs) : g < w.heap.size := (h.lt g rfl).2

theorem conv_later {w : World} {base g n c : Nat} {l : List UInt8} (h : w.ownsRow base 5 1 (.slice (some ⟨g, 0, none⟩) n c) n (bcells l)) (d : Nat) (os : Array Obj) :
    (convert 23 9 (.slice (some ⟨g, 0, none⟩) n c)).run Try.prog (grow (redrawn w d) os) = .ok (.string ⟨l.toArray⟩) (grow (redrawn w d) os) :=
  conv_own h _ ((below_regrown w d os).block g (own_lt h))

/-- []byte(s), in whatever world. -/
theorem bytes_of (s : ByteArray) : ∃ (C : World → Nat) (F : World → World),
    (∀ w : World, (convert 9 23 (.string s)).run Try.prog w = .ok (.slice (some ⟨w.heap.size, 0, none⟩) s.size (C w)) (F w)) ∧
    ∀ w : World, Rd (F w) (some ⟨w.heap.size, 0, none⟩) s.data.toList ∧ Below w.heap.size w (F w) := by
  refine ⟨_, _, fun w => run_bytes_of_string w 9 23 5 s Try.underlying9 Try.underlying23 Try.underlying5, fun w => ⟨fun _ => ⟨_, rfl, by simp, fun j u hu => ?_⟩, ?_⟩⟩
  · have e : ((⟨w.heap.size, 0, none⟩ : Addr).add j) = ⟨w.heap.size, j, none⟩ := by unfold Addr.add; split <;> simp_all
    rw [e]
    have h := World.cell?_alloc_mark w.drew (bytesRow s (grownCap w s.size 0 5)) 5 ((bytesRow s (grownCap w s.size 0 5)).size, (bytesRow s (grownCap w s.size 0 5)).size + 1) j
    refine Eq.trans h ?_
    have hj : j < s.data.size := by
      have := (List.getElem?_eq_some_iff.1 hu).1
      simpa [bcells] using this
    unfold bytesRow
    rw [Array.getElem?_append_left (by simpa using hj)]
    simpa [bcells, u8] using hu
  · exact (Below.refl _ _).drew.alloc (Nat.le_refl _) _

theorem be16_len (x : Int) : (be16 x).length = 2 := rfl
theorem be32_len (x : Int) : (be32 x).length = 4 := rfl

theorem put_eq (b : ByteArray) (l : List UInt8) : (b.data.toList ++ l == (b ++ ⟨l.toArray⟩ : ByteArray).toList) = true := by
  rw [beq_iff_eq, ByteArray.toList_eq]
  simp [ByteArray.data_append]

end Go.Proofs.Ytpobnifjgajgkaa
