/-
  Small steps that the laws of layer 4 share: what Encode answers for a page that can be and for one that can't; bytes in later worlds; conditions stand at each.
-/
import Derived.Test.YtgicomadlhnkjaaDoorPageEncode
namespace Go.Proofs.YtgicomadlhnkjaaDoor
open Go.RowKit Go.Sort
set_option linter.unusedVariables false

theorem enc_ok {w : World} {p : PP} {e : Ending} {w' : World} (h : EncPost w p e w') (hok : okPage p) : ∃ v, e = .returned (.tuple #[v, .int .i64 0]) ∧ OB w' w.heap.size v (encL p) ∧ Below w.heap.size w w' := by
  obtain ⟨⟨_, v, h1, h2⟩ | ⟨h, _⟩, hb⟩ := h
  · exact ⟨v, h1, h2, hb⟩
  · exact absurd hok h
theorem enc_no {w : World} {p : PP} {e : Ending} {w' : World} (h : EncPost w p e w') (hok : ¬ okPage p) : e = .returned (.tuple #[.slice none 0 0, .int .i64 1]) ∧ Below w.heap.size w w' := by
  obtain ⟨⟨h, _⟩ | ⟨_, h1⟩, hb⟩ := h
  · exact absurd h hok
  · exact ⟨h1, hb⟩
theorem rd_past {U : World} (q : Dc.Past [] U) {A : Option Addr} {l : List UInt8} (h : Rd U A l) : Rd q.val A l := fun h0 => by
  obtain ⟨ad, e, hlt, hc⟩ := h h0
  exact ⟨ad, e, Nat.lt_of_lt_of_le hlt q.ok.1, fun j u hu => (q.ok.cell (by rw [block_of_add]; exact hlt) (by simp)).trans (hc j u hu)⟩

end Go.Proofs.YtgicomadlhnkjaaDoor
