/-
  Slices of numbers: as an argument, opened out of a row; conditions stand at each.
-/
import Derived.Test.YtpchihgdcpbjiaaLedTake
import Derived.Test.YtpchihgdcpbjiaaStrs
namespace Go.Proofs.Ytpchihgdcpbjiaa
open Go.RowKit Go.Sort Go.ChangeShapes Go.WideShapes Go.Joins Go.Deep
set_option linter.unusedVariables false
set_option linter.unusedSimpArgs false

def I64 (x : Int) : Prop := -9223372036854775808 ≤ x ∧ x ≤ 9223372036854775807
theorem wf_i64 {n : Int} (h : (Lit.int .i64 n).wf = true) : I64 n := by
  have : -9223372036854775808 ≤ n ∧ n ≤ 9223372036854775807 := by simpa [Lit.wf, IntKind.min, IntKind.max, IntKind.signed, IntKind.bits] using h
  exact this
/-- A number as a cell. -/
def icell (x : Int) : List Value := [.int .i64 x]
theorem ienc : Enc icell 1 := ⟨fun _ => rfl, fun x u hu => by rw [List.mem_singleton.1 hu]; rfl⟩
theorem icell_flat (l : List Int) : l.flatMap icell = l.map (.int .i64) := by
  induction l with
  | nil => rfl
  | cons x l ih => rw [List.flatMap_cons, ih]; rfl
/-- A slice of numbers as an argument. -/
structure ArgI (w : World) (A : Option Addr) (n c : Nat) (l : List Int) : Prop where
  len : l.length = n
  cap : n ≤ c
  bd : n ≤ 140737488351232
  ls : Ls icell w A l
  ok : ∀ z ∈ l, I64 z
theorem ArgI.below {w w' : World} {A : Option Addr} {n c : Nat} {l : List Int} (h : ArgI w A n c l) (hb : Below w.heap.size w w') : ArgI w' A n c l := ⟨h.len, h.cap, h.bd, h.ls.below hb, h.ok⟩
theorem ArgI.nil (w : World) : ArgI w none 0 0 [] := ⟨rfl, Nat.le_refl _, by omega, Ls.nil _ _, by simp⟩
theorem elemI {H : Type} {enc : TypeId × Value → H} {W : World} (fuel : Nat) (cs : List Value) (y : DataW H × List MemPlace) (h : DataW.trod enc Try.prog W 0 (fun _ => true) true fuel 3 cs = some y)
    (hsz : ∀ m ∈ y.1.weights Try.prog 3, m ≤ reachBytes) : ∃ z : Int, cs = icell z ∧ I64 z := by
  obtain ⟨i, hi, hd, wi⟩ := DataW.trod_int Try.underlying3 h
  exact ⟨i, by simpa [icell] using hi, wf_i64 wi⟩
theorem open_ints {H : Type} {enc : TypeId × Value → H} {W : World} {A : Option Addr} {n c : Nat} {d : DataW H} {p : List MemPlace}
    (h : DataW.Trod enc Try.prog W 0 (fun _ => true) true 29 (.slice A n c) d p) (hsz : ∀ m ∈ d.weights Try.prog 29, m ≤ reachBytes) : ∃ l, ArgI W A n c l := by
  obtain ⟨fuel, hf⟩ := h
  obtain ⟨l, h1, h2, h3, h4, h5⟩ := open_list (f := icell) (k := 1) (ok := I64) ienc (by omega) Try.underlying29 (by kernel_rfl) (by_ := 8) (by kernel_rfl) (by omega) elemI hf hsz
  exact ⟨l, h1, h2, h3, h4, h5⟩
theorem Ls.atI {w : World} {A : Option Addr} {l : List Int} (h : Ls icell w A l) {i : Nat} (hi : i < l.length) :
    ∃ ad x, A = some ad ∧ l[i]? = some x ∧ ad.block < w.heap.size ∧ w.cell? (ad.add i) = some (.int .i64 x) := by
  obtain ⟨ad, x, rfl, hx, hlt, hc⟩ := h.at_ ienc hi
  have := hc 0 _ (by omega) rfl
  rw [Nat.mul_one] at this
  refine ⟨ad, x, rfl, hx, hlt, ?_⟩
  exact this

end Go.Proofs.Ytpchihgdcpbjiaa
