/-
  Arguments of the rows of layer 14: lists of lists of numbers; conditions stand at each.
-/
import Derived.Test.YtelenboncejdaaaGreatDoorShRefC
namespace Go.Proofs.YtelenboncejdaaaGreatDoor
open Go.RowKit Go.Sort Go.ChangeShapes Go.WideShapes Go.Joins Go.Deep
set_option linter.unusedVariables false
set_option linter.unusedSimpArgs false

/-- A list of numbers, with where it lies. -/
structure SL where
  A : Option Addr
  n : Nat
  c : Nat
  l : List Int
def pcSL (x : SL) : List Value := [.slice x.A x.n x.c]
theorem encSL : Enc pcSL 1 := ⟨fun _ => rfl, fun x u hu => by
  simp only [pcSL, List.mem_cons, List.not_mem_nil, or_false] at hu
  subst hu
  rfl⟩
/-- Lists of numbers as an argument. -/
structure ArgSL (W : World) (A : Option Addr) (n c : Nat) (l : List SL) : Prop where
  len : l.length = n
  cap : n ≤ c
  small : n ≤ 140737488351232
  ls : Ls pcSL W A l
  ok : ∀ o ∈ l, ArgI W o.A o.n o.c o.l
theorem ArgSL.below {W W' : World} {A : Option Addr} {n c : Nat} {l : List SL} (h : ArgSL W A n c l) (hb : Below W.heap.size W W') : ArgSL W' A n c l := ⟨h.len, h.cap, h.small, h.ls.below hb, fun o ho => (h.ok o ho).below hb⟩
theorem slice_ofI {t e : TypeId} (hu : Tryz.prog.underlying t = some (.slice e)) {H : Type} {enc : TypeId × Value → H} {W : World} {fuel : Nat} {cs : List Value} {x : DataW H × List MemPlace}
    (h : DataW.trod enc Tryz.prog W 0 (fun _ => true) true fuel t cs = some x) : ∃ A n c, cs = [.slice A n c] := by
  rcases open_slice hu h with ⟨hc, _⟩ | ⟨a, len, cap, m, q, D, Pl, hc, _⟩
  · exact ⟨_, _, _, hc⟩
  · exact ⟨_, _, _, hc⟩
theorem elemSL {H : Type} {enc : TypeId × Value → H} {W : World} (fuel : Nat) (cs : List Value) (y : DataW H × List MemPlace) (h : DataW.trod enc Tryz.prog W 0 (fun _ => true) true fuel 38 cs = some y)
    (hsz : ∀ m ∈ y.1.weights Tryz.prog 38, m ≤ reachBytes) : ∃ z : SL, cs = pcSL z ∧ ArgI W z.A z.n z.c z.l := by
  obtain ⟨A, n, c, rfl⟩ := slice_ofI Tryz.underlying38 h
  obtain ⟨l, hl⟩ := open_ints (d := y.1) (p := y.2) ⟨_, h⟩ hsz
  exact ⟨⟨A, n, c, l⟩, rfl, hl⟩
theorem open_ints2 {H : Type} {enc : TypeId × Value → H} {W : World} {A : Option Addr} {n c : Nat} {d : DataW H} {p : List MemPlace}
    (h : DataW.Trod enc Tryz.prog W 0 (fun _ => true) true 79 (.slice A n c) d p) (hsz : ∀ m ∈ d.weights Tryz.prog 79, m ≤ reachBytes) : ∃ l, ArgSL W A n c l := by
  obtain ⟨fuel, hf⟩ := h
  obtain ⟨l, h1, h2, h3, h4, h5⟩ := open_list (f := pcSL) (k := 1) (ok := fun z => ArgI W z.A z.n z.c z.l) encSL (by omega) Tryz.underlying79 (by kernel_rfl) (by_ := 24) (by kernel_rfl) (by omega) elemSL hf hsz
  exact ⟨l, h1, h2, h3, h4, h5⟩

end Go.Proofs.YtelenboncejdaaaGreatDoor
