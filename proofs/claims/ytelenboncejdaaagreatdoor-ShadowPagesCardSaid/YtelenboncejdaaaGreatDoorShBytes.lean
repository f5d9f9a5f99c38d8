/-
  Bytes as an argument of a row; conditions stand at each.
-/
import Derived.Test.YtelenboncejdaaaGreatDoorShPgLaid
namespace Go.Proofs.YtelenboncejdaaaGreatDoor
open Go.RowKit Go.Sort Go.ChangeShapes Go.WideShapes
set_option linter.unusedVariables false
set_option linter.unusedSimpArgs false

theorem byte_of8 {x : Int} (h : (Lit.int .u8 x).wf = true) : ∃ y : UInt8, x = (y.toNat : Int) := by
  have : 0 ≤ x ∧ x ≤ 255 := by simpa [Lit.wf, IntKind.min, IntKind.max, IntKind.signed, IntKind.bits] using h
  refine ⟨UInt8.ofNat x.toNat, ?_⟩
  rw [UInt8.toNat_ofNat']
  omega
/-- Bytes that come in. -/
structure ArgB (W : World) (A : Option Addr) (n c : Nat) (l : List UInt8) : Prop where
  len : l.length = n
  cap : n ≤ c
  small : n ≤ 140737488351232
  rd : Rd W A l
theorem elemB {H : Type} {enc : TypeId × Value → H} {W : World} (fuel : Nat) (cs : List Value) (y : DataW H × List MemPlace) (h : DataW.trod enc Tryz.prog W 0 (fun _ => true) true fuel 5 cs = some y)
    (hsz : ∀ m ∈ y.1.weights Tryz.prog 5, m ≤ reachBytes) : ∃ z : UInt8, cs = [u8 z] ∧ True := by
  obtain ⟨i, hi, hd, wi⟩ := DataW.trod_int Tryz.underlying5 h
  obtain ⟨z, rfl⟩ := byte_of8 wi
  exact ⟨z, by simpa [u8] using hi, trivial⟩
theorem flat_u8 (l : List UInt8) : l.flatMap (fun b => [u8 b]) = bcells l := by
  induction l with
  | nil => rfl
  | cons x l ih => rw [List.flatMap_cons, ih]; rfl
theorem open_bytes {H : Type} {enc : TypeId × Value → H} {W : World} {A : Option Addr} {n c : Nat} {d : DataW H} {p : List MemPlace}
    (h : DataW.Trod enc Tryz.prog W 0 (fun _ => true) true 46 (.slice A n c) d p) (hsz : ∀ m ∈ d.weights Tryz.prog 46, m ≤ reachBytes) : ∃ l, ArgB W A n c l := by
  obtain ⟨fuel, hf⟩ := h
  have he : Enc (fun b : UInt8 => [u8 b]) 1 := ⟨fun _ => rfl, fun x u hu => by rw [List.mem_singleton.1 hu]; rfl⟩
  obtain ⟨l, h1, h2, h3, h4, _⟩ := open_list (f := fun b => [u8 b]) (k := 1) (ok := fun _ => True) he (by omega) Tryz.underlying46 (by kernel_rfl) (by_ := 1) (by kernel_rfl) (by omega) elemB hf hsz
  refine ⟨l, h1, h2, h3, fun h0 => ?_⟩
  obtain ⟨ad, e, hlt, hc⟩ := h4 h0
  exact ⟨ad, e, hlt, fun j u hu => hc j u (by rw [flat_u8]; exact hu)⟩
theorem Rd.dvAt {w : World} {A : Option Addr} {l : List UInt8} (h : Rd w A l) {i : Nat} (hi : i < l.length) : ∃ ad x, A = some ad ∧ l[i]? = some x ∧ ad.block < w.heap.size ∧ w.cell? (ad.add i) = some (.int .u8 (x.toNat : Int)) := by
  obtain ⟨ad, e, hlt, hc⟩ := h (by omega)
  exact ⟨ad, l[i], e, List.getElem?_eq_getElem hi, hlt, hc i _ (by simp [bcells, u8, hi])⟩

end Go.Proofs.YtelenboncejdaaaGreatDoor
