/-
  A device above a base, a slice of bytes as an argument, strings out of bytes in later worlds, numbers of 8 bits; conditions stand at each.
-/
import Derived.Test.YthjgcbpanfiacaaDevAwake
namespace Go.Proofs.Ythjgcbpanfiacaa
open Go.RowKit Go.Sort Go.ChangeShapes Go.WideShapes
set_option linter.unusedVariables false
set_option linter.unusedSimpArgs false

theorem conv_rd_later {w : World} {A : Option Addr} {n c : Nat} {l : List UInt8} (h : Rd w A l) (hn : l.length = n) (d : Nat) (os : Array Obj) :
    (convert 35 9 (.slice A n c)).run Try.prog (grow (redrawn w d) os) = .ok (.string ⟨l.toArray⟩) (grow (redrawn w d) os) := conv_rd (h.below (below_regrown w d os)) hn
theorem byte_of {x : Int} (h : (Lit.int .u8 x).wf = true) : ∃ y : UInt8, x = (y.toNat : Int) := by
  have : 0 ≤ x ∧ x ≤ 255 := by simpa [Lit.wf, IntKind.min, IntKind.max, IntKind.signed, IntKind.bits] using h
  refine ⟨UInt8.ofNat x.toNat, ?_⟩
  rw [UInt8.toNat_ofNat']
  omega

/-- A device all of whose blocks lie above a base. -/
def DevB (B : Nat) (w : World) (b n : Nat) (st : List UInt8) (pd : List WR) : Prop := B ≤ w.heap.size ∧ Dev w b n st pd (fun i => B ≤ i)
theorem DevB.below {B : Nat} {w w' : World} {b n : Nat} {st : List UInt8} {pd : List WR} (h : DevB B w b n st pd) (hb : Below w.heap.size w w') : DevB B w' b n st pd := ⟨Nat.le_trans h.1 hb.size, h.2.below hb⟩
theorem DevB.lens {B : Nat} {w : World} {b n : Nat} {st : List UInt8} {pd : List WR} (h : DevB B w b n st pd) : st.length = n * 256 ∧ n ≤ 512 ∧ ∀ x ∈ pd, x.page < n := h.2.lens
theorem grew_base {B : Nat} {N : Nat} (h : B ≤ N) : ∀ i, Grew (fun i => B ≤ i) N i → B ≤ i := fun i hi => hi.elim id (fun h2 => Nat.le_trans h h2)

theorem writeB_any {B : Nat} {w : World} {b n : Nat} {st : List UInt8} {pd : List WR} (x : WR) (A : Option Addr) (c : Nat) (hd : DevB B w b n st pd) (hx : x.page < n) (hr : Rd w A x.bytes) (hfew : pd.length ≤ 1000000) :
    Calls Try.prog 14 #[.pointer (some ⟨b, 0, none⟩), .int .i64 (x.page : Int), .slice A 256 c] w fun e w' =>
      e = .returned (.int .i64 0) ∧ DevB B w' b n st (pd ++ [x]) ∧ Below B w w' :=
  (write_any x A c hd.2 hx hr hfew).mono fun e w' ⟨h1, h2, h3⟩ => ⟨h1, ⟨Nat.le_trans hd.1 h3.size, h2.mono fun i _ hi => grew_base hd.1 i hi⟩, h3.below hd.1 fun _ h => h⟩
theorem writeFullB_any {B : Nat} {w : World} {b n : Nat} {st : List UInt8} {pd : List WR} (p : Nat) (y : UInt8) (g c : Nat) (hd : DevB B w b n st pd) (hp : p < n) (hg : w.heap[g]? = some (.cells (bcells (List.replicate 256 y)).toArray 5 (0, 0))) (hfew : pd.length ≤ 1000000) :
    Calls Try.prog 14 #[.pointer (some ⟨b, 0, none⟩), .int .i64 (p : Int), .slice (some ⟨g, 0, none⟩) 256 c] w fun e w' =>
      e = .returned (.int .i64 0) ∧ DevB B w' b n st (pd ++ [fullW p y]) ∧ Below B w w' := writeB_any (fullW p y) _ c hd hp (rd_whole hg) hfew
theorem syncB_any {B : Nat} {w : World} {b n : Nat} {st : List UInt8} {pd : List WR} (hd : DevB B w b n st pd) (hfew : pd.length ≤ 1000000) :
    Calls Try.prog 18 #[.pointer (some ⟨b, 0, none⟩)] w fun e w' =>
      e = .returned (.tuple #[]) ∧ DevB B w' b n (allN st pd pd.length) [] ∧ Below B w w' :=
  (sync_any hd.2 hfew).mono fun e w' ⟨h1, h2, h3⟩ => ⟨h1, ⟨Nat.le_trans hd.1 h3.size, h2⟩, h3.below hd.1 fun _ h => h⟩
theorem crashB_any {B : Nat} {w : World} {b n : Nat} {st : List UInt8} {pd : List WR} (keep : Nat) (torn part : Int) (hd : DevB B w b n st pd) (hfew : pd.length ≤ 1000000) (hkeep : keep < 18446744073709551616) :
    Calls Try.prog 20 #[.pointer (some ⟨b, 0, none⟩), .int .u64 (keep : Int), .int .i64 torn, .int .i64 part] w fun e w' =>
      e = .returned (.tuple #[]) ∧ DevB B w' b n (crashN keep torn part st pd pd.length) [] ∧ Below B w w' :=
  (crash_any keep torn part hd.2 hfew hkeep).mono fun e w' ⟨h1, h2, h3⟩ => ⟨h1, ⟨Nat.le_trans hd.1 h3.size, h2⟩, h3.below hd.1 fun _ h => h⟩
theorem newB_any (x : Int) (w : World) : Calls Try.prog 11 #[.int .i64 x] w fun e w' =>
    ∃ b, e = .returned (.pointer (some ⟨b, 0, none⟩)) ∧ DevB w.heap.size w' b (pagesN x) (List.replicate (pagesN x * 256) 0) [] ∧ Below w.heap.size w w' :=
  (new_any x w).mono fun e w' ⟨b, h1, h2, h3⟩ => ⟨b, h1, ⟨h3.size, h2⟩, h3⟩

/-- Bytes that come in. -/
structure ArgB (W : World) (A : Option Addr) (n c : Nat) (l : List UInt8) : Prop where
  len : l.length = n
  cap : n ≤ c
  small : n ≤ 140737488351232
  rd : Rd W A l
theorem elemB {H : Type} {enc : TypeId × Value → H} {W : World} (fuel : Nat) (cs : List Value) (y : DataW H × List MemPlace) (h : DataW.trod enc Try.prog W 0 (fun _ => true) true fuel 5 cs = some y)
    (hsz : ∀ m ∈ y.1.weights Try.prog 5, m ≤ reachBytes) : ∃ z : UInt8, cs = [u8 z] ∧ True := by
  obtain ⟨i, hi, hd, wi⟩ := DataW.trod_int Try.underlying5 h
  obtain ⟨z, rfl⟩ := byte_of wi
  exact ⟨z, by simpa [u8] using hi, trivial⟩
theorem flat_u8 (l : List UInt8) : l.flatMap (fun b => [u8 b]) = bcells l := by
  induction l with
  | nil => rfl
  | cons x l ih => rw [List.flatMap_cons, ih]; rfl
theorem open_bytes {H : Type} {enc : TypeId × Value → H} {W : World} {A : Option Addr} {n c : Nat} {d : DataW H} {p : List MemPlace}
    (h : DataW.Trod enc Try.prog W 0 (fun _ => true) true 35 (.slice A n c) d p) (hsz : ∀ m ∈ d.weights Try.prog 35, m ≤ reachBytes) : ∃ l, ArgB W A n c l := by
  obtain ⟨fuel, hf⟩ := h
  have he : Enc (fun b : UInt8 => [u8 b]) 1 := ⟨fun _ => rfl, fun x u hu => by rw [List.mem_singleton.1 hu]; rfl⟩
  obtain ⟨l, h1, h2, h3, h4, _⟩ := open_list (f := fun b => [u8 b]) (k := 1) (ok := fun _ => True) he (by omega) Try.underlying35 (by kernel_rfl) (by_ := 1) (by kernel_rfl) (by omega) elemB hf hsz
  refine ⟨l, h1, h2, h3, fun h0 => ?_⟩
  obtain ⟨ad, e, hlt, hc⟩ := h4 h0
  exact ⟨ad, e, hlt, fun j u hu => hc j u (by rw [flat_u8]; exact hu)⟩
theorem Rd.at_ {w : World} {A : Option Addr} {l : List UInt8} (h : Rd w A l) {i : Nat} (hi : i < l.length) : ∃ ad x, A = some ad ∧ l[i]? = some x ∧ ad.block < w.heap.size ∧ w.cell? (ad.add i) = some (.int .u8 (x.toNat : Int)) := by
  obtain ⟨ad, e, hlt, hc⟩ := h (by omega)
  exact ⟨ad, l[i], e, List.getElem?_eq_getElem hi, hlt, hc i _ (by simp [bcells, u8, hi])⟩

end Go.Proofs.Ythjgcbpanfiacaa
