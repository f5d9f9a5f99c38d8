/-
  Several devices in one memory, each in blocks of its own; what a crash does that keeps all, or none; conditions stand at each.
-/
import Derived.Test.YthjgcbpanfiacaaDevPages
namespace Go.Proofs.Ythjgcbpanfiacaa
open Go.RowKit Go.Sort Go.ChangeShapes Go.WideShapes
set_option linter.unusedVariables false
set_option linter.unusedSimpArgs false

/-- A device: its box, its pages, what is stored, what waits. -/
structure DV where
  b : Nat
  n : Nat
  st : List UInt8
  pd : List WR
/-- Devices above a base, each in blocks of its own, none in blocks of X. -/
def Devs (B : Nat) (X : Nat → Prop) (w : World) (l : List DV) : Prop := B ≤ w.heap.size ∧ (∀ i, X i → i < w.heap.size) ∧ ∃ col : Nat → Nat, ∀ (j : Nat) (x : DV), l[j]? = some x → Dev w x.b x.n x.st x.pd (fun i => (B ≤ i ∧ ¬ X i) ∧ col i = j)
theorem Devs.below {B : Nat} {X : Nat → Prop} {w w' : World} {l : List DV} (h : Devs B X w l) (hb : Below w.heap.size w w') : Devs B X w' l := by
  obtain ⟨h1, h3, col, h2⟩ := h
  exact ⟨Nat.le_trans h1 hb.size, fun i hi => Nat.lt_of_lt_of_le (h3 i hi) hb.size, col, fun j x hx => (h2 j x hx).below hb⟩
/-- What is new is no device's. -/
theorem Devs.fresh {B : Nat} {X : Nat → Prop} {w w' : World} {l : List DV} (h : Devs B X w l) (hb : Below w.heap.size w w') : Devs B (fun i => w.heap.size ≤ i ∧ i < w'.heap.size) w' l := by
  obtain ⟨h1, h3, col, h2⟩ := h
  exact ⟨Nat.le_trans h1 hb.size, fun i hi => hi.2, col, fun j x hx => ((h2 j x hx).tight.below hb).mono fun i _ hi => ⟨⟨hi.1.1.1, fun h => by have := hi.2; omega⟩, hi.1.2⟩⟩
theorem Devs.drew {B : Nat} {X : Nat → Prop} {w : World} {l : List DV} (h : Devs B X w l) : Devs B X w.drew l := h.below (Below.refl _ _).drew
theorem Devs.nil (w : World) : Devs w.heap.size (fun _ => False) w [] := ⟨Nat.le_refl _, fun _ h => h.elim, fun _ => 0, fun j x hx => by simp at hx⟩
theorem Devs.get {B : Nat} {X : Nat → Prop} {w : World} {l : List DV} (h : Devs B X w l) {j : Nat} {x : DV} (hx : l[j]? = some x) : ∃ F, Dev w x.b x.n x.st x.pd F := by
  obtain ⟨h1, h3, col, h2⟩ := h
  exact ⟨_, h2 j x hx⟩
theorem Devs.lens {B : Nat} {X : Nat → Prop} {w : World} {l : List DV} (h : Devs B X w l) {j : Nat} {x : DV} (hx : l[j]? = some x) : x.st.length = x.n * 256 ∧ x.n ≤ 512 ∧ ∀ y ∈ x.pd, y.page < x.n := by
  obtain ⟨F, hd⟩ := h.get hx
  exact hd.lens
theorem Devs.add {B : Nat} {X : Nat → Prop} {w w' : World} {l : List DV} (h : Devs B X w l) {b n : Nat} {st : List UInt8} {pd : List WR} (hd : Dev w' b n st pd (fun i => w.heap.size ≤ i)) (hb : Below w.heap.size w w') : Devs B X w' (l ++ [⟨b, n, st, pd⟩]) := by
  obtain ⟨h1, h3, col, h2⟩ := h
  refine ⟨Nat.le_trans h1 hb.size, fun i hi => Nat.lt_of_lt_of_le (h3 i hi) hb.size, fun i => if i < w.heap.size then col i else l.length, fun j x hx => ?_⟩
  rcases Nat.lt_or_ge j l.length with hj | hj
  · rw [List.getElem?_append_left hj] at hx
    refine ((h2 j x hx).tight.below hb).mono fun i _ hi => ⟨hi.1.1, ?_⟩
    exact (if_pos hi.2).trans hi.1.2
  · have hlt := (List.getElem?_eq_some_iff.1 hx).1
    rw [List.length_append, List.length_singleton] at hlt
    obtain rfl : j = l.length := by omega
    rw [List.getElem?_append_right (Nat.le_refl _), Nat.sub_self, List.getElem?_cons_zero] at hx
    cases hx
    refine hd.mono fun i _ hi => ⟨⟨Nat.le_trans h1 hi, fun hX => by have := h3 i hX; omega⟩, ?_⟩
    exact if_neg (show ¬ i < w.heap.size by omega)
theorem Devs.put {B : Nat} {X : Nat → Prop} {w w' : World} {l : List DV} (h1 : B ≤ w.heap.size) (h3 : ∀ i, X i → i < w.heap.size) {col : Nat → Nat} (h2 : ∀ (j : Nat) (x : DV), l[j]? = some x → Dev w x.b x.n x.st x.pd (fun i => (B ≤ i ∧ ¬ X i) ∧ col i = j)) {j : Nat} {x : DV} (hx : l[j]? = some x)
    {y : DV} (hy : Dev w' y.b y.n y.st y.pd (Grew (fun i => (B ≤ i ∧ ¬ X i) ∧ col i = j) w.heap.size)) (hk : Keep (fun i => (B ≤ i ∧ ¬ X i) ∧ col i = j) w w') : Devs B X w' (l.set j y) ∧ Keep (fun i => B ≤ i ∧ ¬ X i) w w' := by
  refine ⟨⟨Nat.le_trans h1 hk.size, fun i hi => Nat.lt_of_lt_of_le (h3 i hi) hk.size, fun i => if i < w.heap.size then col i else j, fun q z hz => ?_⟩, hk.mono fun i _ hi => hi.1⟩
  rcases Nat.decEq j q with hne | rfl
  · rw [List.getElem?_set_ne hne] at hz
    refine ((h2 q z hz).tight.keep hk fun i hi _ hf => hne (hf.2.symm.trans hi.1.2)).mono fun i _ hi => ⟨hi.1.1, ?_⟩
    exact (if_pos hi.2).trans hi.1.2
  · have hlt := (List.getElem?_eq_some_iff.1 hx).1
    rw [List.getElem?_set_self hlt] at hz
    cases hz
    refine hy.mono fun i _ hi => ?_
    rcases hi with hi | hi
    · refine ⟨hi.1, ?_⟩
      by_cases h : i < w.heap.size
      · exact (if_pos h).trans hi.2
      · exact if_neg h
    · refine ⟨⟨Nat.le_trans h1 hi, fun hX => by have := h3 i hX; omega⟩, ?_⟩
      exact if_neg (show ¬ i < w.heap.size by omega)
theorem Keep.belowX {B : Nat} {X : Nat → Prop} {a b : World} (h : Keep (fun i => B ≤ i ∧ ¬ X i) a b) (hB : B ≤ a.heap.size) : Below B a b := h.below hB fun _ hi => hi.1

theorem newM_any {B : Nat} {X : Nat → Prop} {w : World} {l : List DV} (x : Int) (h : Devs B X w l) : Calls Try.prog 11 #[.int .i64 x] w fun e w' =>
    ∃ b, e = .returned (.pointer (some ⟨b, 0, none⟩)) ∧ Devs B X w' (l ++ [⟨b, pagesN x, List.replicate (pagesN x * 256) 0, []⟩]) ∧ Below B w w' :=
  (new_any x w).mono fun e w' ⟨b, h1, h2, h3⟩ => ⟨b, h1, h.add h2 h3, h3.mono h.1⟩
theorem imageM_any {B : Nat} {X : Nat → Prop} {w : World} {l : List DV} (h : Devs B X w l) (A : Option Addr) (m c : Nat) (s : List UInt8) (hr : Rd w A s) (hl : s.length = m) (hm : m ≤ 131072) :
    Calls Try.prog 25 #[.slice A m c] w fun e w' =>
      ∃ b, e = .returned (.tuple #[.pointer (some ⟨b, 0, none⟩), .int .i64 0]) ∧ Devs B X w' (l ++ [⟨b, pagesOf m, s ++ List.replicate (pagesOf m * 256 - m) 0, []⟩]) ∧ Below B w w' :=
  (image_any A m c s hr hl hm).mono fun e w' ⟨b, h1, h2, h3⟩ => ⟨b, h1, h.add h2 h3, h3.mono h.1⟩
theorem writeM_any {B : Nat} {X : Nat → Prop} {w : World} {l : List DV} (h : Devs B X w l) {j b n : Nat} {st : List UInt8} {pd : List WR} (hj : l[j]? = some ⟨b, n, st, pd⟩) (x : WR) (A : Option Addr) (c : Nat) (hx : x.page < n) (hr : Rd w A x.bytes) (hfew : pd.length ≤ 1000000) :
    Calls Try.prog 14 #[.pointer (some ⟨b, 0, none⟩), .int .i64 (x.page : Int), .slice A 256 c] w fun e w' =>
      e = .returned (.int .i64 0) ∧ Devs B X w' (l.set j ⟨b, n, st, pd ++ [x]⟩) ∧ Keep (fun i => B ≤ i ∧ ¬ X i) w w' := by
  obtain ⟨h1, h3, col, h2⟩ := h
  refine (write_any x A c (h2 j _ hj) hx hr hfew).mono fun e w' ⟨g1, g2, g3⟩ => ⟨g1, ?_⟩
  exact Devs.put h1 h3 h2 hj (y := ⟨b, n, st, pd ++ [x]⟩) g2 g3
theorem writeFullM_any {B : Nat} {X : Nat → Prop} {w : World} {l : List DV} (h : Devs B X w l) {j b n : Nat} {st : List UInt8} {pd : List WR} (hj : l[j]? = some ⟨b, n, st, pd⟩) (p : Nat) (y : UInt8) (g c : Nat) (hp : p < n) (hg : w.heap[g]? = some (.cells (bcells (List.replicate 256 y)).toArray 5 (0, 0))) (hfew : pd.length ≤ 1000000) :
    Calls Try.prog 14 #[.pointer (some ⟨b, 0, none⟩), .int .i64 (p : Int), .slice (some ⟨g, 0, none⟩) 256 c] w fun e w' =>
      e = .returned (.int .i64 0) ∧ Devs B X w' (l.set j ⟨b, n, st, pd ++ [fullW p y]⟩) ∧ Keep (fun i => B ≤ i ∧ ¬ X i) w w' := writeM_any h hj (fullW p y) _ c hp (rd_whole hg) hfew
theorem syncM_any {B : Nat} {X : Nat → Prop} {w : World} {l : List DV} (h : Devs B X w l) {j b n : Nat} {st : List UInt8} {pd : List WR} (hj : l[j]? = some ⟨b, n, st, pd⟩) (hfew : pd.length ≤ 1000000) :
    Calls Try.prog 18 #[.pointer (some ⟨b, 0, none⟩)] w fun e w' =>
      e = .returned (.tuple #[]) ∧ Devs B X w' (l.set j ⟨b, n, allN st pd pd.length, []⟩) ∧ Keep (fun i => B ≤ i ∧ ¬ X i) w w' := by
  obtain ⟨h1, h3, col, h2⟩ := h
  refine (sync_any (h2 j _ hj) hfew).mono fun e w' ⟨g1, g2, g3⟩ => ⟨g1, ?_⟩
  exact Devs.put h1 h3 h2 hj (y := ⟨b, n, allN st pd pd.length, []⟩) (g2.mono fun i _ hi => .inl hi) g3
theorem crashM_any {B : Nat} {X : Nat → Prop} {w : World} {l : List DV} (h : Devs B X w l) {j b n : Nat} {st : List UInt8} {pd : List WR} (hj : l[j]? = some ⟨b, n, st, pd⟩) (keep : Nat) (torn part : Int) (hfew : pd.length ≤ 1000000) (hkeep : keep < 18446744073709551616) :
    Calls Try.prog 20 #[.pointer (some ⟨b, 0, none⟩), .int .u64 (keep : Int), .int .i64 torn, .int .i64 part] w fun e w' =>
      e = .returned (.tuple #[]) ∧ Devs B X w' (l.set j ⟨b, n, crashN keep torn part st pd pd.length, []⟩) ∧ Keep (fun i => B ≤ i ∧ ¬ X i) w w' := by
  obtain ⟨h1, h3, col, h2⟩ := h
  refine (crash_any keep torn part (h2 j _ hj) hfew hkeep).mono fun e w' ⟨g1, g2, g3⟩ => ⟨g1, ?_⟩
  exact Devs.put h1 h3 h2 hj (y := ⟨b, n, crashN keep torn part st pd pd.length, []⟩) (g2.mono fun i _ hi => .inl hi) g3
theorem bytesM_any {B : Nat} {X : Nat → Prop} {w : World} {l : List DV} (h : Devs B X w l) {j b n : Nat} {st : List UInt8} {pd : List WR} (hj : l[j]? = some ⟨b, n, st, pd⟩) (hfew : pd.length ≤ 1000000) :
    Calls Try.prog 23 #[.pointer (some ⟨b, 0, none⟩)] w (BytesPost w n (allN st pd pd.length)) := by
  obtain ⟨F, hd⟩ := h.get hj
  exact devBytes_any hd hfew

theorem foldN_congr {α σ : Type} {f g : Nat → α → σ → σ} {s : σ} {l : List α} (h : ∀ k x t, f k x t = g k x t) : ∀ k, foldN f s l k = foldN g s l k
  | 0 => rfl
  | k + 1 => by
    unfold foldN
    rw [foldN_congr h k]
    cases l[k]? with
    | none => rfl
    | some x => exact h _ _ _
/-- With all kept, and none torn, a crash is as a sync. -/
theorem crash_all (part : Int) (st : List UInt8) (pd : List WR) (k : Nat) : crashN 18446744073709551615 (-1) part st pd k = allN st pd k := by
  refine foldN_congr (fun i x t => ?_) k
  have h1 : ∀ j, j < 64 → 18446744073709551615 / 2 ^ j % 2 = 1 := by decide
  rw [h1 (i % 64) (Nat.mod_lt _ (by omega)), if_neg (by omega)]
  have h2 : sizeOfW (-1) part i = 256 := by
    unfold sizeOfW
    rw [if_neg (by omega)]
  rw [h2]
/-- With none kept it is as if nothing had been written. -/
theorem crash_none (torn part : Int) (st : List UInt8) (pd : List WR) (k : Nat) : crashN 0 torn part st pd k = st :=
  foldN_inv (fun s : List UInt8 => s = st) rfl (fun i x t hx ht => by
    show (if _ then _ else _ : List UInt8) = _
    rw [if_pos (by simp)]
    exact ht) k

end Go.Proofs.Ythjgcbpanfiacaa
