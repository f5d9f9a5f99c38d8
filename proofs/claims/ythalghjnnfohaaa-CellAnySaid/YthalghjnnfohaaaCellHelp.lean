/-
  The law's helpers: awake answers true; a call of a script as an argument, a slice of them, a slice of numbers; two memories side by side; conditions stand at each.
-/
import Derived.Test.YthalghjnnfohaaaCellAll
import Derived.Test.YthalghjnnfohaaaStrs
namespace Go.Proofs.Ythalghjnnfohaaa
open Go.RowKit Go.Sort Go.ChangeShapes Go.WideShapes Go.Joins Go.Deep
set_option linter.unusedVariables false
set_option linter.unusedSimpArgs false

theorem quiet_same {P : Program} {f : FuncId} {args : Array Value} {w : World} {n : Nat} {v : Value}
    (h : Calls P f args (w.drewN n) fun e w' => e = .returned v ∧ w' = w.drewN n) : Calls P f args (w.drewN n) fun e w'' => e = .returned v ∧ ∃ m, w'' = w.drewN m :=
  h.mono fun _ _ ⟨he, hm⟩ => ⟨he, n, hm⟩
theorem belowN {B : Nat} {a w : World} (h : Below B a w) (n : Nat) : Below B a (w.drewN n) := ⟨h.os, h.tape, h.output, h.size, h.block⟩
theorem Mem.drewN {T E : TypeId} {w : World} {b g : Nat} {l : List Value} {s c : Nat} (h : Mem T E w b g l s c) (n : Nat) : Mem T E (w.drewN n) b g l s c := ⟨h.box, h.row, h.len, h.bg⟩
theorem Mem.drew {T E : TypeId} {w : World} {b g : Nat} {l : List Value} {s c : Nat} (h : Mem T E w b g l s c) : Mem T E w.drew b g l s c := ⟨h.box, h.row, h.len, h.bg⟩

theorem Keep.cell {F : Nat → Prop} {w w' : World} (h : Keep F w w') {p : Addr} {u : Value} (hp : p.block < w.heap.size) (hn : ¬ F p.block) (hu : w.cell? p = some u) : w'.cell? p = some u := (World.cell?_of_block (w := w) (h.block _ hp hn)).trans hu
theorem byte_of {x : Int} (h : (Lit.int .u8 x).wf = true) : ∃ y : Nat, y < 256 ∧ x = (y : Int) := by
  have : 0 ≤ x ∧ x ≤ 255 := by simpa [Lit.wf, IntKind.min, IntKind.max, IntKind.signed, IntKind.bits] using h
  exact ⟨x.toNat, by omega, by omega⟩
theorem wordsN_of (n : Nat) (h : n ≤ 65536) : wordsN n = n := by unfold wordsN; omega
theorem map_zero (n : Nat) : List.replicate n (.int .i64 0 : Value) = (List.replicate n (0 : Int)).map (.int .i64) := by simp

set_option maxRecDepth 100000 in
set_option maxHeartbeats 1000000 in
theorem cellAwake_any (w : World) : Calls Try.prog 8 #[] w fun e w' => e = .returned (.bool true) ∧ Below w.heap.size w w' := by
  go_enter Try.func8, Try.ntmps8
  go_wp2_with fail
  refine (newI_any 1 w).mono ?_
  rintro e w1 ⟨b, g, rfl, hm1, hof, hb1⟩
  have HM1 := Lib.hid (show MemI w1 b g (([0] : List Int).map (.int .i64)) 0 0 from hm1)
  have HB1 := Lib.hid hb1
  have HO := Lib.hid hof
  clear hm1 hb1 hof
  go_wp2_with fail
  refine (casI HM1.out 0 0 7 (by omega) (by omega)).mono ?_
  rw [show swapW [(0 : Int)] 0 0 = true from rfl, show errW [(0 : Int)].length 0 = 0 from rfl, show casW [(0 : Int)] 0 0 7 = [7] from rfl, show stepW [(0 : Int)].length 0 0 = 1 from rfl, show changeW [(0 : Int)] 0 0 0 = 1 from rfl]
  rintro e w2 ⟨rfl, hm2, hk2⟩
  have HM2 := Lib.hid hm2
  have HB2 := Lib.hid (Keep.base HB1.out HB1.out.size (hk2.mono fun i _ h => HO.out i h))
  clear hm2 hk2 HM1 HB1
  go_wp2_with fail
  refine (loadI HM2.out 0 (by omega)).mono ?_
  rw [show getW 0 [(7 : Int)] 0 = 7 from rfl, show errW [(7 : Int)].length 0 = 0 from rfl, show stepW [(7 : Int)].length 0 1 = 2 from rfl]
  rintro e w3 ⟨rfl, hm3, hk3⟩
  have HM3 := Lib.hid hm3
  have HB3 := Lib.hid (Keep.base HB2.out HB2.out.size (hk3.mono fun i _ h => HO.out i h))
  clear hm3 hk3 HM2 HB2
  go_wp2_with fail
  refine (stepsI_any HM3.out.c1).mono ?_
  rintro e w4 ⟨rfl, rfl⟩
  go_wp2_with fail
  refine (changesI_any HM3.out.c2).mono ?_
  rintro e w5 ⟨rfl, rfl⟩
  go_wp2
  go_ret
  exact ⟨rfl, HB3.out⟩

/-- A call of a script. -/
structure COp where
  kind : Int
  i : Int
  old : Int
  x : Int
/-- Its cells. -/
def ccells (o : COp) : List Value := [.int .i64 o.kind, .int .i64 o.i, .int .i64 o.old, .int .i64 o.x]
theorem cenc : Enc ccells 4 := ⟨fun _ => rfl, fun x u hu => by
  simp only [ccells, List.mem_cons, List.not_mem_nil, or_false] at hu
  rcases hu with rfl | rfl | rfl | rfl <;> rfl⟩
def I64 (x : Int) : Prop := -9223372036854775808 ≤ x ∧ x ≤ 9223372036854775807
theorem wf_i64 {n : Int} (h : (Lit.int .i64 n).wf = true) : I64 n := by
  have : -9223372036854775808 ≤ n ∧ n ≤ 9223372036854775807 := by simpa [Lit.wf, IntKind.min, IntKind.max, IntKind.signed, IntKind.bits] using h
  exact this
/-- What is known of one that comes in. -/
structure OkC (o : COp) : Prop where
  kind : I64 o.kind
  i : I64 o.i
  old : I64 o.old
  x : I64 o.x
theorem Ls.atC {w : World} {A : Option Addr} {l : List COp} (h : Ls ccells w A l) {i : Nat} (hi : i < l.length) :
    ∃ ad x, A = some ad ∧ l[i]? = some x ∧ ad.block < w.heap.size ∧ w.cell? (ad.add (i * 4)) = some (.int .i64 x.kind) ∧ w.cell? ⟨(ad.add (i * 4)).block, (ad.add (i * 4)).off + 1, none⟩ = some (.int .i64 x.i) ∧ w.cell? ⟨(ad.add (i * 4)).block, (ad.add (i * 4)).off + 2, none⟩ = some (.int .i64 x.old)
      ∧ w.cell? ⟨(ad.add (i * 4)).block, (ad.add (i * 4)).off + 3, none⟩ = some (.int .i64 x.x) := by
  obtain ⟨ad, x, rfl, hx, hlt, hc⟩ := h.at_ cenc hi
  exact ⟨ad, x, rfl, hx, hlt, hc 0 _ (by omega) rfl, hc 1 _ (by omega) rfl, hc 2 _ (by omega) rfl, hc 3 _ (by omega) rfl⟩
theorem fields_cop : ∃ f0 f1 f2 f3, Try.prog.underlying 29 = some (.struct #[f0, f1, f2, f3]) ∧ f0.offset = 0 ∧ f1.offset = 1 ∧ f2.offset = 2 ∧ f3.offset = 3 ∧ f0.type = 3 ∧ f1.type = 3 ∧ f2.type = 3 ∧ f3.type = 3 := ⟨_, _, _, _, Try.underlying29, rfl, rfl, rfl, rfl, rfl, rfl, rfl, rfl⟩
theorem elemC {H : Type} {enc : TypeId × Value → H} {W : World} (fuel : Nat) (cs : List Value) (y : DataW H × List MemPlace) (h : DataW.trod enc Try.prog W 0 (fun _ => true) true fuel 29 cs = some y)
    (hsz : ∀ m ∈ y.1.weights Try.prog 29, m ≤ reachBytes) : ∃ z : COp, cs = ccells z ∧ OkC z := by
  obtain ⟨f0, f1, f2, f3, he, o0, o1, o2, o3, t0, t1, t2, t3⟩ := fields_cop
  have c3 : Try.prog.cellsOf 3 = 1 := by kernel_rfl
  have c4 : Try.prog.cellsOf 29 = 4 := by kernel_rfl
  obtain ⟨xs, n, _, hx, hlen, hxl, hf⟩ := DataW.trod_struct he h
  rw [c4] at hlen
  match xs, hxl, cs, hlen with
  | [y0, y1, y2, y3], _, [v0, v1, v2, v3], _ =>
    have g0 := hf 0 f0 rfl
    have g1 := hf 1 f1 rfl
    have g2 := hf 2 f2 rfl
    have g3 := hf 3 f3 rfl
    simp [o0, o1, o2, o3, t0, t1, t2, t3, c3] at g0 g1 g2 g3
    obtain ⟨i0, e0, d0, w0⟩ := DataW.trod_int Try.underlying3 g0
    obtain ⟨i1, e1, d1, w1⟩ := DataW.trod_int Try.underlying3 g1
    obtain ⟨i2, e2, d2, w2⟩ := DataW.trod_int Try.underlying3 g2
    obtain ⟨i3, e3, d3, w3⟩ := DataW.trod_int Try.underlying3 g3
    simp only [List.cons.injEq, and_true] at e0 e1 e2 e3
    subst e0 e1 e2 e3
    exact ⟨⟨i0, i1, i2, i3⟩, rfl, wf_i64 w0, wf_i64 w1, wf_i64 w2, wf_i64 w3⟩
/-- A script as an argument. -/
structure ArgC (w : World) (A : Option Addr) (n c : Nat) (l : List COp) : Prop where
  len : l.length = n
  cap : n ≤ c
  bd : n ≤ 140737488351232
  ls : Ls ccells w A l
  ok : ∀ z ∈ l, OkC z
theorem open_cops {H : Type} {enc : TypeId × Value → H} {W : World} {A : Option Addr} {n c : Nat} {d : DataW H} {p : List MemPlace}
    (h : DataW.Trod enc Try.prog W 0 (fun _ => true) true 22 (.slice A n c) d p) (hsz : ∀ m ∈ d.weights Try.prog 22, m ≤ reachBytes) : ∃ l, ArgC W A n c l := by
  obtain ⟨fuel, hf⟩ := h
  obtain ⟨l, h1, h2, h3, h4, h5⟩ := open_list (f := ccells) (k := 4) (ok := OkC) cenc (by omega) Try.underlying22 (by kernel_rfl) (by_ := 32) (by kernel_rfl) (by omega) elemC hf hsz
  exact ⟨l, h1, h2, h3, h4, h5⟩
/-- A call by value. -/
def copV (o : COp) : Value := .agg #[.int .i64 o.kind, .int .i64 o.i, .int .i64 o.old, .int .i64 o.x]
theorem open_cop {H : Type} {enc : TypeId × Value → H} {W : World} {base : Nat} {v : Value} {d : DataW H} {p : List MemPlace} (hv : Value.okWide Try.prog W .any base 29 v)
    (h : DataW.Trod enc Try.prog W 0 (fun _ => true) true 29 v d p) (hsz : ∀ m ∈ d.weights Try.prog 29, m ≤ reachBytes) : ∃ x : COp, v = copV x ∧ OkC x := by
  obtain ⟨f0, f1, f2, f3, he, _⟩ := fields_cop
  obtain ⟨cs, rfl, hcs⟩ := okWide_struct he hv
  obtain ⟨fuel, hf⟩ := h
  obtain ⟨z, hz, hok⟩ := elemC fuel _ _ hf hsz
  refine ⟨z, ?_, hok⟩
  have : cs = (ccells z).toArray := Array.toList_inj.1 (by simpa [Value.cells] using hz)
  rw [this]
  rfl

/-- A number as a cell. -/
def icell (x : Int) : List Value := [.int .i64 x]
theorem ienc : Enc icell 1 := ⟨fun _ => rfl, fun x u hu => by rw [List.mem_singleton.1 hu]; rfl⟩
/-- A slice of numbers as an argument. -/
structure ArgI (w : World) (A : Option Addr) (n c : Nat) (l : List Int) : Prop where
  len : l.length = n
  cap : n ≤ c
  bd : n ≤ 140737488351232
  ls : Ls icell w A l
  ok : ∀ z ∈ l, I64 z
theorem elemI {H : Type} {enc : TypeId × Value → H} {W : World} (fuel : Nat) (cs : List Value) (y : DataW H × List MemPlace) (h : DataW.trod enc Try.prog W 0 (fun _ => true) true fuel 3 cs = some y)
    (hsz : ∀ m ∈ y.1.weights Try.prog 3, m ≤ reachBytes) : ∃ z : Int, cs = icell z ∧ I64 z := by
  obtain ⟨i, hi, hd, wi⟩ := DataW.trod_int Try.underlying3 h
  exact ⟨i, by simpa [icell] using hi, wf_i64 wi⟩
theorem open_ints {H : Type} {enc : TypeId × Value → H} {W : World} {A : Option Addr} {n c : Nat} {d : DataW H} {p : List MemPlace}
    (h : DataW.Trod enc Try.prog W 0 (fun _ => true) true 42 (.slice A n c) d p) (hsz : ∀ m ∈ d.weights Try.prog 42, m ≤ reachBytes) : ∃ l, ArgI W A n c l := by
  obtain ⟨fuel, hf⟩ := h
  obtain ⟨l, h1, h2, h3, h4, h5⟩ := open_list (f := icell) (k := 1) (ok := I64) ienc (by omega) Try.underlying42 (by kernel_rfl) (by_ := 8) (by kernel_rfl) (by omega) elemI hf hsz
  exact ⟨l, h1, h2, h3, h4, h5⟩
theorem Ls.atI {w : World} {A : Option Addr} {l : List Int} (h : Ls icell w A l) {i : Nat} (hi : i < l.length) :
    ∃ ad x, A = some ad ∧ l[i]? = some x ∧ ad.block < w.heap.size ∧ w.cell? (ad.add i) = some (.int .i64 x) := by
  obtain ⟨ad, x, rfl, hx, hlt, hc⟩ := h.at_ ienc hi
  have := hc 0 _ (by omega) rfl
  rw [Nat.mul_one] at this
  refine ⟨ad, x, rfl, hx, hlt, ?_⟩
  exact this

/-- Two memories side by side, above a base. -/
structure Two (T E T2 E2 : TypeId) (B : Nat) (w : World) (b g b2 g2 : Nat) (l l2 : List Value) (s c s2 c2 : Nat) : Prop where
  one : Mem T E w b g l s c
  two : Mem T2 E2 w b2 g2 l2 s2 c2
  apart : ∀ i, Of b g i → ¬ Of b2 g2 i
  above : ∀ i, Of b g i ∨ Of b2 g2 i → B ≤ i
  base : B ≤ w.heap.size
section
variable {T E T2 E2 : TypeId} {B : Nat} {w w' : World} {b g b2 g2 : Nat} {l l2 k : List Value} {s c s2 c2 t d : Nat}
theorem Two.make (hB : B ≤ w.heap.size) {w1 w2 : World} (h1 : Mem T E w1 b g l s c) (o1 : ∀ i, Of b g i → w.heap.size ≤ i) (hb1 : Below w.heap.size w w1)
    (h2 : Mem T2 E2 w2 b2 g2 l2 s2 c2) (o2 : ∀ i, Of b2 g2 i → w1.heap.size ≤ i) (hb2 : Below w1.heap.size w1 w2) : Two T E T2 E2 B w2 b g b2 g2 l l2 s c s2 c2 :=
  ⟨h1.below hb2, h2, fun i hi hj => by have := h1.lt i hi; have := o2 i hj; omega, fun i hi => by
    rcases hi with hi | hi
    · exact Nat.le_trans hB (o1 i hi)
    · exact Nat.le_trans (Nat.le_trans hB hb1.size) (o2 i hi), Nat.le_trans hB (Nat.le_trans hb1.size hb2.size)⟩
theorem Two.below (h : Two T E T2 E2 B w b g b2 g2 l l2 s c s2 c2) (hb : Below w.heap.size w w') : Two T E T2 E2 B w' b g b2 g2 l l2 s c s2 c2 := ⟨h.one.below hb, h.two.below hb, h.apart, h.above, Nat.le_trans h.base hb.size⟩
theorem Two.drewN (h : Two T E T2 E2 B w b g b2 g2 l l2 s c s2 c2) (n : Nat) : Two T E T2 E2 B (w.drewN n) b g b2 g2 l l2 s c s2 c2 := ⟨h.one.drewN n, h.two.drewN n, h.apart, h.above, h.base⟩
/-- A step of the first. -/
theorem Two.first (h : Two T E T2 E2 B w b g b2 g2 l l2 s c s2 c2) (h1 : Mem T E w' b g k t d) (hk : Keep (Of b g) w w') : Two T E T2 E2 B w' b g b2 g2 k l2 t d s2 c2 :=
  ⟨h1, h.two.keep hk h.apart, h.apart, h.above, Nat.le_trans h.base hk.size⟩
/-- A step of the second. -/
theorem Two.second (h : Two T E T2 E2 B w b g b2 g2 l l2 s c s2 c2) (h1 : Mem T2 E2 w' b2 g2 k t d) (hk : Keep (Of b2 g2) w w') : Two T E T2 E2 B w' b g b2 g2 l k s c t d :=
  ⟨h.one.keep hk fun i hi hj => h.apart i hj hi, h1, h.apart, h.above, Nat.le_trans h.base hk.size⟩
theorem Two.kept (h : Two T E T2 E2 B w b g b2 g2 l l2 s c s2 c2) {a : World} (hb : Below B a w) {F : Nat → Prop} (hk : Keep F w w') (hF : ∀ i, F i → Of b g i ∨ Of b2 g2 i) : Below B a w' :=
  Keep.base hb h.base (hk.mono fun i _ hf => h.above i (hF i hf))
end

end Go.Proofs.Ythalghjnnfohaaa
