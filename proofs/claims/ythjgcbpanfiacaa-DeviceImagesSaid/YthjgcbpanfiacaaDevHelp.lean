/-
  The law's helpers: full, few and awake; a call of a script as an argument, and a slice of them; conditions stand at each.
-/
import Derived.Test.YthjgcbpanfiacaaDevBytes
import Derived.Test.YthjgcbpanfiacaaDevCrash
import Derived.Test.YthjgcbpanfiacaaStrs
namespace Go.Proofs.Ythjgcbpanfiacaa
open Go.RowKit Go.Sort Go.ChangeShapes Go.WideShapes Go.Joins Go.Deep
set_option linter.unusedVariables false
set_option linter.unusedSimpArgs false

/-- What full answers: memory of its own, a page of one byte. -/
def FullPost (w : World) (c : UInt8) (e : Ending) (w' : World) : Prop := ∃ g, e = .returned (.slice (some ⟨g, 0, none⟩) 256 256) ∧ w.heap.size ≤ g ∧ w'.heap[g]? = some (.cells (bcells (List.replicate 256 c)).toArray 5 (0, 0)) ∧ Below w.heap.size w w'
theorem fill_set (k : Nat) (hk : k < 256) (c : UInt8) : (bcells (List.replicate k c ++ List.replicate (256 - k) 0)).toArray.setIfInBounds k (.int .u8 (c.toNat : Int)) = (bcells (List.replicate (k + 1) c ++ List.replicate (256 - (k + 1)) 0)).toArray := by
  have e : 256 - k = (256 - (k + 1)) + 1 := by omega
  rw [e, List.replicate_succ, List.setIfInBounds_toArray]
  congr 1
  simp only [bcells, List.map_append, List.map_cons, List.map_replicate]
  rw [List.set_append_right _ _ (by simp)]
  simp only [List.length_replicate, Nat.sub_self, List.set_cons_zero]
  rw [List.replicate_succ', List.append_assoc]
  rfl
theorem fill_get (k : Nat) (hk : k < 256) (c : UInt8) : (bcells (List.replicate k c ++ List.replicate (256 - k) 0)).toArray[k]? = some (.int .u8 0) := by
  have e : 256 - k = (256 - (k + 1)) + 1 := by omega
  rw [e, List.replicate_succ, List.getElem?_toArray]
  simp only [bcells, List.map_append, List.map_cons, List.map_replicate]
  rw [List.getElem?_append_right (by simp)]
  simp only [List.length_replicate, Nat.sub_self, List.getElem?_cons_zero]
  rfl

set_option maxRecDepth 100000 in
set_option maxHeartbeats 400000 in
theorem full_any (c : UInt8) (w : World) : Calls Try.prog 27 #[.int .u8 (c.toNat : Int)] w (FullPost w c) := by
  have hmake := run_make_bytes 256 256 (Nat.le_refl _) (by omega) w
  rw [show ((256 : Nat) : Int) = 256 from rfl, made_list, ← bcells_zero] at hmake
  obtain ⟨w1, hw1⟩ : ∃ w1, w1 = w.alloc (.cells (bcells (List.replicate 256 0)).toArray 5) := ⟨_, rfl⟩
  rw [← hw1] at hmake
  have hb1 : Below w.heap.size w w1 := by rw [hw1]; exact (Below.refl _ _).alloc (Nat.le_refl _) _
  have hrow1 : w1.heap[w.heap.size]? = some (.cells (bcells (List.replicate 256 0)).toArray 5 (0, 0)) := by rw [hw1]; exact heap_alloc_new w _
  have HB1 := Lib.hid hb1
  have HR1 := Lib.hid hrow1
  have hpost : ∀ w', w'.heap[w.heap.size]? = some (.cells (bcells (List.replicate 256 c)).toArray 5 (0, 0)) → Below w.heap.size w w' → FullPost w c (.returned (.slice (some ⟨w.heap.size, 0, none⟩) 256 256)) w' := fun w' h1 h2 => ⟨_, rfl, Nat.le_refl _, h1, h2⟩
  have HP := Lib.hid hpost
  clear hw1 hb1 hrow1 hpost
  go_enter Try.func27, Try.ntmps27
  go_wp2
  go_loopw [8] (fun i wr => ∃ k : Nat, k ≤ 256 ∧ i = .int .i64 k ∧ Hid (wr.heap[w.heap.size]? = some (.cells (bcells (List.replicate k c ++ List.replicate (256 - k) 0)).toArray 5 (0, 0))) ∧ Hid (w1.grownBy wr (some w.heap.size))) (fun i _ => 256 - (intOf i).toNat)
  case atStart => exact ⟨0, by omega, rfl, HR1, Lib.hid (grown_refl _ _)⟩
  case round =>
    obtain ⟨k, hk, rfl, HR, HG⟩ := hrel
    by_cases hlt : k < 256
    · have hcell : wr.cell? ⟨w.heap.size, k, none⟩ = some (.int .u8 0) := cell_at HR.out k _ (fill_get k hlt c)
      have hfr := free_at HR.out k
      go_wp2
      refine ⟨⟨k + 1, by omega, by go_num, Lib.hid ?_, Lib.hid (only_setCell HG.out rfl _)⟩, by simp [intOf]; omega⟩
      have := blk_set HR.out k (.int .u8 (c.toNat : Int))
      rwa [fill_set k hlt] at this
    · obtain rfl : k = 256 := by omega
      go_wp2
      go_ret
      refine HP.out _ ?_ (below_only HB1.out HG.out HB1.out.size (Nat.le_refl _))
      have := HR.out
      rwa [Nat.sub_self, List.replicate_zero, List.append_nil] at this

/-- A write of a page of one byte. -/
def fullW (p : Nat) (c : UInt8) : WR := ⟨p, List.replicate 256 c, List.length_replicate⟩

/-- A call of a script. -/
structure OP where
  kind : Int
  i : Int
  n : Int
  keep : Nat
  b : ByteArray
/-- Its cells. -/
def ocells (o : OP) : List Value := [.int .i64 o.kind, .int .i64 o.i, .int .i64 o.n, .int .u64 (o.keep : Int), .string o.b]
theorem oenc : Enc ocells 5 := ⟨fun _ => rfl, fun x u hu => by
  simp only [ocells, List.mem_cons, List.not_mem_nil, or_false] at hu
  rcases hu with rfl | rfl | rfl | rfl | rfl <;> rfl⟩
def I64 (x : Int) : Prop := -9223372036854775808 ≤ x ∧ x ≤ 9223372036854775807
theorem wf_i64 {n : Int} (h : (Lit.int .i64 n).wf = true) : I64 n := by
  have : -9223372036854775808 ≤ n ∧ n ≤ 9223372036854775807 := by simpa [Lit.wf, IntKind.min, IntKind.max, IntKind.signed, IntKind.bits] using h
  exact this
theorem wf_u64 {n : Int} (h : (Lit.int .u64 n).wf = true) : 0 ≤ n ∧ n < 18446744073709551616 := by
  have : 0 ≤ n ∧ n ≤ 18446744073709551615 := by simpa [Lit.wf, IntKind.min, IntKind.max, IntKind.signed, IntKind.bits] using h
  omega
/-- What is known of one that comes in. -/
structure OkO (o : OP) : Prop where
  kind : I64 o.kind
  i : I64 o.i
  n : I64 o.n
  keep : o.keep < 18446744073709551616
  b : o.b.size ≤ 140737488351232
theorem Ls.atO {w : World} {A : Option Addr} {l : List OP} (h : Ls ocells w A l) {i : Nat} (hi : i < l.length) :
    ∃ ad x, A = some ad ∧ l[i]? = some x ∧ ad.block < w.heap.size ∧ w.cell? (ad.add (i * 5)) = some (.int .i64 x.kind) ∧ w.cell? ⟨(ad.add (i * 5)).block, (ad.add (i * 5)).off + 1, none⟩ = some (.int .i64 x.i) ∧ w.cell? ⟨(ad.add (i * 5)).block, (ad.add (i * 5)).off + 2, none⟩ = some (.int .i64 x.n)
      ∧ w.cell? ⟨(ad.add (i * 5)).block, (ad.add (i * 5)).off + 3, none⟩ = some (.int .u64 (x.keep : Int)) ∧ w.cell? ⟨(ad.add (i * 5)).block, (ad.add (i * 5)).off + 4, none⟩ = some (.string x.b) := by
  obtain ⟨ad, x, rfl, hx, hlt, hc⟩ := h.at_ oenc hi
  exact ⟨ad, x, rfl, hx, hlt, hc 0 _ (by omega) rfl, hc 1 _ (by omega) rfl, hc 2 _ (by omega) rfl, hc 3 _ (by omega) rfl, hc 4 _ (by omega) rfl⟩
theorem fields_op : ∃ f0 f1 f2 f3 f4, Try.prog.underlying 32 = some (.struct #[f0, f1, f2, f3, f4]) ∧ f0.offset = 0 ∧ f1.offset = 1 ∧ f2.offset = 2 ∧ f3.offset = 3 ∧ f4.offset = 4 ∧ f0.type = 3 ∧ f1.type = 3 ∧ f2.type = 3 ∧ f3.type = 30 ∧ f4.type = 9 := ⟨_, _, _, _, _, Try.underlying32, rfl, rfl, rfl, rfl, rfl, rfl, rfl, rfl, rfl, rfl⟩
theorem elemO {H : Type} {enc : TypeId × Value → H} {W : World} (fuel : Nat) (cs : List Value) (y : DataW H × List MemPlace) (h : DataW.trod enc Try.prog W 0 (fun _ => true) true fuel 32 cs = some y)
    (hsz : ∀ m ∈ y.1.weights Try.prog 32, m ≤ reachBytes) : ∃ z : OP, cs = ocells z ∧ OkO z := by
  obtain ⟨f0, f1, f2, f3, f4, he, o0, o1, o2, o3, o4, t0, t1, t2, t3, t4⟩ := fields_op
  have c9 : Try.prog.cellsOf 9 = 1 := by kernel_rfl
  have c3 : Try.prog.cellsOf 3 = 1 := by kernel_rfl
  have c6 : Try.prog.cellsOf 30 = 1 := by kernel_rfl
  have c4 : Try.prog.cellsOf 32 = 5 := by kernel_rfl
  obtain ⟨xs, n, _, hx, hlen, hxl, hf⟩ := DataW.trod_struct he h
  rw [c4] at hlen
  match xs, hxl, cs, hlen with
  | [y0, y1, y2, y3, y4], _, [v0, v1, v2, v3, v4], _ =>
    have g0 := hf 0 f0 rfl
    have g1 := hf 1 f1 rfl
    have g2 := hf 2 f2 rfl
    have g3 := hf 3 f3 rfl
    have g4 := hf 4 f4 rfl
    simp [o0, o1, o2, o3, o4, t0, t1, t2, t3, t4, c9, c3, c6] at g0 g1 g2 g3 g4
    obtain ⟨i0, e0, d0, w0⟩ := DataW.trod_int Try.underlying3 g0
    obtain ⟨i1, e1, d1, w1⟩ := DataW.trod_int Try.underlying3 g1
    obtain ⟨i2, e2, d2, w2⟩ := DataW.trod_int Try.underlying3 g2
    obtain ⟨i3, e3, d3, w3⟩ := DataW.trod_int Try.underlying30 g3
    obtain ⟨s, e4, d4, _⟩ := DataW.trod_string Try.underlying9 g4
    simp only [List.cons.injEq, and_true] at e0 e1 e2 e3 e4
    subst e0 e1 e2 e3 e4 d0 d1 d2 d3 d4 hx
    simp only [List.map_cons, List.map_nil, DataW.weights, he, DataW.weightsEach, List.append_nil, List.nil_append, List.mem_append, List.mem_cons, List.not_mem_nil, or_false, false_or, t0, t1, t2, t3, t4] at hsz
    have h3 := wf_u64 w3
    obtain ⟨k, rfl⟩ : ∃ k : Nat, i3 = (k : Int) := ⟨i3.toNat, by omega⟩
    exact ⟨⟨i0, i1, i2, k, s⟩, rfl, wf_i64 w0, wf_i64 w1, wf_i64 w2, by show k < _; omega, hsz _ rfl⟩

/-- A script as an argument. -/
structure ArgO (w : World) (A : Option Addr) (n c : Nat) (l : List OP) : Prop where
  len : l.length = n
  cap : n ≤ c
  bd : n ≤ 140737488351232
  ls : Ls ocells w A l
  ok : ∀ z ∈ l, OkO z
theorem open_ops {H : Type} {enc : TypeId × Value → H} {W : World} {A : Option Addr} {n c : Nat} {d : DataW H} {p : List MemPlace}
    (h : DataW.Trod enc Try.prog W 0 (fun _ => true) true 22 (.slice A n c) d p) (hsz : ∀ m ∈ d.weights Try.prog 22, m ≤ reachBytes) : ∃ l, ArgO W A n c l := by
  obtain ⟨fuel, hf⟩ := h
  obtain ⟨l, h1, h2, h3, h4, h5⟩ := open_list (f := ocells) (k := 5) (ok := OkO) oenc (by omega) Try.underlying22 (by kernel_rfl) (by_ := 48) (by kernel_rfl) (by omega) elemO hf hsz
  exact ⟨l, h1, h2, h3, h4, h5⟩

/-- Scripts of a size that is looked at. -/
def FewO (l : List OP) : Prop := l.length ≤ 150 ∧ ∀ o ∈ l, o.b.size ≤ 1000
instance (l : List OP) : Decidable (FewO l) := inferInstanceAs (Decidable (_ ∧ _))

set_option maxHeartbeats 400000 in
theorem fewO_any (A : Option Addr) (n c : Nat) (l : List OP) (w : World) (hr : Ls ocells w A l) (hn : l.length = n) (hb : n ≤ 140737488351232) (hs : ∀ o ∈ l, o.b.size ≤ 140737488351232) :
    Calls Try.prog 10 #[.slice A n c] w fun e w' => e = .returned (.bool (decide (FewO l))) ∧ w' = w := by
  have Hn := Lib.hid hn
  have HS := Lib.hid hs
  clear hn hs
  by_cases h3 : 150 < n
  · rw [show decide (FewO l) = false from decide_eq_false fun h => by have := h.1; rw [Hn.out] at this; omega]
    go_enter Try.func10, Try.ntmps10
    go_wp2
    go_ret
    exact ⟨rfl, rfl⟩
  · go_enter Try.func10, Try.ntmps10
    go_wp2
    go_loopw [9] (fun i wr => ∃ k : Nat, k ≤ n ∧ i = .int .i64 k ∧ wr = w ∧ Hid (∀ j o, j < k → l[j]? = some o → o.b.size ≤ 1000)) (fun i _ => n - (intOf i).toNat)
    case atStart => exact ⟨0, Nat.zero_le _, rfl, rfl, Lib.hid fun j _ hj => absurd hj (by omega)⟩
    case round =>
      obtain ⟨k, hk, rfl, rfl, HA⟩ := hrel
      by_cases hlt : k < n
      · obtain ⟨ad, x, rfl, hx, hl, _, _, _, _, h4⟩ := hr.atO (i := k) (by rw [Hn.out]; exact hlt)
        have hxs := HS.out x (List.mem_of_getElem? hx)
        have HX := Lib.hid hx
        clear hx
        by_cases hbig : 1000 < x.b.size
        · have HD := Lib.hid (show decide (FewO l) = false from decide_eq_false fun h => by have := h.2 x (List.mem_of_getElem? HX.out); omega)
          go_wp2
          go_ret
          exact ⟨by rw [HD.out]; rfl, by trivial⟩
        · go_wp2
          refine ⟨⟨k + 1, by omega, by go_num, by trivial, Lib.hid fun j o hj ho => ?_⟩, by simp [intOf]; omega⟩
          rcases Nat.lt_or_ge j k with h | h
          · exact HA.out j o h ho
          · have : j = k := by omega
            subst this
            rw [HX.out] at ho
            cases ho
            omega
      · have he : k = n := by omega
        subst he
        have HD := Lib.hid (show decide (FewO l) = true from decide_eq_true ⟨by rw [Hn.out]; omega, fun o ho => by
          obtain ⟨j, hj⟩ := List.getElem?_of_mem ho
          exact HA.out j o (by rw [← Hn.out]; exact (List.getElem?_eq_some_iff.1 hj).1) hj⟩)
        go_wp2
        go_ret
        exact ⟨by rw [HD.out]; rfl, by trivial⟩

end Go.Proofs.Ythjgcbpanfiacaa
