/-
  Arguments of the rows of layer 4: a page by value with its two slices: what the walk is told of it; conditions: the row's own.
-/
import Derived.Test.YtgicomadlhnkjaaDoorPageFew
import Derived.Deep.SlicePairs
import Derived.SizedLaws
import Derived.ProofKit
import Derived.Lib.SmallJoins
namespace Go.Proofs.YtgicomadlhnkjaaDoor
open Go.RowKit Go.Sort Go.ChangeShapes Go.WideShapes Go.Joins Go.Deep
set_option linter.unusedVariables false

theorem weigh_all {H : Type} {P : Program} {e : TypeId} {m : Nat} {d : DataW H} (hm : m ∈ d.weights P e) (l : List (DataW H)) (hd : d ∈ l) : m ∈ DataW.weightsAll P e l := by
  induction l with
  | nil => cases hd
  | cons x l ih =>
    rw [DataW.weightsAll, List.mem_append]
    cases hd with
    | head => exact .inl hm
    | tail _ h => exact .inr (ih h)

theorem wf_i64 {n : Int} (h : (Lit.int .i64 n).wf = true) : I64 n := by
  have : -9223372036854775808 ≤ n ∧ n ≤ 9223372036854775807 := by simpa [Lit.wf, IntKind.min, IntKind.max, IntKind.signed, IntKind.bits] using h
  exact this

/-- A slice of structs as a list. -/
theorem open_list {α : Type} {f : α → List Value} {k : Nat} {ok : α → Prop} (he : Enc f k) (hk : 0 < k) {ts e : TypeId} {by_ : Nat} (hu : Tryd.prog.underlying ts = some (.slice e)) (ck : Tryd.prog.cellsOf e = k) (hby : Tryd.prog.bytesOf e = by_) (hby0 : 0 < by_)
    {H : Type} {enc : TypeId × Value → H} {W : World} {fuel : Nat} {A : Option Addr} {n c : Nat} {x : DataW H × List MemPlace}
    (elem : ∀ fuel cs (y : DataW H × List MemPlace), DataW.trod enc Tryd.prog W 0 (fun _ => true) true fuel e cs = some y → (∀ m ∈ y.1.weights Tryd.prog e, m ≤ reachBytes) → ∃ z : α, cs = f z ∧ ok z)
    (h : DataW.trod enc Tryd.prog W 0 (fun _ => true) true fuel ts [.slice A n c] = some x) (hsz : ∀ m ∈ x.1.weights Tryd.prog ts, m ≤ reachBytes) :
    ∃ l : List α, l.length = n ∧ n ≤ c ∧ n ≤ 140737488351232 ∧ Ls f W A l ∧ ∀ z ∈ l, ok z := by
  have hreach : reachBytes = 140737488351232 := rfl
  rcases open_slice hu h with ⟨hc, hx⟩ | ⟨a, len, cap, m, q, D, Pl, hc, hb, hl, hm, hmm, rfl, hi⟩
  · simp only [List.cons.injEq, Value.slice.injEq, and_true] at hc
    obtain ⟨rfl, rfl, rfl⟩ := hc
    exact ⟨[], rfl, Nat.le_refl _, by omega, Ls.nil _ _, fun z hz => by cases hz⟩
  · simp only [List.cons.injEq, Value.slice.injEq, and_true] at hc
    obtain ⟨rfl, rfl, rfl⟩ := hc
    simp only [if_true] at hmm
    subst hmm
    have hw1 : (n + (m - n)) * by_ ≤ reachBytes := by
      refine hsz _ ?_
      simp [DataW.weights, hu, hby]
    have hw2 : n ≤ 140737488351232 := by
      have : n + (m - n) ≤ (n + (m - n)) * by_ := Nat.le_mul_of_pos_right _ hby0
      omega
    have each : ∀ i, i < n → ∃ z : α, (∀ j u, (f z)[j]? = some u → W.cell? (a.add (i * k + j)) = some u) ∧ ok z := by
      intro i hin
      obtain ⟨cs', h1, h2⟩ := hi i (by omega)
      rw [ck] at h1
      obtain ⟨_, hlen, hcell⟩ := World.cells?_some h1
      have hmem : D i ∈ (List.range n).map D := List.mem_map.2 ⟨i, List.mem_range.2 hin, rfl⟩
      obtain ⟨z, rfl, hz⟩ := elem q cs' (D i, Pl i) h2 (fun m' hm' => hsz m' (by
        simp only [DataW.weights, hu, List.mem_cons, List.mem_append]
        exact .inr (.inl (weigh_all hm' _ hmem))))
      refine ⟨z, fun j u hj => ?_, hz⟩
      have hjk : j < k := by
        have := (List.getElem?_eq_some_iff.1 hj).1
        rwa [he.len] at this
      rw [← add_add, hcell j hjk, hj]
    have build : ∀ r, r ≤ n → ∃ l : List α, l.length = r ∧ ∀ i z, l[i]? = some z → (∀ j u, (f z)[j]? = some u → W.cell? (a.add (i * k + j)) = some u) ∧ ok z := by
      intro r
      induction r with
      | zero => exact fun _ => ⟨[], rfl, fun i z hz => by simp at hz⟩
      | succ r ih =>
        intro hr
        obtain ⟨l, hl1, hl2⟩ := ih (by omega)
        obtain ⟨z, hz⟩ := each r (by omega)
        refine ⟨l ++ [z], by simp [hl1], fun i y hy => ?_⟩
        rcases Nat.lt_or_ge i r with hi' | hi'
        · rw [List.getElem?_append_left (by omega)] at hy
          exact hl2 i y hy
        · have hlt := (List.getElem?_eq_some_iff.1 hy).1
          rw [List.length_append, List.length_singleton, hl1] at hlt
          have : i = r := by omega
          subst this
          rw [List.getElem?_append_right (by omega), hl1, Nat.sub_self] at hy
          simp only [List.getElem?_cons_zero, Option.some.injEq] at hy
          subst hy
          exact hz
    obtain ⟨l, hl1, hl2⟩ := build n (Nat.le_refl _)
    refine ⟨l, hl1, hl, hw2, fun h0 => ⟨a, rfl, ?_, fun j u hu' => ?_⟩, fun z hz => ?_⟩
    · obtain ⟨z, hz⟩ : ∃ z, l[0]? = some z := ⟨_, List.getElem?_eq_getElem h0⟩
      obtain ⟨u, hu0⟩ : ∃ u, (f z)[0]? = some u := ⟨_, List.getElem?_eq_getElem (by rw [he.len]; exact hk)⟩
      have := World.block_lt_of_cell? W _ ((hl2 0 z hz).1 0 u hu0)
      rwa [block_of_add] at this
    · have hlen := (List.getElem?_eq_some_iff.1 hu').1
      rw [he.flen] at hlen
      have hdm := Nat.div_add_mod j k
      have hmod := Nat.mod_lt j hk
      have hi' : j / k < l.length := Nat.div_lt_of_lt_mul (by rw [Nat.mul_comm]; exact hlen)
      obtain ⟨z, hz⟩ : ∃ z, l[j / k]? = some z := ⟨_, List.getElem?_eq_getElem hi'⟩
      have hj : j = j / k * k + j % k := by rw [Nat.mul_comm]; omega
      rw [hj, he.at_ l (j / k) (j % k) z hz hmod] at hu'
      rw [hj]
      exact (hl2 _ z hz).1 _ u hu'
    · obtain ⟨i, hi'⟩ := List.getElem?_of_mem hz
      exact (hl2 i z hi').2

theorem fields_cell : ∃ f0 f1 f2 f3, Tryd.prog.underlying 52 = some (.struct #[f0, f1, f2, f3]) ∧ f0.offset = 0 ∧ f1.offset = 1 ∧ f2.offset = 2 ∧ f3.offset = 3 ∧ f0.type = 9 ∧ f1.type = 9 ∧ f2.type = 3 ∧ f3.type = 3 := ⟨_, _, _, _, Tryd.underlying52, rfl, rfl, rfl, rfl, rfl, rfl, rfl, rfl⟩
theorem fields_kid : ∃ f0 f1, Tryd.prog.underlying 54 = some (.struct #[f0, f1]) ∧ f0.offset = 0 ∧ f1.offset = 1 ∧ f0.type = 9 ∧ f1.type = 3 := ⟨_, _, Tryd.underlying54, rfl, rfl, rfl, rfl⟩

theorem elemC {H : Type} {enc : TypeId × Value → H} {W : World} (fuel : Nat) (cs : List Value) (y : DataW H × List MemPlace) (h : DataW.trod enc Tryd.prog W 0 (fun _ => true) true fuel 52 cs = some y)
    (hsz : ∀ m ∈ y.1.weights Tryd.prog 52, m ≤ reachBytes) : ∃ z : PC, cs = pcC z ∧ BdC z := by
  obtain ⟨f0, f1, f2, f3, he, o0, o1, o2, o3, t0, t1, t2, t3⟩ := fields_cell
  have c9 : Tryd.prog.cellsOf 9 = 1 := by kernel_rfl
  have c3 : Tryd.prog.cellsOf 3 = 1 := by kernel_rfl
  have c4 : Tryd.prog.cellsOf 52 = 4 := by kernel_rfl
  obtain ⟨xs, n, _, hx, hlen, hxl, hf⟩ := DataW.trod_struct he h
  rw [c4] at hlen
  match xs, hxl, cs, hlen with
  | [y0, y1, y2, y3], _, [v0, v1, v2, v3], _ =>
    have g0 := hf 0 f0 rfl
    have g1 := hf 1 f1 rfl
    have g2 := hf 2 f2 rfl
    have g3 := hf 3 f3 rfl
    simp [o0, o1, o2, o3, t0, t1, t2, t3, c9, c3] at g0 g1 g2 g3
    obtain ⟨s, hs, hd, _⟩ := DataW.trod_string Tryd.underlying9 g0
    obtain ⟨s', hs', hd', _⟩ := DataW.trod_string Tryd.underlying9 g1
    obtain ⟨i, hi, hdi, wi⟩ := DataW.trod_int Tryd.underlying3 g2
    obtain ⟨i', hi', hdi', wi'⟩ := DataW.trod_int Tryd.underlying3 g3
    simp only [List.cons.injEq, and_true] at hs hs' hi hi'
    subst hs hs' hi hi' hd hd' hdi hdi' hx
    simp only [List.map_cons, List.map_nil, DataW.weights, he, DataW.weightsEach, List.append_nil, List.mem_append, List.mem_cons, List.not_mem_nil, or_false, t0, t1, t2, t3] at hsz
    exact ⟨⟨s, s', i, i'⟩, rfl, hsz _ (.inl rfl), hsz _ (.inr rfl), wf_i64 wi, wf_i64 wi'⟩

theorem elemK {H : Type} {enc : TypeId × Value → H} {W : World} (fuel : Nat) (cs : List Value) (y : DataW H × List MemPlace) (h : DataW.trod enc Tryd.prog W 0 (fun _ => true) true fuel 54 cs = some y)
    (hsz : ∀ m ∈ y.1.weights Tryd.prog 54, m ≤ reachBytes) : ∃ z : PK, cs = pcK z ∧ BdK z := by
  obtain ⟨f0, f1, he, o0, o1, t0, t1⟩ := fields_kid
  have c9 : Tryd.prog.cellsOf 9 = 1 := by kernel_rfl
  have c3 : Tryd.prog.cellsOf 3 = 1 := by kernel_rfl
  have c4 : Tryd.prog.cellsOf 54 = 2 := by kernel_rfl
  obtain ⟨xs, n, _, hx, hlen, hxl, hf⟩ := DataW.trod_struct he h
  rw [c4] at hlen
  match xs, hxl, cs, hlen with
  | [y0, y1], _, [v0, v1], _ =>
    have g0 := hf 0 f0 rfl
    have g1 := hf 1 f1 rfl
    simp [o0, o1, t0, t1, c9, c3] at g0 g1
    obtain ⟨s, hs, hd, _⟩ := DataW.trod_string Tryd.underlying9 g0
    obtain ⟨i, hi, hdi, wi⟩ := DataW.trod_int Tryd.underlying3 g1
    simp only [List.cons.injEq, and_true] at hs hi
    subst hs hi hd hdi hx
    simp only [List.map_cons, List.map_nil, DataW.weights, he, DataW.weightsEach, List.append_nil, List.mem_cons, List.not_mem_nil, or_false, t0, t1] at hsz
    exact ⟨⟨s, i⟩, rfl, hsz _ rfl, wf_i64 wi⟩

theorem fields_page : ∃ f0 f1 f2 f3 f4, Tryd.prog.underlying 25 = some (.struct #[f0, f1, f2, f3, f4]) ∧ f0.offset = 0 ∧ f1.offset = 1 ∧ f2.offset = 2 ∧ f3.offset = 3 ∧ f4.offset = 4 ∧ f0.type = 3 ∧ f1.type = 22 ∧ f2.type = 23 ∧ f3.type = 9 ∧ f4.type = 3 :=
  ⟨_, _, _, _, _, Tryd.underlying25, rfl, rfl, rfl, rfl, rfl, rfl, rfl, rfl, rfl, rfl⟩

theorem array5 {α : Type} {cs : Array α} (h : cs.size = 5) : ∃ a b c d e, cs = #[a, b, c, d, e] := by
  rcases cs with ⟨l⟩
  match l, h with
  | [a, b, c, d, e], _ => exact ⟨a, b, c, d, e, rfl⟩

/-- A slice's value, off its reading. -/
theorem slice_of {H : Type} {enc : TypeId × Value → H} {W : World} {fuel : Nat} {ts e : TypeId} {v : Value} {x : DataW H × List MemPlace} (hu : Tryd.prog.underlying ts = some (.slice e))
    (h : DataW.trod enc Tryd.prog W 0 (fun _ => true) true fuel ts [v] = some x) : ∃ A n c, v = .slice A n c := by
  rcases open_slice hu h with ⟨hc, _⟩ | ⟨a, len, cap, m, q, D, Pl, hc, _⟩
  · exact ⟨_, _, _, by simpa using hc⟩
  · exact ⟨_, _, _, by simpa using hc⟩

theorem open_page {H : Type} {enc : TypeId × Value → H} {W : World} {base : Nat} {v : Value} {d : DataW H} {pl : List MemPlace} (hv : Value.okWide Tryd.prog W .any base 25 v)
    (h : DataW.Trod enc Tryd.prog W 0 (fun _ => true) true 25 v d pl) (hsz : ∀ m ∈ d.weights Tryd.prog 25, m ≤ reachBytes) :
    ∃ (p : PP) (A B : Option Addr) (a b : Nat), v = pageV p A a B b ∧ Ls pcC W A p.cells ∧ Ls pcK W B p.kids ∧ ArgP p := by
  obtain ⟨f0, f1, f2, f3, f4, he, o0, o1, o2, o3, o4, t0, t1, t2, t3, t4⟩ := fields_page
  have c9 : Tryd.prog.cellsOf 9 = 1 := by kernel_rfl
  have c3 : Tryd.prog.cellsOf 3 = 1 := by kernel_rfl
  have cc : Tryd.prog.cellsOf 22 = 1 := by kernel_rfl
  have ck : Tryd.prog.cellsOf 23 = 1 := by kernel_rfl
  have c5 : Tryd.prog.cellsOf 25 = 5 := by kernel_rfl
  obtain ⟨cs, rfl, hcs⟩ := okWide_struct he hv
  obtain ⟨v0, v1, v2, v3, v4, rfl⟩ := array5 (hcs.trans c5)
  obtain ⟨fuel, hf0⟩ := h
  obtain ⟨xs, n, _, hx, hlen, hxl, hf⟩ := DataW.trod_struct he hf0
  match xs, hxl with
  | [y0, y1, y2, y3, y4], _ =>
    have g0 := hf 0 f0 rfl
    have g1 := hf 1 f1 rfl
    have g2 := hf 2 f2 rfl
    have g3 := hf 3 f3 rfl
    have g4 := hf 4 f4 rfl
    simp [Value.cells, o0, o1, o2, o3, o4, t0, t1, t2, t3, t4, c9, c3, cc, ck] at g0 g1 g2 g3 g4
    obtain ⟨i, hi, hdi, wi⟩ := DataW.trod_int Tryd.underlying3 g0
    obtain ⟨s, hs, hd3, _⟩ := DataW.trod_string Tryd.underlying9 g3
    obtain ⟨i', hi', hdi', wi'⟩ := DataW.trod_int Tryd.underlying3 g4
    simp only [List.cons.injEq, and_true] at hi hs hi'
    subst hi hs hi'
    obtain ⟨A, n1, a, rfl⟩ := slice_of Tryd.underlying22 g1
    obtain ⟨B, n2, b, rfl⟩ := slice_of Tryd.underlying23 g2
    have hd : d = .agg [y0.1, y1.1, y2.1, y3.1, y4.1] := congrArg Prod.fst hx
    subst hd
    simp only [DataW.weights, he, List.map_cons, List.map_nil, DataW.weightsEach, List.append_nil, List.mem_append, t0, t1, t2, t3, t4] at hsz
    obtain ⟨l1, e1, k1, k2, hl1, ho1⟩ := open_list encC (by omega) Tryd.underlying22 (by kernel_rfl) (by_ := 48) (by kernel_rfl) (by omega) elemC g1 (fun m hm => hsz m (.inr (.inl hm)))
    obtain ⟨l2, e2, k3, k4, hl2, ho2⟩ := open_list encK (by omega) Tryd.underlying23 (by kernel_rfl) (by_ := 24) (by kernel_rfl) (by omega) elemK g2 (fun m hm => hsz m (.inr (.inr (.inl hm))))
    subst e1 e2
    have hs3 : s.size ≤ reachBytes := hsz _ (.inr (.inr (.inr (.inl (by rw [hd3]; simp [DataW.weights])))))
    exact ⟨⟨i, l1, l2, s, i'⟩, A, B, a, b, rfl, hl1, hl2, wf_i64 wi, wf_i64 wi', hs3, k2, k4, ho1, ho2⟩

end Go.Proofs.YtgicomadlhnkjaaDoor
