/-
  Arguments: a slice of structs as a list, what a number of 64 bits is; a meta page by value, and a slice of them; conditions: the row's own.
-/
import Derived.Test.YtcgmaiadipiegaaDoorMetaSmall
import Derived.Deep.SlicePairs
import Derived.SizedLaws
import Derived.ProofKit
import Derived.Lib.SmallJoins
namespace Go.Proofs.YtcgmaiadipiegaaDoor
open Go.RowKit Go.Sort Go.ChangeShapes Go.WideShapes Go.Joins Go.Deep
set_option linter.unusedVariables false

theorem weigh_all {H : Type} {P : Program} {e : TypeId} {m : Nat} {d : DataW H} (hm : m ∈ d.weights P e) (l : List (DataW H)) (hd : d ∈ l) : m ∈ DataW.weightsAll P e l := by
  induction l with
  | nil => cases hd
  | cons x l ih =>
    rw [DataW.weightsAll, List.mem_append]
    cases hd with
    | head => exact .inl hm
    | tail _ h => exact .inr (ih h)

theorem wf_i64 {n : Int} (h : (Lit.int .i64 n).wf = true) : I64 n := by
  have : -9223372036854775808 ≤ n ∧ n ≤ 9223372036854775807 := by simpa [Lit.wf, IntKind.min, IntKind.max, IntKind.signed, IntKind.bits] using h
  exact this

/-- A slice of structs as a list. -/
theorem open_list {α : Type} {f : α → List Value} {k : Nat} {ok : α → Prop} (he : Enc f k) (hk : 0 < k) {ts e : TypeId} {by_ : Nat} (hu : Tryd.prog.underlying ts = some (.slice e)) (ck : Tryd.prog.cellsOf e = k) (hby : Tryd.prog.bytesOf e = by_) (hby0 : 0 < by_)
    {H : Type} {enc : TypeId × Value → H} {W : World} {fuel : Nat} {A : Option Addr} {n c : Nat} {x : DataW H × List MemPlace}
    (elem : ∀ fuel cs (y : DataW H × List MemPlace), DataW.trod enc Tryd.prog W 0 (fun _ => true) true fuel e cs = some y → (∀ m ∈ y.1.weights Tryd.prog e, m ≤ reachBytes) → ∃ z : α, cs = f z ∧ ok z)
    (h : DataW.trod enc Tryd.prog W 0 (fun _ => true) true fuel ts [.slice A n c] = some x) (hsz : ∀ m ∈ x.1.weights Tryd.prog ts, m ≤ reachBytes) :
    ∃ l : List α, l.length = n ∧ n ≤ c ∧ n ≤ 140737488351232 ∧ Ls f W A l ∧ ∀ z ∈ l, ok z := by
  have hreach : reachBytes = 140737488351232 := rfl
  rcases open_slice hu h with ⟨hc, hx⟩ | ⟨a, len, cap, m, q, D, Pl, hc, hb, hl, hm, hmm, rfl, hi⟩
  · simp only [List.cons.injEq, Value.slice.injEq, and_true] at hc
    obtain ⟨rfl, rfl, rfl⟩ := hc
    exact ⟨[], rfl, Nat.le_refl _, by omega, Ls.nil _ _, fun z hz => by cases hz⟩
  · simp only [List.cons.injEq, Value.slice.injEq, and_true] at hc
    obtain ⟨rfl, rfl, rfl⟩ := hc
    simp only [if_true] at hmm
    subst hmm
    have hw1 : (n + (m - n)) * by_ ≤ reachBytes := by
      refine hsz _ ?_
      simp [DataW.weights, hu, hby]
    have hw2 : n ≤ 140737488351232 := by
      have : n + (m - n) ≤ (n + (m - n)) * by_ := Nat.le_mul_of_pos_right _ hby0
      omega
    have each : ∀ i, i < n → ∃ z : α, (∀ j u, (f z)[j]? = some u → W.cell? (a.add (i * k + j)) = some u) ∧ ok z := by
      intro i hin
      obtain ⟨cs', h1, h2⟩ := hi i (by omega)
      rw [ck] at h1
      obtain ⟨_, hlen, hcell⟩ := World.cells?_some h1
      have hmem : D i ∈ (List.range n).map D := List.mem_map.2 ⟨i, List.mem_range.2 hin, rfl⟩
      obtain ⟨z, rfl, hz⟩ := elem q cs' (D i, Pl i) h2 (fun m' hm' => hsz m' (by
        simp only [DataW.weights, hu, List.mem_cons, List.mem_append]
        exact .inr (.inl (weigh_all hm' _ hmem))))
      refine ⟨z, fun j u hj => ?_, hz⟩
      have hjk : j < k := by
        have := (List.getElem?_eq_some_iff.1 hj).1
        rwa [he.len] at this
      rw [← add_add, hcell j hjk, hj]
    have build : ∀ r, r ≤ n → ∃ l : List α, l.length = r ∧ ∀ i z, l[i]? = some z → (∀ j u, (f z)[j]? = some u → W.cell? (a.add (i * k + j)) = some u) ∧ ok z := by
      intro r
      induction r with
      | zero => exact fun _ => ⟨[], rfl, fun i z hz => by simp at hz⟩
      | succ r ih =>
        intro hr
        obtain ⟨l, hl1, hl2⟩ := ih (by omega)
        obtain ⟨z, hz⟩ := each r (by omega)
        refine ⟨l ++ [z], by simp [hl1], fun i y hy => ?_⟩
        rcases Nat.lt_or_ge i r with hi' | hi'
        · rw [List.getElem?_append_left (by omega)] at hy
          exact hl2 i y hy
        · have hlt := (List.getElem?_eq_some_iff.1 hy).1
          rw [List.length_append, List.length_singleton, hl1] at hlt
          have : i = r := by omega
          subst this
          rw [List.getElem?_append_right (by omega), hl1, Nat.sub_self] at hy
          simp only [List.getElem?_cons_zero, Option.some.injEq] at hy
          subst hy
          exact hz
    obtain ⟨l, hl1, hl2⟩ := build n (Nat.le_refl _)
    refine ⟨l, hl1, hl, hw2, fun h0 => ⟨a, rfl, ?_, fun j u hu' => ?_⟩, fun z hz => ?_⟩
    · obtain ⟨z, hz⟩ : ∃ z, l[0]? = some z := ⟨_, List.getElem?_eq_getElem h0⟩
      obtain ⟨u, hu0⟩ : ∃ u, (f z)[0]? = some u := ⟨_, List.getElem?_eq_getElem (by rw [he.len]; exact hk)⟩
      have := World.block_lt_of_cell? W _ ((hl2 0 z hz).1 0 u hu0)
      rwa [block_of_add] at this
    · have hlen := (List.getElem?_eq_some_iff.1 hu').1
      rw [he.flen] at hlen
      have hdm := Nat.div_add_mod j k
      have hmod := Nat.mod_lt j hk
      have hi' : j / k < l.length := Nat.div_lt_of_lt_mul (by rw [Nat.mul_comm]; exact hlen)
      obtain ⟨z, hz⟩ : ∃ z, l[j / k]? = some z := ⟨_, List.getElem?_eq_getElem hi'⟩
      have hj : j = j / k * k + j % k := by rw [Nat.mul_comm]; omega
      rw [hj, he.at_ l (j / k) (j % k) z hz hmod] at hu'
      rw [hj]
      exact (hl2 _ z hz).1 _ u hu'
    · obtain ⟨i, hi'⟩ := List.getElem?_of_mem hz
      exact (hl2 i z hi').2

/-- A meta page as cells. -/
def pcM (m : MT) : List Value := [.int .i64 m.e, .int .i64 m.r]
theorem encPM : Enc pcM 2 := ⟨fun _ => rfl, fun x u hu => by
  simp only [pcM, List.mem_cons, List.not_mem_nil, or_false] at hu
  rcases hu with rfl | rfl <;> rfl⟩
theorem Ls.atM {w : World} {A : Option Addr} {l : List MT} (h : Ls pcM w A l) {i : Nat} (hi : i < l.length) :
    ∃ ad x, A = some ad ∧ l[i]? = some x ∧ ad.block < w.heap.size ∧ w.cell? (ad.add (i * 2)) = some (.int .i64 x.e) ∧ w.cell? ⟨(ad.add (i * 2)).block, (ad.add (i * 2)).off + 1, none⟩ = some (.int .i64 x.r) := by
  obtain ⟨ad, x, rfl, hx, hlt, hc⟩ := h.at_ encPM hi
  exact ⟨ad, x, rfl, hx, hlt, hc 0 _ (by omega) rfl, hc 1 _ (by omega) rfl⟩
theorem fields_meta : ∃ f0 f1, Tryd.prog.underlying 23 = some (.struct #[f0, f1]) ∧ f0.offset = 0 ∧ f1.offset = 1 ∧ f0.type = 3 ∧ f1.type = 3 := ⟨_, _, Tryd.underlying23, rfl, rfl, rfl, rfl⟩
theorem elemM {H : Type} {enc : TypeId × Value → H} {W : World} (fuel : Nat) (cs : List Value) (y : DataW H × List MemPlace) (h : DataW.trod enc Tryd.prog W 0 (fun _ => true) true fuel 23 cs = some y)
    (hsz : ∀ m ∈ y.1.weights Tryd.prog 23, m ≤ reachBytes) : ∃ z : MT, cs = pcM z ∧ MI z := by
  obtain ⟨f0, f1, he, o0, o1, t0, t1⟩ := fields_meta
  have c3 : Tryd.prog.cellsOf 3 = 1 := by kernel_rfl
  have c4 : Tryd.prog.cellsOf 23 = 2 := by kernel_rfl
  obtain ⟨xs, n, _, hx, hlen, hxl, hf⟩ := DataW.trod_struct he h
  rw [c4] at hlen
  match xs, hxl, cs, hlen with
  | [y0, y1], _, [v0, v1], _ =>
    have g0 := hf 0 f0 rfl
    have g1 := hf 1 f1 rfl
    simp [o0, o1, t0, t1, c3] at g0 g1
    obtain ⟨i, hi, hdi, wi⟩ := DataW.trod_int Tryd.underlying3 g0
    obtain ⟨i', hi', hdi', wi'⟩ := DataW.trod_int Tryd.underlying3 g1
    simp only [List.cons.injEq, and_true] at hi hi'
    subst hi hi' hdi hdi' hx
    exact ⟨⟨i, i'⟩, rfl, wf_i64 wi, wf_i64 wi'⟩
theorem open_meta {H : Type} {enc : TypeId × Value → H} {W : World} {base : Nat} {v : Value} {d : DataW H} {p : List MemPlace} (hv : Value.okWide Tryd.prog W .any base 23 v)
    (h : DataW.Trod enc Tryd.prog W 0 (fun _ => true) true 23 v d p) : ∃ x : MT, v = metaV x ∧ MI x := by
  have c30 : Tryd.prog.cellsOf 23 = 2 := by kernel_rfl
  obtain ⟨c0, c1, y0, y1, m, rfl, rfl, rfl, hy0, hy1⟩ := open_agg2 Tryd.underlying23 (by kernel_rfl) c30 hv h
  obtain ⟨s, hs, hd, w1⟩ := DataW.trod_int Tryd.underlying3 hy0
  obtain ⟨s', hs', hd', w2⟩ := DataW.trod_int Tryd.underlying3 hy1
  simp only [List.cons.injEq, and_true] at hs hs'
  subst hs hs' hd hd'
  exact ⟨⟨s, s'⟩, rfl, wf_i64 w1, wf_i64 w2⟩
/-- A slice of meta pages as an argument. -/
structure ArgM (w : World) (A : Option Addr) (n c : Nat) (l : List MT) : Prop where
  len : l.length = n
  cap : n ≤ c
  bd : n ≤ 140737488351232
  ls : Ls pcM w A l
  mi : ∀ z ∈ l, MI z
theorem open_metas {H : Type} {enc : TypeId × Value → H} {W : World} {base : Nat} {v : Value} {d : DataW H} {p : List MemPlace} (hv : Value.okWide Tryd.prog W .any base 40 v)
    (h : DataW.Trod enc Tryd.prog W 0 (fun _ => true) true 40 v d p) (hsz : ∀ m ∈ d.weights Tryd.prog 40, m ≤ reachBytes) : ∃ A n c l, v = .slice A n c ∧ ArgM W A n c l := by
  obtain ⟨A, n, c, rfl⟩ : ∃ A n c, v = .slice A n c := okWide_slice Tryd.underlying40 hv
  obtain ⟨fuel, hf⟩ := h
  obtain ⟨l, h1, h2, h3, h4, h5⟩ := open_list (f := pcM) (k := 2) (ok := MI) encPM (by omega) Tryd.underlying40 (by kernel_rfl) (by_ := 16) (by kernel_rfl) (by omega) elemM hf hsz
  exact ⟨A, n, c, l, rfl, h1, h2, h3, h4, h5⟩

end Go.Proofs.YtcgmaiadipiegaaDoor
