/-
  Lists of strings in memory: a slice of strings that can be read, a row of the call's own, append, a slice of strings as an argument; conditions stand at each.
-/
import Derived.Test.YtpchihgdcpbjiaaLs
import Derived.Deep.SlicePairs
import Derived.SizedLaws
import Derived.ProofKit
import Derived.Lib.SmallJoins
import Derived.Lib.Strings
namespace Go.Proofs.Ytpchihgdcpbjiaa
open Go.RowKit Go.Sort Go.ChangeShapes Go.WideShapes Go.Joins Go.Deep
set_option linter.unusedVariables false

/-- A string as cells. -/
def strC (s : ByteArray) : List Value := [.string s]
theorem strC_enc : Enc strC 1 := ⟨fun _ => rfl, fun x u hu => by
  simp only [strC, List.mem_singleton] at hu
  subst hu
  rfl⟩
/-- The slice at A reads as the strings l. -/
def Ss (w : World) (A : Option Addr) (l : List ByteArray) : Prop := Ls strC w A l
theorem Ss.below {w w' : World} {A : Option Addr} {l : List ByteArray} (h : Ss w A l) (hb : Below w.heap.size w w') : Ss w' A l := Ls.below h hb
theorem Ss.at_ {w : World} {A : Option Addr} {l : List ByteArray} (h : Ss w A l) {i : Nat} (hi : i < l.length) :
    ∃ ad x, A = some ad ∧ l[i]? = some x ∧ ad.block < w.heap.size ∧ w.cell? (ad.add i) = some (.string x) := by
  obtain ⟨ad, x, e, hx, hlt, hc⟩ := Ls.at_ strC_enc h hi
  have := hc 0 _ (by omega) rfl
  rw [add_of_add, Nat.mul_one, Nat.add_zero] at this
  exact ⟨ad, x, e, hx, hlt, this⟩
theorem Ss.take {w : World} {A : Option Addr} {l : List ByteArray} (h : Ss w A l) (i : Nat) : Ss w A (l.take i) := fun h0 => by
  obtain ⟨ad, e, hlt, hc⟩ := h (by rw [List.length_take] at h0; omega)
  refine ⟨ad, e, hlt, fun j u hu => hc j u ?_⟩
  have e1 : ∀ m : List ByteArray, m.flatMap strC = m.map Value.string := fun m => by
    induction m with
    | nil => rfl
    | cons x m ih => rw [List.flatMap_cons, ih]; rfl
  rw [e1, List.map_take] at hu
  rw [e1]
  have hj := (List.getElem?_eq_some_iff.1 hu).1
  rw [List.length_take] at hj
  rwa [List.getElem?_take_of_lt (by omega)] at hu

/-- Strings in a row of the call's own. -/
def OwnS (w : World) (base : Nat) (v : Value) (l : List ByteArray) : Prop := OwnL strC 9 1 w base v l
theorem OwnS.form {w : World} {base : Nat} {v : Value} {l : List ByteArray} (h : OwnS w base v l) : ∃ A c, v = .slice A l.length c ∧ l.length ≤ c ∧ Ss w A l := OwnL.form h
theorem OwnS.below {w w' : World} {base : Nat} {v : Value} {l : List ByteArray} (h : OwnS w base v l) (hb : Below w.heap.size w w') : OwnS w' base v l := OwnL.below h hb

theorem wpList_append_ran {ops : Array Oper} {rest : List Oper} {o : Oper} {a : Act} {w : World} {Q : Exit → Act → World → Prop} (hgd : o.guard = none) (s x : Operand) (t : TypeId)
    (ho : o.op = .call { callee := .builtin .append, args := #[s, x], argTypes := #[t, t] }) (v u v' : Value) (w' : World) (hs : a.eval s = v) (hx : a.eval x = u)
    (hrun : (Builtin.append_ #[t, t] o.type #[v, u]).run Try.prog w = .ok v' w') (h : wpList Try.prog ops Q rest (a.put o.dst v') w') : wpList Try.prog ops Q (o :: rest) a w :=
  wpList_plain hgd fun _ hK => by
    unfold Oper.wp execOp
    simp only [ho, resolve, invoke, builtin, Sem.run_bind, Sem.run_pure, Result.andThen_ok, List.map_toArray, List.map_cons, List.map_nil, hs, hx, hrun]
    exact hK _ _ h

theorem strinfo : (Try.prog.info? 9).map (fun i => (i.zero, i.size, i.bytes)) = some (some (.string ByteArray.empty), 1, 16) := by kernel_rfl

/-- A box of strings that was laid by a literal reads as them. -/
theorem ss_new (w : World) (l : List ByteArray) : Ss (w.alloc (.cells (l.map Value.string).toArray 9)) (some ⟨w.heap.size, 0, none⟩) l := fun _ => ⟨_, rfl, by simp, fun j u hu => new_row w _ _ j u (by
  have e1 : ∀ m : List ByteArray, m.flatMap strC = m.map Value.string := fun m => by
    induction m with
    | nil => rfl
    | cons x m ih => rw [List.flatMap_cons, ih]; rfl
  rw [e1] at hu
  exact hu)⟩

theorem weigh_all {H : Type} {P : Program} {e : TypeId} {m : Nat} {d : DataW H} (hm : m ∈ d.weights P e) (l : List (DataW H)) (hd : d ∈ l) : m ∈ DataW.weightsAll P e l := by
  induction l with
  | nil => cases hd
  | cons x l ih =>
    rw [DataW.weightsAll, List.mem_append]
    cases hd with
    | head => exact .inl hm
    | tail _ h => exact .inr (ih h)

/-- A slice of structs as a list. -/
theorem open_list {α : Type} {f : α → List Value} {k : Nat} {ok : α → Prop} (he : Enc f k) (hk : 0 < k) {ts e : TypeId} {by_ : Nat} (hu : Try.prog.underlying ts = some (.slice e)) (ck : Try.prog.cellsOf e = k) (hby : Try.prog.bytesOf e = by_) (hby0 : 0 < by_)
    {H : Type} {enc : TypeId × Value → H} {W : World} {fuel : Nat} {A : Option Addr} {n c : Nat} {x : DataW H × List MemPlace}
    (elem : ∀ fuel cs (y : DataW H × List MemPlace), DataW.trod enc Try.prog W 0 (fun _ => true) true fuel e cs = some y → (∀ m ∈ y.1.weights Try.prog e, m ≤ reachBytes) → ∃ z : α, cs = f z ∧ ok z)
    (h : DataW.trod enc Try.prog W 0 (fun _ => true) true fuel ts [.slice A n c] = some x) (hsz : ∀ m ∈ x.1.weights Try.prog ts, m ≤ reachBytes) :
    ∃ l : List α, l.length = n ∧ n ≤ c ∧ n ≤ 140737488351232 ∧ Ls f W A l ∧ ∀ z ∈ l, ok z := by
  have hreach : reachBytes = 140737488351232 := rfl
  rcases open_slice hu h with ⟨hc, hx⟩ | ⟨a, len, cap, m, q, D, Pl, hc, hb, hl, hm, hmm, rfl, hi⟩
  · simp only [List.cons.injEq, Value.slice.injEq, and_true] at hc
    obtain ⟨rfl, rfl, rfl⟩ := hc
    exact ⟨[], rfl, Nat.le_refl _, by omega, Ls.nil _ _, fun z hz => by cases hz⟩
  · simp only [List.cons.injEq, Value.slice.injEq, and_true] at hc
    obtain ⟨rfl, rfl, rfl⟩ := hc
    simp only [if_true] at hmm
    subst hmm
    have hw1 : (n + (m - n)) * by_ ≤ reachBytes := by
      refine hsz _ ?_
      simp [DataW.weights, hu, hby]
    have hw2 : n ≤ 140737488351232 := by
      have : n + (m - n) ≤ (n + (m - n)) * by_ := Nat.le_mul_of_pos_right _ hby0
      omega
    have each : ∀ i, i < n → ∃ z : α, (∀ j u, (f z)[j]? = some u → W.cell? (a.add (i * k + j)) = some u) ∧ ok z := by
      intro i hin
      obtain ⟨cs', h1, h2⟩ := hi i (by omega)
      rw [ck] at h1
      obtain ⟨_, hlen, hcell⟩ := World.cells?_some h1
      have hmem : D i ∈ (List.range n).map D := List.mem_map.2 ⟨i, List.mem_range.2 hin, rfl⟩
      obtain ⟨z, rfl, hz⟩ := elem q cs' (D i, Pl i) h2 (fun m' hm' => hsz m' (by
        simp only [DataW.weights, hu, List.mem_cons, List.mem_append]
        exact .inr (.inl (weigh_all hm' _ hmem))))
      refine ⟨z, fun j u hj => ?_, hz⟩
      have hjk : j < k := by
        have := (List.getElem?_eq_some_iff.1 hj).1
        rwa [he.len] at this
      rw [← add_add, hcell j hjk, hj]
    have build : ∀ r, r ≤ n → ∃ l : List α, l.length = r ∧ ∀ i z, l[i]? = some z → (∀ j u, (f z)[j]? = some u → W.cell? (a.add (i * k + j)) = some u) ∧ ok z := by
      intro r
      induction r with
      | zero => exact fun _ => ⟨[], rfl, fun i z hz => by simp at hz⟩
      | succ r ih =>
        intro hr
        obtain ⟨l, hl1, hl2⟩ := ih (by omega)
        obtain ⟨z, hz⟩ := each r (by omega)
        refine ⟨l ++ [z], by simp [hl1], fun i y hy => ?_⟩
        rcases Nat.lt_or_ge i r with hi' | hi'
        · rw [List.getElem?_append_left (by omega)] at hy
          exact hl2 i y hy
        · have hlt := (List.getElem?_eq_some_iff.1 hy).1
          rw [List.length_append, List.length_singleton, hl1] at hlt
          have : i = r := by omega
          subst this
          rw [List.getElem?_append_right (by omega), hl1, Nat.sub_self] at hy
          simp only [List.getElem?_cons_zero, Option.some.injEq] at hy
          subst hy
          exact hz
    obtain ⟨l, hl1, hl2⟩ := build n (Nat.le_refl _)
    refine ⟨l, hl1, hl, hw2, fun h0 => ⟨a, rfl, ?_, fun j u hu' => ?_⟩, fun z hz => ?_⟩
    · obtain ⟨z, hz⟩ : ∃ z, l[0]? = some z := ⟨_, List.getElem?_eq_getElem h0⟩
      obtain ⟨u, hu0⟩ : ∃ u, (f z)[0]? = some u := ⟨_, List.getElem?_eq_getElem (by rw [he.len]; exact hk)⟩
      have := World.block_lt_of_cell? W _ ((hl2 0 z hz).1 0 u hu0)
      rwa [block_of_add] at this
    · have hlen := (List.getElem?_eq_some_iff.1 hu').1
      rw [he.flen] at hlen
      have hdm := Nat.div_add_mod j k
      have hmod := Nat.mod_lt j hk
      have hi' : j / k < l.length := Nat.div_lt_of_lt_mul (by rw [Nat.mul_comm]; exact hlen)
      obtain ⟨z, hz⟩ : ∃ z, l[j / k]? = some z := ⟨_, List.getElem?_eq_getElem hi'⟩
      have hj : j = j / k * k + j % k := by rw [Nat.mul_comm]; omega
      rw [hj, he.at_ l (j / k) (j % k) z hz hmod] at hu'
      rw [hj]
      exact (hl2 _ z hz).1 _ u hu'
    · obtain ⟨i, hi'⟩ := List.getElem?_of_mem hz
      exact (hl2 i z hi').2

/-- What is known of a slice of strings that comes in. -/
structure ArgS (W : World) (A : Option Addr) (n c : Nat) (l : List ByteArray) : Prop where
  len : l.length = n
  cap : n ≤ c
  small : n ≤ 140737488351232
  ss : Ss W A l
  strs : ∀ s ∈ l, s.size ≤ 140737488351232

theorem elemS {H : Type} {enc : TypeId × Value → H} {W : World} (fuel : Nat) (cs : List Value) (y : DataW H × List MemPlace) (h : DataW.trod enc Try.prog W 0 (fun _ => true) true fuel 9 cs = some y)
    (hsz : ∀ m ∈ y.1.weights Try.prog 9, m ≤ reachBytes) : ∃ z : ByteArray, cs = strC z ∧ z.size ≤ 140737488351232 := by
  obtain ⟨s, hs, hd, _⟩ := DataW.trod_string Try.underlying9 h
  refine ⟨s, by simpa [strC] using hs, ?_⟩
  rw [show y.1 = _ from congrArg Prod.fst hd] at hsz
  simp only [DataW.weights, List.mem_cons, List.not_mem_nil, or_false] at hsz
  exact hsz _ rfl

end Go.Proofs.Ytpchihgdcpbjiaa
