/-
  Arguments of the rows of layer 10: a script of calls; the contracts of few, built, after and awake; conditions stand at each.
-/
import Derived.Test.YtkooaechcbopnaaTreeItems
import Derived.Test.YtkooaechcbopnaaStrs
import Derived.Test.YtkooaechcbopnaaPairOpen
import Derived.BigQuiet
namespace Go.Proofs.Ytkooaechcbopnaa
open Go.RowKit Go.Sort Go.ChangeShapes Go.WideShapes Go.Joins Go.Deep
set_option linter.unusedVariables false
set_option linter.unusedSimpArgs false

/-- A call: whether it takes away, and its entry. -/
structure TOp where
  d : Bool
  e : Ent
def pcT (o : TOp) : List Value := [.bool o.d, .string o.e.k, .string o.e.v]
theorem encT : Enc pcT 3 := ⟨fun _ => rfl, fun x u hu => by
  simp only [pcT, List.mem_cons, List.not_mem_nil, or_false] at hu
  rcases hu with rfl | rfl | rfl <;> rfl⟩
structure OkT (o : TOp) : Prop where
  key : o.e.k.size ≤ 140737488351232
  val : o.e.v.size ≤ 140737488351232
structure ArgT (W : World) (A : Option Addr) (n c : Nat) (l : List TOp) : Prop where
  len : l.length = n
  cap : n ≤ c
  small : n ≤ 140737488351232
  ls : Ls pcT W A l
  ok : ∀ o ∈ l, OkT o
theorem ArgT.below {W W' : World} {A : Option Addr} {n c : Nat} {l : List TOp} (h : ArgT W A n c l) (hb : Below W.heap.size W W') : ArgT W' A n c l := ⟨h.len, h.cap, h.small, h.ls.below hb, h.ok⟩
/-- A call by value. -/
def topV (o : TOp) : Value := .agg #[.bool o.d, .string o.e.k, .string o.e.v]
theorem Ls.top_at {w : World} {A : Option Addr} {l : List TOp} (h : Ls pcT w A l) {i : Nat} (hi : i < l.length) : ∃ ad o, A = some ad ∧ l[i]? = some o ∧ ad.block < w.heap.size ∧ w.cell? (ad.add (i * 3)) = some (.bool o.d) ∧
    w.cell? ⟨(ad.add (i * 3)).block, (ad.add (i * 3)).off + 1, none⟩ = some (.string o.e.k) ∧ w.cell? ⟨(ad.add (i * 3)).block, (ad.add (i * 3)).off + 1 + 1, none⟩ = some (.string o.e.v) := by
  obtain ⟨ad, o, e, hp, hl, hc⟩ := h.at_ encT hi
  have hz : w.cell? (ad.add (i * 3)) = some (.bool o.d) := by
    have := hc 0 (.bool o.d) (by omega) rfl
    rw [add_of_add] at this
    simpa using this
  exact ⟨ad, o, e, hp, hl, hz, hc 1 (.string o.e.k) (by omega) rfl, hc 2 (.string o.e.v) (by omega) rfl⟩

/-- What few answers. -/
def FewT (w : World) (l : List TOp) (e : Ending) (w' : World) : Prop := Below w.heap.size w w' ∧ ∃ r : Bool, e = .returned (.bool r) ∧ (r = true → l.length ≤ 200)

/-- What a call makes of the entries. -/
def play (l : List Ent) (o : TOp) : List Ent := if o.d then del l o.e.k else if okE o.e then put l o.e else l
def plays (s : List TOp) : List Ent := s.foldl play []
theorem plays_snoc {s : List TOp} {k : Nat} {o : TOp} (h : s[k]? = some o) : plays (s.take (k + 1)) = play (plays (s.take k)) o := by
  rw [List.take_add_one, h]
  simp [plays]
theorem play_len {l : List Ent} (h : Sorted l) (o : TOp) : (play l o).length ≤ l.length + 1 := by
  unfold play
  split
  · exact Nat.le_succ_of_le (del_length _ h)
  · split
    · rcases put_length h o.e with h | h <;> omega
    · omega

end Go.Proofs.Ytkooaechcbopnaa
