/-
  The contracts of pair.With and pair.Without: a new list in a row of its own; conditions: the slice can be read, its length is small.
-/
import Derived.Test.YtkooaechcbopnaaPairWith
namespace Go.Proofs.Ytkooaechcbopnaa
open Go.RowKit Go.Sort
set_option linter.unusedVariables false

/-- An entry in a block of its own. -/
def Box (w : World) (g : Nat) (x : Ent) : Prop := g < w.heap.size ∧ w.cell? ⟨g, 0, none⟩ = some (.string x.k) ∧ w.cell? ⟨g, 1, none⟩ = some (.string x.v)
theorem Box.new (w : World) (x : Ent) (t : TypeId) : Box (w.alloc (.cells #[.string x.k, .string x.v] t)) w.heap.size x :=
  ⟨by simp, World.cell?_alloc_mark w _ t _ 0, World.cell?_alloc_mark w _ t _ 1⟩
theorem Box.below {w w' : World} {g : Nat} {x : Ent} (h : Box w g x) (hb : Below w.heap.size w w') : Box w' g x :=
  ⟨Nat.lt_of_lt_of_le h.1 hb.size, (hb.cell h.1).trans h.2.1, (hb.cell h.1).trans h.2.2⟩

theorem box_es (w : World) (x : Ent) (t : TypeId) : Es (w.alloc (.cells #[.string x.k, .string x.v] t)) (some ⟨w.heap.size, 0, none⟩) [x] :=
  fun _ => ⟨_, rfl, by simp, new_row w #[.string x.k, .string x.v] t⟩
theorem parts_new (w : World) (ps : List Part) (cs : Array Value) (t : TypeId) (hcs : cs.toList = pcells ps) (hes : ∀ p ∈ ps, Es w p.A p.l) (j : Nat) (p : Part) (hp : ps[j]? = some p) :
    (w.alloc (.cells cs t)).cell? ((⟨w.heap.size, 0, none⟩ : Addr).add j) = some (.slice p.A p.l.length p.c) ∧ Es (w.alloc (.cells cs t)) p.A p.l :=
  ⟨new_row w cs t j _ (by rw [hcs, pcells, List.getElem?_map, hp]; rfl), (hes p (List.mem_of_getElem? hp)).below ((Below.refl _ _).alloc (Nat.le_refl _) _)⟩

/-- What pair.With answers. -/
def WithPost (w : World) (l : List Ent) (x : Ent) (e : Ending) (w' : World) : Prop :=
  ∃ (i : Nat) (f : Bool) (v : Value), e = .returned v ∧ Place l x.k i f ∧ Own w' w.heap.size v (wth l x i f) ∧ Below w.heap.size w w'

set_option maxHeartbeats 800000 in
theorem with_any (A : Option Addr) (n c : Nat) (l : List Ent) (x : Ent) (w : World) (hr : Es w A l) (hn : l.length = n) (hc : n ≤ c) (hb : n ≤ 90000) :
    Calls Try.prog 58 #[.slice A n c, .agg #[.string x.k, .string x.v]] w (WithPost w l x) := by
  have Hn := Lib.hid hn
  clear hn
  go_enter Try.func58, Try.ntmps58
  go_wp2_with fail
  have hb0 : Below w.heap.size w (w.alloc (.cells #[.string x.k, .string x.v] 39)) := (Below.refl _ _).alloc (Nat.le_refl _) _
  refine (cut_any A n c l x.k _ (hr.below hb0) Hn.out hc (by omega)).mono ?_
  rintro e w1 ⟨i, f, A1, A2, m, k, c1, c2, rfl, hp, hm, hk, h1, h2, hb1⟩
  have Hb0 := Lib.hid hb0
  obtain ⟨hg, q0, q1⟩ := (Box.new w x 39).below hb1
  have hbw := Lib.hid (bthen hb0 hb1)
  have HP := Lib.hid hp
  have Hm := Lib.hid hm
  have Hk := Lib.hid hk
  clear hb1 hp hm hk hb0
  go_wp2_with fail
  have hm := Hm.out
  subst hm
  have hk := Hk.out
  subst hk
  have hsz : (w1.alloc (.cells #[.string x.k, .string x.v] 39)).heap.size = w1.heap.size + 1 := by simp
  rw [← hsz]
  have hb2 : Below w1.heap.size w1 (w1.alloc (.cells #[.string x.k, .string x.v] 39)) := (Below.refl _ _).alloc (Nat.le_refl _) _
  have hx := box_es w1 x 39
  have hw2 := bthen hbw.out hb2
  replace h1 := h1.below hb2
  replace h2 := h2.below hb2
  generalize w1.alloc (.cells #[.string x.k, .string x.v] 39) = w2 at *
  have hlen := HP.out.wth_len
  have hps : pall [⟨A1, c1, l.take i⟩, ⟨some ⟨w1.heap.size, 0, none⟩, 1, [x]⟩, ⟨A2, c2, l.drop (if f then i + 1 else i)⟩] = wth l x i f := by
    unfold pall wth
    simp
  refine (join_any ⟨w2.heap.size, 0, none⟩ 3 3 [⟨A1, c1, l.take i⟩, ⟨some ⟨w1.heap.size, 0, none⟩, 1, [x]⟩, ⟨A2, c2, l.drop (if f then i + 1 else i)⟩] _ (by simp) rfl (parts_new w2 _ _ _ rfl (fun p hp => ?_)) ?_ (by omega)).mono ?_
  · simp only [List.mem_cons, List.not_mem_nil, or_false] at hp
    rcases hp with rfl | rfl | rfl
    · exact h1
    · exact hx
    · exact h2
  · rw [hps, hlen, Hn.out]
    split <;> omega
  rintro e w3 ⟨v, rfl, hown, hb3⟩
  rw [hps] at hown
  have hb4 : Below w2.heap.size w2 (w2.alloc (.cells #[.slice A1 (l.take i).length c1, .slice (some ⟨w1.heap.size, 0, none⟩) 1 1, .slice A2 (l.drop (if f then i + 1 else i)).length c2] 22)) := (Below.refl _ _).alloc (Nat.le_refl _) _
  have hbl := bthen (bthen hw2 hb4) hb3
  have HO := Lib.hid (hown.mono (b' := w.heap.size) (Nat.le_trans hw2.size (by simp)))
  clear hown hb3 hb4 hw2 hb2 hsz hlen hps
  generalize (l.take i).length = m2
  generalize (l.drop (if f then i + 1 else i)).length = k2
  go_wp2
  go_ret
  exact ⟨i, f, _, rfl, HP.out, HO.out, hbl⟩

/-- What pair.Without answers. -/
def OutPost (w : World) (l : List Ent) (key : ByteArray) (e : Ending) (w' : World) : Prop :=
  ∃ (i : Nat) (f : Bool) (v : Value), e = .returned (.tuple #[v, .bool f]) ∧ Place l key i f ∧ Own w' w.heap.size v (wout l i f) ∧ Below w.heap.size w w'

set_option maxHeartbeats 800000 in
theorem without_any (A : Option Addr) (n c : Nat) (l : List Ent) (key : ByteArray) (w : World) (hr : Es w A l) (hn : l.length = n) (hc : n ≤ c) (hb : n ≤ 90000) :
    Calls Try.prog 50 #[.slice A n c, .string key] w (OutPost w l key) := by
  have Hn := Lib.hid hn
  clear hn
  go_enter Try.func50, Try.ntmps50
  go_wp2_with fail
  refine (cut_any A n c l key _ hr Hn.out hc (by omega)).mono ?_
  rintro e w1 ⟨i, f, A1, A2, m, k, c1, c2, rfl, hp, hm, hk, h1, h2, hb1⟩
  have HP := Lib.hid hp
  have Hm := Lib.hid hm
  have Hk := Lib.hid hk
  clear hp hm hk
  go_wp2_with fail
  have hm := Hm.out
  subst hm
  have hk := Hk.out
  subst hk
  have hlen := HP.out.wout_len
  have hps : pall [⟨A1, c1, l.take i⟩, ⟨A2, c2, l.drop (if f then i + 1 else i)⟩] = wout l i f := by
    unfold pall wout
    simp
  refine (join_any ⟨w1.heap.size, 0, none⟩ 2 2 [⟨A1, c1, l.take i⟩, ⟨A2, c2, l.drop (if f then i + 1 else i)⟩] _ (by simp) rfl (parts_new w1 _ _ _ rfl (fun p hp => ?_)) ?_ (by omega)).mono ?_
  · simp only [List.mem_cons, List.not_mem_nil, or_false] at hp
    rcases hp with rfl | rfl
    · exact h1
    · exact h2
  · rw [hps, hlen, Hn.out]
    split <;> omega
  rintro e w3 ⟨v, rfl, hown, hb3⟩
  rw [hps] at hown
  have hb4 : Below w1.heap.size w1 (w1.alloc (.cells #[.slice A1 (l.take i).length c1, .slice A2 (l.drop (if f then i + 1 else i)).length c2] 22)) := (Below.refl _ _).alloc (Nat.le_refl _) _
  have hbl := bthen (bthen hb1 hb4) hb3
  have HO := Lib.hid (hown.mono (b' := w.heap.size) (Nat.le_trans hb1.size (by simp)))
  clear hown hb3 hb4 hb1 hlen hps
  generalize (l.take i).length = m2
  generalize (l.drop (if f then i + 1 else i)).length = k2
  go_wp2
  go_ret2
  exact ⟨i, f, _, rfl, HP.out, HO.out, hbl⟩

end Go.Proofs.Ytkooaechcbopnaa
