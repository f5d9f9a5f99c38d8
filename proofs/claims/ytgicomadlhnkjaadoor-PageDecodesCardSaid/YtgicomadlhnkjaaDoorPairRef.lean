/-
  The contracts of the reference's With and Without over sorted lists: the list with an entry, the list without a key; conditions: the slice can be read, it is small and sorted.
-/
import Derived.Test.YtgicomadlhnkjaaDoorPairSmall
namespace Go.Proofs.YtgicomadlhnkjaaDoor
open Go.RowKit Go.Sort
set_option linter.unusedVariables false

theorem del_snoc (t : List Ent) (x : Ent) (key : ByteArray) (hs : Sorted (t ++ [x])) : del (t ++ [x]) key = if x.k = key then del t key else del t key ++ [x] := by
  have hlast : ∀ e ∈ t, kl e.k x.k := fun e he => (List.pairwise_append.1 hs).2.2 e he x (by simp)
  unfold del
  rw [lows_append, highs_append]
  by_cases h : x.k = key
  · rw [if_pos h]
    subst h
    rw [lows_one, highs_one]
    simp
  · rw [if_neg h]
    rcases Decidable.em (kl x.k key) with h1 | h1
    · have hl : lows [x] key = [x] := filter_all fun e he => by rw [List.mem_singleton.1 he]; exact decide_eq_true h1
      have hh : highs [x] key = [] := filter_none fun e he => by rw [List.mem_singleton.1 he]; exact decide_eq_false (kl_asymm h1)
      have ht : highs t key = [] := filter_none fun e he => decide_eq_false fun hk => kl_irrefl _ (kl_trans hk (kl_trans (hlast e he) h1))
      rw [hl, hh, ht]
      simp
    · rcases Decidable.em (kl key x.k) with h2 | h2
      · have hl : lows [x] key = [] := filter_none fun e he => by rw [List.mem_singleton.1 he]; exact decide_eq_false h1
        have hh : highs [x] key = [x] := filter_all fun e he => by rw [List.mem_singleton.1 he]; exact decide_eq_true h2
        rw [hl, hh]
        simp
      · exact absurd (kl_tri h1 h2) h
theorem sorted_take {l : List Ent} (hs : Sorted l) (k : Nat) : Sorted (l.take k) := List.Pairwise.sublist (List.take_sublist k l) hs

/-- How far the reference's With has come. -/
def Prog (t : List Ent) (e : Ent) (done : Bool) (out : List Ent) : Prop :=
  (done = true → (∃ y ∈ t, ¬ kl y.k e.k) ∧ out = put t e) ∧ (done = false → (∀ y ∈ t, kl y.k e.k) ∧ out = t)
theorem Prog.low {t : List Ent} {e x : Ent} (h : Prog t e false t) (hx : kl x.k e.k) : Prog (t ++ [x]) e false (t ++ [x]) :=
  ⟨fun h => (by cases h), fun _ => ⟨fun y hy => by
    rcases List.mem_append.1 hy with hy | hy
    · exact (h.2 rfl).1 y hy
    · rw [List.mem_singleton.1 hy]; exact hx, rfl⟩⟩
theorem put_low {t : List Ent} {e : Ent} (h : ∀ y ∈ t, kl y.k e.k) : put t e = t ++ [e] := by
  have hl : lows t e.k = t := filter_all fun y hy => decide_eq_true (h y hy)
  have hh : highs t e.k = [] := filter_none fun y hy => decide_eq_false (kl_asymm (h y hy))
  unfold put
  rw [hl, hh]
theorem Prog.eq {t : List Ent} {e x : Ent} (h : Prog t e false t) (hx : x.k = e.k) : Prog (t ++ [x]) e true (t ++ [e]) :=
  ⟨fun _ => ⟨⟨x, by simp, by rw [hx]; exact kl_irrefl _⟩, by
    have hl := (h.2 rfl).1
    have h1 : lows t e.k = t := filter_all fun y hy => decide_eq_true (hl y hy)
    have h2 : highs t e.k = [] := filter_none fun y hy => decide_eq_false (kl_asymm (hl y hy))
    have h3 : lows [x] e.k = [] := by rw [← hx]; exact lows_one x
    have h4 : highs [x] e.k = [] := by rw [← hx]; exact highs_one x
    unfold put
    rw [lows_append, highs_append, h1, h2, h3, h4]
    simp⟩, fun h => by cases h⟩
theorem Prog.high {t : List Ent} {e x : Ent} (h : Prog t e false t) (hx : kl e.k x.k) : Prog (t ++ [x]) e true (t ++ [e] ++ [x]) :=
  ⟨fun _ => ⟨⟨x, by simp, kl_asymm hx⟩, by
    have hl := (h.2 rfl).1
    have h1 : lows t e.k = t := filter_all fun y hy => decide_eq_true (hl y hy)
    have h2 : highs t e.k = [] := filter_none fun y hy => decide_eq_false (kl_asymm (hl y hy))
    have h3 : lows [x] e.k = [] := filter_none fun y hy => by rw [List.mem_singleton.1 hy]; exact decide_eq_false (kl_asymm hx)
    have h4 : highs [x] e.k = [x] := filter_all fun y hy => by rw [List.mem_singleton.1 hy]; exact decide_eq_true hx
    unfold put
    rw [lows_append, highs_append, h1, h2, h3, h4]
    simp⟩, fun h => by cases h⟩
theorem Prog.more {t : List Ent} {e x : Ent} {out : List Ent} (h : Prog t e true out) (hs : Sorted (t ++ [x])) : kl e.k x.k ∧ Prog (t ++ [x]) e true (out ++ [x]) := by
  obtain ⟨⟨y, hy, hyk⟩, rfl⟩ := h.1 rfl
  have hyx : kl y.k x.k := (List.pairwise_append.1 hs).2.2 y hy x (by simp)
  have hx : kl e.k x.k := by
    rcases Decidable.em (kl e.k y.k) with h1 | h1
    · exact kl_trans h1 hyx
    · rw [← kl_tri hyk h1]; exact hyx
  refine ⟨hx, fun _ => ⟨⟨x, by simp, kl_asymm hx⟩, ?_⟩, fun h => by cases h⟩
  have h3 : lows [x] e.k = [] := filter_none fun y hy => by rw [List.mem_singleton.1 hy]; exact decide_eq_false (kl_asymm hx)
  have h4 : highs [x] e.k = [x] := filter_all fun y hy => by rw [List.mem_singleton.1 hy]; exact decide_eq_true hx
  unfold put
  rw [lows_append, highs_append, h3, h4]
  simp

/-- What the reference's Without answers. -/
def RefOut (w : World) (l : List Ent) (key : ByteArray) (e : Ending) (w' : World) : Prop :=
  ∃ v : Value, e = .returned (.tuple #[v, .bool (decide ((del l key).length < l.length))]) ∧ Own w' w.heap.size v (del l key) ∧ Below w.heap.size w w'

theorem del_len (l : List Ent) (key : ByteArray) : (del l key).length ≤ l.length := by
  unfold del lows highs
  rw [List.length_append]
  induction l with
  | nil => simp
  | cons x l ih =>
    simp only [List.filter_cons]
    by_cases h1 : kl x.k key
    · have h2 := kl_asymm h1
      simp [h1, h2]; omega
    · by_cases h2 : kl key x.k
      · simp [h1, h2]; omega
      · simp [h1, h2]; omega

theorem Own.drewN {w : World} {b : Nat} {v : Value} {l : List Ent} (h : Own w b v l) (n : Nat) : Own (w.drewN n) b v l := h
theorem append_one {a W : World} {base : Nat} {v : Value} {out : List Ent} (hown : Own W base v out) (hb : Below base a W) (hs : base ≤ W.heap.size) (y : Ent) (hlen : out.length ≤ 1000) :
    ∃ v' w2, (Builtin.append_ #[85, 85] 85 #[v, .slice (some ⟨W.heap.size, 0, none⟩) 1 1]).run Tryd.prog (W.alloc (.cells #[.string y.k, .string y.v] 88)) = .ok v' w2 ∧
      Own w2 base v' (out ++ [y]) ∧ Below base a w2 ∧ base ≤ w2.heap.size := by
  have hbz : Below W.heap.size W (W.alloc (.cells #[.string y.k, .string y.v] 88)) := (Below.refl _ _).alloc (Nat.le_refl _) _
  have hsz : base ≤ (W.alloc (.cells #[.string y.k, .string y.v] 88)).heap.size := Nat.le_trans hs hbz.size
  obtain ⟨v', w2, hrun, hown2, hg2⟩ := run_append_ents 85 (hown.below hbz) 1 1 (box_es W y 88) rfl (by omega) hsz
  exact ⟨v', w2, hrun, hown2, (hown.below hbz).grow_below (hb.trans (hbz.mono hs)) hsz hg2, Nat.le_trans hsz hg2.size⟩

/-- What the reference's With answers. -/
def RefWith (w : World) (l : List Ent) (x : Ent) (e : Ending) (w' : World) : Prop :=
  ∃ v : Value, e = .returned v ∧ Own w' w.heap.size v (put l x) ∧ Below w.heap.size w w'

/-- How far the loop has come. -/
def At (l : List Ent) (e : Ent) (b : Nat) (w0 wr : World) (k : Nat) (s6 v : Value) : Prop :=
  ∃ f out, s6 = .bool f ∧ Own wr b v out ∧ Prog (l.take k) e f out ∧ out.length ≤ k + 1 ∧ Below b w0 wr ∧ b ≤ wr.heap.size

end Go.Proofs.YtgicomadlhnkjaaDoor
