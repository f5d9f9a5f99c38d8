/-
  The contracts of the reference's With and Without over sorted lists: the list with an entry, the list without a key; conditions: the slice can be read, it is small and sorted.
-/
import Derived.Test.YtkooaechcbopnaaPairSmall
namespace Go.Proofs.Ytkooaechcbopnaa
open Go.RowKit Go.Sort
set_option linter.unusedVariables false

theorem del_snoc (t : List Ent) (x : Ent) (key : ByteArray) (hs : Sorted (t ++ [x])) : del (t ++ [x]) key = if x.k = key then del t key else del t key ++ [x] := by
  have hlast : ∀ e ∈ t, kl e.k x.k := fun e he => (List.pairwise_append.1 hs).2.2 e he x (by simp)
  unfold del
  rw [lows_append, highs_append]
  by_cases h : x.k = key
  · rw [if_pos h]
    subst h
    rw [lows_one, highs_one]
    simp
  · rw [if_neg h]
    rcases Decidable.em (kl x.k key) with h1 | h1
    · have hl : lows [x] key = [x] := filter_all fun e he => by rw [List.mem_singleton.1 he]; exact decide_eq_true h1
      have hh : highs [x] key = [] := filter_none fun e he => by rw [List.mem_singleton.1 he]; exact decide_eq_false (kl_asymm h1)
      have ht : highs t key = [] := filter_none fun e he => decide_eq_false fun hk => kl_irrefl _ (kl_trans hk (kl_trans (hlast e he) h1))
      rw [hl, hh, ht]
      simp
    · rcases Decidable.em (kl key x.k) with h2 | h2
      · have hl : lows [x] key = [] := filter_none fun e he => by rw [List.mem_singleton.1 he]; exact decide_eq_false h1
        have hh : highs [x] key = [x] := filter_all fun e he => by rw [List.mem_singleton.1 he]; exact decide_eq_true h2
        rw [hl, hh]
        simp
      · exact absurd (kl_tri h1 h2) h
theorem sorted_take {l : List Ent} (hs : Sorted l) (k : Nat) : Sorted (l.take k) := List.Pairwise.sublist (List.take_sublist k l) hs

/-- How far the reference's With has come. -/
def Prog (t : List Ent) (e : Ent) (done : Bool) (out : List Ent) : Prop :=
  (done = true → (∃ y ∈ t, ¬ kl y.k e.k) ∧ out = put t e) ∧ (done = false → (∀ y ∈ t, kl y.k e.k) ∧ out = t)
theorem Prog.low {t : List Ent} {e x : Ent} (h : Prog t e false t) (hx : kl x.k e.k) : Prog (t ++ [x]) e false (t ++ [x]) :=
  ⟨fun h => (by cases h), fun _ => ⟨fun y hy => by
    rcases List.mem_append.1 hy with hy | hy
    · exact (h.2 rfl).1 y hy
    · rw [List.mem_singleton.1 hy]; exact hx, rfl⟩⟩
theorem put_low {t : List Ent} {e : Ent} (h : ∀ y ∈ t, kl y.k e.k) : put t e = t ++ [e] := by
  have hl : lows t e.k = t := filter_all fun y hy => decide_eq_true (h y hy)
  have hh : highs t e.k = [] := filter_none fun y hy => decide_eq_false (kl_asymm (h y hy))
  unfold put
  rw [hl, hh]
theorem Prog.eq {t : List Ent} {e x : Ent} (h : Prog t e false t) (hx : x.k = e.k) : Prog (t ++ [x]) e true (t ++ [e]) :=
  ⟨fun _ => ⟨⟨x, by simp, by rw [hx]; exact kl_irrefl _⟩, by
    have hl := (h.2 rfl).1
    have h1 : lows t e.k = t := filter_all fun y hy => decide_eq_true (hl y hy)
    have h2 : highs t e.k = [] := filter_none fun y hy => decide_eq_false (kl_asymm (hl y hy))
    have h3 : lows [x] e.k = [] := by rw [← hx]; exact lows_one x
    have h4 : highs [x] e.k = [] := by rw [← hx]; exact highs_one x
    unfold put
    rw [lows_append, highs_append, h1, h2, h3, h4]
    simp⟩, fun h => by cases h⟩
theorem Prog.high {t : List Ent} {e x : Ent} (h : Prog t e false t) (hx : kl e.k x.k) : Prog (t ++ [x]) e true (t ++ [e] ++ [x]) :=
  ⟨fun _ => ⟨⟨x, by simp, kl_asymm hx⟩, by
    have hl := (h.2 rfl).1
    have h1 : lows t e.k = t := filter_all fun y hy => decide_eq_true (hl y hy)
    have h2 : highs t e.k = [] := filter_none fun y hy => decide_eq_false (kl_asymm (hl y hy))
    have h3 : lows [x] e.k = [] := filter_none fun y hy => by rw [List.mem_singleton.1 hy]; exact decide_eq_false (kl_asymm hx)
    have h4 : highs [x] e.k = [x] := filter_all fun y hy => by rw [List.mem_singleton.1 hy]; exact decide_eq_true hx
    unfold put
    rw [lows_append, highs_append, h1, h2, h3, h4]
    simp⟩, fun h => by cases h⟩
theorem Prog.more {t : List Ent} {e x : Ent} {out : List Ent} (h : Prog t e true out) (hs : Sorted (t ++ [x])) : kl e.k x.k ∧ Prog (t ++ [x]) e true (out ++ [x]) := by
  obtain ⟨⟨y, hy, hyk⟩, rfl⟩ := h.1 rfl
  have hyx : kl y.k x.k := (List.pairwise_append.1 hs).2.2 y hy x (by simp)
  have hx : kl e.k x.k := by
    rcases Decidable.em (kl e.k y.k) with h1 | h1
    · exact kl_trans h1 hyx
    · rw [← kl_tri hyk h1]; exact hyx
  refine ⟨hx, fun _ => ⟨⟨x, by simp, kl_asymm hx⟩, ?_⟩, fun h => by cases h⟩
  have h3 : lows [x] e.k = [] := filter_none fun y hy => by rw [List.mem_singleton.1 hy]; exact decide_eq_false (kl_asymm hx)
  have h4 : highs [x] e.k = [x] := filter_all fun y hy => by rw [List.mem_singleton.1 hy]; exact decide_eq_true hx
  unfold put
  rw [lows_append, highs_append, h3, h4]
  simp

/-- What the reference's Without answers. -/
def RefOut (w : World) (l : List Ent) (key : ByteArray) (e : Ending) (w' : World) : Prop :=
  ∃ v : Value, e = .returned (.tuple #[v, .bool (decide ((del l key).length < l.length))]) ∧ Own w' w.heap.size v (del l key) ∧ Below w.heap.size w w'

theorem del_len (l : List Ent) (key : ByteArray) : (del l key).length ≤ l.length := by
  unfold del lows highs
  rw [List.length_append]
  induction l with
  | nil => simp
  | cons x l ih =>
    simp only [List.filter_cons]
    by_cases h1 : kl x.k key
    · have h2 := kl_asymm h1
      simp [h1, h2]; omega
    · by_cases h2 : kl key x.k
      · simp [h1, h2]; omega
      · simp [h1, h2]; omega

theorem Own.drewN {w : World} {b : Nat} {v : Value} {l : List Ent} (h : Own w b v l) (n : Nat) : Own (w.drewN n) b v l := h
theorem append_one {a W : World} {base : Nat} {v : Value} {out : List Ent} (hown : Own W base v out) (hb : Below base a W) (hs : base ≤ W.heap.size) (y : Ent) (hlen : out.length ≤ 1000) :
    ∃ v' w2, (Builtin.append_ #[22, 22] 22 #[v, .slice (some ⟨W.heap.size, 0, none⟩) 1 1]).run Try.prog (W.alloc (.cells #[.string y.k, .string y.v] 39)) = .ok v' w2 ∧
      Own w2 base v' (out ++ [y]) ∧ Below base a w2 ∧ base ≤ w2.heap.size := by
  have hbz : Below W.heap.size W (W.alloc (.cells #[.string y.k, .string y.v] 39)) := (Below.refl _ _).alloc (Nat.le_refl _) _
  have hsz : base ≤ (W.alloc (.cells #[.string y.k, .string y.v] 39)).heap.size := Nat.le_trans hs hbz.size
  obtain ⟨v', w2, hrun, hown2, hg2⟩ := run_append_ents 22 (hown.below hbz) 1 1 (box_es W y 39) rfl (by omega) hsz
  exact ⟨v', w2, hrun, hown2, (hown.below hbz).grow_below (hb.trans (hbz.mono hs)) hsz hg2, Nat.le_trans hsz hg2.size⟩

/-- What the reference's With answers. -/
def RefWith (w : World) (l : List Ent) (x : Ent) (e : Ending) (w' : World) : Prop :=
  ∃ v : Value, e = .returned v ∧ Own w' w.heap.size v (put l x) ∧ Below w.heap.size w w'

/-- How far the loop has come. -/
def At (l : List Ent) (e : Ent) (b : Nat) (w0 wr : World) (k : Nat) (s6 v : Value) : Prop :=
  ∃ f out, s6 = .bool f ∧ Own wr b v out ∧ Prog (l.take k) e f out ∧ out.length ≤ k + 1 ∧ Below b w0 wr ∧ b ≤ wr.heap.size

set_option maxRecDepth 100000 in
set_option maxHeartbeats 2000000 in
theorem refWith_any (A : Option Addr) (n c : Nat) (l : List Ent) (e : Ent) (w : World) (hs : Sorted l) (hr : Es w A l) (hn : l.length = n) (hb : n ≤ 300) :
    Calls Try.prog 25 #[.slice A n c, .agg #[.string e.k, .string e.v]] w (RefWith w l e) := by
  have Hn := Lib.hid hn
  clear hn
  go_enter Try.func25, Try.ntmps25
  go_wp2
  have hb0 : Below w.heap.size w (w.alloc (.cells #[.string e.k, .string e.v] 39)) := (Below.refl _ _).alloc (Nat.le_refl _) _
  have hbx := Box.new w e 39
  have hlt0 : w.heap.size < (w.alloc (.cells #[.string e.k, .string e.v] 39)).heap.size := by simp
  have hr0 := hr.below hb0
  generalize w.alloc (.cells #[.string e.k, .string e.v] 39) = w0 at *
  have Hbx := Lib.hid hbx
  clear hbx
  go_loopw [5, 6, 10] (fun s5 s6 s10 wr => ∃ (k : Nat), k ≤ n ∧ s10 = .int .i64 k ∧ Hid (At l e w0.heap.size w0 wr k s6 s5)) (fun _ _ s10 _ => n - (intOf s10).toNat)
  case atStart => exact ⟨0, Nat.zero_le _, rfl, ⟨false, [], rfl, Own.nil_ _ _, ⟨fun h => (by cases h), fun _ => ⟨fun y hy => (by cases hy), rfl⟩⟩, by simp, Below.refl _ _, Nat.le_refl _⟩⟩
  case round =>
    obtain ⟨k, hk, rfl, HA⟩ := hrel
    obtain ⟨f, out, rfl, hown, hprog, hout, hbw, hsz⟩ := HA.out
    clear HA
    obtain ⟨_, q0, q1⟩ := Hbx.out.below hbw
    by_cases hlt : k < n
    · obtain ⟨ad, x, rfl, hx, hl, h1, h2⟩ := (hr0.below hbw).at_ (i := k) (by rw [Hn.out]; exact hlt)
      have hsx := sorted_take hs (k + 1)
      rw [take_snoc hx] at hsx
      have Htk := Lib.hid (take_snoc hx)
      have hlen : (l.take k).length = k := by rw [List.length_take, Hn.out]; omega
      have Hx := Lib.hid hx
      clear hx
      have HO := Lib.hid hown
      clear hown
      cases f with
      | true =>
        obtain ⟨hgt, hprog2⟩ := hprog.more hsx
        rw [← Htk.out] at hprog2
        have HP := Lib.hid hprog2
        have hne : x.k ≠ e.k := fun h => by rw [h] at hgt; exact kl_irrefl _ hgt
        have hsm := same_eq x.k e.k
        rw [decide_eq_false hne] at hsm
        have Hlen : Hid (out.length ≤ k + 1) := Lib.hid hout
        clear hprog hprog2 hne hgt hsx hlen hout
        go_wp2
        go_quiet (fail)
        obtain ⟨wa, hwd⟩ : ∃ wd, wd = wr.drewN nq := ⟨_, rfl⟩
        rw [← hwd]
        replace hbw : Below w0.heap.size w0 wa := by rw [hwd]; exact below_drewN hbw nq
        replace hsz : w0.heap.size ≤ wa.heap.size := by rw [hwd]; exact hsz
        have hown' := Own.drewN HO.out nq
        rw [← hwd] at hown'
        replace HO := Lib.hid hown'
        clear hown' hwd h1 h2 q0 q1
        obtain ⟨_, q0, q1⟩ := Hbx.out.below hbw
        obtain ⟨_, _, e', hx', _, h1, h2⟩ := (hr0.below hbw).at_ (i := k) (by rw [Hn.out]; exact hlt)
        cases e'
        obtain rfl := Option.some.inj (Hx.out.symm.trans hx')
        clear hx'
        go_wp2
        go_quiet (fail)
        obtain ⟨wb, hwd⟩ : ∃ wd, wd = wa.drewN nq := ⟨_, rfl⟩
        rw [← hwd]
        replace hbw : Below w0.heap.size w0 wb := by rw [hwd]; exact below_drewN hbw nq
        replace hsz : w0.heap.size ≤ wb.heap.size := by rw [hwd]; exact hsz
        have hown' := Own.drewN HO.out nq
        rw [← hwd] at hown'
        replace HO := Lib.hid hown'
        clear hown' hwd h1 h2 q0 q1
        obtain ⟨_, q0, q1⟩ := Hbx.out.below hbw
        obtain ⟨_, _, e', hx', _, h1, h2⟩ := (hr0.below hbw).at_ (i := k) (by rw [Hn.out]; exact hlt)
        cases e'
        obtain rfl := Option.some.inj (Hx.out.symm.trans hx')
        clear hx'
        obtain ⟨v', wc, hrun, hown', hbw', hsz'⟩ := append_one HO.out hbw hsz x (by have := Hlen.out; first | omega | (simp only [List.length_append, List.length_cons, List.length_nil]; omega))
        have HR := Lib.hid hrun
        clear hrun
        go_wp2_with (at_builtin; refine wpList_append_ran rfl (.tmp 37) (.tmp 42) 22 rfl _ _ _ _ rfl rfl HR.out ?_)
        exact ⟨⟨k + 1, by omega, by go_num, ⟨true, _, rfl, hown', HP.out, by have := Hlen.out; simp only [List.length_append, List.length_cons, List.length_nil]; omega, hbw', hsz'⟩⟩, by simp [intOf]; omega⟩
      | false =>
        obtain ⟨_, rfl⟩ := hprog.2 rfl
        have Hlen : Hid ((l.take k).length = k) := Lib.hid hlen
        clear hlen hout
        have hle := less_eq x.k e.k
        have hsm := same_eq x.k e.k
        by_cases hd : kl x.k e.k
        · have hprog2 := hprog.low hd
          have HP : Hid (Prog (l.take (k + 1)) e false (l.take k ++ [x])) := Lib.hid (by rw [Htk.out]; exact hprog2)
          have hne : x.k ≠ e.k := fun h => by rw [h] at hd; exact kl_irrefl _ hd
          rw [decide_eq_true hd] at hle
          rw [decide_eq_false hne] at hsm
          clear hprog hprog2 hne hd hsx
          go_wp2
          go_quiet (fail)
          obtain ⟨wa, hwd⟩ : ∃ wd, wd = wr.drewN nq := ⟨_, rfl⟩
          rw [← hwd]
          replace hbw : Below w0.heap.size w0 wa := by rw [hwd]; exact below_drewN hbw nq
          replace hsz : w0.heap.size ≤ wa.heap.size := by rw [hwd]; exact hsz
          have hown' := Own.drewN HO.out nq
          rw [← hwd] at hown'
          replace HO := Lib.hid hown'
          clear hown' hwd h1 h2 q0 q1
          obtain ⟨_, q0, q1⟩ := Hbx.out.below hbw
          obtain ⟨_, _, e', hx', _, h1, h2⟩ := (hr0.below hbw).at_ (i := k) (by rw [Hn.out]; exact hlt)
          cases e'
          obtain rfl := Option.some.inj (Hx.out.symm.trans hx')
          clear hx'
          go_wp2
          go_quiet (fail)
          obtain ⟨wb, hwd⟩ : ∃ wd, wd = wa.drewN nq := ⟨_, rfl⟩
          rw [← hwd]
          replace hbw : Below w0.heap.size w0 wb := by rw [hwd]; exact below_drewN hbw nq
          replace hsz : w0.heap.size ≤ wb.heap.size := by rw [hwd]; exact hsz
          have hown' := Own.drewN HO.out nq
          rw [← hwd] at hown'
          replace HO := Lib.hid hown'
          clear hown' hwd h1 h2 q0 q1
          obtain ⟨_, q0, q1⟩ := Hbx.out.below hbw
          obtain ⟨_, _, e', hx', _, h1, h2⟩ := (hr0.below hbw).at_ (i := k) (by rw [Hn.out]; exact hlt)
          cases e'
          obtain rfl := Option.some.inj (Hx.out.symm.trans hx')
          clear hx'
          obtain ⟨v', wc, hrun, hown', hbw', hsz'⟩ := append_one HO.out hbw hsz x (by have := Hlen.out; first | omega | (simp only [List.length_append, List.length_cons, List.length_nil]; omega))
          have HR := Lib.hid hrun
          clear hrun
          go_wp2_with (at_builtin; refine wpList_append_ran rfl (.tmp 37) (.tmp 42) 22 rfl _ _ _ _ rfl rfl HR.out ?_)
          exact ⟨⟨k + 1, by omega, by go_num, ⟨false, _, rfl, hown', HP.out, by have := Hlen.out; simp only [List.length_append, List.length_cons, List.length_nil]; omega, hbw', hsz'⟩⟩, by simp [intOf]; omega⟩
        · rw [decide_eq_false hd] at hle
          by_cases hek : x.k = e.k
          · have hprog2 := hprog.eq hek
            rw [← Htk.out] at hprog2
            have HP := Lib.hid hprog2
            rw [decide_eq_true hek] at hsm
            clear hprog hprog2 hek hd hsx
            go_wp2
            go_quiet (fail)
            obtain ⟨wa, hwd⟩ : ∃ wd, wd = wr.drewN nq := ⟨_, rfl⟩
            rw [← hwd]
            replace hbw : Below w0.heap.size w0 wa := by rw [hwd]; exact below_drewN hbw nq
            replace hsz : w0.heap.size ≤ wa.heap.size := by rw [hwd]; exact hsz
            have hown' := Own.drewN HO.out nq
            rw [← hwd] at hown'
            replace HO := Lib.hid hown'
            clear hown' hwd h1 h2 q0 q1
            obtain ⟨_, q0, q1⟩ := Hbx.out.below hbw
            obtain ⟨_, _, e', hx', _, h1, h2⟩ := (hr0.below hbw).at_ (i := k) (by rw [Hn.out]; exact hlt)
            cases e'
            obtain rfl := Option.some.inj (Hx.out.symm.trans hx')
            clear hx'
            obtain ⟨v', wb, hrun, hown', hbw', hsz'⟩ := append_one HO.out hbw hsz e (by have := Hlen.out; first | omega | (simp only [List.length_append, List.length_cons, List.length_nil]; omega))
            have HR := Lib.hid hrun
            clear hrun
            go_wp2_with (at_builtin; refine wpList_append_ran rfl (.tmp 25) (.tmp 27) 22 rfl _ _ _ _ rfl rfl HR.out ?_)
            replace HO := Lib.hid hown'
            replace hbw := hbw'
            replace hsz := hsz'
            clear hown' hbw' hsz' HR h1 h2 q0 q1
            obtain ⟨_, q0, q1⟩ := Hbx.out.below hbw
            obtain ⟨_, _, e', hx', _, h1, h2⟩ := (hr0.below hbw).at_ (i := k) (by rw [Hn.out]; exact hlt)
            cases e'
            obtain rfl := Option.some.inj (Hx.out.symm.trans hx')
            clear hx'
            go_quiet (fail)
            obtain ⟨wc, hwd⟩ : ∃ wd, wd = wb.drewN nq := ⟨_, rfl⟩
            rw [← hwd]
            replace hbw : Below w0.heap.size w0 wc := by rw [hwd]; exact below_drewN hbw nq
            replace hsz : w0.heap.size ≤ wc.heap.size := by rw [hwd]; exact hsz
            have hown' := Own.drewN HO.out nq
            rw [← hwd] at hown'
            replace HO := Lib.hid hown'
            clear hown' hwd h1 h2 q0 q1
            obtain ⟨_, q0, q1⟩ := Hbx.out.below hbw
            obtain ⟨_, _, e', hx', _, h1, h2⟩ := (hr0.below hbw).at_ (i := k) (by rw [Hn.out]; exact hlt)
            cases e'
            obtain rfl := Option.some.inj (Hx.out.symm.trans hx')
            clear hx'
            go_wp2
            have hown' := HO.out
            exact ⟨⟨k + 1, by omega, by go_num, ⟨true, _, rfl, hown', HP.out, by have := Hlen.out; simp only [List.length_append, List.length_cons, List.length_nil]; omega, hbw, hsz⟩⟩, by simp [intOf]; omega⟩
          · have hgt : kl e.k x.k := by
              rcases Decidable.em (kl e.k x.k) with h | h
              · exact h
              · exact absurd (kl_tri hd h) hek
            have hprog2 := hprog.high hgt
            rw [← Htk.out] at hprog2
            have HP := Lib.hid hprog2
            rw [decide_eq_false hek] at hsm
            clear hprog hprog2 hek hd hsx hgt
            go_wp2
            go_quiet (fail)
            obtain ⟨wa, hwd⟩ : ∃ wd, wd = wr.drewN nq := ⟨_, rfl⟩
            rw [← hwd]
            replace hbw : Below w0.heap.size w0 wa := by rw [hwd]; exact below_drewN hbw nq
            replace hsz : w0.heap.size ≤ wa.heap.size := by rw [hwd]; exact hsz
            have hown' := Own.drewN HO.out nq
            rw [← hwd] at hown'
            replace HO := Lib.hid hown'
            clear hown' hwd h1 h2 q0 q1
            obtain ⟨_, q0, q1⟩ := Hbx.out.below hbw
            obtain ⟨_, _, e', hx', _, h1, h2⟩ := (hr0.below hbw).at_ (i := k) (by rw [Hn.out]; exact hlt)
            cases e'
            obtain rfl := Option.some.inj (Hx.out.symm.trans hx')
            clear hx'
            obtain ⟨v', wb, hrun, hown', hbw', hsz'⟩ := append_one HO.out hbw hsz e (by have := Hlen.out; first | omega | (simp only [List.length_append, List.length_cons, List.length_nil]; omega))
            have HR := Lib.hid hrun
            clear hrun
            go_wp2_with (at_builtin; refine wpList_append_ran rfl (.tmp 25) (.tmp 27) 22 rfl _ _ _ _ rfl rfl HR.out ?_)
            replace HO := Lib.hid hown'
            replace hbw := hbw'
            replace hsz := hsz'
            clear hown' hbw' hsz' HR h1 h2 q0 q1
            obtain ⟨_, q0, q1⟩ := Hbx.out.below hbw
            obtain ⟨_, _, e', hx', _, h1, h2⟩ := (hr0.below hbw).at_ (i := k) (by rw [Hn.out]; exact hlt)
            cases e'
            obtain rfl := Option.some.inj (Hx.out.symm.trans hx')
            clear hx'
            go_quiet (fail)
            obtain ⟨wc, hwd⟩ : ∃ wd, wd = wb.drewN nq := ⟨_, rfl⟩
            rw [← hwd]
            replace hbw : Below w0.heap.size w0 wc := by rw [hwd]; exact below_drewN hbw nq
            replace hsz : w0.heap.size ≤ wc.heap.size := by rw [hwd]; exact hsz
            have hown' := Own.drewN HO.out nq
            rw [← hwd] at hown'
            replace HO := Lib.hid hown'
            clear hown' hwd h1 h2 q0 q1
            obtain ⟨_, q0, q1⟩ := Hbx.out.below hbw
            obtain ⟨_, _, e', hx', _, h1, h2⟩ := (hr0.below hbw).at_ (i := k) (by rw [Hn.out]; exact hlt)
            cases e'
            obtain rfl := Option.some.inj (Hx.out.symm.trans hx')
            clear hx'
            obtain ⟨v', wd, hrun, hown', hbw', hsz'⟩ := append_one HO.out hbw hsz x (by have := Hlen.out; first | omega | (simp only [List.length_append, List.length_cons, List.length_nil]; omega))
            have HR := Lib.hid hrun
            clear hrun
            go_wp2_with (at_builtin; refine wpList_append_ran rfl (.tmp 37) (.tmp 42) 22 rfl _ _ _ _ rfl rfl HR.out ?_)
            exact ⟨⟨k + 1, by omega, by go_num, ⟨true, _, rfl, hown', HP.out, by have := Hlen.out; simp only [List.length_append, List.length_cons, List.length_nil]; omega, hbw', hsz'⟩⟩, by simp [intOf]; omega⟩
    · have he : k = n := by omega
      subst he
      rw [List.take_of_length_le (by rw [Hn.out]; exact Nat.le_refl _)] at hprog
      cases f with
      | true =>
        obtain ⟨_, rfl⟩ := hprog.1 rfl
        have HO := Lib.hid (hown.mono (Nat.le_of_lt hlt0))
        have hbe := hb0.trans (hbw.mono (Nat.le_of_lt hlt0))
        clear hprog hown
        go_wp2
        go_ret
        exact ⟨_, rfl, HO.out, hbe⟩
      | false =>
        obtain ⟨hlow, rfl⟩ := hprog.2 rfl
        have hpl := Lib.hid (put_low hlow)
        have HO := Lib.hid hown
        clear hprog hlow hown
        obtain ⟨v', wc, hrun, hown', hbw', hsz'⟩ := append_one HO.out hbw hsz e (by rw [Hn.out]; omega)
        have HR := Lib.hid hrun
        rw [← hpl.out] at hown'
        have HO2 := Lib.hid (hown'.mono (Nat.le_of_lt hlt0))
        have hbe := hb0.trans (hbw'.mono (Nat.le_of_lt hlt0))
        clear hrun hown' hbw'
        go_wp2_with (at_builtin; refine wpList_append_ran rfl (.tmp 47) (.tmp 49) 22 rfl _ _ _ _ rfl rfl HR.out ?_)
        go_ret
        exact ⟨_, rfl, HO2.out, hbe⟩

end Go.Proofs.Ytkooaechcbopnaa
