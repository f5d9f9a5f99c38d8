/-
  The contract of the document's answer Right: whether a page can be; conditions: its slices can be read, its numbers and strings are as Bd says.
-/
import Derived.Test.YtgicomadlhnkjaaDoorPageRefR
import Derived.Test.YtgicomadlhnkjaaDoorPageRefK
namespace Go.Proofs.YtgicomadlhnkjaaDoor
open Go.RowKit Go.Sort
set_option linter.unusedVariables false

set_option maxHeartbeats 4000000 in
set_option maxRecDepth 100000 in
theorem refRight_any (p : PP) (A B : Option Addr) (a b : Nat) (w : World) (hA : Ls pcC w A p.cells) (hB : Ls pcK w B p.kids) (hp : Bd p) :
    Calls Tryd.prog 15 #[pageV p A a B b] w fun e w' => e = .returned (.bool (decide (okPage p))) ∧ Below w.heap.size w w' := by
  obtain ⟨pk, pc, pd, pp, pn⟩ := p
  obtain ⟨b1, b2, b3, b4, b5, b6, b7⟩ := hp
  unfold pageV
  simp only at *
  have he := empty_eq pp
  obtain ⟨n, hn⟩ : ∃ n, n = pc.length := ⟨_, rfl⟩
  obtain ⟨m, hm⟩ : ∃ m, m = pd.length := ⟨_, rfl⟩
  rw [← hn] at b4 ⊢
  rw [← hm] at b5 ⊢
  have Hn := Lib.hid hn
  have Hm := Lib.hid hm
  have H6 := Lib.hid b6
  have H7 := Lib.hid b7
  clear hn hm b6 b7
  by_cases k1 : pk = 1
  · subst k1
    by_cases e1 : pp.size = 0
    · rw [decide_eq_true e1] at he
      by_cases e2 : pn = 0
      · by_cases e3 : m = 0
        · rw [show decide (okPage ⟨_, pc, pd, pp, pn⟩) = decide (okCells pc) from decide_eq_decide.2 ⟨fun h => (ok_kind1 h rfl).2.2.2, fun h => .inl ⟨rfl, Hm.out.symm.trans e3, e1, e2, h⟩⟩]
          go_enter Tryd.func15, Tryd.ntmps15
          go_wp2_with fail
          refine (refCells_any A n a pc _ (hA.below ((Below.refl _ _).alloc (Nat.le_refl _) _)) Hn.out.symm b4 H6.out).mono ?_
          rintro e w1 ⟨rfl, hb1⟩
          go_wp2
          go_ret
          exact ⟨rfl, bthen ((Below.refl _ _).alloc (Nat.le_refl _) _) hb1⟩
        · rw [show decide (okPage ⟨_, pc, pd, pp, pn⟩) = false from decide_eq_false fun h => e3 (Hm.out.trans (ok_kind1 h rfl).1)]
          go_enter Tryd.func15, Tryd.ntmps15
          go_wp2
          go_ret
          exact ⟨rfl, (Below.refl _ _).alloc (Nat.le_refl _) _⟩
      · by_cases e3 : m = 0
        · rw [show decide (okPage ⟨_, pc, pd, pp, pn⟩) = false from decide_eq_false fun h => e2 (ok_kind1 h rfl).2.2.1]
          go_enter Tryd.func15, Tryd.ntmps15
          go_wp2
          go_ret
          exact ⟨rfl, (Below.refl _ _).alloc (Nat.le_refl _) _⟩
        · rw [show decide (okPage ⟨_, pc, pd, pp, pn⟩) = false from decide_eq_false fun h => e2 (ok_kind1 h rfl).2.2.1]
          go_enter Tryd.func15, Tryd.ntmps15
          go_wp2
          go_ret
          exact ⟨rfl, (Below.refl _ _).alloc (Nat.le_refl _) _⟩
    · rw [decide_eq_false e1] at he
      by_cases e3 : m = 0
      · rw [show decide (okPage ⟨_, pc, pd, pp, pn⟩) = false from decide_eq_false fun h => e1 (ok_kind1 h rfl).2.1]
        go_enter Tryd.func15, Tryd.ntmps15
        go_wp2
        go_ret
        exact ⟨rfl, (Below.refl _ _).alloc (Nat.le_refl _) _⟩
      · rw [show decide (okPage ⟨_, pc, pd, pp, pn⟩) = false from decide_eq_false fun h => e1 (ok_kind1 h rfl).2.1]
        go_enter Tryd.func15, Tryd.ntmps15
        go_wp2
        go_ret
        exact ⟨rfl, (Below.refl _ _).alloc (Nat.le_refl _) _⟩
  by_cases k2 : pk = 2
  · subst k2
    by_cases e1 : pp.size = 0
    · rw [decide_eq_true e1] at he
      by_cases e2 : pn = 0
      · by_cases e3 : n = 0
        · rw [show decide (okPage ⟨_, pc, pd, pp, pn⟩) = decide (okKids pd) from decide_eq_decide.2 ⟨fun h => (ok_kind2 h rfl).2.2.2, fun h => .inr (.inl ⟨rfl, Hn.out.symm.trans e3, e1, e2, h⟩)⟩]
          go_enter Tryd.func15, Tryd.ntmps15
          go_wp2_with fail
          refine (refKids_any B m b pd _ (hB.below ((Below.refl _ _).alloc (Nat.le_refl _) _)) Hm.out.symm b5 H7.out).mono ?_
          rintro e w1 ⟨rfl, hb1⟩
          go_wp2
          go_ret
          exact ⟨rfl, bthen ((Below.refl _ _).alloc (Nat.le_refl _) _) hb1⟩
        · rw [show decide (okPage ⟨_, pc, pd, pp, pn⟩) = false from decide_eq_false fun h => e3 (Hn.out.trans (ok_kind2 h rfl).1)]
          go_enter Tryd.func15, Tryd.ntmps15
          go_wp2
          go_ret
          exact ⟨rfl, (Below.refl _ _).alloc (Nat.le_refl _) _⟩
      · by_cases e3 : n = 0
        · rw [show decide (okPage ⟨_, pc, pd, pp, pn⟩) = false from decide_eq_false fun h => e2 (ok_kind2 h rfl).2.2.1]
          go_enter Tryd.func15, Tryd.ntmps15
          go_wp2
          go_ret
          exact ⟨rfl, (Below.refl _ _).alloc (Nat.le_refl _) _⟩
        · rw [show decide (okPage ⟨_, pc, pd, pp, pn⟩) = false from decide_eq_false fun h => e2 (ok_kind2 h rfl).2.2.1]
          go_enter Tryd.func15, Tryd.ntmps15
          go_wp2
          go_ret
          exact ⟨rfl, (Below.refl _ _).alloc (Nat.le_refl _) _⟩
    · rw [decide_eq_false e1] at he
      by_cases e3 : n = 0
      · rw [show decide (okPage ⟨_, pc, pd, pp, pn⟩) = false from decide_eq_false fun h => e1 (ok_kind2 h rfl).2.1]
        go_enter Tryd.func15, Tryd.ntmps15
        go_wp2
        go_ret
        exact ⟨rfl, (Below.refl _ _).alloc (Nat.le_refl _) _⟩
      · rw [show decide (okPage ⟨_, pc, pd, pp, pn⟩) = false from decide_eq_false fun h => e1 (ok_kind2 h rfl).2.1]
        go_enter Tryd.func15, Tryd.ntmps15
        go_wp2
        go_ret
        exact ⟨rfl, (Below.refl _ _).alloc (Nat.le_refl _) _⟩
  by_cases k3 : pk = 3
  · subst k3
    by_cases e1 : pp.size = 0
    · rw [decide_eq_true e1] at he
      by_cases e2 : pn = 0
      · by_cases e3 : n = 0
        · by_cases e4 : m = 0
          · rw [show decide (okPage ⟨_, pc, pd, pp, pn⟩) = false from decide_eq_false fun h => by have := (ok_kind3 h rfl).2.2.1; simp only at this; omega]
            go_enter Tryd.func15, Tryd.ntmps15
            go_wp2
            go_ret
            exact ⟨rfl, (Below.refl _ _).alloc (Nat.le_refl _) _⟩
          · rw [show decide (okPage ⟨_, pc, pd, pp, pn⟩) = false from decide_eq_false fun h => by have := (ok_kind3 h rfl).2.2.1; simp only at this; omega]
            go_enter Tryd.func15, Tryd.ntmps15
            go_wp2
            go_ret
            exact ⟨rfl, (Below.refl _ _).alloc (Nat.le_refl _) _⟩
        · rw [show decide (okPage ⟨_, pc, pd, pp, pn⟩) = false from decide_eq_false fun h => by have := (ok_kind3 h rfl).2.2.1; simp only at this; omega]
          go_enter Tryd.func15, Tryd.ntmps15
          go_wp2
          go_ret
          exact ⟨rfl, (Below.refl _ _).alloc (Nat.le_refl _) _⟩
      · by_cases e3 : n = 0
        · by_cases e4 : m = 0
          · rw [show decide (okPage ⟨_, pc, pd, pp, pn⟩) = false from decide_eq_false fun h => by have := (ok_kind3 h rfl).2.2.1; simp only at this; omega]
            go_enter Tryd.func15, Tryd.ntmps15
            go_wp2
            go_ret
            exact ⟨rfl, (Below.refl _ _).alloc (Nat.le_refl _) _⟩
          · rw [show decide (okPage ⟨_, pc, pd, pp, pn⟩) = false from decide_eq_false fun h => by have := (ok_kind3 h rfl).2.2.1; simp only at this; omega]
            go_enter Tryd.func15, Tryd.ntmps15
            go_wp2
            go_ret
            exact ⟨rfl, (Below.refl _ _).alloc (Nat.le_refl _) _⟩
        · rw [show decide (okPage ⟨_, pc, pd, pp, pn⟩) = false from decide_eq_false fun h => by have := (ok_kind3 h rfl).2.2.1; simp only at this; omega]
          go_enter Tryd.func15, Tryd.ntmps15
          go_wp2
          go_ret
          exact ⟨rfl, (Below.refl _ _).alloc (Nat.le_refl _) _⟩
    · rw [decide_eq_false e1] at he
      by_cases e3 : n = 0
      · by_cases e4 : m = 0
        · by_cases e5 : 240 < pp.size
          · rw [show decide (okPage ⟨_, pc, pd, pp, pn⟩) = false from decide_eq_false fun h => by have := (ok_kind3 h rfl).2.2.2.1; simp only at this; omega]
            go_enter Tryd.func15, Tryd.ntmps15
            go_wp2
            go_ret
            exact ⟨rfl, (Below.refl _ _).alloc (Nat.le_refl _) _⟩
          · by_cases e6 : pn = 0
            · rw [show decide (okPage ⟨_, pc, pd, pp, pn⟩) = true from decide_eq_true (.inr (.inr ⟨rfl, Hn.out.symm.trans e3, Hm.out.symm.trans e4, by simp only; omega, by simp only; omega, .inl e6⟩))]
              go_enter Tryd.func15, Tryd.ntmps15
              go_wp2
              go_ret
              exact ⟨rfl, (Below.refl _ _).alloc (Nat.le_refl _) _⟩
            · have e7 : (pn == 0) = false := by simpa using e6
              rw [show decide (okPage ⟨_, pc, pd, pp, pn⟩) = decide (okNum pn) from decide_eq_decide.2 ⟨fun h => (ok_kind3 h rfl).2.2.2.2.resolve_left e6, fun h => .inr (.inr ⟨rfl, Hn.out.symm.trans e3, Hm.out.symm.trans e4, by simp only; omega, by simp only; omega, .inr h⟩)⟩]
              go_enter Tryd.func15, Tryd.ntmps15
              go_wp2_with fail
              refine (refNumber_any pn _ b2).mono ?_
              rintro e w1 ⟨rfl, rfl⟩
              go_wp2
              go_ret
              exact ⟨rfl, (Below.refl _ _).alloc (Nat.le_refl _) _⟩
        · rw [show decide (okPage ⟨_, pc, pd, pp, pn⟩) = false from decide_eq_false fun h => e4 (Hm.out.trans (ok_kind3 h rfl).2.1)]
          go_enter Tryd.func15, Tryd.ntmps15
          go_wp2
          go_ret
          exact ⟨rfl, (Below.refl _ _).alloc (Nat.le_refl _) _⟩
      · rw [show decide (okPage ⟨_, pc, pd, pp, pn⟩) = false from decide_eq_false fun h => e3 (Hn.out.trans (ok_kind3 h rfl).1)]
        go_enter Tryd.func15, Tryd.ntmps15
        go_wp2
        go_ret
        exact ⟨rfl, (Below.refl _ _).alloc (Nat.le_refl _) _⟩
  by_cases e1 : pp.size = 0
  · rw [decide_eq_true e1] at he
    by_cases e2 : pn = 0
    · rw [show decide (okPage ⟨_, pc, pd, pp, pn⟩) = false from decide_eq_false fun h => by rcases h with ⟨h, _⟩ | ⟨h, _⟩ | ⟨h, _⟩ <;> simp only at h <;> omega]
      go_enter Tryd.func15, Tryd.ntmps15
      go_wp2
      go_ret
      exact ⟨rfl, (Below.refl _ _).alloc (Nat.le_refl _) _⟩
    · rw [show decide (okPage ⟨_, pc, pd, pp, pn⟩) = false from decide_eq_false fun h => by rcases h with ⟨h, _⟩ | ⟨h, _⟩ | ⟨h, _⟩ <;> simp only at h <;> omega]
      go_enter Tryd.func15, Tryd.ntmps15
      go_wp2
      go_ret
      exact ⟨rfl, (Below.refl _ _).alloc (Nat.le_refl _) _⟩
  · rw [decide_eq_false e1] at he
    rw [show decide (okPage ⟨_, pc, pd, pp, pn⟩) = false from decide_eq_false fun h => by rcases h with ⟨h, _⟩ | ⟨h, _⟩ | ⟨h, _⟩ <;> simp only at h <;> omega]
    go_enter Tryd.func15, Tryd.ntmps15
    go_wp2
    go_ret
    exact ⟨rfl, (Below.refl _ _).alloc (Nat.le_refl _) _⟩

end Go.Proofs.YtgicomadlhnkjaaDoor
