/-
  The contracts of the law's helpers few, made and told: whether a page is small, the same page of the other type; conditions: its slices can be read, its numbers and strings are as ArgP says.
-/
import Derived.Test.YtgicomadlhnkjaaDoorPageEncode
namespace Go.Proofs.YtgicomadlhnkjaaDoor
open Go.RowKit Go.Sort
set_option linter.unusedVariables false

/-- What an argument's numbers and strings are at most. -/
structure ArgP (p : PP) : Prop where
  kind : I64 p.kind
  next : I64 p.next
  piece : p.piece.size ≤ 140737488351232
  cl : p.cells.length ≤ 140737488351232
  kl : p.kids.length ≤ 140737488351232
  cells : ∀ c ∈ p.cells, BdC c
  kids : ∀ c ∈ p.kids, BdK c
/-- A page that is looked at. -/
def FewP (p : PP) : Prop := p.cells.length ≤ 40 ∧ p.kids.length ≤ 40 ∧ p.piece.size ≤ 1000 ∧ (∀ c ∈ p.cells, c.k.size + c.v.size ≤ 2000) ∧ (∀ c ∈ p.kids, c.k.size ≤ 2000)
instance (p : PP) : Decidable (FewP p) := inferInstanceAs (Decidable (_ ∧ _ ∧ _ ∧ (∀ c ∈ p.cells, c.k.size + c.v.size ≤ 2000) ∧ (∀ c ∈ p.kids, c.k.size ≤ 2000)))
theorem ArgP.bd {p : PP} (h : ArgP p) (hf : FewP p) : Bd p := ⟨h.kind, h.next, h.piece, by have := hf.1; omega, by have := hf.2.1; omega, h.cells, h.kids⟩

set_option maxHeartbeats 1000000 in
set_option maxRecDepth 100000 in
theorem few_any (p : PP) (A B : Option Addr) (a b : Nat) (w : World) (hA : Ls pcC w A p.cells) (hB : Ls pcK w B p.kids) (hp : ArgP p) :
    Calls Tryd.prog 10 #[pageV p A a B b] w fun e w' => e = .returned (.bool (decide (FewP p))) ∧ Below w.heap.size w w' := by
  obtain ⟨pk, pc, pd, pp, pn⟩ := p
  obtain ⟨b1, b2, b3, b4, b5, b6, b7⟩ := hp
  unfold pageV
  simp only at *
  obtain ⟨n, hn⟩ : ∃ n, n = pc.length := ⟨_, rfl⟩
  obtain ⟨m, hm⟩ : ∃ m, m = pd.length := ⟨_, rfl⟩
  rw [← hn] at b4 ⊢
  rw [← hm] at b5 ⊢
  have Hn := Lib.hid hn
  have Hm := Lib.hid hm
  have H6 := Lib.hid b6
  have H7 := Lib.hid b7
  clear hn hm b6 b7
  by_cases g1 : 40 < n
  · rw [show decide (FewP ⟨pk, pc, pd, pp, pn⟩) = false from decide_eq_false fun h => by have := h.1; simp only at this; rw [← Hn.out] at this; omega]
    go_enter Tryd.func10, Tryd.ntmps10
    go_wp2
    go_ret
    exact ⟨rfl, (Below.refl _ _).alloc (Nat.le_refl _) _⟩
  by_cases g2 : 40 < m
  · rw [show decide (FewP ⟨pk, pc, pd, pp, pn⟩) = false from decide_eq_false fun h => by have := h.2.1; simp only at this; rw [← Hm.out] at this; omega]
    go_enter Tryd.func10, Tryd.ntmps10
    go_wp2
    go_ret
    exact ⟨rfl, (Below.refl _ _).alloc (Nat.le_refl _) _⟩
  by_cases g3 : 1000 < pp.size
  · rw [show decide (FewP ⟨pk, pc, pd, pp, pn⟩) = false from decide_eq_false fun h => by have := h.2.2.1; simp only at this; omega]
    go_enter Tryd.func10, Tryd.ntmps10
    go_wp2
    go_ret
    exact ⟨rfl, (Below.refl _ _).alloc (Nat.le_refl _) _⟩
  obtain ⟨W, hW⟩ : ∃ W, W = w.alloc (.cells #[.int .i64 pk, .slice A n a, .slice B m b, .string pp, .int .i64 pn] 25) := ⟨_, rfl⟩
  have hbW : Below w.heap.size w W := by rw [hW]; exact (Below.refl _ _).alloc (Nat.le_refl _) _
  have hc1 : ∀ w', Below W.heap.size W w' → w'.cell? ⟨w.heap.size, 1, none⟩ = some (.slice A n a) := fun w' h => by rw [hW] at h; exact box_at h 1 _ rfl
  have hc2 : ∀ w', Below W.heap.size W w' → w'.cell? ⟨w.heap.size, 2, none⟩ = some (.slice B m b) := fun w' h => by rw [hW] at h; exact box_at h 2 _ rfl
  have HW := Lib.hid hW
  have HC1 := Lib.hid hc1
  have HC2 := Lib.hid hc2
  clear hW hc1 hc2
  go_enter Tryd.func10, Tryd.ntmps10
  go_wp2
  rw [← HW.out]
  go_loopw [24] (fun i wr => ∃ k : Nat, k ≤ n ∧ i = .int .i64 k ∧ Below W.heap.size W wr ∧ ∀ j e, j < k → pc[j]? = some e → e.k.size + e.v.size ≤ 2000) (fun i _ => n - (intOf i).toNat)
  case atStart => exact ⟨0, Nat.zero_le _, rfl, Below.refl _ _, fun j _ hj => absurd hj (by omega)⟩
  case round =>
    obtain ⟨k, hk, rfl, hbw, hall⟩ := hrel
    have HA := Lib.hid hall
    clear hall
    have hbb := bthen hbW hbw
    have c1 := HC1.out _ hbw
    by_cases hlt : k < n
    · obtain ⟨ad, x, rfl, hx, hl, h1, h2, h3, h4⟩ := (hA.below hbb).atC (i := k) (by rw [← Hn.out]; exact hlt)
      obtain ⟨hs1, hs2, _, _⟩ := H6.out x (List.mem_of_getElem? hx)
      have Hx := Lib.hid hx
      clear hx
      by_cases hd : 2000 < x.k.size + x.v.size
      · go_wp2
        go_quiet (fail)
        go_wp2
        go_ret
        rw [show decide (FewP ⟨pk, pc, pd, pp, pn⟩) = false from decide_eq_false fun h => by have := h.2.2.2.1 x (List.mem_of_getElem? Hx.out); omega]
        exact ⟨rfl, below_drewN hbb _⟩
      · go_wp2
        go_quiet (fail)
        go_wp2
        refine ⟨⟨k + 1, by omega, by go_num, below_drewN hbw _, fun j e hj he => ?_⟩, by simp [intOf]; omega⟩
        rcases Nat.lt_or_ge j k with h | h
        · exact HA.out j e h he
        · have : j = k := by omega
          subst this
          rw [Hx.out] at he
          cases he
          omega
    · have he : k = n := by omega
      subst he
      have hc2 := HC2.out _ hbw
      have HB : Hid (∀ c ∈ pc, c.k.size + c.v.size ≤ 2000) := fun c hc => by
        obtain ⟨j, hj⟩ := List.getElem?_of_mem hc
        exact HA.out j c (by have := (List.getElem?_eq_some_iff.1 hj).1; rw [← Hn.out] at this; exact this) hj
      clear HA c1
      go_wp2
      generalize wr = wo at *
      go_loopw [47] (fun i wr => ∃ j : Nat, j ≤ m ∧ i = .int .i64 j ∧ Below W.heap.size W wr ∧ ∀ q e, q < j → pd[q]? = some e → e.k.size ≤ 2000) (fun i _ => m - (intOf i).toNat)
      case atStart => exact ⟨0, Nat.zero_le _, rfl, hbw, fun j _ hj => absurd hj (by omega)⟩
      case round =>
        obtain ⟨j, hj, rfl, hbw2, hall⟩ := hrel
        have HA := Lib.hid hall
        clear hall
        have hbb2 := bthen hbW hbw2
        have c2 := HC2.out _ hbw2
        by_cases hlt2 : j < m
        · obtain ⟨ad, x, rfl, hx, hl, h1, h2⟩ := (hB.below hbb2).atK (i := j) (by rw [← Hm.out]; exact hlt2)
          obtain ⟨hs1, _⟩ := H7.out x (List.mem_of_getElem? hx)
          have Hx := Lib.hid hx
          clear hx
          by_cases hd : 2000 < x.k.size
          · go_wp2
            go_ret
            rw [show decide (FewP ⟨pk, pc, pd, pp, pn⟩) = false from decide_eq_false fun h => by have := h.2.2.2.2 x (List.mem_of_getElem? Hx.out); omega]
            exact ⟨rfl, hbb2⟩
          · go_wp2
            refine ⟨⟨j + 1, by omega, by go_num, hbw2, fun q e hq he => ?_⟩, by simp [intOf]; omega⟩
            rcases Nat.lt_or_ge q j with h | h
            · exact HA.out q e h he
            · have : q = j := by omega
              subst this
              rw [Hx.out] at he
              cases he
              omega
        · have he : j = m := by omega
          subst he
          go_wp2
          go_ret
          rw [show decide (FewP ⟨pk, pc, pd, pp, pn⟩) = true from decide_eq_true ⟨by simp only; rw [← Hn.out]; omega, by simp only; rw [← Hm.out]; omega, by simp only; omega, HB.out, fun c hc => by
            obtain ⟨q, hq⟩ := List.getElem?_of_mem hc
            exact HA.out q c (by have := (List.getElem?_eq_some_iff.1 hq).1; rw [← Hm.out] at this; exact this) hq⟩]
          exact ⟨rfl, hbb2⟩

end Go.Proofs.YtgicomadlhnkjaaDoor
