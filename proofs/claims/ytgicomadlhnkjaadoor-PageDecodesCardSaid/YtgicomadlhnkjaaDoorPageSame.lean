/-
  The contract of the document's Same: whether two pages are alike; conditions: their slices can be read, they are small.
-/
import Derived.Test.YtgicomadlhnkjaaDoorPageMade
namespace Go.Proofs.YtgicomadlhnkjaaDoor
open Go.RowKit Go.Sort
set_option linter.unusedVariables false

theorem equalC (x y : PC) (w : World) : (Op.equalIn 10000 52 (cellV x) (cellV y)).run Tryd.prog w = .ok (decide (x = y)) w := by
  obtain ⟨xk, xv, xz, xs⟩ := x
  obtain ⟨yk, yv, yz, ys⟩ := y
  have hk := same_eq xk yk
  have hv := same_eq xv yv
  unfold cellV
  simp only
  rw [run_equalIn_agg w 9999 52 _ _ (by kernel_rfl) (by kernel_rfl)]
  have hf : ((Tryd.prog.fieldsOf 52).toList.map fun f => (f.name == "_", f.type, f.offset)) = [(false, 9, 0), (false, 9, 1), (false, 3, 2), (false, 3, 3)] := by kernel_rfl
  revert hf
  generalize (Tryd.prog.fieldsOf 52).toList = fs
  intro hf
  obtain ⟨f0, r0, rfl, h0, hf⟩ := List.map_eq_cons_iff.1 hf
  obtain ⟨f1, r1, rfl, h1, hf⟩ := List.map_eq_cons_iff.1 hf
  obtain ⟨f2, r2, rfl, h2, hf⟩ := List.map_eq_cons_iff.1 hf
  obtain ⟨f3, r3, rfl, h3, hf⟩ := List.map_eq_cons_iff.1 hf
  obtain rfl := List.map_eq_nil_iff.1 hf
  simp only [Prod.mk.injEq, beq_eq_false_iff_ne] at h0 h1 h2 h3
  obtain ⟨n0, t0, o0⟩ := h0
  obtain ⟨n1, t1, o1⟩ := h1
  obtain ⟨n2, t2, o2⟩ := h2
  obtain ⟨n3, t3, o3⟩ := h3
  have c9 : Tryd.prog.cellsOf 9 = 1 := by kernel_rfl
  have c3 : Tryd.prog.cellsOf 3 = 1 := by kernel_rfl
  by_cases e1 : xk = yk
  · subst e1
    by_cases e2 : xv = yv
    · subst e2
      by_cases e3 : xz = yz
      · subst e3
        by_cases e4 : xs = ys
        · subst e4
          simp [Op.eqFields, n0, n1, n2, n3, t0, t1, t2, t3, o0, o1, o2, o3, go_sem]
        · simp [Op.eqFields, n0, n1, n2, n3, t0, t1, t2, t3, o0, o1, o2, o3, go_sem, e4]
      · simp [Op.eqFields, n0, n1, n2, n3, t0, t1, t2, t3, o0, o1, o2, o3, go_sem, e3]
    · rw [decide_eq_false e2] at hv
      simp [Op.eqFields, n0, n1, n2, n3, t0, t1, t2, t3, o0, o1, o2, o3, go_sem, e2, hv]
  · rw [decide_eq_false e1] at hk
    simp [Op.eqFields, n0, n1, n2, n3, t0, t1, t2, t3, o0, o1, o2, o3, go_sem, e1, hk]

theorem equalK (x y : PK) (w : World) : (Op.equalIn 10000 54 (.agg #[.string x.k, .int .i64 x.pg]) (.agg #[.string y.k, .int .i64 y.pg])).run Tryd.prog w = .ok (decide (x = y)) w := by
  obtain ⟨xk, xz⟩ := x
  obtain ⟨yk, yz⟩ := y
  have hk := same_eq xk yk
  simp only
  rw [run_equalIn_agg w 9999 54 _ _ (by kernel_rfl) (by kernel_rfl)]
  have hf : ((Tryd.prog.fieldsOf 54).toList.map fun f => (f.name == "_", f.type, f.offset)) = [(false, 9, 0), (false, 3, 1)] := by kernel_rfl
  revert hf
  generalize (Tryd.prog.fieldsOf 54).toList = fs
  intro hf
  obtain ⟨f0, r0, rfl, h0, hf⟩ := List.map_eq_cons_iff.1 hf
  obtain ⟨f1, r1, rfl, h1, hf⟩ := List.map_eq_cons_iff.1 hf
  obtain rfl := List.map_eq_nil_iff.1 hf
  simp only [Prod.mk.injEq, beq_eq_false_iff_ne] at h0 h1
  obtain ⟨n0, t0, o0⟩ := h0
  obtain ⟨n1, t1, o1⟩ := h1
  have c9 : Tryd.prog.cellsOf 9 = 1 := by kernel_rfl
  have c3 : Tryd.prog.cellsOf 3 = 1 := by kernel_rfl
  by_cases e1 : xk = yk
  · subst e1
    by_cases e2 : xz = yz
    · subst e2
      simp [Op.eqFields, n0, n1, t0, t1, o0, o1, go_sem]
    · simp [Op.eqFields, n0, n1, t0, t1, o0, o1, go_sem, e2]
  · rw [decide_eq_false e1] at hk
    simp [Op.eqFields, n0, n1, t0, t1, o0, o1, go_sem, e1, hk]
theorem neqC (x y : PC) (w : World) : (binOp .neq 52 (.agg #[.string x.k, .string x.v, .int .i64 x.sz, .int .i64 x.st]) (.agg #[.string y.k, .string y.v, .int .i64 y.sz, .int .i64 y.st])).run Tryd.prog w = .ok (.bool (!decide (x = y))) w := by
  have h := equalC x y w
  unfold cellV at h
  rw [run_neq_struct, h]
  rfl
theorem neqK (x y : PK) (w : World) : (binOp .neq 54 (.agg #[.string x.k, .int .i64 x.pg]) (.agg #[.string y.k, .int .i64 y.pg])).run Tryd.prog w = .ok (.bool (!decide (x = y))) w := by
  have h := equalK x y w
  rw [run_neq_struct, h]
  rfl

theorem below2 (w : World) (X Y : Obj) : Below w.heap.size w ((w.alloc X).alloc Y) := by
  have h : Below w.heap.size w (w.alloc X) := (Below.refl _ _).alloc (Nat.le_refl _) _
  exact h.alloc h.size _

set_option maxHeartbeats 1000000 in
set_option maxRecDepth 100000 in
/-- ref.Same. -/
theorem same_pg (p q : PP) (A B C D : Option Addr) (a b c d : Nat) (w : World) (hA : Ls pcC w A p.cells) (hB : Ls pcK w B p.kids) (hC : Ls pcC w C q.cells) (hD : Ls pcK w D q.kids)
    (h1 : p.cells.length ≤ 1000) (h2 : p.kids.length ≤ 1000) (h3 : q.cells.length ≤ 1000) (h4 : q.kids.length ≤ 1000) :
    Calls Tryd.prog 18 #[pageV p A a B b, pageV q C c D d] w fun e w' => e = .returned (.bool (decide (p = q))) ∧ Below w.heap.size w w' := by
  obtain ⟨pk, pc, pd, pp, pn⟩ := p
  obtain ⟨qk, qc, qd, qp, qn⟩ := q
  unfold pageV
  simp only at *
  have hs := same_eq pp qp
  obtain ⟨n, hn⟩ : ∃ n, n = pc.length := ⟨_, rfl⟩
  obtain ⟨m, hm⟩ : ∃ m, m = pd.length := ⟨_, rfl⟩
  obtain ⟨n', hn'⟩ : ∃ n', n' = qc.length := ⟨_, rfl⟩
  obtain ⟨m', hm'⟩ : ∃ m', m' = qd.length := ⟨_, rfl⟩
  rw [← hn] at h1 ⊢
  rw [← hm] at h2 ⊢
  rw [← hn'] at h3 ⊢
  rw [← hm'] at h4 ⊢
  have Hn := Lib.hid hn
  have Hm := Lib.hid hm
  have Hn' := Lib.hid hn'
  have Hm' := Lib.hid hm'
  clear hn hm hn' hm'
  have hx1 : Below w.heap.size w (w.alloc (.cells #[.int .i64 pk, .slice A n a, .slice B m b, .string pp, .int .i64 pn] 25)) := (Below.refl _ _).alloc (Nat.le_refl _) _
  have hbW := Lib.hid (hx1.alloc hx1.size (.cells #[.int .i64 qk, .slice C n' c, .slice D m' d, .string qp, .int .i64 qn] 25))
  clear hx1
  by_cases g1n : ¬ pk = qk
  · have g1 := g1n
    rw [show decide ((⟨pk, pc, pd, pp, pn⟩ : PP) = ⟨qk, qc, qd, qp, qn⟩) = false from decide_eq_false fun h => g1 (by injection h)]
    go_enter Tryd.func18, Tryd.ntmps18
    go_wp2
    go_ret
    exact ⟨rfl, below2 w _ _⟩
  have g1 : pk = qk := Decidable.not_not.1 g1n
  clear g1n
  by_cases g2n : ¬ pp = qp
  · have g2 := g2n
    rw [decide_eq_false g2] at hs
    rw [show decide ((⟨pk, pc, pd, pp, pn⟩ : PP) = ⟨qk, qc, qd, qp, qn⟩) = false from decide_eq_false fun h => g2 (by injection h)]
    go_enter Tryd.func18, Tryd.ntmps18
    go_wp2
    go_ret
    exact ⟨rfl, below2 w _ _⟩
  have g2 : pp = qp := Decidable.not_not.1 g2n
  clear g2n
  by_cases g3n : ¬ pn = qn
  · have g3 := g3n
    rw [decide_eq_true g2] at hs
    rw [show decide ((⟨pk, pc, pd, pp, pn⟩ : PP) = ⟨qk, qc, qd, qp, qn⟩) = false from decide_eq_false fun h => g3 (by injection h)]
    go_enter Tryd.func18, Tryd.ntmps18
    go_wp2
    go_ret
    exact ⟨rfl, below2 w _ _⟩
  have g3 : pn = qn := Decidable.not_not.1 g3n
  clear g3n
  by_cases g4n : ¬ n = n'
  · have g4 := g4n
    rw [decide_eq_true g2] at hs
    rw [show decide ((⟨pk, pc, pd, pp, pn⟩ : PP) = ⟨qk, qc, qd, qp, qn⟩) = false from decide_eq_false fun h => g4 (by rw [Hn.out, Hn'.out]; injection h with _ h _ _ _; rw [h])]
    go_enter Tryd.func18, Tryd.ntmps18
    go_wp2
    go_ret
    exact ⟨rfl, below2 w _ _⟩
  have g4 : n = n' := Decidable.not_not.1 g4n
  clear g4n
  by_cases g5n : ¬ m = m'
  · have g5 := g5n
    rw [decide_eq_true g2] at hs
    rw [show decide ((⟨pk, pc, pd, pp, pn⟩ : PP) = ⟨qk, qc, qd, qp, qn⟩) = false from decide_eq_false fun h => g5 (by rw [Hm.out, Hm'.out]; injection h with _ _ h _ _; rw [h])]
    go_enter Tryd.func18, Tryd.ntmps18
    go_wp2
    go_ret
    exact ⟨rfl, below2 w _ _⟩
  have g5 : m = m' := Decidable.not_not.1 g5n
  clear g5n
  subst g1 g2 g3 g4 g5
  rw [decide_eq_true rfl] at hs
  rw [show decide ((⟨pk, pc, pd, pp, pn⟩ : PP) = ⟨pk, qc, qd, pp, pn⟩) = decide (pc = qc ∧ pd = qd) from decide_eq_decide.2 ⟨fun h => by injection h with _ h1 h2 _ _; exact ⟨h1, h2⟩, fun h => by rw [h.1, h.2]⟩]
  obtain ⟨W, hW⟩ : ∃ W, W = (w.alloc (.cells #[.int .i64 pk, .slice A n a, .slice B m b, .string pp, .int .i64 pn] 25)).alloc (.cells #[.int .i64 pk, .slice C n c, .slice D m d, .string pp, .int .i64 pn] 25) := ⟨_, rfl⟩
  have hbw0 : Below w.heap.size w W := by rw [hW]; exact hbW.out
  have hbx : Below (w.alloc (.cells #[.int .i64 pk, .slice A n a, .slice B m b, .string pp, .int .i64 pn] 25)).heap.size (w.alloc (.cells #[.int .i64 pk, .slice A n a, .slice B m b, .string pp, .int .i64 pn] 25)) W := by rw [hW]; exact (Below.refl _ _).alloc (Nat.le_refl _) _
  have hcA : ∀ w', Below W.heap.size W w' → w'.cell? ⟨w.heap.size, 1, none⟩ = some (.slice A n a) := fun w' h => box_at (bthen hbx h) 1 _ rfl
  have hcB : ∀ w', Below W.heap.size W w' → w'.cell? ⟨w.heap.size, 2, none⟩ = some (.slice B m b) := fun w' h => box_at (bthen hbx h) 2 _ rfl
  have hcC : ∀ w', Below W.heap.size W w' → w'.cell? ⟨w.heap.size + 1, 1, none⟩ = some (.slice C n c) := fun w' h => by
    have := box_at (w := w.alloc (.cells #[.int .i64 pk, .slice A n a, .slice B m b, .string pp, .int .i64 pn] 25)) (w' := w') (by rw [← hW]; exact h) 1 _ rfl
    simpa using this
  have hcD : ∀ w', Below W.heap.size W w' → w'.cell? ⟨w.heap.size + 1, 2, none⟩ = some (.slice D m d) := fun w' h => by
    have := box_at (w := w.alloc (.cells #[.int .i64 pk, .slice A n a, .slice B m b, .string pp, .int .i64 pn] 25)) (w' := w') (by rw [← hW]; exact h) 2 _ rfl
    simpa using this
  have HW := Lib.hid hW
  have HCA := Lib.hid hcA
  have HCB := Lib.hid hcB
  have HCC := Lib.hid hcC
  have HCD := Lib.hid hcD
  clear hW hcA hcB hcC hcD hbx
  go_enter Tryd.func18, Tryd.ntmps18
  go_wp2
  rw [← HW.out]
  go_loopw [47] (fun i wr => ∃ k : Nat, k ≤ n ∧ i = .int .i64 k ∧ Below W.heap.size W wr ∧ ∀ j, j < k → pc[j]? = qc[j]?) (fun i _ => n - (intOf i).toNat)
  case atStart => exact ⟨0, Nat.zero_le _, rfl, Below.refl _ _, fun j hj => absurd hj (by omega)⟩
  case round =>
    obtain ⟨k, hk, rfl, hbw, hall⟩ := hrel
    have HA := Lib.hid hall
    clear hall
    have hbb := bthen hbw0 hbw
    by_cases hlt : k < n
    · have cA := HCA.out _ hbw
      have cC := HCC.out _ hbw
      obtain ⟨ad, x, rfl, hx, hl, u1, u2, u3, u4⟩ := (hA.below hbb).atC (i := k) (by rw [← Hn.out]; exact hlt)
      obtain ⟨ad2, y, rfl, hy, hl2, v1, v2, v3, v4⟩ := (hC.below hbb).atC (i := k) (by rw [← Hn'.out]; exact hlt)
      have Hx := Lib.hid hx
      have Hy := Lib.hid hy
      clear hx hy
      have hq := neqC x y
      by_cases hd : x = y
      · rw [decide_eq_true hd] at hq
        go_wp2
        go_quiet (fail)
        go_wp2
        refine ⟨⟨k + 1, by omega, by go_num, below_drewN hbw _, fun j hj => ?_⟩, by simp [intOf]; omega⟩
        rcases Nat.lt_or_ge j k with h | h
        · exact HA.out j h
        · have : j = k := by omega
          subst this
          rw [Hx.out, Hy.out, hd]
      · rw [decide_eq_false hd] at hq
        go_wp2
        go_quiet (fail)
        go_wp2
        go_ret
        rw [show decide (pc = qc ∧ pd = qd) = false from decide_eq_false fun h => hd (by have h1 := Hx.out; rw [h.1, Hy.out] at h1; exact (Option.some.inj h1).symm)]
        exact ⟨rfl, below_drewN hbb _⟩
    · have he : k = n := by omega
      subst he
      have HE : Hid (pc = qc) := by
        show pc = qc
        apply List.ext_getElem?
        intro j
        rcases Nat.lt_or_ge j k with h | h
        · exact HA.out j h
        · rw [List.getElem?_eq_none (by rw [← Hn.out]; exact h), List.getElem?_eq_none (by rw [← Hn'.out]; exact h)]
      have cB0 := HCB.out _ hbw
      clear HA
      go_wp2
      generalize wr = wo at *
      go_loopw [65] (fun i wr => ∃ k : Nat, k ≤ m ∧ i = .int .i64 k ∧ Below W.heap.size W wr ∧ ∀ j, j < k → pd[j]? = qd[j]?) (fun i _ => m - (intOf i).toNat)
      case atStart => exact ⟨0, Nat.zero_le _, rfl, hbw, fun j hj => absurd hj (by omega)⟩
      case round =>
        obtain ⟨i, hi, rfl, hbw2, hall⟩ := hrel
        have HA := Lib.hid hall
        clear hall
        have hbb2 := bthen hbw0 hbw2
        by_cases hlt2 : i < m
        · have cB := HCB.out _ hbw2
          have cD := HCD.out _ hbw2
          obtain ⟨ad, x, rfl, hx, hl, u1, u2⟩ := (hB.below hbb2).atK (i := i) (by rw [← Hm.out]; exact hlt2)
          obtain ⟨ad2, y, rfl, hy, hl2, v1, v2⟩ := (hD.below hbb2).atK (i := i) (by rw [← Hm'.out]; exact hlt2)
          have Hx := Lib.hid hx
          have Hy := Lib.hid hy
          clear hx hy
          have hq := neqK x y
          by_cases hd : x = y
          · rw [decide_eq_true hd] at hq
            go_wp2
            go_quiet (fail)
            go_wp2
            refine ⟨⟨i + 1, by omega, by go_num, below_drewN hbw2 _, fun j hj => ?_⟩, by simp [intOf]; omega⟩
            rcases Nat.lt_or_ge j i with h | h
            · exact HA.out j h
            · have : j = i := by omega
              subst this
              rw [Hx.out, Hy.out, hd]
          · rw [decide_eq_false hd] at hq
            go_wp2
            go_quiet (fail)
            go_wp2
            go_ret
            rw [show decide (pc = qc ∧ pd = qd) = false from decide_eq_false fun h => hd (by have h1 := Hx.out; rw [h.2, Hy.out] at h1; exact (Option.some.inj h1).symm)]
            exact ⟨rfl, below_drewN hbb2 _⟩
        · have he : i = m := by omega
          subst he
          have HE2 : Hid (pd = qd) := by
            show pd = qd
            apply List.ext_getElem?
            intro j
            rcases Nat.lt_or_ge j i with h | h
            · exact HA.out j h
            · rw [List.getElem?_eq_none (by rw [← Hm.out]; exact h), List.getElem?_eq_none (by rw [← Hm'.out]; exact h)]
          clear HA
          go_wp2
          go_ret
          rw [show decide (pc = qc ∧ pd = qd) = true from decide_eq_true ⟨HE.out, HE2.out⟩]
          exact ⟨rfl, hbb2⟩

end Go.Proofs.YtgicomadlhnkjaaDoor
