/-
  The pages of no node: none; the page of no node; what a plan in the making keeps, without a program; conditions stand at each.
-/
import Derived.Test.YtelenboncejdaaaGreatDoorShWrites
namespace Go.Proofs.YtelenboncejdaaaGreatDoor
open Go.RowKit Go.Sort
set_option linter.unusedVariables false
set_option linter.unusedSimpArgs false

theorem equal_nil (b : Nat) (w : World) : (Op.equal 25 (.pointer none) (pn b)).run Tryz.prog w = .ok false w := by
  have h : ∀ d : Nat, (Op.equalIn (d + 1) 25 (.pointer none) (pn b)).run Tryz.prog w = .ok false w := fun d => by
    simp [Op.equalIn, pn, run_underlying Tryz.underlying25]
  simp [Op.equal, Op.maxDepth, h 9999]
theorem askNil (w : World) : ∀ (R : List PR) (k i : Nat), (Instr.findAsking 25 (.pointer none) ((R.zipIdx k).map fun p => ⟨pn p.1.b, p.1.v, p.2⟩) i).run Tryz.prog w = .ok none w
  | [], k, i => by simp [Instr.findAsking]
  | x :: R, k, i => by
    simp only [List.zipIdx_cons, List.map_cons, Instr.findAsking, Sem.run_bind, equal_nil, Result.andThen_ok, Bool.false_eq_true, if_false]
    exact askNil w R (k + 1) (i + 1)
theorem findNil (w : World) (R : List PR) : (Instr.findKey 25 (.pointer none) (pents R)).run Tryz.prog w = .ok none w := by
  cases R with
  | nil => simp [Instr.findKey, run_underlying Tryz.underlying25, pents, Instr.findNow]
  | cons x l =>
    have hnow : ∀ d, Instr.findNow (.pointer d) (.pointer none) (pents (x :: l)) 0 = none := fun d => by
      simp [pents, Instr.findNow, Instr.sameNow]
    simp only [Instr.findKey, Sem.run_bind, run_underlying Tryz.underlying25, Result.andThen_ok, hnow]
    exact askNil w (x :: l) 0 0
theorem look_nilkey {w : World} {g : Nat} {o : Option Nat} {R : List PR} (h : PB w g o R) : (Instr.lookup 80 (.map o) (.pointer none) false).run Tryz.prog w = .ok (.slice none 0 0) w := by
  cases o with
  | none => exact look_nilmap w _
  | some m =>
    have hs' : w.heap[m]? = some (.map (pents R).toArray R.length) := h.map m rfl
    have hz : ∀ w : World, (zeroValue 38).run Tryz.prog w = .ok (.slice none 0 0) w := fun w => by kernel_rfl
    simp only [Instr.lookup, Sem.run_bind, run_underlying Tryz.underlying80, Result.andThen_ok, MapKept.run_getObj_map hs', check_pn, findNil, hz, Sem.run_pure, Bool.false_eq_true, if_false]
/-- The pages of no node. -/
theorem of_niln {w : World} {g : Nat} {o : Option Nat} {R : List PR} (h : PB w g o R) :
    Calls Tryz.prog 36 #[.pointer (some ⟨g, 0, none⟩), .pointer none] w fun e w' => ∃ v, e = .returned v ∧ OwnI w' w.heap.size v [] ∧ Below w.heap.size w w' := by
  have hlk := look_nilkey h
  have c0 := cell_at h.box 0 (.map o) rfl
  go_enter Tryz.func36, Tryz.ntmps36
  go_wp2_with fail
  refine (cloneI_any none 0 0 [] w (Ls.nil _ _) rfl (by omega)).mono ?_
  rintro e w1 ⟨u, rfl, ho, hb1⟩
  go_wp2
  go_ret
  exact ⟨u, rfl, ho, hb1⟩
theorem own_niln {w : World} {g : Nat} {o : Option Nat} {R : List PR} (h : PB w g o R) :
    Calls Tryz.prog 51 #[.pointer (some ⟨g, 0, none⟩), .pointer none] w fun e w' => e = .returned (.int .i64 0) ∧ Below w.heap.size w w' := by
  have H := Lib.hid h
  clear h
  go_enter Tryz.func51, Tryz.ntmps51
  go_wp2_with fail
  refine (of_niln H.out).mono ?_
  rintro e w1 ⟨v, rfl, ho, hb1⟩
  obtain ⟨A, c, rfl, hc, hr⟩ := ho.form
  clear ho hr hc
  go_wp2
  go_ret
  exact ⟨rfl, hb1⟩

theorem TS.takes_full {σ : Type} (t : TS σ) : ∀ (n : Nat) (s : σ), (t.takes n s).2.1 = 0 → (t.takes n s).1.length = n
  | 0, s, _ => rfl
  | n + 1, s, h => by
    unfold TS.takes at h ⊢
    split at h
    · rename_i h0
      rw [if_pos h0]
      simp only [List.length_cons]
      rw [TS.takes_full t n _ h]
    · exact absurd h (by assumption)
theorem TS.takes_i64 {σ : Type} {t : TS σ} (ht : ∀ s, I64 (t.pg s)) : ∀ (n : Nat) (s : σ), ∀ x ∈ (t.takes n s).1, I64 x
  | 0, s, x, h => by cases h
  | n + 1, s, x, h => by
    unfold TS.takes at h
    split at h
    · rcases List.mem_cons.1 h with h | h
      · rw [h]
        exact ht s
      · exact TS.takes_i64 ht n _ x h
    · cases h
/-- What a plan keeps while it is made. -/
structure InvM {σ : Type} (L : List PN) (st : PS σ) : Prop where
  m : ∀ x ∈ st.M, x.2.length ≤ 100000 ∧ ∀ y ∈ x.2, I64 y
  f : ∀ P ∈ st.F, P ∈ L ∧ ∃ l, (P.b, l) ∈ st.M ∧ P.cost ≤ l.length
theorem InvM.step {σ : Type} {t : TS σ} {K : PM} {L : List PN} {st : PS σ} {P : PN} (h : InvM L st) (ht : ∀ s, I64 (t.pg s)) (hP : P ∈ L) (hc : P.cost ≤ 100000) (hK : (pgs K P.b).length ≤ 100000) (hI : ∀ x ∈ pgs K P.b, I64 x) : InvM L (stepP t K st P) := by
  have hgrow : ∀ l, ∀ Q ∈ st.F, Q ∈ L ∧ ∃ l', (Q.b, l') ∈ st.M ++ [(P.b, l)] ∧ Q.cost ≤ l'.length := fun l Q hQ => by
    obtain ⟨h1, l', h2, h3⟩ := h.f Q hQ
    exact ⟨h1, l', List.mem_append_left _ h2, h3⟩
  unfold stepP
  split
  · exact h
  · split
    · refine ⟨fun x hx => ?_, hgrow _⟩
      rcases List.mem_append.1 hx with hx | hx
      · exact h.m x hx
      · rw [List.mem_singleton.1 hx]
        exact ⟨hK, hI⟩
    · split
      · rename_i h0
        have hl := t.takes_full _ _ h0
        refine ⟨fun x hx => ?_, fun Q hQ => ?_⟩
        · rcases List.mem_append.1 hx with hx | hx
          · exact h.m x hx
          · rw [List.mem_singleton.1 hx]
            refine ⟨by simp only; rw [rot_len]; omega, fun y hy => TS.takes_i64 ht P.cost st.s y ?_⟩
            rcases List.mem_append.1 hy with hy | hy
            · exact List.mem_of_mem_drop hy
            · exact List.mem_of_mem_take hy
        · rcases List.mem_append.1 hQ with hQ | hQ
          · exact hgrow _ Q hQ
          · rw [List.mem_singleton.1 hQ]
            exact ⟨hP, _, List.mem_append_right _ (List.mem_singleton.2 rfl), by rw [rot_len]; omega⟩
      · exact ⟨h.m, h.f⟩
theorem InvM.fold {σ : Type} {t : TS σ} {K : PM} {L : List PN} (ht : ∀ s, I64 (t.pg s)) (hL : ∀ P ∈ L, P.cost ≤ 100000 ∧ (pgs K P.b).length ≤ 100000 ∧ ∀ x ∈ pgs K P.b, I64 x) : ∀ (L' : List PN) (st : PS σ), (∀ P ∈ L', P ∈ L) → InvM L st → InvM L (L'.foldl (stepP t K) st)
  | [], st, _, h => h
  | P :: L', st, hs, h => by
    obtain ⟨h1, h2, h3⟩ := hL P (hs P (List.mem_cons_self ..))
    exact InvM.fold ht hL L' _ (fun Q hQ => hs Q (List.mem_cons_of_mem _ hQ)) (h.step ht (hs P (List.mem_cons_self ..)) h1 h2 h3)
theorem pgs_all {M : PM} {p : List Int → Prop} (h0 : p []) (h : ∀ x ∈ M, p x.2) (b : Nat) : p (pgs M b) := by
  unfold pgs
  cases hf : M.find? (fun x => x.1 == b) with
  | none => exact h0
  | some x => exact h x (List.mem_of_find?_eq_some hf)
theorem PNAt'.cost {w : World} {P : PN} {N : NR} (h : PNAt' w P N) : P.cost ≤ 13 := by
  have h1 := pieces_le P.l
  have h2 := h.en
  have h3 := h.few.1
  unfold PN.cost
  omega

end Go.Proofs.YtelenboncejdaaaGreatDoor
