/-
  What a plan leans on (what gives pages, what stays known), and the contracts of plan.takeOne and takeFor; conditions stand at each.
-/
import Derived.Test.YtelenboncejdaaaGreatDoorShAll
import Derived.Test.YtelenboncejdaaaGreatDoorK12
import Derived.Defers
import Derived.Recover
namespace Go.Proofs.YtelenboncejdaaaGreatDoor
open Go.RowKit Go.Sort
open Rt (Fx Stp)
set_option linter.unusedVariables false
set_option linter.unusedSimpArgs false

/-- What a plan leans on: take's function (f, with its bound values), the blocks T that it may turn, what stays known (D), where take stands (I), the blocks of nodes that are known to lie in memory (nd). -/
structure Env (σ : Type) where
  t : TS σ
  f : Nat
  first : Array Value
  cap : Array Value
  base : Nat
  T : Nat → Prop
  D : World → Prop
  I : σ → World → Prop
  nd : Nat → Prop
  ent : ∀ args w, (callFunc f args).run Tryz.prog w = .ok (.enter f args) w
  tb : ∀ k, T k → k < base
  nk : ∀ W b, D W → nd b → ∃ N, NodeAt W b N
  dk : ∀ A B, D A → Fx A B → (∀ k, k < base → ¬ T k → B.heap[k]? = A.heap[k]?) → D B
  ik : ∀ s A B, I s A → Fx A B → (∀ k, T k → B.heap[k]? = A.heap[k]?) → I s B
  call : ∀ s W, I s W → D W → base ≤ W.heap.size → Calls Tryz.prog f (first ++ cap) W fun e W' => e = .returned (.tuple #[.int .i64 (t.pg s), .int .i64 (t.er s)]) ∧ I (t.nx s) W' ∧ D W' ∧ Stp T W T W'
def Env.fv {σ : Type} (E : Env σ) : Value := .func (.func E.f) E.first E.cap

theorem idleT (a b : Addr) (w : World) : CallsD Tryz.prog 144 #[.pointer (some a), .pointer (some b)] .returning w fun e u' w' => e = .returned (.tuple #[]) ∧ u' = .returning ∧ w' = w := by
  refine callsD_of_wpS Tryz.func144 rfl fun c₀ cs hu => ?_
  apply wpS_seq
  apply wpS_region
  simp [wpOpsS, go_sem, recoverD, hu, Tryz.ntmps144, Exit.thenS]
  refine wpS_cond (t := false) (by simp [Act.eval, Array.replicate]) ?_
  simp only [Bool.false_eq_true, if_false]
  refine wpS_of_wp (wp_skip ?_)
  cases c₀
  simp_all [bodyPostS, results, Tryz.results144]

theorem takeOne_any {σ : Type} (E : Env σ) {w : World} {pb : Nat} {u0 u2 u3 : Value} {s : σ} (hp : w.heap[pb]? = some (.cells #[u0, E.fv, u2, u3] 108 (0, 0))) (hI : E.I s w) (hD : E.D w) (hb : E.base ≤ w.heap.size) (hT : ∀ k, E.T k → k < w.heap.size) :
    Calls Tryz.prog 112 #[.pointer (some ⟨pb, 0, none⟩)] w fun e w' => e = .returned (.tuple #[.int .i64 (E.t.pg s), .int .i64 (E.t.er s)]) ∧ E.I (E.t.nx s) w' ∧ E.D w' ∧ Stp E.T w E.T w' := by
  obtain ⟨W, hW⟩ : ∃ W, W = (w.alloc (.cells #[.int .i64 0] 3)).alloc (.cells #[.int .i64 0] 31) := ⟨_, rfl⟩
  have hbW : Below w.heap.size w W := by rw [hW]; exact ((Below.refl _ _).alloc (Nat.le_refl _) _).alloc (by simp) _
  have c1 := cell_at ((hbW.block pb (lt_of_block hp)).trans hp) 1 E.fv rfl
  have e1 : (w.alloc (.cells #[.int .i64 0] 3)).heap.size = w.heap.size + 1 := by simp
  have hx0 : W.heap[w.heap.size]? = some (.cells #[.int .i64 0] 3 (0, 0)) := by rw [hW, heap_alloc_old _ _ (by simp), heap_alloc_new]
  have hx1 : W.heap[w.heap.size + 1]? = some (.cells #[.int .i64 0] 31 (0, 0)) := by rw [hW, ← e1, heap_alloc_new]
  have hIW : E.I s W := E.ik s w W hI (Fx.below hbW) fun k hk => hbW.block k (hT k hk)
  have hDW : E.D W := E.dk w W hD (Fx.below hbW) fun k hk _ => hbW.block k (by omega)
  have hent := E.ent
  have hcall := E.call s W hIW hDW (Nat.le_trans hb hbW.size)
  have HBW := Lib.hid hbW
  have HX0 := Lib.hid hx0
  have HX1 := Lib.hid hx1
  have HT := Lib.hid hT
  have HB := Lib.hid hb
  have HW := Lib.hid hW
  unfold Env.fv at c1
  clear hp hI hD hIW hDW hbW hx0 hx1 hW e1 hT
  rw [HW.out] at c1
  go_enter_defers Tryz.func112, Tryz.ntmps112
  go_wp2_with fail
  rw [← HW.out]
  refine hcall.mono ?_
  rintro e W1 ⟨rfl, hI1, hD1, hS1⟩
  have y0 : W1.heap[w.heap.size]? = some (.cells #[.int .i64 0] 3 (0, 0)) := (hS1.same _ (Rt.at_lt HX0.out) fun h => by have := HT.out _ h; omega).trans HX0.out
  have y1 : W1.heap[w.heap.size + 1]? = some (.cells #[.int .i64 0] 31 (0, 0)) := (hS1.same _ (Rt.at_lt HX1.out) fun h => by have := HT.out _ h; omega).trans HX1.out
  have q0 := cell_at y0 0 (.int .i64 0) rfl
  have q1 := cell_at y1 0 (.int .i64 0) rfl
  have f0 := free_at y0 0
  have f1 := free_at y1 0
  obtain ⟨p, hp⟩ : ∃ p, p = E.t.pg s := ⟨_, rfl⟩
  obtain ⟨er, her⟩ : ∃ er, er = E.t.er s := ⟨_, rfl⟩
  rw [← hp, ← her]
  have HI1 := Lib.hid hI1
  have HD1 := Lib.hid hD1
  have HS1 := Lib.hid hS1
  have HP := Lib.hid hp
  have HER := Lib.hid her
  clear hI1 hD1 hS1 hcall c1 hp her
  have HY0 := Lib.hid y0
  have HY1 := Lib.hid y1
  clear y0 y1
  go_wp2
  have hz : w.heap.size ≠ w.heap.size + 1 := by omega
  have z0 : ((W1.setCell ⟨w.heap.size, 0, none⟩ (.int .i64 p)).setCell ⟨w.heap.size + 1, 0, none⟩ (.int .i64 er)).heap[w.heap.size]? = some (.cells #[.int .i64 p] 3 (0, 0)) := by
    rw [Below.heap_setCell _ _ _ _ (by simp)]
    exact blk_set HY0.out 0 _
  have z1 : ((W1.setCell ⟨w.heap.size, 0, none⟩ (.int .i64 p)).setCell ⟨w.heap.size + 1, 0, none⟩ (.int .i64 er)).heap[w.heap.size + 1]? = some (.cells #[.int .i64 er] 31 (0, 0)) := by
    have h1 : (W1.setCell ⟨w.heap.size, 0, none⟩ (.int .i64 p)).heap[w.heap.size + 1]? = some (.cells #[.int .i64 0] 31 (0, 0)) := by
      rw [Below.heap_setCell _ _ _ _ (by simp)]
      exact HY1.out
    exact blk_set h1 0 _
  have hS : Stp E.T w E.T ((W1.setCell ⟨w.heap.size, 0, none⟩ (.int .i64 p)).setCell ⟨w.heap.size + 1, 0, none⟩ (.int .i64 er)) := by
    have h1 := (Stp.of_below HBW.out HT.out).trans HS1.out
    exact ⟨⟨h1.fx.os, h1.fx.tape, h1.fx.output, by simpa [World.setCell] using h1.fx.size⟩, h1.own, fun k hk => by simpa [World.setCell] using h1.lt k hk, fun k hk hn => by
      rw [Below.heap_setCell _ _ _ _ (by simp only; omega), Below.heap_setCell _ _ _ _ (by simp only; omega)]
      exact h1.same k hk hn⟩
  have hSW : ∀ k, k < w.heap.size → ((W1.setCell ⟨w.heap.size, 0, none⟩ (.int .i64 p)).setCell ⟨w.heap.size + 1, 0, none⟩ (.int .i64 er)).heap[k]? = W1.heap[k]? := fun k hk => by
    rw [Below.heap_setCell _ _ _ _ (by simp only; omega), Below.heap_setCell _ _ _ _ (by simp only; omega)]
  have hfx : Fx W1 ((W1.setCell ⟨w.heap.size, 0, none⟩ (.int .i64 p)).setCell ⟨w.heap.size + 1, 0, none⟩ (.int .i64 er)) := ⟨rfl, rfl, rfl, by simp [World.setCell]⟩
  generalize (W1.setCell ⟨w.heap.size, 0, none⟩ (.int .i64 p)).setCell ⟨w.heap.size + 1, 0, none⟩ (.int .i64 er) = W2 at *
  have k0 := cell_at z0 0 (.int .i64 p) rfl
  have k1 := cell_at z1 0 (.int .i64 er) rfl
  have HI2 := Lib.hid (E.ik _ W1 W2 HI1.out hfx fun k hk => hSW k (HT.out k hk))
  have HD2 := Lib.hid (E.dk W1 W2 HD1.out hfx fun k hk _ => hSW k (by omega))
  have HS2 := Lib.hid hS
  clear hS hSW hfx z0 z1 hz
  refine leaves_cons (f := 144) (args := #[.pointer (some ⟨w.heap.size, 0, none⟩), .pointer (some ⟨w.heap.size + 1, 0, none⟩)]) (by simp) (by simp [go_sem]) ?_
  refine (idleT _ _ _).mono ?_
  rintro e u' w'' ⟨rfl, rfl, rfl⟩
  simp [Leaves, settle, results, Tryz.results112, go_sem, k0, k1]
  exact ⟨⟨HP.out, HER.out⟩, HI2.out, HD2.out, HS2.out⟩

end Go.Proofs.YtelenboncejdaaaGreatDoor
