/-
  A ledger's Take as what gives pages to a plan; the contract of Plan over a tree and a ledger; conditions: the tree, the known pages and the ledger lie in memory, the tree lay there before the ledger.
-/
import Derived.Test.YtelenboncejdaaaGreatDoorShRun
namespace Go.Proofs.YtelenboncejdaaaGreatDoor
open Go.RowKit Go.Sort
open Rt (Fx Stp)
set_option linter.unusedVariables false
set_option linter.unusedSimpArgs false

/-- What stays while a plan is made: all that lay in w0, but the ledger. -/
structure DL (w0 wb : World) (b : Nat) (W : World) : Prop where
  bel : Below wb.heap.size wb W
  size : w0.heap.size ≤ W.heap.size
  same : ∀ k, k < w0.heap.size → k ≠ b → W.heap[k]? = w0.heap[k]?
theorem Led.typed {w : World} {b n : Nat} {o v t : Nat → Bool} (h : Led w b n o v t) : ∃ cs, w.heap[b]? = some (.cells cs 133 (0, 0)) := by
  obtain ⟨cs, h1, _⟩ := h.box
  exact ⟨cs, h1⟩
/-- Known pages stay. -/
theorem PB.stay {w0 W : World} {b g : Nat} {o : Option Nat} {R : List PR} {cl : Array Value} (h : PB w0 g o R) (hb : w0.heap[b]? = some (.cells cl 133 (0, 0))) (hs : w0.heap.size ≤ W.heap.size) (hk : ∀ k, k < w0.heap.size → k ≠ b → W.heap[k]? = w0.heap[k]?) : PB W g o R := by
  have hc : ∀ {k : Nat} {cs : Array Value} {t : TypeId}, w0.heap[k]? = some (.cells cs t (0, 0)) → t ≠ 133 → W.heap[k]? = w0.heap[k]? := fun {k cs t} hk' ht => hk k (lt_of_block hk') fun e => by
    subst e
    rw [hb] at hk'
    cases hk'
    exact ht rfl
  refine ⟨(hc h.box (by decide)).trans h.box, h.none_, fun m hm => ?_, fun r hr => ?_⟩
  · have := h.map m hm
    exact (hk m this.lt fun e => this.ne hb e.symm).trans this
  · obtain ⟨h1, N, h2⟩ := h.rows r hr
    have h3 : w0.heap[r.b]? = some (.cells N.cells 103 (0, 0)) := h2
    exact ⟨h1.keep fun g hg _ => (own_cells h1 g hg).elim fun cur hcur => hc hcur (by decide), N, (hc h3 (by decide)).trans h3⟩
theorem PgIs.stay {w0 W : World} {b : Nat} {kv : Value} {K : PM} {cl : Array Value} (h : PgIs w0 kv K) (hb : w0.heap[b]? = some (.cells cl 133 (0, 0))) (hs : w0.heap.size ≤ W.heap.size) (hk : ∀ k, k < w0.heap.size → k ≠ b → W.heap[k]? = w0.heap[k]?) : PgIs W kv K := by
  rcases h with h | ⟨g, o, R, h1, h2, h3⟩
  · exact .inl h
  · exact .inr ⟨g, o, R, h1, h2.stay hb hs hk, h3⟩

theorem enter_run {P : Program} {f : FuncId} {fn : Func} {c : Code} (hf : P.funcs[f]? = some fn) (hname : (fn.name == "runtime.NumGoroutine") = false) (hb : fn.body = some c) (args : Array Value) (w : World) : (callFunc f args).run P w = .ok (.enter f args) w := by
  have h1 : fn.name ≠ "runtime.NumGoroutine" := by simpa using hname
  simp [callFunc, hf, h1, hb]
theorem take_ent (args : Array Value) (w : World) : (callFunc 30 args).run Tryz.prog w = .ok (.enter 30 args) w :=
  enter_run Tryz.func30 (by kernel_rfl) (by rfl) args w
/-- A ledger's Take. -/
def LdEnv (w0 wb : World) (b n : Nat) (hwb : wb.heap.size ≤ b) (hb : b < w0.heap.size) : Env Nat where
  t := ldT n
  f := 30
  first := #[.pointer (some ⟨b, 0, none⟩)]
  cap := #[]
  base := w0.heap.size
  T := fun k => k = b
  D := DL w0 wb b
  I := fun j W => Led W b n noMark noMark (tkn j)
  nd := fun x => ∃ N, NodeAt wb x N
  ent := take_ent
  tb := fun k hk => by subst hk; exact hb
  nk := fun W x hD ⟨N, hN⟩ => ⟨N, hN.below hD.bel⟩
  dk := fun A B hD hf hk => ⟨⟨hf.os.trans hD.bel.os, hf.tape.trans hD.bel.tape, hf.output.trans hD.bel.output, Nat.le_trans hD.bel.size hf.size, fun k hlt => (hk k (by omega) (by omega)).trans (hD.bel.block k hlt)⟩, Nat.le_trans hD.size hf.size, fun k hlt hn => (hk k hlt hn).trans (hD.same k hlt hn)⟩
  ik := fun j A B hI hf hk => hI.block (hk b rfl)
  call := fun j W hI hD hsz => by
    refine (ldTake_any hI).mono ?_
    intro e W' hp
    unfold LdTakePost at hp
    rw [least_tkn] at hp
    unfold ldT
    by_cases h : j + 2 < n
    · rw [if_pos h] at hp
      obtain ⟨rfl, hl, hk⟩ := hp
      simp only [if_pos h]
      refine ⟨trivial, by rw [tkn_succ] at hl; exact hl, ⟨⟨hk.os.trans hD.bel.os, hk.tape.trans hD.bel.tape, hk.output.trans hD.bel.output, Nat.le_trans hD.bel.size hk.size, fun k hlt => (hk.block k (Nat.lt_of_lt_of_le hlt hD.bel.size) (by omega)).trans (hD.bel.block k hlt)⟩, Nat.le_trans hD.size hk.size, fun k hlt hn => (hk.block k (by have := hD.size; omega) hn).trans (hD.same k hlt hn)⟩, ⟨⟨hk.os, hk.tape, hk.output, hk.size⟩, fun _ _ h => h, fun k hk' => by subst hk'; exact hl.lt, hk.block⟩⟩
    · rw [if_neg h] at hp
      obtain ⟨rfl, rfl⟩ := hp
      simp only [if_neg h]
      exact ⟨trivial, hI, hD, ⟨⟨rfl, rfl, rfl, Nat.le_refl _⟩, fun _ _ h => h, fun k hk' => by subst hk'; exact hI.lt, fun _ _ _ => rfl⟩⟩

/-- A tree's nodes in the order in which they are written. -/
def PrT (w : World) (T : TO) (L : List PN) : Prop := match T with
  | none => L = []
  | some x => Pr w x.1 x.2 L
theorem PrT.below {w w' : World} {T : TO} {L : List PN} (h : PrT w T L) (hb : Below w.heap.size w w') : PrT w' T L := by
  cases T with
  | none => exact h
  | some x => exact Pr.below h hb
theorem TreeIs.pr {w : World} {T : TO} (h : TreeIs w T) : ∃ L, PrT w T L := by
  cases T with
  | none => exact ⟨[], rfl⟩
  | some x => exact (h x rfl).pr
theorem PrT.nodup {w : World} {T : TO} {L : List PN} (h : PrT w T L) : (L.map (·.b)).Nodup := by
  cases T with
  | none =>
    have h : L = [] := h
    rw [h]
    exact List.nodup_nil
  | some x => exact Pr.nodup (h := x.1) (s := x.2) h
theorem PrT.at_ {w : World} {T : TO} {L : List PN} (h : PrT w T L) : ∀ P ∈ L, PNAt w P := by
  cases T with
  | none =>
    have h : L = [] := h
    rw [h]
    intro P hP
    cases hP
  | some x => exact Pr.at_ (h := x.1) (s := x.2) h
theorem PrT.count {w : World} {T : TO} {L : List PN} (h : PrT w T L) : 4 * L.length ≤ 3 * (tl T).length + 1 ∧ costs L = pieces (tl T) + L.length := by
  cases T with
  | none =>
    have h : L = [] := h
    rw [h]
    exact ⟨by simp, rfl⟩
  | some x => exact ⟨(Pr.count (h := x.1) (s := x.2) h).1, Pr.costs (h := x.1) (s := x.2) h⟩
theorem PrT.le {w : World} {T : TO} {L : List PN} (h : PrT w T L) : 4 * costs L ≤ 11 * (tl T).length + 1 ∧ L.length ≤ (tl T).length + 1 := by
  have h1 := h.count
  have h2 := pieces_le (tl T)
  omega
/-- A root's block. -/
def tn (T : TO) : Option Nat := T.map (·.2.b)
theorem tb_rv (T : TO) : tb T = rv (tn T) := by
  cases T <;> rfl

/-- Plan of a tree over a ledger. -/
theorem planL_any {w wb : World} {T : TO} {L : List PN} {b n j : Nat} {kv : Value} {K : PM} (hT : PrT wb T L) (hw : Below wb.heap.size wb w) (hwb : wb.heap.size ≤ b) (hd : Led w b n noMark noMark (tkn j)) (hK : PgIs w kv K) (hKl : ∀ k, (pgs K k).length ≤ 100000 ∧ ∀ x ∈ pgs K k, I64 x) (hh : Half wb) (hfew : (tl T).length ≤ 4000) :
    Calls Tryz.prog 18 #[tb T, kv, .func (.func 30) #[.pointer (some ⟨b, 0, none⟩)] #[]] w (PlanPost (LdEnv w wb b n hwb hd.lt) w (L.foldl (stepP (ldT n) K) ⟨[], [], j, 0⟩) (tn T)) := by
  obtain ⟨cl, hcl⟩ := hd.typed
  have hD : DL w wb b w := ⟨hw, Nat.le_refl _, fun _ _ _ => rfl⟩
  have hKK : ∀ W, DL w wb b W → PgIs W kv K := fun W h => hK.stay hcl h.size h.same
  have hL : ∀ P ∈ L, (∀ W, DL w wb b W → PNAt W P) ∧ (pgs K P.b).length ≤ 100000 ∧ ∀ x ∈ pgs K P.b, I64 x := fun P hP => ⟨fun W h => (hT.at_ P hP).below h.bel, hKl P.b⟩
  rw [tb_rv]
  refine plan_any (LdEnv w wb b n hwb hd.lt) (s := j) (nb := tn T) (K := K) hd hD (Nat.le_refl _) hKK (fun W h => hh.below h.bel) ?_ hL hT.nodup (by have := hT.le; omega) (ldT_i64 n hd.small)
  cases T with
  | none => exact .inl ⟨rfl, hT⟩
  | some x =>
    obtain ⟨h, s⟩ := x
    have hp : Pr wb h s L := hT
    refine .inr ⟨s.b, rfl, fun W hW => ⟨s.N, hp.tr.at_.below hW.bel⟩, fun pb gb mb => place_tr hKK h s L hp fun P hP => ⟨(hL P hP).1, ?_, (hL P hP).2.1⟩⟩
    obtain ⟨N, hN⟩ := hT.at_ P hP
    exact ⟨N, hN.at_⟩

end Go.Proofs.YtelenboncejdaaaGreatDoor
