/-
  The contract of shadow.Plan: the writes, where nodes are then, the page of the root; or the first error; conditions: the tree lies in memory, what gives pages keeps to its blocks.
-/
import Derived.Test.YtelenboncejdaaaGreatDoorShNilN
namespace Go.Proofs.YtelenboncejdaaaGreatDoor
open Go.RowKit Go.Sort
open Rt (Fx Stp)
set_option linter.unusedVariables false
set_option linter.unusedSimpArgs false

/-- A root's pointer; its page. -/
def rv (nb : Option Nat) : Value := .pointer (nb.map fun b => ⟨b, 0, none⟩)
def rootP (M : PM) : Option Nat → Int
  | none => 0
  | some b => ownP M b
/-- A root whose nodes can be placed. -/
def NodeArg {σ : Type} (E : Env σ) (kv : Value) (K : PM) (nb : Option Nat) (L : List PN) : Prop :=
  (nb = none ∧ L = []) ∨ ∃ b, nb = some b ∧ (∀ W, E.D W → ∃ N, NodeAt W b N) ∧ ∀ pb gb mb, PlaceOk E kv K pb gb mb b L
/-- What Plan answers where all goes well. -/
structure Planned {σ : Type} (E : Env σ) (w : World) (st : PS σ) (nb : Option Nat) (e : Ending) (W : World) : Prop where
  ok : ∀ d ∈ allDrafts st.M st.F, okPage d.2
  out : ∃ v g m R ws, e = .returned (.tuple #[v, .pointer (some ⟨g, 0, none⟩), .int .i64 (rootP st.M nb), .int .i64 0]) ∧ PB W g (some m) R ∧ Mof R = st.M ∧ w.heap.size ≤ g ∧ w.heap.size ≤ m ∧ OwnW W w.heap.size v ws ∧
    ws.map WR.pr = (allDrafts st.M st.F).map encOf ∧ ∀ x ∈ ws, WOk W w.heap.size x
/-- What Plan answers. -/
def PlanPost {σ : Type} (E : Env σ) (w : World) (st : PS σ) (nb : Option Nat) (e : Ending) (w' : World) : Prop :=
  E.I st.s w' ∧ E.D w' ∧ Stp E.T w E.T w' ∧
  ((st.e = 0 ∧ Planned E w st nb e w') ∨
   (st.e = 0 ∧ (∃ d ∈ allDrafts st.M st.F, ¬ okPage d.2) ∧ e = .returned (.tuple #[.slice none 0 0, .pointer none, .int .i64 0, .int .i64 1])) ∨
   (st.e ≠ 0 ∧ e = .returned (.tuple #[.slice none 0 0, .pointer none, .int .i64 0, .int .i64 st.e])))

/-- A step of the plan's blocks is one of those that give pages. -/
theorem stp_low {σ : Type} {E : Env σ} {pb mb : Nat} {v v' : Value} {w A B : World} (hbA : Below w.heap.size w A) (hT : ∀ k, E.T k → k < w.heap.size) (hs : Stp (XS E pb mb v) A (XS E pb mb v') B) (hpb : w.heap.size ≤ pb) (hmb : w.heap.size ≤ mb) (hv : v.ownBlock = none) : Stp E.T w E.T B := by
  refine ⟨⟨hs.fx.os.trans hbA.os, hs.fx.tape.trans hbA.tape, hs.fx.output.trans hbA.output, Nat.le_trans hbA.size hs.fx.size⟩, fun _ _ h => h, fun k hk => Nat.lt_of_lt_of_le (hT k hk) (Nat.le_trans hbA.size hs.fx.size), fun k hk hn => ?_⟩
  refine (hs.same k (Nat.lt_of_lt_of_le hk hbA.size) ?_).trans (hbA.block k hk)
  rintro (rfl | rfl | h | h)
  · omega
  · omega
  · exact hn h
  · rw [hv] at h
    cases h

theorem results_tmp4 {fn : Func} {t u v x : Tmp} (h : fn.results = #[.tmp t, .tmp u, .tmp v, .tmp x]) (tmps : Array Value) (P : Program) (w : World) :
    (results fn tmps).run P w = .ok (.tuple #[tmps.getD t undef, tmps.getD u undef, tmps.getD v undef, tmps.getD x undef]) w := by
  simp [results, h]

set_option maxHeartbeats 4000000 in
set_option maxRecDepth 100000 in
theorem plan_any {σ : Type} (E : Env σ) {w : World} {kv : Value} {K : PM} {s : σ} {nb : Option Nat} {L : List PN} (hI : E.I s w) (hD : E.D w) (hb : E.base ≤ w.heap.size) (hK : ∀ W, E.D W → PgIs W kv K) (hH : ∀ W, E.D W → Half W) (hN : NodeArg E kv K nb L)
    (hL : ∀ P ∈ L, (∀ W, E.D W → PNAt W P) ∧ (pgs K P.b).length ≤ 100000 ∧ ∀ x ∈ pgs K P.b, I64 x) (hno : (L.map (·.b)).Nodup) (hfew : L.length ≤ 5000) (hpg : ∀ s, I64 (E.t.pg s)) :
    Calls Tryz.prog 18 #[rv nb, kv, E.fv] w (PlanPost E w (L.foldl (stepP E.t K) ⟨[], [], s, 0⟩) nb) := by
  obtain ⟨kp, rfl⟩ : ∃ kp, kv = .pointer kp := by
    rcases hK w hD with ⟨h, _⟩ | ⟨g, o, R, h, _⟩
    · exact ⟨_, h⟩
    · exact ⟨_, h⟩
  have hT : ∀ k, E.T k → k < w.heap.size := fun k hk => Nat.lt_of_lt_of_le (E.tb k hk) hb
  have hinv : InvM L (L.foldl (stepP E.t K) (⟨[], [], s, 0⟩ : PS σ)) := InvM.fold hpg (fun P hP => ⟨by
    obtain ⟨N, hN⟩ := (hL P hP).1 w hD
    have := hN.cost
    omega, (hL P hP).2⟩) L _ (fun P hP => hP) ⟨fun x hx => (by cases hx), fun P hP => (by cases hP)⟩
  have hkeys := foldP_keys (t := E.t) (K := K) L (⟨[], [], s, 0⟩ : PS σ)
  have hfl := foldP_few E.t K L (⟨[], [], s, 0⟩ : PS σ)
  obtain ⟨st, hst⟩ : ∃ st, st = L.foldl (stepP E.t K) (⟨[], [], s, 0⟩ : PS σ) := ⟨_, rfl⟩
  rw [← hst] at hinv hkeys hfl ⊢
  have HI := Lib.hid hI
  have HD := Lib.hid hD
  have HB := Lib.hid hb
  have HN := Lib.hid hN
  have HL := Lib.hid hL
  have HNO := Lib.hid hno
  have HFEW := Lib.hid hfew
  have HINV := Lib.hid hinv
  have HKEYS := Lib.hid hkeys
  have HFL := Lib.hid hfl
  have HST := Lib.hid hst
  have HT := Lib.hid hT
  have HH := Lib.hid hH
  clear hI hD hb hK hN hL hno hfew hpg hinv hkeys hfl hst hT hH
  unfold rv Env.fv
  go_enter Tryz.func18, Tryz.ntmps18
  go_wp2_with fail
  refine (newS_any w).mono ?_
  rintro e w1 ⟨g, m, rfl, hpb1, hg, hm, hgm, hb1⟩
  have hbz : Below w.heap.size w (w1.alloc (.cells #[.pointer kp, E.fv, .pointer (some ⟨g, 0, none⟩), .slice none 0 0] 108)) := hb1.alloc hb1.size _
  have hbx := heap_alloc_new w1 (.cells #[.pointer kp, E.fv, .pointer (some ⟨g, 0, none⟩), .slice none 0 0] 108)
  have hplan : PlanAt E (.pointer kp) w1.heap.size g m ⟨[], [], s, 0⟩ (.slice none 0 0) (w1.alloc (.cells #[.pointer kp, E.fv, .pointer (some ⟨g, 0, none⟩), .slice none 0 0] 108)) :=
    ⟨hbx, ⟨[], hpb1.below ((Below.refl _ _).alloc (Nat.le_refl _) _), rfl, fun r hr => by cases hr⟩, OwnL.nil_ _ _ _, E.dk _ _ HD.out (Fx.below hbz) fun k hk _ => hbz.block k (Nat.lt_of_lt_of_le hk HB.out), E.ik _ _ _ HI.out (Fx.below hbz) fun k hk => hbz.block k (HT.out k hk),
      Nat.le_trans HB.out hb1.size, Nat.le_trans HB.out hg, Nat.le_trans HB.out hm, fun k hk => Nat.lt_of_lt_of_le (HT.out k hk) hbz.size, fun x hx => by cases hx⟩
  have hpl : Calls Tryz.prog 49 #[.pointer (some ⟨w1.heap.size, 0, none⟩), rv nb] (w1.alloc (.cells #[.pointer kp, E.fv, .pointer (some ⟨g, 0, none⟩), .slice none 0 0] 108)) (PlacePost E (.pointer kp) w1.heap.size g m (.slice none 0 0) (w1.alloc (.cells #[.pointer kp, E.fv, .pointer (some ⟨g, 0, none⟩), .slice none 0 0] 108)) st) := by
    rcases HN.out with ⟨rfl, rfl⟩ | ⟨b, rfl, _, hok⟩
    · refine (place_nil _ _).mono ?_
      rintro e w2 ⟨rfl, rfl⟩
      rw [HST.out]
      exact ⟨rfl, _, hplan, .refl hplan.xlt⟩
    · rw [HST.out]
      exact hok _ _ _ _ _ _ hplan rfl (by simpa using HNO.out) (by simpa using Nat.le_trans HFEW.out (by omega))
  have HG := Lib.hid hg
  have HM := Lib.hid hm
  have HBZ := Lib.hid hbz
  have HSZ := Lib.hid hb1.size
  unfold rv Env.fv at hpl
  clear hpb1 hg hm hgm hb1 hbz hbx hplan
  unfold Env.fv at HBZ
  go_wp2_with fail
  refine hpl.mono ?_
  rintro e w2 ⟨rfl, v', hpa, hstp⟩
  have HPA := Lib.hid hpa
  have HSTP := Lib.hid (stp_low HBZ.out HT.out hstp HSZ.out HM.out rfl)
  obtain ⟨er, her⟩ : ∃ er, er = st.e := ⟨_, rfl⟩
  have HER := Lib.hid her
  rw [← her]
  clear hpl hpa hstp her
  by_cases h0 : er = 0
  · have H0 : Hid (st.e = 0) := Lib.hid (by rw [← HER.out]; exact h0)
    have hfr := HPA.out.fresh
    obtain ⟨A, c, rfl, hc, hr⟩ := hfr.form
    have hbx2 := HPA.out.box
    rw [List.length_map] at hc hbx2
    obtain ⟨R, hR1, hR2, hR3⟩ := HPA.out.pg
    have hfl := HFL.out
    have hnd : (Mof R).map (·.1) = L.map (·.b) := by
      rw [hR2, HKEYS.out H0.out]
      rfl
    have hndp : ((Mof R).map (·.1)).Nodup := by
      rw [hnd]
      exact HNO.out
    have hw := writes_any (w := w2) (pb := w1.heap.size) (gb := g) (o := some m) (R := R) (A := A) (c := c) (n := st.F.length) (F := st.F) hbx2 (by exact hR1) hr rfl (by have := HFEW.out; simp at hfl; omega) (HH.out _ HPA.out.d)
      (fun P hP => by
        obtain ⟨h1, l, h2, h3⟩ := HINV.out.f P hP
        refine ⟨(HL.out P h1).1 _ HPA.out.d, ?_⟩
        rw [pgs_mem hndp (by rw [hR2]; exact h2)]
        exact h3)
      (fun b => pgs_all (p := fun l => l.length ≤ 1000000) (by simp) (fun x hx => Nat.le_trans (HINV.out.m x (by rw [← hR2]; exact hx)).1 (by omega)) b)
      (fun b => pgs_all (p := fun l => ∀ y ∈ l, I64 y) (by simp) (fun x hx => (HINV.out.m x (by rw [← hR2]; exact hx)).2) b)
    rw [hR2] at hw
    have HR1 := Lib.hid hR1
    have HR2 := Lib.hid hR2
    have HB2 : Hid (w.heap.size ≤ w2.heap.size) := Lib.hid HSTP.out.fx.size
    clear hbx2 hfr hc hr hR1 hR2 hR3 hfl hnd hndp
    subst h0
    go_wp2_with fail
    refine hw.mono ?_
    rintro e w3 (⟨hok, v, rfl, hat⟩ | ⟨hbad, rfl, hb3⟩)
    · obtain ⟨ws, hws1, hws2, hws3⟩ := hat.ws
      have hb3 := hat.bel
      have hS3 : Stp E.T w E.T w3 := HSTP.out.trans (Stp.of_below hb3 fun k hk => Nat.lt_of_lt_of_le (HT.out k hk) HB2.out)
      have hpl3 := HPA.out.below hb3
      have hPB3 := HR1.out.below hb3
      obtain ⟨W, hW⟩ : ∃ W, W = w3.drew := ⟨_, rfl⟩
      have hWb : Below w3.heap.size w3 W := by rw [hW]; exact ⟨rfl, rfl, rfl, Nat.le_refl _, fun k _ => rfl⟩
      have hPBW := hPB3.below hWb
      have hplW := hpl3.below hWb
      have hown : Calls Tryz.prog 51 #[.pointer (some ⟨g, 0, none⟩), rv nb] W fun e w' => e = .returned (.int .i64 (rootP st.M nb)) ∧ Below W.heap.size W w' := by
        rcases HN.out with ⟨rfl, _⟩ | ⟨b, rfl, hnode, _⟩
        · exact own_niln hPBW
        · obtain ⟨N, hNd⟩ := hnode W hplW.d
          have h := own_some hPBW hNd (by
            rw [HR2.out]
            exact pgs_all (p := fun l => l.length ≤ 1000000) (by simp) (fun x hx => Nat.le_trans (HINV.out.m x hx).1 (by omega)) b)
          rw [HR2.out] at h
          exact h
      have c2 : ∀ q : Dc.Past [] W, q.val.cell? ⟨w1.heap.size, 2, none⟩ = some (.pointer (some ⟨g, 0, none⟩)) := fun q => (q.ok.cell hplW.lt (by simp)).trans (cell_at hplW.box 2 _ rfl)
      have HFIN : Hid (∀ W', Below W.heap.size W W' → PlanPost E w st nb (.returned (.tuple #[v, .pointer (some ⟨g, 0, none⟩), .int .i64 (rootP st.M nb), .int .i64 0])) W') := Lib.hid (fun W' hB => by
        have h4 := hplW.below hB
        have hb4 : Below w3.heap.size w3 W' := hWb.trans (hB.mono hWb.size)
        refine ⟨h4.i, h4.d, hS3.trans (Stp.of_below hb4 fun k hk => Nat.lt_of_lt_of_le (HT.out k hk) (Nat.le_trans HB2.out hb3.size)), .inl ⟨H0.out, hok, v, g, m, R, ws, rfl, hPBW.below hB, HR2.out, HG.out, HM.out, ?_, hws2, fun x hx => ?_⟩⟩
        · exact (hws1.below hb4).mono HB2.out
        · exact ((hws3 x hx).below hb4).mono HB2.out)
      obtain ⟨rt, hrt⟩ : ∃ rt, rt = rootP st.M nb := ⟨_, rfl⟩
      rw [← hrt] at hown HFIN
      unfold rv at hown
      have HW := Lib.hid hW
      clear hw hok hat hws1 hws2 hws3 hb3 hS3 hpl3 hPB3 hW hWb hPBW hplW hrt
      go_wp2_with fail
      refine Dc.wp_region_segs 14 [] [([0, 1, 2, 3, 4, 5, 6, 7, 8, 9], 10)] [11, 12, 13, 14] (by kernel_rfl) (by kernel_rfl) (by kernel_rfl) (by kernel_rfl) (by kernel_rfl) (by intro c a d v w h; cases d <;> exact h) ?_
      rw [← HW.out]
      refine Dc.wpSegs_more ?_
      simp only [Dc.pick, List.getElem?_cons_zero, List.getElem?_cons_succ]
      repeat (first | go_big_quiet_step (fail) | quiet_step (fail))
      refine wpQuiet_nil ?_
      refine Dc.wpOp_heavy rfl (by rfl) (fun K hK => ?_)
      go_simp
      refine hown.mono ?_
      rintro e w4 ⟨rfl, hb4⟩
      have HF4 := Lib.hid (HFIN.out w4 hb4)
      refine hK _ _ (fun _ => Dc.But.of_below hb4) ?_
      clear hK K c2 hown hb4
      refine Dc.wpSegs_last ?_
      simp only [Dc.pick, List.getElem?_cons_zero, List.getElem?_cons_succ]
      repeat (first | go_big_quiet_step (fail) | quiet_step (fail))
      refine wpQuiet_nil ?_
      go_wp2
      (try simp only [Exit.inBlock, Exit.then]); refine bodyPost_ret (results_tmp4 rfl _ _ _) rfl ?_
      exact HF4.out
    · have hS3 : Stp E.T w E.T w3 := HSTP.out.trans (Stp.of_below hb3 fun k hk => Nat.lt_of_lt_of_le (HT.out k hk) HB2.out)
      have hpl3 := HPA.out.below hb3
      have HF : Hid (PlanPost E w st nb (.returned (.tuple #[.slice none 0 0, .pointer none, .int .i64 0, .int .i64 1])) w3) := Lib.hid ⟨hpl3.i, hpl3.d, hS3, .inr (.inl ⟨H0.out, hbad, rfl⟩)⟩
      clear hw hbad hb3 hS3 hpl3
      go_wp2
      (try simp only [Exit.inBlock, Exit.then]); refine bodyPost_ret (results_tmp4 rfl _ _ _) rfl ?_
      exact HF.out
  · have herb : (er != 0) = true := by simpa using h0
    have HF : Hid (PlanPost E w st nb (.returned (.tuple #[.slice none 0 0, .pointer none, .int .i64 0, .int .i64 er])) w2) := Lib.hid ⟨HPA.out.i, HPA.out.d, HSTP.out, .inr (.inr ⟨by rw [← HER.out]; exact h0, by rw [HER.out]⟩)⟩
    clear h0
    go_wp2
    (try simp only [Exit.inBlock, Exit.then]); refine bodyPost_ret (results_tmp4 rfl _ _ _) rfl ?_
    exact HF.out

end Go.Proofs.YtelenboncejdaaaGreatDoor
