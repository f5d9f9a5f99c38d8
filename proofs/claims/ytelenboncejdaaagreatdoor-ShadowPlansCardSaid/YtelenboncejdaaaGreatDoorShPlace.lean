/-
  The contract of plan.place: the nodes of a tree are placed, each behind its kids; conditions: the tree lies in memory, what gives pages keeps to its blocks.
-/
import Derived.Test.YtelenboncejdaaaGreatDoorShTree
namespace Go.Proofs.YtelenboncejdaaaGreatDoor
open Go.RowKit Go.Sort
open Rt (Fx Stp)
set_option linter.unusedVariables false
set_option linter.unusedSimpArgs false

/-- The blocks that a plan may turn. -/
def XS {σ : Type} (E : Env σ) (pb mb : Nat) (v : Value) : Nat → Prop := fun k => k = pb ∨ k = mb ∨ E.T k ∨ v.ownBlock = some k
/-- A plan in memory. -/
structure PlanAt {σ : Type} (E : Env σ) (kv : Value) (pb gb mb : Nat) (st : PS σ) (v : Value) (W : World) : Prop where
  box : W.heap[pb]? = some (.cells #[kv, E.fv, .pointer (some ⟨gb, 0, none⟩), v] 108 (0, 0))
  pg : ∃ R, PB W gb (some mb) R ∧ Mof R = st.M ∧ ∀ r ∈ R, OwnI W E.base r.v r.l
  fresh : OwnP W E.base v (st.F.map fun P => some P.b)
  d : E.D W
  i : E.I st.s W
  bp : E.base ≤ pb
  bg : E.base ≤ gb
  bm : E.base ≤ mb
  it : ∀ k, E.T k → k < W.heap.size
  keys : ∀ x ∈ st.M, E.nd x.1
section
variable {σ : Type} {E : Env σ} {kv : Value} {pb gb mb : Nat} {st : PS σ} {v : Value} {W W' : World}
theorem PlanAt.lt (h : PlanAt E kv pb gb mb st v W) : pb < W.heap.size := lt_of_block h.box
theorem PlanAt.bW (h : PlanAt E kv pb gb mb st v W) : E.base ≤ W.heap.size := Nat.le_of_lt (Nat.lt_of_le_of_lt h.bp h.lt)
theorem PlanAt.xlt (h : PlanAt E kv pb gb mb st v W) : ∀ k, XS E pb mb v k → k < W.heap.size := by
  rintro k (rfl | rfl | hk | hk)
  · exact h.lt
  · obtain ⟨R, hR, _⟩ := h.pg
    exact (hR.map _ rfl).lt
  · exact h.it k hk
  · exact h.fresh.lt k hk
theorem PlanAt.notT (h : PlanAt E kv pb gb mb st v W) {k : Nat} (hk : E.base ≤ k) : ¬ E.T k := fun ht => by
  have := E.tb k ht
  omega
theorem PlanAt.below (h : PlanAt E kv pb gb mb st v W) (hb : Below W.heap.size W W') : PlanAt E kv pb gb mb st v W' := by
  obtain ⟨R, h1, h2, h3⟩ := h.pg
  exact ⟨(hb.block _ h.lt).trans h.box, ⟨R, h1.below hb, h2, fun r hr => (h3 r hr).below hb⟩, h.fresh.below hb, E.dk W W' h.d (Fx.below hb) fun k hk _ => hb.block k (Nat.lt_of_lt_of_le hk h.bW), E.ik _ W W' h.i (Fx.below hb) fun k hk => hb.block k (h.it k hk), h.bp, h.bg, h.bm, fun k hk => Nat.lt_of_lt_of_le (h.it k hk) hb.size, h.keys⟩
/-- What gives pages has gone on. -/
theorem PlanAt.take (h : PlanAt E kv pb gb mb st v W) {s' : σ} (hS : Stp E.T W E.T W') (hi : E.I s' W') (hd : E.D W') : PlanAt E kv pb gb mb ⟨st.M, st.F, s', st.e⟩ v W' := by
  obtain ⟨R, h1, h2, h3⟩ := h.pg
  have hk : ∀ k, k < W.heap.size → E.base ≤ k → W'.heap[k]? = W.heap[k]? := fun k hk hb => hS.same k hk (h.notT hb)
  have hr : ∀ r ∈ R, OwnI W' E.base r.v r.l := fun r hr => (h3 r hr).keep fun g hg hlt => hk g hlt ((h3 r hr).at_block g hg)
  refine ⟨(hk pb h.lt h.bp).trans h.box, ⟨R, ⟨(hk gb (lt_of_block h1.box) h.bg).trans h1.box, h1.none_, fun m hm => ?_, fun r hr' => ⟨(hr r hr').mono (Nat.zero_le _), ?_⟩⟩, h2, hr⟩, h.fresh.keep fun g hg hlt => hk g hlt (h.fresh.at_block g hg), hd, hi, h.bp, h.bg, h.bm, hS.lt, h.keys⟩
  · cases hm
    exact (hk mb (h1.map _ rfl).lt h.bm).trans (h1.map _ rfl)
  · exact E.nk W' _ hd (h.keys (r.b, r.l) (h2 ▸ List.mem_map.2 ⟨r, hr', rfl⟩))
theorem PlanAt.node (h : PlanAt E kv pb gb mb st v W) {b : Nat} (hb : E.nd b) : ∃ N, NodeAt W b N := E.nk W b h.d hb
/-- A node more is fresh. -/
theorem PlanAt.push (h : PlanAt E kv pb gb mb st v W) {P : PN} {v' : Value} {w2 : World}
    (hown : OwnP w2 E.base v' ((st.F.map fun P => some P.b) ++ [some P.b])) (hg : (W.alloc (.cells (pcP (some P.b)).toArray 25)).grownBy w2 v.ownBlock) (hob : v'.ownBlock = v.ownBlock ∨ v'.ownBlock = some (W.alloc (.cells (pcP (some P.b)).toArray 25)).heap.size) :
    PlanAt E kv pb gb mb ⟨st.M, st.F ++ [P], st.s, st.e⟩ v' (w2.setCell ⟨pb, 3, none⟩ v') ∧ Stp (XS E pb mb v) W (XS E pb mb v') (w2.setCell ⟨pb, 3, none⟩ v') := by
  have hbz : Below W.heap.size W (W.alloc (.cells (pcP (some P.b)).toArray 25)) := (Below.refl _ _).alloc (Nat.le_refl _) _
  have hne : ∀ {k : Nat} {cs : Array Value} {t : TypeId}, W.heap[k]? = some (.cells cs t (0, 0)) → t ≠ 25 → v.ownBlock ≠ some k := fun {k cs t} hk ht e => by
    obtain ⟨cur, hc⟩ := own_cells h.fresh k e
    rw [hk] at hc
    cases hc
    exact ht rfl
  have hk2 : ∀ k, k < W.heap.size → v.ownBlock ≠ some k → w2.heap[k]? = W.heap[k]? := fun k hk hn => (hg.block k (Nat.lt_of_lt_of_le hk hbz.size) fun e => hn e.symm).trans (hbz.block k hk)
  have hk3 : ∀ k, k < W.heap.size → v.ownBlock ≠ some k → k ≠ pb → (w2.setCell ⟨pb, 3, none⟩ v').heap[k]? = W.heap[k]? := fun k hk hn hp => (Below.heap_setCell _ _ _ _ hp).trans (hk2 k hk hn)
  have hsz : W.heap.size ≤ (w2.setCell ⟨pb, 3, none⟩ v').heap.size := by
    have := Nat.le_trans hbz.size hg.size
    simpa [World.setCell] using this
  have hfx : Fx W (w2.setCell ⟨pb, 3, none⟩ v') := ⟨hg.os.trans hbz.os, hg.tape.trans hbz.tape, hg.output.trans hbz.output, hsz⟩
  have hlow : ∀ k, k < E.base → (w2.setCell ⟨pb, 3, none⟩ v').heap[k]? = W.heap[k]? := fun k hk => hk3 k (Nat.lt_of_lt_of_le hk h.bW) (fun e => by have := h.fresh.at_block k e; omega) (by have := h.bp; omega)
  obtain ⟨R, h1, h2, h3⟩ := h.pg
  have hbp := hne h.box (by decide)
  have hpb2 : w2.heap[pb]? = some (.cells #[kv, E.fv, .pointer (some ⟨gb, 0, none⟩), v] 108 (0, 0)) := (hk2 pb h.lt hbp).trans h.box
  have hnp : ∀ {k : Nat} {cs : Array Value} {t : TypeId}, W.heap[k]? = some (.cells cs t (0, 0)) → t ≠ 108 → k ≠ pb := fun {k cs t} hk ht e => by
    subst e
    rw [h.box] at hk
    cases hk
    exact ht rfl
  have hmk : mb ≠ pb ∧ v.ownBlock ≠ some mb := by
    have hm := h1.map _ rfl
    refine ⟨fun e => hm.ne h.box e.symm, fun e => ?_⟩
    obtain ⟨cur, hc⟩ := own_cells h.fresh mb e
    exact hm.ne hc rfl
  have hr : ∀ r ∈ R, OwnI (w2.setCell ⟨pb, 3, none⟩ v') E.base r.v r.l := fun r hr => (h3 r hr).keep fun g hg' hlt => by
    obtain ⟨cur, hc⟩ := own_cells (h3 r hr) g hg'
    exact hk3 g hlt (hne hc (by decide)) (hnp hc (by decide))
  have hD : E.D (w2.setCell ⟨pb, 3, none⟩ v') := E.dk W _ h.d hfx fun k hk _ => hlow k hk
  have hown2 : OwnP (w2.setCell ⟨pb, 3, none⟩ v') E.base v' ((st.F.map fun P => some P.b) ++ [some P.b]) := hown.keep fun g hg' hlt => Below.heap_setCell _ _ _ _ (by
    obtain ⟨cur, hc⟩ := own_cells hown g hg'
    intro e
    simp only at e
    subst e
    rw [hpb2] at hc
    cases hc)
  have hplan : PlanAt E kv pb gb mb ⟨st.M, st.F ++ [P], st.s, st.e⟩ v' (w2.setCell ⟨pb, 3, none⟩ v') := by
    refine ⟨blk_set hpb2 3 v', ⟨R, ⟨(hk3 gb (lt_of_block h1.box) (hne h1.box (by decide)) (hnp h1.box (by decide))).trans h1.box, h1.none_, fun m hm => ?_, fun r hr' => ⟨(hr r hr').mono (Nat.zero_le _), E.nk _ _ hD (h.keys (r.b, r.l) (h2 ▸ List.mem_map.2 ⟨r, hr', rfl⟩))⟩⟩, h2, hr⟩, ?_, hD, E.ik _ W _ h.i hfx fun k hk => hlow k (E.tb k hk), h.bp, h.bg, h.bm, fun k hk => Nat.lt_of_lt_of_le (h.it k hk) hsz, h.keys⟩
    · cases hm
      exact (hk3 mb (h1.map _ rfl).lt hmk.2 hmk.1).trans (h1.map _ rfl)
    · rw [List.map_append]
      exact hown2
  refine ⟨hplan, ⟨hfx, ?_, hplan.xlt, fun k hk hn => hk3 k hk (fun e => hn (.inr (.inr (.inr e)))) fun e => hn (.inl e)⟩⟩
  rintro k hk (rfl | rfl | hk' | hk')
  · exact .inl rfl
  · exact .inr (.inl rfl)
  · exact .inr (.inr (.inl hk'))
  · rcases hob with e | e
    · exact .inr (.inr (.inr (e ▸ hk')))
    · rw [e] at hk'
      cases hk'
      simp at hk
      omega
theorem PlanAt.boxed (h : PlanAt E kv pb gb mb st v W) {x : Array Value} {t : TypeId} {w2 : World} (hg : (W.alloc (.cells x t)).grownBy w2 v.ownBlock) : w2.heap[pb]? = some (.cells #[kv, E.fv, .pointer (some ⟨gb, 0, none⟩), v] 108 (0, 0)) := by
  have hbz : Below W.heap.size W (W.alloc (.cells x t)) := (Below.refl _ _).alloc (Nat.le_refl _) _
  refine ((hg.block pb (Nat.lt_of_lt_of_le h.lt hbz.size) fun e => ?_).trans (hbz.block pb h.lt)).trans h.box
  obtain ⟨cur, hc⟩ := own_cells h.fresh pb e.symm
  rw [h.box] at hc
  cases hc
/-- The pages of a node are recorded. -/
theorem PlanAt.add (h : PlanAt E kv pb gb mb st v W) {b : Nat} {u : Value} {l : List Int} {R : List PR} (hR : Mof R = st.M) (hrw : ∀ r ∈ R, OwnI W E.base r.v r.l) (hb : E.nd b) (hnew : ∀ x ∈ st.M, x.1 ≠ b) (hp : PB W' gb (some mb) (addR R b u l)) (ho : OwnI W' W.heap.size u l) (hk : Keep (fun i => i = mb) W W') :
    PlanAt E kv pb gb mb ⟨st.M ++ [(b, l)], st.F, st.s, st.e⟩ v W' ∧ Stp (XS E pb mb v) W (XS E pb mb v) W' := by
  obtain ⟨R0, h1, h2, h3⟩ := h.pg
  have hfx : Fx W W' := ⟨hk.os, hk.tape, hk.output, hk.size⟩
  have hm := h1.map _ rfl
  have hce : ∀ {k : Nat} {cs : Array Value} {t : TypeId}, W.heap[k]? = some (.cells cs t (0, 0)) → W'.heap[k]? = W.heap[k]? := fun {k cs t} hc => hk.block k (lt_of_block hc) (hm.ne hc)
  have hlow : ∀ k, k < E.base → W'.heap[k]? = W.heap[k]? := fun k hl => hk.block k (Nat.lt_of_lt_of_le hl h.bW) (by have := h.bm; omega)
  refine ⟨⟨(hce h.box).trans h.box, ⟨_, hp, ?_, fun r hr => ?_⟩, h.fresh.keep fun g hg _ => ?_, E.dk W W' h.d hfx fun k hl _ => hlow k hl, E.ik _ W W' h.i hfx fun k ht => hlow k (E.tb k ht), h.bp, h.bg, h.bm, fun k hl => Nat.lt_of_lt_of_le (h.it k hl) hk.size, fun x hx => ?_⟩, ⟨hfx, fun k _ hx => hx, fun k hx => Nat.lt_of_lt_of_le (h.xlt k hx) hk.size, fun k hl hn => hk.block k hl fun e => hn (.inr (.inl e))⟩⟩
  · rw [← hR]
    exact Mof_new (by rw [hR]; exact hnew) u l
  · rcases addR_mem hr with hr | rfl
    · exact (hrw r hr).keep fun g hg _ => by
        obtain ⟨cur, hc⟩ := own_cells (hrw r hr) g hg
        exact hce hc
    · exact ho.mono h.bW
  · obtain ⟨cur, hc⟩ := own_cells h.fresh g hg
    exact hce hc
  · rcases List.mem_append.1 hx with hx | hx
    · exact h.keys x hx
    · rw [List.mem_singleton.1 hx]
      exact hb
end
theorem TS.takes_len {σ : Type} (t : TS σ) : ∀ (n : Nat) (s : σ), (t.takes n s).1.length ≤ n
  | 0, s => Nat.le_refl _
  | n + 1, s => by
    have := TS.takes_len t n (t.nx s)
    unfold TS.takes
    split
    · simp only [List.length_cons]
      omega
    · simp
theorem rot_len (k : Nat) (l : List Int) : (rot k l).length = l.length := by
  rw [rot, List.length_append, List.length_drop, List.length_take]
  omega
theorem take_flat {α : Type} {Q : List (List α)} {k : Nat} {M : List α} (h : Q[k]? = some M) : (Q.take (k + 1)).flatten = (Q.take k).flatten ++ M := by
  rw [List.take_add_one, h]
  simp
theorem flat_split {α : Type} {Q : List (List α)} {k : Nat} {M : List α} (h : Q[k]? = some M) : Q.flatten = (Q.take k).flatten ++ M ++ (Q.drop (k + 1)).flatten := by
  rw [← take_flat h, ← List.flatten_append, List.take_append_drop]
theorem stepP_few {σ : Type} (t : TS σ) (K : PM) (st : PS σ) (P : PN) : (stepP t K st P).F.length ≤ st.F.length + 1 := by
  unfold stepP
  split
  · omega
  · split
    · simp
    · split
      · simp
      · simp
theorem foldP_few {σ : Type} (t : TS σ) (K : PM) : ∀ (L : List PN) (st : PS σ), (L.foldl (stepP t K) st).F.length ≤ st.F.length + L.length
  | [], st => by simp
  | P :: L, st => by
    have h1 := foldP_few t K L (stepP t K st P)
    have h2 := stepP_few t K st P
    rw [List.foldl_cons, List.length_cons]
    omega
/-- What place answers. -/
def PlacePost {σ : Type} (E : Env σ) (kv : Value) (pb gb mb : Nat) (v : Value) (w : World) (st' : PS σ) (e : Ending) (w' : World) : Prop :=
  e = .returned (.int .i64 st'.e) ∧ ∃ v', PlanAt E kv pb gb mb st' v' w' ∧ Stp (XS E pb mb v) w (XS E pb mb v') w'
/-- Nodes are placed as the document says. -/
def PlaceOk {σ : Type} (E : Env σ) (kv : Value) (K : PM) (pb gb mb b : Nat) (L : List PN) : Prop :=
  ∀ (st : PS σ) (v : Value) (w : World), PlanAt E kv pb gb mb st v w → st.e = 0 → (st.M.map (·.1) ++ L.map (·.b)).Nodup → st.F.length + L.length ≤ 100000 →
    Calls Tryz.prog 49 #[.pointer (some ⟨pb, 0, none⟩), pn b] w (PlacePost E kv pb gb mb v w (L.foldl (stepP E.t K) st))

theorem place_nil (w : World) (a : Addr) : Calls Tryz.prog 49 #[.pointer (some a), .pointer none] w fun e w' => e = .returned (.int .i64 0) ∧ w' = w := by
  go_enter Tryz.func49, Tryz.ntmps49
  go_wp2
  go_ret
  exact ⟨rfl, rfl⟩

set_option maxHeartbeats 2000000 in
set_option maxRecDepth 100000 in
theorem place_gen {σ : Type} {E : Env σ} {kv : Value} {K : PM} {pb gb mb : Nat} {P : PN} {Q : List (List PN)} (hP : ∀ W, E.D W → PNAt W P) (hK : ∀ W, E.D W → PgIs W kv K) (hKl : (pgs K P.b).length ≤ 100000) (hnd : E.nd P.b) (hQ : Q.length = P.ks.length)
    (ih : ∀ (j : Nat) (k : ByteArray × Nat) (M : List PN), P.ks[j]? = some k → Q[j]? = some M → PlaceOk E kv K pb gb mb k.2 M) : PlaceOk E kv K pb gb mb P.b (Q.flatten ++ [P]) := by
  intro st v w hp he hnodup hfew
  have HFEW := Lib.hid hfew
  have HPN := Lib.hid hP
  have HK := Lib.hid hK
  have HKL := Lib.hid hKl
  have HND := Lib.hid hnd
  have HQ := Lib.hid hQ
  have HIH := Lib.hid ih
  have HPL := Lib.hid hp
  have HE := Lib.hid he
  have HNO := Lib.hid hnodup
  obtain ⟨N, hN⟩ := hP w hp.d
  have HN := Lib.hid hN
  obtain ⟨hen, hkn⟩ := hN.few
  have c0 := cell_at hp.box 0 kv rfl
  clear hP hK hKl hnd hQ ih hp he hnodup hN hfew
  unfold pn
  go_enter Tryz.func49, Tryz.ntmps49
  go_wp2_with fail
  refine (ofS_any (HK.out w HPL.out.d) HN.out.at_ (Nat.le_trans HKL.out (by omega))).mono ?_
  rintro e w1 ⟨v5, rfl, ho5, hb1⟩
  have HN1 := Lib.hid (HN.out.below hb1)
  have HO5 := Lib.hid ho5
  have HB1 := Lib.hid hb1
  clear ho5 hb1
  go_wp2_with fail
  refine (kids_any HN1.out.at_ HN1.out.ka (by rw [List.length_map]; exact HN1.out.kn) (by omega)).mono ?_
  rintro e w2 ⟨v20, rfl, ho20, hb2⟩
  obtain ⟨A, c, rfl, hc, hr⟩ := ho20.form
  obtain ⟨n, hn⟩ : ∃ n, n = P.ks.length := ⟨_, rfl⟩
  rw [List.length_map, ← hn] at hc ⊢
  have hn6 : n ≤ 6 := by rw [hn, HN.out.kn]; exact hkn
  have hbw2 := bthen HB1.out hb2
  have HP2 := Lib.hid (HPL.out.below hbw2)
  have HO52 := Lib.hid (HO5.out.below hb2)
  have HR := Lib.hid hr
  have HO20 := Lib.hid ho20
  have HB2 := Lib.hid hbw2
  have HNN := Lib.hid hn
  clear hb2 hr hbw2 hn ho20
  go_wp2
  go_loopw [22] (fun s22 wr => ∃ (k : Nat) (v' : Value) (st' : PS σ), s22 = .int .i64 k ∧ k ≤ n ∧ st' = (Q.take k).flatten.foldl (stepP E.t K) st ∧ st'.e = 0 ∧ PlanAt E kv pb gb mb st' v' wr ∧ Stp (XS E pb mb v) w2 (XS E pb mb v') wr) (fun s22 _ => n - (intOf s22).toNat)
  case atStart => exact ⟨0, v, st, rfl, Nat.zero_le _, rfl, HE.out, HP2.out, .refl HP2.out.xlt⟩
  case round =>
    obtain ⟨k, v', st', rfl, hk, hst, he', hp', hS'⟩ := hrel
    have HST := Lib.hid hst
    have HE' := Lib.hid he'
    have HP' := Lib.hid hp'
    have HS' := Lib.hid hS'
    have hrk : Ls pcP wr A (P.ks.map fun k => some k.2) := ls_keep HR.out hS'.fx.size fun ad e h0 => hS'.same _ (HO20.out.addr_ge ad e).2 fun hx => by
      have h1 := (HO20.out.addr_ge ad e).1
      have h2 := HPL.out.xlt _ hx
      have h3 := HB1.out.size
      omega
    clear hst he' hp' hS'
    by_cases hlt : k < n
    · have hkl : k < P.ks.length := by rw [← HNN.out]; exact hlt
      obtain ⟨ad, p, rfl, hpk, hl1, q0⟩ := hrk.ptr_at (i := k) (by rw [List.length_map]; exact hkl)
      obtain ⟨kd, hkd⟩ : ∃ kd, P.ks[k]? = some kd := ⟨_, List.getElem?_eq_getElem hkl⟩
      rw [List.getElem?_map, hkd] at hpk
      simp only [Option.map_some, Option.some.injEq] at hpk
      subst hpk
      obtain ⟨M, hM⟩ : ∃ M, Q[k]? = some M := ⟨_, List.getElem?_eq_getElem (by rw [HQ.out]; exact hkl)⟩
      have hfl := flat_split hM
      have htk := take_flat hM
      have hkeys := foldP_keys (t := E.t) (K := K) (Q.take k).flatten st (by rw [← HST.out]; exact HE'.out)
      rw [← HST.out] at hkeys
      have hno : (st'.M.map (·.1) ++ M.map (·.b)).Nodup := by
        have h1 := HNO.out
        rw [hfl, List.append_assoc, List.append_assoc, List.map_append, List.map_append, ← List.append_assoc, ← List.append_assoc, ← hkeys] at h1
        exact (List.nodup_append.1 h1).1
      have hfw : st'.F.length + M.length ≤ 100000 := by
        have h1 := HFEW.out
        rw [hfl] at h1
        simp only [List.length_append] at h1
        have h2 := foldP_few E.t K (Q.take k).flatten st
        rw [← HST.out] at h2
        omega
      have hcall := HIH.out k kd M hkd hM st' v' wr HP'.out HE'.out hno hfw
      have HSN : Hid (M.foldl (stepP E.t K) st' = (Q.take (k + 1)).flatten.foldl (stepP E.t K) st) := Lib.hid (by rw [htk, List.foldl_append, ← HST.out])
      have HFE : Hid (((Q.take (k + 1)).flatten.foldl (stepP E.t K) st).e ≠ 0 → (Q.flatten ++ [P]).foldl (stepP E.t K) st = (Q.take (k + 1)).flatten.foldl (stepP E.t K) st) := Lib.hid fun h => by
        rw [hfl, ← htk, List.append_assoc, List.foldl_append, foldP_err h]
      rw [HSN.out] at hcall
      obtain ⟨st2, hst2⟩ : ∃ st2, st2 = (Q.take (k + 1)).flatten.foldl (stepP E.t K) st := ⟨_, rfl⟩
      rw [← hst2] at hcall
      have HST2 := Lib.hid hst2
      unfold ptr at q0
      simp only [Option.map_some] at q0
      unfold pn at hcall
      clear hrk hkd hM hfl htk hkeys hno hst2 hfw
      go_wp2_with fail
      refine hcall.mono ?_
      rintro e w3 ⟨rfl, v3, hp3, hS3⟩
      have HP3 := Lib.hid hp3
      have HS3 := Lib.hid (HS'.out.trans hS3)
      clear hcall hp3 hS3
      obtain ⟨er, her⟩ : ∃ er, er = st2.e := ⟨_, rfl⟩
      rw [← her]
      by_cases h0 : er = 0
      · subst h0
        have HER := Lib.hid her
        clear her
        go_wp2
        exact ⟨⟨k + 1, v3, st2, by go_num, by omega, HST2.out, HER.out.symm, HP3.out, HS3.out⟩, by simp [intOf]; omega⟩
      · have herb : (er != 0) = true := by simpa using h0
        have HER := Lib.hid her
        have H0 := Lib.hid h0
        clear her h0
        go_wp2
        go_ret
        rw [HFE.out (by rw [← HST2.out, ← HER.out]; exact H0.out), ← HST2.out]
        exact ⟨by rw [HER.out]; rfl, v3, HP3.out, (Stp.of_below HB2.out HPL.out.xlt).trans HS3.out⟩
    · have hke : k = n := by omega
      subst hke
      have hst2 := HST.out
      rw [List.take_of_length_le (by rw [HQ.out, ← HNN.out]; exact Nat.le_refl _)] at hst2
      have HFL : Hid ((Q.flatten ++ [P]).foldl (stepP E.t K) st = stepP E.t K st' P) := Lib.hid (by rw [List.foldl_append, ← hst2]; rfl)
      have hkeys := foldP_keys (t := E.t) (K := K) Q.flatten st (by rw [← hst2]; exact HE'.out)
      rw [← hst2] at hkeys
      have HFL' : Hid ((st'.F.map fun P => some P.b).length ≤ 1000000) := Lib.hid (by
        have h1 := HFEW.out
        simp only [List.length_append] at h1
        have h2 := foldP_few E.t K Q.flatten st
        rw [← hst2] at h2
        rw [List.length_map]
        omega)
      have HNEW : Hid (∀ x ∈ st'.M, x.1 ≠ P.b) := Lib.hid fun x hx e => by
        have h1 := HNO.out
        rw [List.map_append, ← List.append_assoc, ← hkeys] at h1
        exact (List.nodup_append.1 h1).2.2 x.1 (List.mem_map.2 ⟨x, hx, rfl⟩) P.b (by simp) e
      have HO5w : Hid (OwnI wr w.heap.size v5 (pgs K P.b)) := Lib.hid (HO52.out.keep fun g hg hlt => HS'.out.same g hlt fun hx => by
        have h1 := HO52.out.at_block g hg
        have h2 := HPL.out.xlt _ hx
        omega)
      have HSW := Lib.hid ((Stp.of_below HB2.out HPL.out.xlt).trans HS'.out)
      obtain ⟨N', hN'⟩ := HPN.out wr HP'.out.d
      have HN' := Lib.hid hN'
      clear hrk hst2 hkeys hN' hlt
      obtain ⟨A5, c5, rfl, hc5, hr5⟩ := HO5w.out.form
      obtain ⟨n5, hn5⟩ : ∃ n5, (pgs K P.b).length = n5 := ⟨_, rfl⟩
      rw [hn5] at hc5 ⊢
      have hl5 : n5 ≤ 100000 := by rw [← hn5]; exact HKL.out
      have HN5 := Lib.hid hn5
      have HR5 := Lib.hid hr5
      clear hn5 hr5
      by_cases h0 : n5 = 0
      · subst h0
        have hk0 : pgs K P.b = [] := List.eq_nil_of_length_eq_zero HN5.out
        have HK0 := Lib.hid hk0
        have hval : ∀ e ∈ P.l, e.v.size ≤ 140737488351232 := HN'.out.val
        have hfew := HN'.out.few.1
        have hfor := takeFor_any E (u0 := kv) (u2 := .pointer (some ⟨gb, 0, none⟩)) (u3 := v') HP'.out.box HP'.out.i HP'.out.d HP'.out.bW HP'.out.it (HP'.out.notT HP'.out.bp) HN'.out.at_ HN'.out.es HN'.out.en (by omega) hval
        unfold pn at hfor
        clear hk0 hval hfew
        go_wp2_with fail
        refine hfor.mono ?_
        rintro e w3 ⟨hI3, hD3, hS3, hres⟩
        have HP3 := Lib.hid (HP'.out.take hS3 hI3 hD3)
        have HSW3 : Hid (Stp (XS E pb mb v') wr (XS E pb mb v') w3) := Lib.hid ⟨hS3.fx, fun k _ hx => hx, HP3.out.xlt, fun k hl hn => hS3.same k hl fun ht => hn (.inr (.inr (.inl ht)))⟩
        clear hfor hI3 hD3 hS3
        rcases hres with ⟨ht0, v9, rfl, ho9⟩ | ⟨ht1, rfl⟩
        · have HT0 := Lib.hid ht0
          have hbz : Below w3.heap.size w3 (w3.alloc (.cells (pcP (some P.b)).toArray 25)) := (Below.refl _ _).alloc (Nat.le_refl _) _
          obtain ⟨v4, w4, hrun, hown4, hg4, hob4⟩ := run_append_at encP 83 25 83 _ _ ⟨_, Tryz.underlying83, rfl⟩ ptrInfo rfl (by omega) (by omega) (HP3.out.fresh.below hbz) (some P.b) (heap_alloc_new _ _) HFL'.out (Nat.le_trans HP3.out.bW hbz.size)
          obtain ⟨A4, c4, hv4, _, _⟩ := hown4.form
          obtain ⟨n4, hn4⟩ : ∃ n4, ((st'.F.map fun P => some P.b) ++ [some P.b]).length = n4 := ⟨_, rfl⟩
          rw [hn4] at hv4
          subst hv4
          clear hn4
          have hpb4 := HP3.out.boxed hg4
          have c3 := cell_at HP3.out.box 3 v' rfl
          have d3 := cell_at hpb4 3 v' rfl
          have d2 := cell_at hpb4 2 (.pointer (some ⟨gb, 0, none⟩)) rfl
          have f3 := free_at hpb4 3
          obtain ⟨hpu, hsu⟩ := HP3.out.push (P := P) hown4 hg4 hob4
          have HPU := Lib.hid hpu
          have HS9 := Lib.hid hsu
          have HT9 : Hid ((rot (pieces P.l) (E.t.takes (pieces P.l + 1) st'.s).1).length ≤ 1000000) := Lib.hid (by have h1 := rot_len (pieces P.l) (E.t.takes (pieces P.l + 1) st'.s).1; have h2 := E.t.takes_len (pieces P.l + 1) st'.s; have h3 := pieces_le P.l; have h4 := HN'.out.few.1; have h5 := HN'.out.en; omega)
          have HSU := Lib.hid ((HSW.out.trans HSW3.out).trans hsu)
          obtain ⟨A9, c9, rfl, hc9, hr9⟩ := ho9.form
          have HO9 := Lib.hid ho9
          have HRUN : Hid ((Builtin.append_ #[83, 83] 83 #[v', .slice (some ⟨w3.heap.size, 0, none⟩) 1 1]).run Tryz.prog (w3.alloc (.cells #[.pointer (some ⟨P.b, 0, none⟩)] 25)) = .ok (.slice A4 n4 c4) w4) := Lib.hid hrun
          clear ht0 hbz hown4 hg4 hob4 hpb4 hpu hsu hr9 ho9 hrun
          obtain ⟨n9, hn9⟩ : ∃ n9, (rot (pieces P.l) (E.t.takes (pieces P.l + 1) st'.s).1).length = n9 := ⟨_, rfl⟩
          rw [hn9] at hc9 HO9 ⊢
          have HN9 := Lib.hid hn9
          clear hn9
          go_wp2_with (at_builtin; refine wpList_append_ran rfl (.tmp 50) (.tmp 52) 83 rfl _ _ _ _ rfl rfl HRUN.out ?_)
          have HM : Hid ((⟨st'.M, st'.F ++ [P], (E.t.takes (pieces P.l + 1) st'.s).2.2, st'.e⟩ : PS σ).M = st'.M) := Lib.hid rfl
          obtain ⟨R, hR1, hR2, hR3⟩ := HPU.out.pg
          have HR1 := Lib.hid hR1
          have HR2 := Lib.hid hR2
          have HR3 := Lib.hid hR3
          have HNU := HPN.out _ HPU.out.d
          obtain ⟨NU, hNU⟩ := HNU
          have HNU' := Lib.hid hNU.at_
          have HO9u : Hid (OwnI (w4.setCell ⟨pb, 3, none⟩ (.slice A4 n4 c4)) wr.heap.size (.slice A9 n9 c9) (rot (pieces P.l) (E.t.takes (pieces P.l + 1) st'.s).1)) := Lib.hid (HO9.out.keep fun g hg hlt => HS9.out.same g hlt fun hx => by
            have h1 := HO9.out.at_block g hg
            have h2 := HP'.out.xlt _ hx
            omega)
          obtain ⟨A9', c9', he9, _, hr9⟩ := HO9u.out.form
          rw [HN9.out] at he9
          cases he9
          have HR9 := Lib.hid hr9
          have hn9b : n9 ≤ 1000000 := by rw [← HN9.out]; exact HT9.out
          clear hR1 hR2 hR3 hNU hr9
          generalize w4.setCell ⟨pb, 3, none⟩ (.slice A4 n4 c4) = w5 at *
          refine (add_some HR1.out HNU'.out HR9.out HN9.out hn9b).mono ?_
          rintro e w6 ⟨rfl, u, hp6, ho6, hk6⟩
          obtain ⟨hpl6, hs6⟩ := HPU.out.add HR2.out HR3.out HND.out HNEW.out hp6 ho6 hk6
          have HPL6 := Lib.hid hpl6
          have HS6 := Lib.hid (HSU.out.trans hs6)
          clear hp6 ho6 hk6 hpl6 hs6
          go_wp2
          go_ret
          have hstep : stepP E.t K st' P = ⟨st'.M ++ [(P.b, rot (pieces P.l) (E.t.takes (pieces P.l + 1) st'.s).1)], st'.F ++ [P], (E.t.takes (pieces P.l + 1) st'.s).2.2, 0⟩ := stepP_ok HE'.out HK0.out HT0.out
          rw [HFL.out, hstep]
          have hpl := HPL6.out
          rw [HE'.out] at hpl
          exact ⟨rfl, _, hpl, HS6.out⟩
        · have HT1 := Lib.hid ht1
          obtain ⟨er, her⟩ : ∃ er, er = (E.t.takes (pieces P.l + 1) st'.s).2.1 := ⟨_, rfl⟩
          have herb : (er != 0) = true := by rw [her]; simpa using ht1
          have HER := Lib.hid her
          rw [← her]
          clear ht1 her
          go_wp2
          go_ret
          have hstep : stepP E.t K st' P = ⟨st'.M, st'.F, (E.t.takes (pieces P.l + 1) st'.s).2.2, (E.t.takes (pieces P.l + 1) st'.s).2.1⟩ := stepP_no HE'.out HK0.out HT1.out
          rw [HFL.out, hstep]
          have hpl := HP3.out
          refine ⟨by rw [HER.out]; rfl, v', ?_, HSW.out.trans HSW3.out⟩
          exact ⟨hpl.box, hpl.pg, hpl.fresh, hpl.d, hpl.i, hpl.bp, hpl.bg, hpl.bm, hpl.it, hpl.keys⟩
      · have h0' : ¬ (n5 : Int) = 0 := by omega
        have H0 := Lib.hid h0
        obtain ⟨R, hR1, hR2, hR3⟩ := HP'.out.pg
        have HR1 := Lib.hid hR1
        have HR2 := Lib.hid hR2
        have HR3 := Lib.hid hR3
        have c2 := cell_at HP'.out.box 2 (.pointer (some ⟨gb, 0, none⟩)) rfl
        clear hR1 hR2 hR3 h0
        go_wp2_with fail
        refine (add_some HR1.out HN'.out.at_ HR5.out HN5.out (by omega)).mono ?_
        rintro e w3 ⟨rfl, u, hp3, ho3, hk3⟩
        obtain ⟨hpl3, hs3⟩ := HP'.out.add HR2.out HR3.out HND.out HNEW.out hp3 ho3 hk3
        have HPL3 := Lib.hid hpl3
        have HS3 := Lib.hid (HSW.out.trans hs3)
        clear hp3 ho3 hk3 hpl3 hs3
        go_wp2
        go_ret
        have hstep : stepP E.t K st' P = ⟨st'.M ++ [(P.b, pgs K P.b)], st'.F, st'.s, 0⟩ := stepP_known HE'.out fun e => H0.out (by rw [← HN5.out, e]; rfl)
        rw [HFL.out, hstep]
        have hpl := HPL3.out
        rw [HE'.out] at hpl
        exact ⟨rfl, v', hpl, HS3.out⟩

/-- A tree's nodes are placed as the document says. -/
theorem place_tr {σ : Type} {E : Env σ} {kv : Value} {K : PM} {pb gb mb : Nat} (hK : ∀ W, E.D W → PgIs W kv K) {w0 : World} : ∀ (h : Nat) (s : ST) (L : List PN), Pr w0 h s L → (∀ P ∈ L, (∀ W, E.D W → PNAt W P) ∧ E.nd P.b ∧ (pgs K P.b).length ≤ 100000) → PlaceOk E kv K pb gb mb s.b L
  | 0, s, L, ⟨t, e⟩, hL => by
    subst e
    obtain ⟨h1, h2, h3⟩ := hL ⟨s.b, 0, s.l, []⟩ (by simp)
    exact place_gen (P := ⟨s.b, 0, s.l, []⟩) (Q := []) h1 hK h3 h2 rfl fun j k M hk _ => by simp at hk
  | h + 1, s, L, ⟨t, ks, Q, t2, t3, t4, t5, t7, t8, t9, hq, hr, e⟩, hL => by
    subst e
    obtain ⟨h1, h2, h3⟩ := hL ⟨s.b, h + 1, [], kidsP ks⟩ (by simp)
    refine place_gen (P := ⟨s.b, h + 1, [], kidsP ks⟩) (Q := Q) h1 hK h3 h2 (by simpa [kidsP] using hq) fun j k M hk hM => ?_
    simp only [kidsP, List.getElem?_map, Option.map_eq_some_iff] at hk
    obtain ⟨x, hx, rfl⟩ := hk
    exact place_tr hK h x M (hr j x M hx hM) fun P hP => hL P (List.mem_append_left _ (List.mem_flatten.2 ⟨M, List.mem_of_getElem? hM, hP⟩))

end Go.Proofs.YtelenboncejdaaaGreatDoor
