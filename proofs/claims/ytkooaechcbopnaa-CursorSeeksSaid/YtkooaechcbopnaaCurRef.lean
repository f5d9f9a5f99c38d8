/-
  A nil cursor's Next, Prev and Entry; the reference's cursor: a list and a place; conditions stand at each.
-/
import Derived.Test.YtkooaechcbopnaaCurMove
namespace Go.Proofs.Ytkooaechcbopnaa
open Go.RowKit Go.Sort Go.Shelf Rt
set_option linter.unusedVariables false
set_option linter.unusedSimpArgs false

set_option maxHeartbeats 4000000 in
set_option maxRecDepth 100000 in
theorem curNext_nil (w : World) : Calls Try.prog 17 #[.pointer none] w fun e w' => e = .returned (.bool false) ∧ Below w.heap.size w w' := by
  have HB : Hid (Below w.heap.size w w.drew) := Lib.hid (Below.refl _ _).drew
  go_enter Try.func17, Try.ntmps17
  go_wp2_with fail
  refine Dc.wp_region_segs 20 [] [([0], 1), ([2, 3, 4, 5, 6, 7, 8, 9, 10, 11, 13, 14, 15, 16], 12), ([], 17), ([18, 19], 20)] [21, 22] (by kernel_rfl) (by kernel_rfl) (by kernel_rfl) (by kernel_rfl) (by kernel_rfl) (by intro c a d v w h; cases d <;> exact h) ?_
  refine Dc.wpSegs_more ?_
  simp only [Dc.pick, List.getElem?_cons_zero, List.getElem?_cons_succ]
  repeat (first | go_big_quiet_step (fail) | quiet_step (fail))
  refine wpQuiet_nil ?_
  refine Dc.wpOp_heavy rfl (by rfl) (fun K hK => ?_)
  go_simp
  refine (curPlaced_nil w.drew).mono ?_
  rintro e w2 ⟨rfl, rfl⟩
  refine hK _ _ (fun _ => Dc.But.refl _ _) ?_
  clear hK K
  refine Dc.wpSegs_more ?_
  simp only [Dc.pick, List.getElem?_cons_zero, List.getElem?_cons_succ]
  repeat (first | go_big_quiet_step (fail) | quiet_step (fail))
  refine wpQuiet_nil ?_
  refine Dc.wpOp_idle rfl (by rfl) ?_
  refine Dc.wpSegs_more ?_
  simp only [Dc.pick]
  refine wpQuiet_nil ?_
  refine Dc.wpOp_idle rfl (by rfl) ?_
  refine Dc.wpSegs_more ?_
  simp only [Dc.pick, List.getElem?_cons_zero, List.getElem?_cons_succ]
  repeat (first | go_big_quiet_step (fail) | quiet_step (fail))
  refine wpQuiet_nil ?_
  refine Dc.wpOp_idle rfl (by rfl) ?_
  refine Dc.wpSegs_last ?_
  simp only [Dc.pick, List.getElem?_cons_zero, List.getElem?_cons_succ]
  repeat (first | go_big_quiet_step (fail) | quiet_step (fail))
  refine wpQuiet_nil ?_
  go_wp2
  go_ret
  exact ⟨rfl, HB.out⟩
set_option maxHeartbeats 4000000 in
set_option maxRecDepth 100000 in
theorem curPrev_nil (w : World) : Calls Try.prog 19 #[.pointer none] w fun e w' => e = .returned (.bool false) ∧ Below w.heap.size w w' := by
  have HB : Hid (Below w.heap.size w w.drew) := Lib.hid (Below.refl _ _).drew
  go_enter Try.func19, Try.ntmps19
  go_wp2_with fail
  refine Dc.wp_region_segs 20 [] [([0], 1), ([2, 3, 4, 5, 6, 7, 8, 9, 10, 11, 13, 14, 15, 16], 12), ([], 17), ([18, 19], 20)] [21, 22] (by kernel_rfl) (by kernel_rfl) (by kernel_rfl) (by kernel_rfl) (by kernel_rfl) (by intro c a d v w h; cases d <;> exact h) ?_
  refine Dc.wpSegs_more ?_
  simp only [Dc.pick, List.getElem?_cons_zero, List.getElem?_cons_succ]
  repeat (first | go_big_quiet_step (fail) | quiet_step (fail))
  refine wpQuiet_nil ?_
  refine Dc.wpOp_heavy rfl (by rfl) (fun K hK => ?_)
  go_simp
  refine (curPlaced_nil w.drew).mono ?_
  rintro e w2 ⟨rfl, rfl⟩
  refine hK _ _ (fun _ => Dc.But.refl _ _) ?_
  clear hK K
  refine Dc.wpSegs_more ?_
  simp only [Dc.pick, List.getElem?_cons_zero, List.getElem?_cons_succ]
  repeat (first | go_big_quiet_step (fail) | quiet_step (fail))
  refine wpQuiet_nil ?_
  refine Dc.wpOp_idle rfl (by rfl) ?_
  refine Dc.wpSegs_more ?_
  simp only [Dc.pick]
  refine wpQuiet_nil ?_
  refine Dc.wpOp_idle rfl (by rfl) ?_
  refine Dc.wpSegs_more ?_
  simp only [Dc.pick, List.getElem?_cons_zero, List.getElem?_cons_succ]
  repeat (first | go_big_quiet_step (fail) | quiet_step (fail))
  refine wpQuiet_nil ?_
  refine Dc.wpOp_idle rfl (by rfl) ?_
  refine Dc.wpSegs_last ?_
  simp only [Dc.pick, List.getElem?_cons_zero, List.getElem?_cons_succ]
  repeat (first | go_big_quiet_step (fail) | quiet_step (fail))
  refine wpQuiet_nil ?_
  go_wp2
  go_ret
  exact ⟨rfl, HB.out⟩
set_option maxHeartbeats 1000000 in
theorem curEntry_nil (w : World) : Calls Try.prog 20 #[.pointer none] w fun e w' => e = .returned (.tuple #[.agg #[.string ⟨#[]⟩, .string ⟨#[]⟩], .bool false]) ∧ Below w.heap.size w w' := by
  go_enter Try.func20, Try.ntmps20
  go_wp2_with fail
  obtain ⟨w1, hw1⟩ : ∃ w1, w.alloc (.cells #[.string ⟨#[]⟩, .string ⟨#[]⟩] 39) = w1 := ⟨_, rfl⟩
  have hb1 : Below w.heap.size w w1 := by rw [← hw1]; exact (Below.refl _ _).alloc (Nat.le_refl _) _
  have hr1 : w1.heap[w.heap.size]? = some (.cells #[.string ⟨#[]⟩, .string ⟨#[]⟩] 39 (0, 0)) := by rw [← hw1]; exact heap_alloc_new w _
  rw [hw1]
  have HB1 := Lib.hid hb1
  have HR1 := Lib.hid hr1
  clear hw1 hb1 hr1
  refine (curPlaced_nil w1).mono ?_
  rintro e w2 ⟨rfl, rfl⟩
  have q0 := cell_row HR1.out 0 _ rfl
  have q1 := cell_row HR1.out 1 _ rfl
  have f0 : w1.frozen? ⟨w.heap.size, 0, none⟩ = false := by simp [World.frozen?, HR1.out]
  have f1 : w1.frozen? ⟨w.heap.size, 1, none⟩ = false := by simp [World.frozen?, HR1.out]
  have HB := Lib.hid (cells_set (cells_set HR1.out 0 (.string ⟨#[]⟩)) 1 (.string ⟨#[]⟩))
  have HG := Lib.hid ((HB1.out.setCell (p := ⟨w.heap.size, 0, none⟩) (Nat.le_refl _) (.string ⟨#[]⟩)).setCell (p := ⟨w.heap.size, 1, none⟩) (Nat.le_refl _) (.string ⟨#[]⟩))
  go_wp2
  refine bodyPost_ret (v := .tuple #[.agg #[.string ⟨#[]⟩, .string ⟨#[]⟩], .bool false]) ?_ rfl ⟨rfl, HG.out⟩
  have k0 := cell_row HB.out 0 (.string ⟨#[]⟩) rfl
  have k1 := cell_row HB.out 1 (.string ⟨#[]⟩) rfl
  simp [results, Try.results20, go_sem, k0, k1]

/-- A place as a number: -1 is none. -/
def atI : Option Nat → Int
  | none => -1
  | some i => (i : Int)
/-- The reference's cursor in block b over the list l, which lies at A. -/
structure RC (A : Option Addr) (n c : Nat) (l : List Ent) (b : Nat) (p : Option Nat) (W : World) : Prop where
  es : Es W A l
  len : l.length = n
  few : n ≤ 1000
  ok : OkP l p
  at_ : W.heap[b]? = some (.cells #[.slice A n c, .int .i64 (atI p)] 33 (0, 0))
  apart : ∀ ad, A = some ad → ad.block ≠ b
theorem Es.mv {w w' : World} {A : Option Addr} {l : List Ent} {b : Nat} (h : Es w A l) (hm : Mv b w w') (hn : ∀ ad, A = some ad → ad.block ≠ b) : Es w' A l := fun h0 => by
  obtain ⟨ad, e, hlt, hc⟩ := h h0
  exact ⟨ad, e, Nat.lt_of_lt_of_le hlt hm.fx.size, fun j u hu => (World.cell?_of_block (w := w) (by rw [block_of_add]; exact hm.same _ hlt (hn ad e))).trans (hc j u hu)⟩
section
variable {A : Option Addr} {n c b : Nat} {l : List Ent} {p : Option Nat} {W W' : World}
theorem RC.lt (h : RC A n c l b p W) : b < W.heap.size := at_lt h.at_
theorem RC.below (h : RC A n c l b p W) (hb : Below W.heap.size W W') : RC A n c l b p W' := ⟨h.es.below hb, h.len, h.few, h.ok, (hb.block _ h.lt).trans h.at_, h.apart⟩
theorem RC.other {d : Nat} (h : RC A n c l b p W) (hm : Mv d W W') (hn : b ≠ d) (ha : ∀ ad, A = some ad → ad.block ≠ d) : RC A n c l b p W' := ⟨h.es.mv hm ha, h.len, h.few, h.ok, (hm.same _ h.lt hn).trans h.at_, h.apart⟩
theorem RC.c0 (h : RC A n c l b p W) : W.cell? ⟨b, 0, none⟩ = some (.slice A n c) := cell_row h.at_ 0 _ rfl
theorem RC.c1 (h : RC A n c l b p W) : W.cell? ⟨b, 1, none⟩ = some (.int .i64 (atI p)) := cell_row h.at_ 1 _ rfl
theorem RC.free (h : RC A n c l b p W) (i : Nat) : W.frozen? ⟨b, i, none⟩ = false := by simp [World.frozen?, h.at_]
theorem RC.moved {q : Option Nat} (h : RC A n c l b p W) (hq : OkP l q) (hm : Mv b W W') (ha : W'.heap[b]? = some (.cells #[.slice A n c, .int .i64 (atI q)] 33 (0, 0))) : RC A n c l b q W' :=
  ⟨h.es.mv hm h.apart, h.len, h.few, hq, ha, h.apart⟩
end
/-- What the reference's To makes of a number. -/
def toP (l : List Ent) (i : Int) : Option Nat := if i < 0 then none else inL l i.toNat
theorem toP_nat (l : List Ent) (i : Nat) : toP l (i : Int) = inL l i := by
  unfold toP
  rw [if_neg (by omega)]
  rfl
theorem toP_neg (l : List Ent) {i : Int} (h : i < 0) : toP l i = none := if_pos h
theorem okP_to (l : List Ent) (i : Int) : OkP l (toP l i) := by
  unfold toP
  split
  · exact okP_none l
  · exact okP_inL l _
def RPost (A : Option Addr) (n c : Nat) (l : List Ent) (b : Nat) (q : Option Nat) (w : World) (e : Ending) (w' : World) : Prop := e = .returned (.bool q.isSome) ∧ Mv b w w' ∧ RC A n c l b q w'

set_option maxHeartbeats 2000000 in
theorem refTo_any {A : Option Addr} {n c b : Nat} {l : List Ent} {p : Option Nat} {w : World} (h : RC A n c l b p w) (i : Int) (hi : -2 ≤ i ∧ i ≤ 2000) :
    Calls Try.prog 13 #[pb b, .int .i64 i] w (RPost A n c l b (toP l i) w) := by
  have hn := h.few
  have f1 := h.free 1
  have c0 := h.c0
  have c1 := h.c1
  have hm1 : Mv b w (w.setCell ⟨b, 1, none⟩ (.int .i64 (-1))) := (Stp.refl (T := fun i => i = b) fun i hi => by rw [hi]; exact h.lt).set (p := ⟨b, 1, none⟩) rfl _
  have hm2 : Mv b w ((w.setCell ⟨b, 1, none⟩ (.int .i64 (-1))).setCell ⟨b, 1, none⟩ (.int .i64 i)) := hm1.set (p := ⟨b, 1, none⟩) rfl _
  have ha1 : (w.setCell ⟨b, 1, none⟩ (.int .i64 (-1))).heap[b]? = some (.cells #[.slice A n c, .int .i64 (-1)] 33 (0, 0)) := (cells_set h.at_ 1 _).trans rfl
  have ha2 : ((w.setCell ⟨b, 1, none⟩ (.int .i64 (-1))).setCell ⟨b, 1, none⟩ (.int .i64 i)).heap[b]? = some (.cells #[.slice A n c, .int .i64 i] 33 (0, 0)) := (cells_set ha1 1 _).trans rfl
  have HN := Lib.hid h.len
  have HR : Hid (∀ w' q, OkP l q → Mv b w w' → w'.heap[b]? = some (.cells #[.slice A n c, .int .i64 (atI q)] 33 (0, 0)) → RC A n c l b q w') := Lib.hid fun w' q h1 h2 h3 => h.moved h1 h2 h3
  have HM1 := Lib.hid hm1
  have HM2 := Lib.hid hm2
  have HA1 := Lib.hid ha1
  have HA2 := Lib.hid ha2
  clear h hm1 hm2 ha1 ha2
  by_cases h0 : i < 0
  · go_enter Try.func13, Try.ntmps13
    go_wp2
    go_ret
    rw [toP_neg l h0]
    exact ⟨rfl, HM1.out, HR.out _ none (okP_none l) HM1.out HA1.out⟩
  · obtain ⟨j, rfl⟩ : ∃ j : Nat, i = (j : Int) := ⟨i.toNat, by omega⟩
    rw [toP_nat]
    by_cases hj : j < n
    · go_enter Try.func13, Try.ntmps13
      go_wp2
      go_ret
      have hq : inL l j = some j := if_pos (by rw [HN.out]; exact hj)
      rw [hq]
      exact ⟨rfl, HM2.out, HR.out _ (some j) (fun k hk => by cases hk; rw [HN.out]; exact hj) HM2.out HA2.out⟩
    · go_enter Try.func13, Try.ntmps13
      go_wp2
      go_ret
      have hq : inL l j = none := if_neg (by rw [HN.out]; exact hj)
      rw [hq]
      exact ⟨rfl, HM1.out, HR.out _ none (okP_none l) HM1.out HA1.out⟩

theorem lows_len {l : List Ent} {key : ByteArray} {i : Nat} (hs : Sorted l) (hi : i ≤ l.length) (hu : ∀ j e, j < i → l[j]? = some e → kl e.k key) (hd : ∀ e, l[i]? = some e → ¬ kl e.k key) : (lows l key).length = i := by
  have h : Place l key i (decide (∃ e, l[i]? = some e ∧ e.k = key)) := ⟨hi, decide_eq_true_iff, fun _ => hu, fun _ j e hj he hk => by
    rcases Nat.lt_or_ge i j with hlt | hge
    · have hl : i < l.length := by have := (List.getElem?_eq_some_iff.1 he).1; omega
      exact hd _ (List.getElem?_eq_getElem hl) (kl_trans (sorted_lt hs hlt (List.getElem?_eq_getElem hl) he) hk)
    · obtain rfl : j = i := by omega
      exact hd e he hk⟩
  rw [← (h.split hs).1, List.length_take, Nat.min_eq_left hi]

set_option maxHeartbeats 2000000 in
theorem refSeek_any {A : Option Addr} {n c b : Nat} {l : List Ent} {p : Option Nat} {w : World} (h : RC A n c l b p w) (hs : Sorted l) (key : ByteArray) :
    Calls Try.prog 16 #[pb b, .string key] w (RPost A n c l b (mvSeek l key) w) := by
  have hn := h.few
  have c0 := h.c0
  have H := Lib.hid h
  have HS := Lib.hid hs
  clear h hs
  go_enter Try.func16, Try.ntmps16
  go_wp2_with fail
  go_loop [5] (fun s5 => ∃ k : Nat, k ≤ n ∧ s5 = .int .i64 (k : Int) ∧ Hid (∀ j e, j < k → l[j]? = some e → kl e.k key)) (fun s5 => n - (intOf s5).toNat)
  case atStart => exact ⟨0, Nat.zero_le _, rfl, Lib.hid fun j e hj => by omega⟩
  case round =>
    obtain ⟨k, hk, rfl, HU⟩ := hrel
    -- the end
    have stop : ∀ K : Nat, K = k → (∀ e, l[k]? = some e → ¬ kl e.k key) → toP l (K : Int) = mvSeek l key := fun K hK hd => by
      subst hK
      rw [toP_nat, mvSeek, lows_len HS.out (by rw [H.out.len]; exact hk) HU.out hd]
    have HST := Lib.hid stop
    clear stop
    by_cases hlt : k < n
    · obtain ⟨ad, x, rfl, hx, hl, h1, h2⟩ := H.out.es.at_ (i := k) (by rw [H.out.len]; exact hlt)
      have HX := Lib.hid hx
      clear hx
      have hle := less_eq x.k key
      by_cases hd : kl x.k key
      · rw [decide_eq_true hd] at hle
        go_wp2_with fail
        exact ⟨⟨k + 1, by omega, by go_num, Lib.hid fun j e hj he => by
          rcases Nat.lt_or_ge j k with h | h
          · exact HU.out j e h he
          · obtain rfl : j = k := by omega
            obtain rfl := Option.some.inj (HX.out.symm.trans he)
            exact hd⟩, by simp [intOf]; omega⟩
      · rw [decide_eq_false hd] at hle
        have HE := Lib.hid (HST.out k rfl fun e he => by obtain rfl := Option.some.inj (HX.out.symm.trans he); exact hd)
        go_wp2_with fail
        refine (refTo_any H.out (k : Int) (by omega)).mono ?_
        rw [HE.out]
        rintro e w1 ⟨rfl, hm, hc⟩
        have HM := Lib.hid hm
        have HC := Lib.hid hc
        clear hm hc
        go_wp2
        go_ret
        exact ⟨rfl, HM.out, HC.out⟩
    · have HE := Lib.hid (HST.out k rfl fun e he => by have := (List.getElem?_eq_some_iff.1 he).1; rw [H.out.len] at this; exact absurd this hlt)
      go_wp2_with fail
      refine (refTo_any H.out (k : Int) (by omega)).mono ?_
      rw [HE.out]
      rintro e w1 ⟨rfl, hm, hc⟩
      have HM := Lib.hid hm
      have HC := Lib.hid hc
      clear hm hc
      go_wp2
      go_ret
      exact ⟨rfl, HM.out, HC.out⟩

/-- What the reference's Go makes of a place. -/
def goP (l : List Ent) (p : Option Nat) (d : Int) : Option Nat := match p with
  | none => none
  | some i => toP l ((i : Int) + d)
theorem goP_next (l : List Ent) (p : Option Nat) : goP l p 1 = mvNext l p := by
  cases p with
  | none => rfl
  | some i => exact toP_nat l (i + 1)
theorem goP_prev (l : List Ent) (p : Option Nat) : goP l p (-1) = mvPrev l p := by
  cases p with
  | none => rfl
  | some i =>
    unfold goP mvPrev
    simp only
    by_cases h : i = 0
    · subst h
      rfl
    · rw [if_neg h, ← toP_nat]
      congr 1
      omega

set_option maxHeartbeats 2000000 in
theorem refGo_any {A : Option Addr} {n c b : Nat} {l : List Ent} {p : Option Nat} {w : World} (h : RC A n c l b p w) (d : Int) (hd : d = 1 ∨ d = -1) :
    Calls Try.prog 18 #[pb b, .int .i64 d] w (RPost A n c l b (goP l p d) w) := by
  have hn := h.few
  have c1 := h.c1
  have H := Lib.hid h
  cases p with
  | none =>
    have c1' : w.cell? ⟨b, 1, none⟩ = some (.int .i64 (-1)) := c1
    clear c1 h
    go_enter Try.func18, Try.ntmps18
    go_wp2
    go_ret
    exact ⟨rfl, .refl fun i hi => by rw [hi]; exact H.out.lt, H.out⟩
  | some i =>
    have hi := h.ok i rfl
    rw [h.len] at hi
    have c1' : w.cell? ⟨b, 1, none⟩ = some (.int .i64 (i : Int)) := c1
    have hi2 : -9223372036854775808 ≤ (i : Int) + d ∧ (i : Int) + d ≤ 9223372036854775807 := by omega
    clear c1 h
    go_enter Try.func18, Try.ntmps18
    go_wp2_with fail
    refine (refTo_any H.out ((i : Int) + d) (by omega)).mono ?_
    rintro e w1 ⟨rfl, hm, hc⟩
    have HM := Lib.hid hm
    have HC := Lib.hid hc
    clear hm hc
    go_wp2
    go_ret
    exact ⟨rfl, HM.out, HC.out⟩

set_option maxHeartbeats 4000000 in
set_option maxRecDepth 100000 in
theorem refEntry_any {A : Option Addr} {n c b : Nat} {l : List Ent} {p : Option Nat} {w : World} (h : RC A n c l b p w) (hc : n ≤ c) :
    Calls Try.prog 21 #[pb b] w fun e w' => e = .returned (ansV (entAt l p)) ∧ Below w.heap.size w w' := by
  have hn := h.few
  have H := Lib.hid h
  clear h
  obtain ⟨w1, hw1⟩ : ∃ w1, w.alloc (.cells #[.string ⟨#[]⟩, .string ⟨#[]⟩] 39) = w1 := ⟨_, rfl⟩
  have hb1 : Below w.heap.size w w1 := by rw [← hw1]; exact (Below.refl _ _).alloc (Nat.le_refl _) _
  have hr1 : w1.heap[w.heap.size]? = some (.cells #[.string ⟨#[]⟩, .string ⟨#[]⟩] 39 (0, 0)) := by rw [← hw1]; exact heap_alloc_new w _
  have H1 := Lib.hid (H.out.below hb1)
  have HB1 := Lib.hid hb1
  have HR1 := Lib.hid hr1
  have HW1 := Lib.hid hw1
  have c1 := (H.out.below hb1).c1
  clear hw1 hb1 hr1
  cases p with
  | none =>
    have c1' : w1.cell? ⟨b, 1, none⟩ = some (.int .i64 (-1)) := c1
    rw [← HW1.out] at c1'
    clear c1
    go_enter Try.func21, Try.ntmps21
    go_wp2
    rw [HW1.out]
    refine bodyPost_ret (v := .tuple #[.agg #[.string ⟨#[]⟩, .string ⟨#[]⟩], .bool false]) ?_ rfl ⟨rfl, HB1.out⟩
    have k0 := cell_row HR1.out 0 (.string ⟨#[]⟩) rfl
    have k1 := cell_row HR1.out 1 (.string ⟨#[]⟩) rfl
    simp [results, Try.results21, go_sem, k0, k1]
  | some i =>
    have hi := H.out.ok i rfl
    obtain ⟨ad, x, hA, hx, hl, h1, h2⟩ := H1.out.es.at_ hi
    rw [H.out.len] at hi
    subst hA
    have hdx : entAt l (some i) = some x := hx
    have hcb : w1.cell? ⟨b, 1, none⟩ = some (.int .i64 (i : Int)) := c1
    have hcc := hcb
    rw [← HW1.out] at hcc
    obtain ⟨w3, hw3⟩ : ∃ w3, (w.alloc (.cells #[.string ⟨#[]⟩, .string ⟨#[]⟩] 39)).drew = w3 := ⟨_, rfl⟩
    have hb3 : Below w1.heap.size w1 w3 := by rw [← hw3, HW1.out]; exact (Below.refl _ _).drew
    have hr3 : w3.heap[w.heap.size]? = some (.cells #[.string ⟨#[]⟩, .string ⟨#[]⟩] 39 (0, 0)) := (hb3.block _ (at_lt HR1.out)).trans HR1.out
    have hc0 : ∀ q' : Dc.Past [] w3, q'.val.cell? ⟨b, 0, none⟩ = some (.slice (some ad) n c) := fun q' => (q'.ok.cell (Nat.lt_of_lt_of_le H1.out.lt hb3.size) (by simp)).trans (H1.out.below hb3).c0
    have hc1 : ∀ q' : Dc.Past [] w3, q'.val.cell? ⟨b, 1, none⟩ = some (.int .i64 (i : Int)) := fun q' => (q'.ok.cell (Nat.lt_of_lt_of_le H1.out.lt hb3.size) (by simp)).trans (H1.out.below hb3).c1
    have hx0 : ∀ q' : Dc.Past [] w3, q'.val.cell? (ad.add (i * 2)) = some (.string x.k) := fun q' => (q'.ok.cell (by rw [block_of_add]; exact Nat.lt_of_lt_of_le hl hb3.size) (by simp)).trans ((hb3.cell (by rw [block_of_add]; exact hl)).trans h1)
    have hx1 : ∀ q' : Dc.Past [] w3, q'.val.cell? ⟨(ad.add (i * 2)).block, (ad.add (i * 2)).off + 1, none⟩ = some (.string x.v) := fun q' => (q'.ok.cell (by show (ad.add (i * 2)).block < _; rw [block_of_add]; exact Nat.lt_of_lt_of_le hl hb3.size) (by simp)).trans ((hb3.cell (by show (ad.add (i * 2)).block < _; rw [block_of_add]; exact hl)).trans h2)
    have q0 := cell_row hr3 0 _ rfl
    have q1 := cell_row hr3 1 _ rfl
    have f0 : w3.frozen? ⟨w.heap.size, 0, none⟩ = false := by simp [World.frozen?, hr3]
    have f1 : w3.frozen? ⟨w.heap.size, 1, none⟩ = false := by simp [World.frozen?, hr3]
    have HBx := Lib.hid (cells_set (cells_set hr3 0 (.string x.k)) 1 (.string x.v))
    have HG := Lib.hid (((bthen HB1.out hb3).setCell (p := ⟨w.heap.size, 0, none⟩) (Nat.le_refl _) (.string x.k)).setCell (p := ⟨w.heap.size, 1, none⟩) (Nat.le_refl _) (.string x.v))
    have HW3 := Lib.hid hw3
    have HDX := Lib.hid hdx
    clear hb3 hr3 hw3 h1 h2 hx c1 hcb hdx
    go_enter Try.func21, Try.ntmps21
    go_wp2
    refine Dc.wp_region_segs 10 [] [([0, 1, 2, 3, 4, 5, 6, 7, 8, 9], 10)] [11] (by kernel_rfl) (by kernel_rfl) (by kernel_rfl) (by kernel_rfl) (by kernel_rfl) (by intro c a d v w h; cases d <;> exact h) ?_
    rw [HW3.out]
    refine Dc.wpSegs_more ?_
    simp only [Dc.pick, List.getElem?_cons_zero, List.getElem?_cons_succ]
    repeat (first | go_big_quiet_step (fail) | quiet_step (fail))
    refine wpQuiet_nil ?_
    clear hc0 hc1 hx0 hx1
    refine Dc.wpOp_heavy rfl (by rfl) (fun K hK => ?_)
    go_simp
    refine hK _ _ (fun h => absurd rfl h) ?_
    clear hK K
    refine Dc.wpSegs_last ?_
    simp only [Dc.pick, List.getElem?_cons_zero, List.getElem?_cons_succ]
    repeat (first | go_big_quiet_step (fail) | quiet_step (fail))
    refine wpQuiet_nil ?_
    go_wp2
    refine bodyPost_ret (v := .tuple #[.agg #[.string x.k, .string x.v], .bool true]) ?_ rfl ⟨by rw [HDX.out]; rfl, HG.out⟩
    have k0 := cell_row HBx.out 0 (.string x.k) rfl
    have k1 := cell_row HBx.out 1 (.string x.v) rfl
    simp [results, Try.results21, go_sem, k0, k1]

end Go.Proofs.Ytkooaechcbopnaa
