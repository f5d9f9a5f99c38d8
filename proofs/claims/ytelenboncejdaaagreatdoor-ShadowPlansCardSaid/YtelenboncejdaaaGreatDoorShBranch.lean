/-
  The contracts of plan.branch and plan.drafts: the pages of a node that is to be written; conditions: the node and the plan lie in memory.
-/
import Derived.Test.YtelenboncejdaaaGreatDoorShLeaf
namespace Go.Proofs.YtelenboncejdaaaGreatDoor
open Go.RowKit Go.Sort
set_option linter.unusedVariables false
set_option linter.unusedSimpArgs false

theorem kdInfo : (Tryz.prog.info? 233).map (fun i => (i.zero, i.size, i.bytes)) = some (some (.agg #[.string ByteArray.empty, .int .i64 0]), 2, 24) := by kernel_rfl
abbrev OwnKd (w : World) (base : Nat) (v : Value) (l : List PK) : Prop := OwnL pcK 233 2 w base v l
/-- A kid on a page. -/
def pkOf (M : PM) (k : ByteArray × Nat) : PK := ⟨k.1, ownP M k.2⟩

set_option maxHeartbeats 4000000 in
set_option maxRecDepth 100000 in
theorem branch_any' {w : World} {pb gb : Nat} {o : Option Nat} {R : List PR} {P : PN} {N : NR} (hbox : w.cell? ⟨pb, 2, none⟩ = some (.pointer (some ⟨gb, 0, none⟩))) (hpb : pb < w.heap.size) (hPB : PB w gb o R) (hN : PNAt' w P N) (hl : ∀ k ∈ P.ks, (pgs (Mof R) k.2).length ≤ 1000000) :
    Calls Tryz.prog 115 #[.pointer (some ⟨pb, 0, none⟩), pn P.b] w fun e w' => ∃ B c, e = .returned (pageV (brP (Mof R) P.ks) none 0 B c) ∧ OwnKd w' w.heap.size (.slice B (brP (Mof R) P.ks).kids.length c) (brP (Mof R) P.ks).kids ∧ Below w.heap.size w w' := by
  have HBOX := Lib.hid hbox
  have HPB := Lib.hid hPB
  have HN := Lib.hid hN
  have HL := Lib.hid hl
  have HPBL := Lib.hid hpb
  obtain ⟨hen, hkn⟩ := hN.few
  clear hbox hPB hN hl hpb
  obtain ⟨w0, hw0⟩ : ∃ w0, w0 = w.alloc (.cells #[.int .i64 0, .slice none 0 0, .slice none 0 0, .string ⟨#[]⟩, .int .i64 0] 170) := ⟨_, rfl⟩
  have hb0 : Below w.heap.size w w0 := by rw [hw0]; exact (Below.refl _ _).alloc (Nat.le_refl _) _
  have hx0 : w0.heap[w.heap.size]? = some (.cells #[.int .i64 0, .slice none 0 0, .slice none 0 0, .string ⟨#[]⟩, .int .i64 0] 170 (0, 0)) := by rw [hw0]; exact heap_alloc_new _ _
  have HW0 := Lib.hid hw0
  have HB0 := Lib.hid hb0
  have HX0 := Lib.hid hx0
  have HN0 := Lib.hid (HN.out.below hb0)
  clear hw0 hb0 hx0
  go_enter Tryz.func115, Tryz.ntmps115
  go_wp2_with fail
  rw [← HW0.out]
  refine (kids_any HN0.out.at_ HN0.out.ka (by rw [List.length_map]; exact HN0.out.kn) (by omega)).mono ?_
  rintro e w1 ⟨v11, rfl, ho, hb1⟩
  obtain ⟨A, c, rfl, hc, hr⟩ := ho.form
  obtain ⟨n, hn⟩ : ∃ n, n = P.ks.length := ⟨_, rfl⟩
  rw [List.length_map, ← hn] at hc ⊢
  have hn6 : n ≤ 6 := by rw [hn, HN.out.kn]; exact hkn
  have HR := Lib.hid hr
  have HB1 := Lib.hid hb1
  have HNN := Lib.hid hn
  clear ho hr hb1 hn
  go_wp2_with fail
  go_loopw [5, 13] (fun s5 s13 wr => ∃ (k : Nat) (v : Value), v = s5 ∧ k ≤ n ∧ s13 = .int .i64 k ∧ OwnKd wr w1.heap.size v ((P.ks.take k).map (pkOf (Mof R))) ∧ Below w1.heap.size w1 wr) (fun _ s13 _ => n - (intOf s13).toNat)
  case atStart => exact ⟨0, _, rfl, Nat.zero_le _, rfl, OwnL.nil_ _ _ _, Below.refl _ _⟩
  case round =>
    obtain ⟨k, v, rfl, hk, rfl, hown, hbw⟩ := hrel
    have HOWN := Lib.hid hown
    have HBW := Lib.hid hbw
    have HBWW := Lib.hid (HB0.out.trans ((HB1.out.trans (hbw.mono HB1.out.size)).mono HB0.out.size))
    clear hown hbw
    by_cases hlt : k < n
    · have hkl : k < P.ks.length := by rw [← HNN.out]; exact hlt
      obtain ⟨ad, p, rfl, hpk, hl1, q0⟩ := (HR.out.below HBW.out).ptr_at (i := k) (by rw [List.length_map]; exact hkl)
      obtain ⟨kd, hkd⟩ : ∃ kd, P.ks[k]? = some kd := ⟨_, List.getElem?_eq_getElem hkl⟩
      rw [List.getElem?_map, hkd] at hpk
      simp only [Option.map_some, Option.some.injEq] at hpk
      subst hpk
      obtain ⟨M, hM1, hM2⟩ := HN.out.lo kd (List.mem_of_getElem? hkd)
      have HM := Lib.hid (hM1.below HBWW.out)
      have HML := Lib.hid hM2
      have HKD := Lib.hid hkd
      unfold ptr at q0
      simp only [Option.map_some] at q0
      have hends := ends_any HM.out
      unfold pn at hends
      clear hkd hM1 hM2
      go_wp2_with fail
      refine hends.mono ?_
      rintro e w2 ⟨rfl, nq, rfl⟩
      have hbd : Below wr.heap.size wr (wr.drewN nq) := below_drewN (Below.refl _ _) _
      have HBD := Lib.hid (HBWW.out.trans (hbd.mono HBWW.out.size))
      have cbx := (HBD.out.cell (p := ⟨pb, 2, none⟩) HPBL.out).trans HBOX.out
      have hown := own_some (HPB.out.below HBD.out) (HM.out.below hbd) (HL.out kd (List.mem_of_getElem? HKD.out))
      unfold pn at hown
      have HBDR := Lib.hid (HBW.out.trans (hbd.mono HBW.out.size))
      have HOWD := Lib.hid (HOWN.out.below hbd)
      rw [HML.out]
      generalize wr.drewN nq = wd at *
      clear hends hbd
      go_wp2_with fail
      refine hown.mono ?_
      rintro e w3 ⟨rfl, hb3⟩
      have HO3 := Lib.hid (HOWD.out.below hb3)
      have HB3 := Lib.hid (HBDR.out.trans (hb3.mono HBDR.out.size))
      have hbz : Below w3.heap.size w3 (w3.alloc (.cells (pcK (pkOf (Mof R) kd)).toArray 233)) := (Below.refl _ _).alloc (Nat.le_refl _) _
      obtain ⟨v9, w9, hrun, hown9, hg9⟩ := run_append_one encK 168 233 168 _ _ ⟨_, Tryz.underlying168, rfl⟩ kdInfo rfl (by omega) (by omega) (by omega) HO3.out (pkOf (Mof R) kd) (by rw [List.length_map, List.length_take]; omega) HB3.out.size
      have HO9 : Hid (OwnKd w9 w1.heap.size v9 ((P.ks.take (k + 1)).map (pkOf (Mof R)))) := Lib.hid (by
        rw [List.take_add_one, HKD.out]
        simpa using hown9)
      have HB9 := Lib.hid ((HB3.out.trans (hbz.mono HB3.out.size)).grown hg9 (Nat.le_trans HB3.out.size hbz.size) fun q hq => HO3.out.at_block q hq)
      have HRUN : Hid ((Builtin.append_ #[168, 168] 168 #[v, .slice (some ⟨w3.heap.size, 0, none⟩) 1 1]).run Tryz.prog (w3.alloc (.cells #[.string kd.1, .int .i64 (ownP (Mof R) kd.2)] 233)) = .ok v9 w9) := Lib.hid hrun
      clear hrun hown9 hg9 hbz hb3 hown
      go_wp2_with (at_builtin; refine wpList_append_ran rfl (.tmp 22) (.tmp 31) 168 rfl _ _ _ _ rfl rfl HRUN.out ?_)
      exact ⟨⟨k + 1, v9, rfl, by omega, by go_num, HO9.out, HB9.out⟩, by simp [intOf]; omega⟩
    · have he : k = n := by omega
      subst he
      have hlk : P.ks.take k = P.ks := List.take_of_length_le (by rw [← HNN.out]; exact Nat.le_refl _)
      rw [hlk] at HOWN
      obtain ⟨A9, c9, rfl, _, hr9⟩ := HOWN.out.form
      rw [List.length_map, ← HNN.out]
      have HR9 := Lib.hid hr9
      have HX := Lib.hid (((HB1.out.trans (HBW.out.mono HB1.out.size)).block _ (lt_of_block HX0.out)).trans HX0.out)
      have f0 := free_at HX.out 0
      have f1 := free_at HX.out 1
      have f2 := free_at HX.out 2
      have f3 := free_at HX.out 3
      have f4 := free_at HX.out 4
      have k0 := cell_at HX.out 0 (.int .i64 0) rfl
      have k1 := cell_at HX.out 1 (.slice none 0 0) rfl
      have k2 := cell_at HX.out 2 (.slice none 0 0) rfl
      have k3 := cell_at HX.out 3 (.string ⟨#[]⟩) rfl
      have k4 := cell_at HX.out 4 (.int .i64 0) rfl
      clear hlk hr9
      go_wp2_with fail
      have hU0 : (((((wr.setCell ⟨w.heap.size, 0, none⟩ (.int .i64 2)).setCell ⟨w.heap.size, 1, none⟩ (.slice none 0 0)).setCell ⟨w.heap.size, 2, none⟩ (.slice A9 k c9)).setCell ⟨w.heap.size, 3, none⟩ (.string ⟨#[]⟩)).setCell ⟨w.heap.size, 4, none⟩ (.int .i64 0)).heap[w.heap.size]? = some (.cells #[.int .i64 2, .slice none 0 0, .slice A9 k c9, .string ⟨#[]⟩, .int .i64 0] 170 (0, 0)) :=
        blk_set (blk_set (blk_set (blk_set (blk_set HX.out 0 _) 1 _) 2 _) 3 _) 4 _
      have hUo : ∀ j : Nat, j ≠ w.heap.size → (((((wr.setCell ⟨w.heap.size, 0, none⟩ (.int .i64 2)).setCell ⟨w.heap.size, 1, none⟩ (.slice none 0 0)).setCell ⟨w.heap.size, 2, none⟩ (.slice A9 k c9)).setCell ⟨w.heap.size, 3, none⟩ (.string ⟨#[]⟩)).setCell ⟨w.heap.size, 4, none⟩ (.int .i64 0)).heap[j]? = wr.heap[j]? := fun j hj => by
        rw [Below.heap_setCell _ _ _ _ hj, Below.heap_setCell _ _ _ _ hj, Below.heap_setCell _ _ _ _ hj, Below.heap_setCell _ _ _ _ hj, Below.heap_setCell _ _ _ _ hj]
      have hUx : Rt.Fx wr (((((wr.setCell ⟨w.heap.size, 0, none⟩ (.int .i64 2)).setCell ⟨w.heap.size, 1, none⟩ (.slice none 0 0)).setCell ⟨w.heap.size, 2, none⟩ (.slice A9 k c9)).setCell ⟨w.heap.size, 3, none⟩ (.string ⟨#[]⟩)).setCell ⟨w.heap.size, 4, none⟩ (.int .i64 0)) := ⟨rfl, rfl, rfl, by simp [World.setCell]⟩
      generalize (((((wr.setCell ⟨w.heap.size, 0, none⟩ (.int .i64 2)).setCell ⟨w.heap.size, 1, none⟩ (.slice none 0 0)).setCell ⟨w.heap.size, 2, none⟩ (.slice A9 k c9)).setCell ⟨w.heap.size, 3, none⟩ (.string ⟨#[]⟩)).setCell ⟨w.heap.size, 4, none⟩ (.int .i64 0)) = U at hU0 hUo hUx ⊢
      have hrU : OwnKd U w.heap.size (.slice A9 (P.ks.map (pkOf (Mof R))).length c9) (P.ks.map (pkOf (Mof R))) := (HOWN.out.keep (w' := U) fun g hg hlt => hUo g (by
          have h2 := HOWN.out.at_block g hg
          have h3 := HB1.out.size
          have h4 := lt_of_block HX0.out
          omega)).mono (Nat.le_trans HB0.out.size HB1.out.size)
      have hbU : Below w.heap.size w U := ⟨hUx.os.trans HBWW.out.os, hUx.tape.trans HBWW.out.tape, hUx.output.trans HBWW.out.output, Nat.le_trans HBWW.out.size hUx.size, fun j hj => (hUo j (by omega)).trans (HBWW.out.block j hj)⟩
      have j0 := cell_at hU0 0 (.int .i64 2) rfl
      have j1 := cell_at hU0 1 (.slice none 0 0) rfl
      have j2 := cell_at hU0 2 (.slice A9 k c9) rfl
      have j3 := cell_at hU0 3 (.string ⟨#[]⟩) rfl
      have j4 := cell_at hU0 4 (.int .i64 0) rfl
      have hpv : pageV (brP (Mof R) P.ks) none 0 A9 c9 = .agg #[.int .i64 2, .slice none 0 0, .slice A9 k c9, .string ⟨#[]⟩, .int .i64 0] := by
        have hl : (brP (Mof R) P.ks).kids.length = k := by
          rw [HNN.out]
          simp [brP]
        unfold pageV
        rw [hl]
        rfl
      refine bodyPost_ret (v := .agg #[.int .i64 2, .slice none 0 0, .slice A9 k c9, .string ⟨#[]⟩, .int .i64 0]) ?_ rfl ⟨A9, c9, by rw [hpv], hrU, hbU⟩
      simp [results, Tryz.results115, go_sem, j0, j1, j2, j3, j4]

set_option maxHeartbeats 4000000 in
set_option maxRecDepth 100000 in
theorem drafts_any {w : World} {pb gb : Nat} {o : Option Nat} {R : List PR} {P : PN} {N : NR} (hbox : w.cell? ⟨pb, 2, none⟩ = some (.pointer (some ⟨gb, 0, none⟩))) (hpb : pb < w.heap.size) (hPB : PB w gb o R) (hN : PNAt' w P N) (hl : ∀ k ∈ P.ks, (pgs (Mof R) k.2).length ≤ 1000000)
    (hl2 : (pgs (Mof R) P.b).length ≤ 1000000) (hc : P.cost ≤ (pgs (Mof R) P.b).length) :
    Calls Tryz.prog 78 #[.pointer (some ⟨pb, 0, none⟩), pn P.b] w fun e w' => ∃ v ds, e = .returned v ∧ OwnD w' w.heap.size v ds ∧ ds.map DR.pr = drafts (Mof R) P ∧ (∀ x ∈ ds, DOk w' w.heap.size x) ∧ Below w.heap.size w w' := by
  have HBOX := Lib.hid hbox
  have HPB := Lib.hid hPB
  have HN := Lib.hid hN
  have HL := Lib.hid hl
  have HPBL := Lib.hid hpb
  have HC := Lib.hid hc
  have hof := of_some hPB hN.at_ hl2
  unfold pn at hof
  clear hPB hN hl hpb hl2 hc
  go_enter Tryz.func78, Tryz.ntmps78
  unfold pn
  go_wp2_with fail
  refine hof.mono ?_
  rintro e w1 ⟨v5, rfl, ho5, hb1⟩
  have hhe := height_any (HN.out.at_.below hb1)
  have HN1 := Lib.hid (HN.out.below hb1)
  have HH := Lib.hid HN.out.h
  obtain ⟨A, c, rfl, hcc, hr⟩ := ho5.form
  obtain ⟨m, hm⟩ : ∃ m, (pgs (Mof R) P.b).length = m := ⟨_, rfl⟩
  rw [hm] at hcc HC ⊢
  have HM := Lib.hid hm
  have HR := Lib.hid hr
  have HB1 := Lib.hid hb1
  have hm1 : 1 ≤ m := by have := HC.out; unfold PN.cost at this; omega
  unfold pn at hhe
  clear hof ho5 hr hm hbox
  go_wp2_with fail
  refine hhe.mono ?_
  rintro e w2 ⟨rfl, rfl⟩
  rw [HH.out]
  clear hhe
  by_cases h0 : P.h = 0
  · have hkind : okLeaf P.l = true ∧ P.ks = [] := by
      rcases HN.out.kind with ⟨_, h1, h2⟩ | ⟨h, _⟩
      · exact ⟨h1, h2⟩
      · exact absurd h0 h
    have hle := shLeaf_any (m := m) (d := c) HN1.out.at_ HN1.out.es HN1.out.en (by have := HN1.out.few.1; omega) HN1.out.val HR.out HM.out hcc HC.out
    have HD : Hid (drafts (Mof R) P = leafD P.l (pgs (Mof R) P.b).tail ++ [(ownP (Mof R) P.b, leafP P.l (pgs (Mof R) P.b).tail)]) := Lib.hid (by unfold drafts; rw [if_pos h0])
    rw [h0]
    unfold pn at hle
    clear hkind h0
    go_wp2_with fail
    refine hle.mono ?_
    rintro e w3 ⟨v, ds, rfl, h1, h2, h3, h4⟩
    have H1 := Lib.hid h1
    clear h1
    go_wp2
    go_ret
    refine ⟨v, ds, rfl, H1.out.mono HB1.out.size, ?_, fun y hy => (h3 y hy).mono HB1.out.size, bthen HB1.out h4⟩
    rw [HD.out, h2]
    rfl
  · have h0' : ¬ (P.h : Int) + 1 = 1 := by omega
    have HD : Hid (drafts (Mof R) P = [(ownP (Mof R) P.b, brP (Mof R) P.ks)]) := Lib.hid (by unfold drafts; rw [if_neg h0])
    obtain ⟨ad, x, rfl, hx, hlt, hcell⟩ := HR.out.atI (i := 0) (by rw [HM.out]; omega)
    rw [show ad.add 0 = ad from rfl] at hcell
    have HX : Hid (ownP (Mof R) P.b = x) := Lib.hid (by
      unfold ownP
      cases hp : pgs (Mof R) P.b with
      | nil => rw [hp] at hx; simp at hx
      | cons y t => rw [hp] at hx; simpa using hx)
    obtain ⟨W, hW⟩ : ∃ W, W = w1.drew := ⟨_, rfl⟩
    have hbW : Below w1.heap.size w1 W := by rw [hW]; exact (Below.refl _ _).drew
    have qc : ∀ q : Dc.Past [] W, q.val.cell? ad = some (.int .i64 x) := fun q => (q.ok.cell (Nat.lt_of_lt_of_le hlt hbW.size) (by simp)).trans ((hbW.cell hlt).trans hcell)
    have HBWW := Lib.hid (bthen HB1.out hbW)
    have HBW1 := Lib.hid hbW
    have HW := Lib.hid hW
    clear hW hbW hx hcell
    have hbr := branch_any' (w := W) (P := P) (N := N) (R := R) (pb := pb) (gb := gb) (o := o) ((HBWW.out.cell (p := ⟨pb, 2, none⟩) HPBL.out).trans HBOX.out) (Nat.lt_of_lt_of_le HPBL.out HBWW.out.size) (HPB.out.below HBWW.out) (HN.out.below HBWW.out) HL.out
    unfold pn at hbr
    have hpush : (((P.h : Nat) + 1 : Nat) : Int) = (P.h : Int) + 1 := by push_cast; rfl
    rw [hpush]
    clear hpush
    go_wp2_with fail
    refine Dc.wp_region_segs 7 [] [([0, 1, 2, 3, 4], 5), ([6], 7)] [8] (by kernel_rfl) (by kernel_rfl) (by kernel_rfl) (by kernel_rfl) (by kernel_rfl) (by intro c a d v w h; cases d <;> exact h) ?_
    rw [← HW.out]
    refine Dc.wpSegs_more ?_
    simp only [Dc.pick, List.getElem?_cons_zero, List.getElem?_cons_succ]
    repeat (first | go_big_quiet_step (fail) | quiet_step (fail))
    refine wpQuiet_nil ?_
    refine Dc.wpOp_heavy rfl (by rfl) (fun K hK => ?_)
    go_simp
    refine hbr.mono ?_
    rintro e w3 ⟨B, cb, rfl, hk3, hb3⟩
    refine hK _ _ (fun _ => Dc.But.of_below hb3) ?_
    clear hK K qc hbr
    obtain ⟨nk, hnk⟩ : ∃ nk, (brP (Mof R) P.ks).kids.length = nk := ⟨_, rfl⟩
    have hpv : pageV (brP (Mof R) P.ks) none 0 B cb = .agg #[.int .i64 2, .slice none 0 0, .slice B nk cb, .string ⟨#[]⟩, .int .i64 0] := by
      unfold pageV
      rw [hnk]
      rfl
    have hpd : pcD ⟨x, brP (Mof R) P.ks, none, 0, B, cb⟩ = [.int .i64 x, .int .i64 2, .slice none 0 0, .slice B nk cb, .string ⟨#[]⟩, .int .i64 0] := by
      simp only [pcD, hnk]
      rfl
    have hbz : Below w3.heap.size w3 (w3.alloc (.cells #[.int .i64 x, .int .i64 2, .slice none 0 0, .slice B nk cb, .string ⟨#[]⟩, .int .i64 0] 172)) := (Below.refl _ _).alloc (Nat.le_refl _) _
    have HO4 : Hid (OwnD (w3.alloc (.cells #[.int .i64 x, .int .i64 2, .slice none 0 0, .slice B nk cb, .string ⟨#[]⟩, .int .i64 0] 172)) w.heap.size (.slice (some ⟨w3.heap.size, 0, none⟩) 1 1) [⟨x, brP (Mof R) P.ks, none, 0, B, cb⟩]) := Lib.hid (by
      refine ⟨by simp [pcD], .inr ⟨w3.heap.size, 1, _, rfl, Nat.le_trans HBWW.out.size hb3.size, heap_alloc_new _ _, Nat.le_refl _, by simp only [maxLen]; omega, by simp, ?_⟩⟩
      rw [List.flatMap_cons, List.flatMap_nil, List.append_nil, hpd]
      rfl)
    have HK4 := Lib.hid ((hk3.below hbz).mono HBWW.out.size)
    have HB4 := Lib.hid (HBWW.out.trans ((hb3.trans (hbz.mono hb3.size)).mono HBWW.out.size))
    rw [hpv]
    clear hnk hpv hpd hk3 hb3
    refine Dc.wpSegs_more ?_
    simp only [Dc.pick, List.getElem?_cons_zero, List.getElem?_cons_succ]
    repeat (first | go_big_quiet_step (fail) | quiet_step (fail))
    refine wpQuiet_nil ?_
    refine Dc.wpOp_heavy rfl (by rfl) (fun K hK => ?_)
    go_simp
    refine hK _ _ (fun _ => Dc.But.of_below hbz) ?_
    clear hK K hbz
    refine Dc.wpSegs_last ?_
    simp only [Dc.pick, List.getElem?_cons_zero, List.getElem?_cons_succ]
    repeat (first | go_big_quiet_step (fail) | quiet_step (fail))
    refine wpQuiet_nil ?_
    go_wp2
    go_ret
    refine ⟨_, _, rfl, HO4.out, ?_, fun y hy => ?_, HB4.out⟩
    · rw [HD.out, HX.out]
      rfl
    · rw [List.mem_singleton.1 hy]
      exact ⟨OwnL.nil_ _ _ _, HK4.out⟩

end Go.Proofs.YtelenboncejdaaaGreatDoor
