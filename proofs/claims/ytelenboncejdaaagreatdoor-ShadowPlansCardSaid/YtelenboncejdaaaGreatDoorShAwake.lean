/-
  The contract of awake of the rows of layer 14; condition: the check's table lies in memory.
-/
import Derived.Test.YtelenboncejdaaaGreatDoorShBuilt
namespace Go.Proofs.YtelenboncejdaaaGreatDoor
open Go.RowKit Go.Sort
open Rt (Fx Stp)
set_option linter.unusedVariables false
set_option linter.unusedSimpArgs false

/-- What pages take together. -/
theorem layM_sum (K : PM) (L : List PN) (j : Nat) (h : ∀ y ∈ layM K L j, y.2.length ≤ 100) (hl : L.length ≤ 1000) : ((layM K L j).map (·.2.length)).sum ≤ 1000000 := by
  have h1 : ∀ M : PM, (∀ y ∈ M, y.2.length ≤ 100) → (M.map (·.2.length)).sum ≤ 100 * M.length := by
    intro M
    induction M with
    | nil => simp
    | cons y M ih =>
      intro h
      have h1 := h y (List.mem_cons_self ..)
      have h2 := ih fun z hz => h z (List.mem_cons_of_mem _ hz)
      rw [List.map_cons, List.sum_cons, List.length_cons]
      omega
  have h2 := h1 _ h
  have h3 : (layM K L j).length = L.length := by
    have := congrArg List.length (layM_keys K L j)
    simpa using this
  omega
theorem pgIs_nil (w : World) : PgIs w (.pointer none) [] := .inl ⟨rfl, rfl⟩
theorem pgs_nil (k : Nat) : pgs [] k = [] := rfl
theorem few_nil : ∀ k : Nat, (pgs [] k).length ≤ 100000 ∧ ∀ x ∈ pgs [] k, okNum x := fun k => ⟨Nat.zero_le _, fun x hx => by cases hx⟩

set_option maxRecDepth 100000 in
set_option maxHeartbeats 4000000 in
theorem shAwake_any (w : World) (hh : Half w) : Calls Tryz.prog 25 #[] w fun r w' => r = .returned (.bool true) ∧ Below w.heap.size w w' := by
  have HH := Lib.hid hh
  clear hh
  go_enter Tryz.func25, Tryz.ntmps25
  go_wp2_with fail
  obtain ⟨e, he⟩ : ∃ e : Ent, e = ⟨⟨#[97]⟩, ⟨#[]⟩⟩ := ⟨_, rfl⟩
  have hek : (⟨#[97]⟩ : ByteArray) = e.k := by rw [he]
  have hev : (⟨#[]⟩ : ByteArray) = e.v := by rw [he]
  have hok : okE e = true := by rw [he]; rfl
  have hks : e.k.size = 1 := by rw [he]; rfl
  have hvs : e.v.size = 0 := by rw [he]; rfl
  rw [hek, hev]
  refine (put_any (T := none) (TreeIs.none w) (fun x hx => by cases hx) (by omega) (by omega)).mono ?_
  rintro r w1 ⟨T', rfl, ht', hb1, hno, hyes⟩
  obtain ⟨hl', _, hx⟩ := hyes hok
  have hz : errOf e = 0 := by have := hok; rw [errOf_ok] at this; exact of_decide_eq_true this
  rw [hz]
  have hl' : tl T' = [e] := hl'
  cases T' with
  | none => cases hl'
  | some x =>
    obtain ⟨h, s⟩ := x
    have t : Tr w1 h s := ht' (h, s) rfl
    have hsl : s.l = [e] := hl'
    have hh : h = 0 := by
      have := t.len
      rw [hsl] at this
      simpa using this
    subst hh
    have hp : PrT w1 (some (0, s)) [⟨s.b, 0, [e], []⟩] := ⟨t, by rw [hsl]⟩
    have hc : (cutL e.v).length = 0 := by rw [he]; rfl
    have hnew : newC [] [(⟨s.b, 0, [e], []⟩ : PN)] = 1 := by
      rw [newC_nil]
      simp [costs, PN.cost, pieces, hc]
    have HP := Lib.hid hp
    have HN := Lib.hid hnew
    have HB1 := Lib.hid hb1
    have HTL : Hid ((tl (some (0, s))).length ≤ 4000) := Lib.hid (by rw [show tl (some (0, s)) = s.l from rfl, hsl]; simp)
    obtain ⟨tv, htv⟩ : ∃ tv, tv = tb (some (0, s)) := ⟨_, rfl⟩
    rw [← htv]
    have HTV := Lib.hid htv
    have HC := Lib.hid hc
    clear hno hyes hx hb1 hl' hz t ht' hsl hok hks hvs he hek hev hp hc hnew htv
    go_wp2_with fail
    refine (ldNew_any 9 w1).mono ?_
    rintro r w2 ⟨b, rfl, hd2, hge, hb2⟩
    have HD2 := Lib.hid (show Led w2 b 9 noMark noMark noMark from hd2)
    have HB2 := Lib.hid hb2
    have HG := Lib.hid hge
    clear hd2 hb2 hge
    go_wp2_with fail
    refine (newS_any w2).mono ?_
    rintro r w3 ⟨g, m, rfl, hpb, hg1, hg2, hgm, hb3⟩
    have HD3 := Lib.hid (HD2.out.below hb3)
    have HB3 := Lib.hid (bthen HB2.out hb3)
    have HPB := Lib.hid hpb
    have HSZ := Lib.hid hb3.size
    clear hpb hg1 hg2 hgm hb3
    go_wp2_with fail
    rw [HTV.out]
    refine (planL_ok (j := 0) HP.out HB3.out HG.out (by rw [tkn_zero]; exact HD3.out) (.inr ⟨g, some m, [], rfl, HPB.out, rfl⟩ : PgIs w3 (.pointer (some ⟨g, 0, none⟩)) []) few_nil (HH.out.below HB1.out) HTL.out (by rw [HN.out]; omega)).mono ?_
    intro r w4 hpo
    obtain ⟨v, g', m', R, ws, rfl, hp1, hp2, _, _, hw1, hw2, _⟩ := hpo.out
    have hfil : ([(⟨s.b, 0, [e], []⟩ : PN)].filter (fresh [])) = [⟨s.b, 0, [e], []⟩] := rfl
    have hlen : ws.length = 1 := by
      have := congrArg List.length hw2
      rw [List.length_map, List.length_map, hfil] at this
      rw [this]
      show (drafts _ (⟨s.b, 0, [e], []⟩ : PN) ++ []).length = 1
      rw [List.append_nil, drafts, if_pos rfl, List.length_append, leafD_len]
      simp [pieces, HC.out]
    have hroot : rootP (layM [] [(⟨s.b, 0, [e], []⟩ : PN)] 0) (tn (some (0, s))) = 2 := by
      show ownP [(s.b, nodePgs 0 ⟨s.b, 0, [e], []⟩)] s.b = 2
      rw [ownP, pgs_one, nodePgs]
      simp [pieces, HC.out]
    rw [hroot]
    obtain ⟨A, c, rfl, hc, hr⟩ := hw1.form
    rw [hlen] at hc ⊢
    have HPG : Hid (PgIs w4 (.pointer (some ⟨g', 0, none⟩)) (layM [] [(⟨s.b, 0, [e], []⟩ : PN)] 0)) := Lib.hid (.inr ⟨g', some m', R, rfl, hp1, hp2.symm⟩)
    have HB4 := Lib.hid (HB1.out.trans (hpo.bel.mono HB1.out.size))
    clear hpo hp1 hp2 hw1 hw2 hlen hroot hr
    go_wp2_with fail
    refine (all_any HPG.out (by
      refine layM_sum _ _ _ (fun y hy => ?_) (by simp)
      obtain ⟨P, hP, _, ⟨_, i, _, _, h⟩ | ⟨h, _⟩⟩ := layM_mem hy
      · rw [h, nodePgs_len, List.mem_singleton.1 hP]
        simp [PN.cost, pieces, HC.out]
      · cases h)).mono ?_
    rintro r w5 ⟨v5, l5, rfl, ho5, hri, hmem, hb5⟩
    have hl5 : l5.length = 1 := by
      have : l5 = [2] := rising_ext hri (List.pairwise_singleton _ _) fun x => by
        rw [hmem]
        show (∃ y ∈ [(s.b, nodePgs 0 (⟨s.b, 0, [e], []⟩ : PN))], x ∈ y.2) ↔ x ∈ [2]
        simp [nodePgs, ups, pieces, HC.out]
      rw [this]
      rfl
    obtain ⟨A5, c5, rfl, hc5, hr5⟩ := ho5.form
    rw [hl5] at hc5 ⊢
    have HB5 := Lib.hid (bthen HB4.out hb5)
    clear ho5 hri hmem hb5 hl5 hr5
    go_wp2
    go_ret
    exact ⟨rfl, HB5.out⟩

end Go.Proofs.YtelenboncejdaaaGreatDoor
