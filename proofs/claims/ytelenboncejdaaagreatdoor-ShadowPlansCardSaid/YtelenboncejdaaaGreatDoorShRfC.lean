/-
  Several texts in one: ShRfTree, ShPlSame, ShPlTops. Each says what it proves, and under which conditions.
-/
import Derived.Test.YtelenboncejdaaaGreatDoorShRfB

/-
  The contract of the reference's Lay for a tree; conditions: its nodes were told, few of them.
-/
namespace Go.Proofs.YtelenboncejdaaaGreatDoor
open Go.RowKit Go.Sort
open Rt (Fx Stp)
set_option linter.unusedVariables false
set_option linter.unusedSimpArgs false

theorem newC_append (K : PM) : ∀ A B : List PN, newC K (A ++ B) = newC K A + newC K B
  | [], B => by simp [newC]
  | P :: A, B => by
    rw [List.cons_append, newC, newC, newC_append K A B]
    omega
theorem layM_append (K : PM) : ∀ (A B : List PN) (j : Nat), layM K (A ++ B) j = layM K A j ++ layM K B (j + newC K A)
  | [], B, j => by simp [layM, newC]
  | P :: A, B, j => by
    rw [List.cons_append, layM, layM, newC]
    split
    · rw [layM_append K A B, List.cons_append, Nat.add_assoc]
    · rw [layM_append K A B, List.cons_append, Nat.zero_add]
theorem pgs_part {K : PM} {A B C : List PN} {j : Nat} (hn : ((A ++ B ++ C).map (·.b)).Nodup) {P : PN} (hP : P ∈ B) : pgs (layM K (A ++ B ++ C) j) P.b = pgs (layM K B (j + newC K A)) P.b := by
  rw [List.append_assoc, layM_append, pgs_append_new, layM_append, pgs_append_old]
  · have : P.b ∈ (layM K B (j + newC K A)).map (·.1) := by
      rw [layM_keys]
      exact List.mem_map.2 ⟨P, hP, rfl⟩
    obtain ⟨y, hy, he⟩ := List.mem_map.1 this
    exact ⟨y, hy, he⟩
  · intro x hx he
    have h1 : x.1 ∈ A.map (·.b) := by
      rw [← layM_keys K A j]
      exact List.mem_map.2 ⟨x, hx, rfl⟩
    rw [List.append_assoc, List.map_append, List.nodup_append] at hn
    exact hn.2.2 _ h1 P.b (by rw [List.map_append]; exact List.mem_append_left _ (List.mem_map.2 ⟨P, hP, rfl⟩)) he
theorem allD_append (M : PM) (A B : List PN) : allDrafts M (A ++ B) = allDrafts M A ++ allDrafts M B := by simp [allDrafts]
/-- A list's element, or none. -/
def qi (Q : List (List PN)) (i : Nat) : List PN := (Q[i]?).getD []
theorem take_qi (Q : List (List PN)) (i : Nat) : (Q.take (i + 1)).flatten = (Q.take i).flatten ++ qi Q i := by
  rw [List.take_add_one, List.flatten_append, qi]
  cases Q[i]? <;> simp
theorem part_qi (Q : List (List PN)) (i : Nat) (T : List PN) : Q.flatten ++ T = (Q.take i).flatten ++ qi Q i ++ ((Q.drop (i + 1)).flatten ++ T) := by
  rw [← take_qi]
  conv => lhs; rw [← List.take_append_drop (i + 1) Q, List.flatten_append]
  rw [List.append_assoc]
theorem layM_len (K : PM) (L : List PN) (j : Nat) : (layM K L j).length = L.length := by
  have := congrArg List.length (layM_keys K L j)
  simpa using this

theorem lay_tr {R : Option Addr → List Int → Prop} {wb0 wb : World} {pb base : Nat} {vo : Value} {O : List KN} {l : List (Nat × Nat)} {K : PM} : ∀ {h : Nat} {s : ST} {L : List PN}, Pr wb0 h s L → LC R wb pb vo O l K L → ∀ (w : World) (vn vw : Value) (Nw : List KN) (ws : List (Int × List UInt8)) (j r : Nat) (G : PM), RT wb0 w base l → (s.b, r) ∈ l → Below wb.heap.size wb w → RP w wb.heap.size pb vo vn vw (j + 2) Nw ws →
    j + costs L + 20 ≤ 4000 → ws.length + costs L ≤ 3000 → Nw.length + L.length ≤ 50000 → (∀ P ∈ L, pgs G P.b = pgs (layM K L j) P.b) → (∀ d ∈ allDrafts G (L.filter (fresh K)), okPage d.2 ∧ Bd d.2) →
    Calls Tryz.prog 31 #[.pointer (some ⟨pb, 0, none⟩), .pointer (some ⟨r, 0, none⟩)] w (LayT R wb w pb vo l Nw ws (layM K L j) (allDrafts G (L.filter (fresh K))) (j + newC K L) (ownP G s.b))
  | 0, s, L, hp, hc, w, vn, vw, Nw, ws, j, r, G, hT, hr, hb, hrp, h1, h2, h3, hG, hok => by
    obtain ⟨t, e⟩ := id hp
    obtain ⟨P, hPe⟩ : ∃ P : PN, P = ⟨s.b, 0, s.l, []⟩ := ⟨_, rfl⟩
    rw [← hPe] at e
    subst e
    have hPN := hp.at_ P (List.mem_singleton.2 rfl)
    have hPb : P.b = s.b := by rw [hPe]
    have hPh : P.h = 0 := by rw [hPe]
    have hPk : P.ks = [] := by rw [hPe]
    have hGP := hG P (List.mem_singleton.2 rfl)
    have hcs : costs [P] = P.cost := by simp [costs]
    by_cases hf : fresh K P = true
    · have hlay : layM K [P] j = [(P.b, nodePgs j P)] := by simp [layM, hf]
      have hgp : pgs G P.b = nodePgs j P := by rw [hGP, hlay, pgs_one]
      have hfl : [P].filter (fresh K) = [P] := by simp [hf]
      have hnc : newC K [P] = P.cost := by simp [newC, hf]
      have hpe : pgs K P.b = [] := by simpa [fresh] using hf
      have hdr : allDrafts G [P] = leafD P.l (ups j (pieces P.l)) ++ [(((j + pieces P.l + 2 : Nat) : Int), leafP P.l (ups j (pieces P.l)))] := by
        simp only [allDrafts, List.flatMap_cons, List.flatMap_nil, List.append_nil, drafts, if_pos hPh, ownP, hgp]
        rfl
      rw [hfl] at hok ⊢
      rw [hlay, hnc]
      have := rfLay_gen (vn := vn) (vw := vw) hc hT hPN (by rw [hPb]; exact hr) hb hrp (fun _ => []) (fun _ => []) (fun _ => []) (fun _ => []) (fun _ => j) (fun _ => 0) rfl rfl rfl (fun _ => rfl) (fun _ => rfl) (fun i _ => by rw [← hcs]; omega) (fun i _ => by simp; omega) (fun i _ => by simp; omega)
        (fun i k r' hk => by rw [hPk] at hk; simp at hk) (fun i k r' hk => by rw [hPk] at hk; simp at hk) (nodePgs j P) (allDrafts G [P]) (j + P.cost) (.inr ⟨hpe, rfl, rfl, hok, .inl ⟨hPh, hdr⟩⟩)
      refine this.mono ?_
      intro e w' he
      have ho : ownP G s.b = (nodePgs j P).headD 0 := by rw [ownP, ← hPb, hgp]
      rw [ho]
      exact he
    · have hlay : layM K [P] j = [(P.b, pgs K P.b)] := by simp [layM, hf]
      have hgp : pgs G P.b = pgs K P.b := by rw [hGP, hlay, pgs_one]
      have hfl : [P].filter (fresh K) = [] := by simp [hf]
      have hnc : newC K [P] = 0 := by simp [newC, hf]
      have hpe : pgs K P.b ≠ [] := by simpa [fresh] using hf
      rw [hfl, hlay, hnc]
      have := rfLay_gen (vn := vn) (vw := vw) hc hT hPN (by rw [hPb]; exact hr) hb hrp (fun _ => []) (fun _ => []) (fun _ => []) (fun _ => []) (fun _ => j) (fun _ => 0) rfl rfl rfl (fun _ => rfl) (fun _ => rfl) (fun i _ => by rw [← hcs]; omega) (fun i _ => by simp; omega) (fun i _ => by simp; omega)
        (fun i k r' hk => by rw [hPk] at hk; simp at hk) (fun i k r' hk => by rw [hPk] at hk; simp at hk) (pgs K P.b) [] j (.inl ⟨hpe, rfl, rfl, rfl⟩)
      refine this.mono ?_
      intro e w' he
      have ho : ownP G s.b = (pgs K P.b).headD 0 := by rw [ownP, ← hPb, hgp]
      rw [ho]
      exact he
  | h + 1, s, L, hp, hc, w, vn, vw, Nw, ws, j, r, G, hT, hr, hb, hrp, h1, h2, h3, hG, hok => by
    obtain ⟨t, ks, Q, t2, t3, t4, t5, t7, t8, t9, hq, hr', e⟩ := id hp
    obtain ⟨P, hPe⟩ : ∃ P : PN, P = ⟨s.b, h + 1, [], kidsP ks⟩ := ⟨_, rfl⟩
    rw [← hPe] at e
    have hPN := hp.at_ P (by rw [e]; simp)
    have hPb : P.b = s.b := by rw [hPe]
    have hPh : P.h ≠ 0 := by rw [hPe]; exact Nat.succ_ne_zero _
    have hPk : P.ks = kidsP ks := by rw [hPe]
    have hkl : P.ks.length = ks.length := by rw [hPk]; simp [kidsP]
    have hcost : P.cost = 1 := by rw [hPe]; rfl
    have hnd := hp.nodup
    have hcs : costs L = costs Q.flatten + 1 := by
      rw [e, costs_append]
      simp [costs, hcost]
    have hQt : Q.take ks.length = Q := List.take_of_length_le (by rw [hq]; exact Nat.le_refl _)
    have hpart : ∀ i, costs (Q.take i).flatten + costs (qi Q i) ≤ costs Q.flatten := fun i => by
      have := part_qi Q i []
      rw [List.append_nil, List.append_nil] at this
      rw [this, costs_append, costs_append]
      omega
    have hlpart : ∀ i, (Q.take i).flatten.length + (qi Q i).length ≤ L.length := fun i => by
      rw [e, part_qi Q i [P], List.length_append, List.length_append]
      omega
    have hGk : ∀ i, ∀ P' ∈ qi Q i, pgs G P'.b = pgs (layM K (qi Q i) (j + newC K (Q.take i).flatten)) P'.b := fun i P' hP' => by
      rw [hG P' (by rw [e, part_qi Q i [P]]; exact List.mem_append_left _ (List.mem_append_right _ hP'))]
      rw [e, part_qi Q i [P]] at hnd ⊢
      exact pgs_part hnd hP'
    have hokk : ∀ i, ∀ d ∈ allDrafts G ((qi Q i).filter (fresh K)), okPage d.2 ∧ Bd d.2 := fun i d hd => hok d (by
      rw [e, part_qi Q i [P], List.filter_append, List.filter_append, allD_append, allD_append]
      exact List.mem_append_left _ (List.mem_append_right _ hd))
    have hdl : ∀ i, (allDrafts G ((Q.take i).flatten.filter (fresh K))).length ≤ costs (Q.take i).flatten := fun i => by
      rw [allD_len (w := wb0) G _ fun P' hP' => hp.at_ P' (by
        rw [e, part_qi Q i [P]]
        exact List.mem_append_left _ (List.mem_append_left _ (List.mem_filter.1 hP').1))]
      have := newC_filter K (Q.take i).flatten
      rw [← this]
      exact newC_le K _
    have hGP := hG P (by rw [e]; simp)
    have hown : pgs (layM K L j) P.b = pgs (layM K [P] (j + newC K Q.flatten)) P.b := by
      have hnd2 := hnd
      rw [e, ← List.append_nil (Q.flatten ++ [P])] at hnd2 ⊢
      exact pgs_part hnd2 (List.mem_singleton.2 rfl)
    have hgen := fun pg D jE hpg => rfLay_gen (vn := vn) (vw := vw) (hc.sub (L' := [P]) fun x hx => by rw [List.mem_singleton.1 hx, e]; simp) hT hPN (by rw [hPb]; exact hr) hb hrp
      (fun i => layM K (Q.take i).flatten j) (fun i => layM K (qi Q i) (j + newC K (Q.take i).flatten)) (fun i => allDrafts G ((Q.take i).flatten.filter (fresh K))) (fun i => allDrafts G ((qi Q i).filter (fresh K))) (fun i => j + newC K (Q.take i).flatten) (ownP G) rfl rfl rfl
      (fun i => by rw [take_qi, layM_append]) (fun i => by rw [take_qi, List.filter_append, allD_append])
      (fun i _ => by
        have := newC_le K (Q.take i).flatten
        have := hpart i
        rw [hcost]
        omega) (fun i _ => by
        have := hdl i
        have := hpart i
        omega) (fun i _ => by
        have := hlpart i
        rw [layM_len]
        omega)
      (fun i k r' hk hin w1 vn1 vw1 N1 hb1 hrp1 hN1 hT1 => by
        rw [hPk] at hk
        simp only [kidsP, List.getElem?_map] at hk
        obtain ⟨x, hx, hke⟩ := Option.map_eq_some_iff.1 hk
        subst hke
        obtain ⟨M, hM⟩ := lt_at hq.symm hx
        have hqM : qi Q i = M := by rw [qi, hM]; rfl
        have hk1 := hpart i
        have hk2 := hdl i
        have hk3 := hlpart i
        have hk4 := newC_le K (Q.take i).flatten
        rw [layM_len] at hN1
        have hih := lay_tr (hr' i x M hx hM) (hc.sub fun P' hP' => by rw [e, part_qi Q i [P], hqM]; exact List.mem_append_left _ (List.mem_append_right _ hP')) w1 vn1 vw1 (Nw ++ N1) (ws ++ (allDrafts G ((Q.take i).flatten.filter (fresh K))).map encOf) (j + newC K (Q.take i).flatten) r' G hT1 hin hb1 hrp1
          (by rw [hqM] at hk1; omega) (by rw [List.length_append, List.length_map]; rw [hqM] at hk1; omega) (by rw [List.length_append]; rw [hqM] at hk3; omega)
          (fun P' hP' => by have := hGk i P' (by rw [hqM]; exact hP'); rw [hqM] at this; exact this) (by have := hokk i; rw [hqM] at this; exact this)
        refine hih.mono ?_
        intro e2 w' he
        rw [take_qi, newC_append, hqM, ← Nat.add_assoc]
        exact he)
      (fun i k r' hk hin w1 hT1 => by
        rw [hPk] at hk
        simp only [kidsP, List.getElem?_map] at hk
        obtain ⟨x, hx, hke⟩ := Option.map_eq_some_iff.1 hk
        subst hke
        obtain ⟨M, hM⟩ := lt_at hq.symm hx
        exact least_tr hT1 (hr' i x M hx hM) hin) pg D jE hpg
    simp only [hkl, hQt] at hgen
    by_cases hf : fresh K P = true
    · have hpe : pgs K P.b = [] := by simpa [fresh] using hf
      have hlay : layM K L j = layM K Q.flatten j ++ [(P.b, nodePgs (j + newC K Q.flatten) P)] := by rw [e, layM_append]; simp [layM, hf]
      have hgp : pgs G P.b = nodePgs (j + newC K Q.flatten) P := by
        rw [hGP, hown]
        simp [layM, hf, pgs_one]
      have hfl : L.filter (fresh K) = Q.flatten.filter (fresh K) ++ [P] := by rw [e, List.filter_append]; simp [hf]
      have hnc : newC K L = newC K Q.flatten + P.cost := by rw [e, newC_append]; simp [newC, hf]
      have hdr : allDrafts G [P] = [(((j + newC K Q.flatten + 2 : Nat) : Int), ⟨2, [], P.ks.map fun k => ⟨k.1, ownP G k.2⟩, ByteArray.empty, 0⟩)] := by
        simp only [allDrafts, List.flatMap_cons, List.flatMap_nil, List.append_nil, drafts, if_neg hPh]
        rw [show ownP G P.b = ((j + newC K Q.flatten + 2 : Nat) : Int) by rw [ownP, hgp, nodePgs, hPe]; rfl]
        rfl
      rw [hfl, allD_append, hlay, hnc]
      refine (hgen (nodePgs (j + newC K Q.flatten) P) (allDrafts G [P]) (j + (newC K Q.flatten + P.cost)) (.inr ⟨hpe, rfl, by omega, fun d hd => hok d (by rw [hfl, allD_append]; exact List.mem_append_right _ hd), .inr ⟨hPh, hdr⟩⟩)).mono ?_
      intro e2 w' he
      have ho : ownP G s.b = (nodePgs (j + newC K Q.flatten) P).headD 0 := by rw [ownP, ← hPb, hgp]
      rw [ho]
      exact he
    · have hpe : pgs K P.b ≠ [] := by simpa [fresh] using hf
      have hlay : layM K L j = layM K Q.flatten j ++ [(P.b, pgs K P.b)] := by rw [e, layM_append]; simp [layM, hf]
      have hgp : pgs G P.b = pgs K P.b := by
        rw [hGP, hown]
        simp [layM, hf, pgs_one]
      have hfl : L.filter (fresh K) = Q.flatten.filter (fresh K) := by rw [e, List.filter_append]; simp [hf]
      have hnc : newC K L = newC K Q.flatten := by rw [e, newC_append]; simp [newC, hf]
      rw [hfl, hlay, hnc]
      refine (hgen (pgs K P.b) [] (j + newC K Q.flatten) (.inl ⟨hpe, rfl, rfl, rfl⟩)).mono ?_
      intro e2 w' he
      have ho : ownP G s.b = (pgs K P.b).headD 0 := by rw [ownP, ← hPb, hgp]
      rw [ho]
      rw [List.append_nil] at he
      exact he

end Go.Proofs.YtelenboncejdaaaGreatDoor

/-
  The contract of same of the rows of layer 14, for writes that are alike; conditions stand at it.
-/
namespace Go.Proofs.YtelenboncejdaaaGreatDoor
open Go.RowKit Go.Sort
open Rt (Fx Stp)
set_option linter.unusedVariables false
set_option linter.unusedSimpArgs false

set_option maxHeartbeats 2000000 in
set_option maxRecDepth 100000 in
theorem plSame_any {w : World} {A B : Option Addr} {n ca cb : Nat} {ws : List WR} {rs : List (Int × List UInt8)} (hA : Ls pcW w A ws) (hw : ∀ x ∈ ws, ∃ base, WOk w base x) (hB : Ls pcRW w B rs) (he : ws.map WR.pr = rs) (hn : ws.length = n) (hn2 : n ≤ 1000000) :
    Calls Tryz.prog 33 #[.slice A n ca, .slice B n cb] w fun e w' => e = .returned (.bool true) ∧ Below w.heap.size w w' := by
  have HA := Lib.hid hA
  have HW := Lib.hid hw
  have HB := Lib.hid hB
  have HE := Lib.hid he
  have HN := Lib.hid hn
  clear hA hw hB he hn
  go_enter Tryz.func33, Tryz.ntmps33
  go_wp2
  go_loopw [13] (fun s13 wr => ∃ k : Nat, k ≤ n ∧ s13 = .int .i64 k ∧ Below w.heap.size w wr) (fun s13 _ => n - (intOf s13).toNat)
  case atStart => exact ⟨0, Nat.zero_le _, rfl, Below.refl _ _⟩
  case round =>
    obtain ⟨k, hk, rfl, hbw⟩ := hrel
    by_cases hlt : k < n
    · obtain ⟨ad, x, rfl, hx, _, hcx⟩ := (HA.out.below hbw).at_ encW (i := k) (by rw [HN.out]; exact hlt)
      have hlr : rs.length = n := by rw [← HE.out, List.length_map, HN.out]
      obtain ⟨ad', y, rfl, hy, _, hcy⟩ := (HB.out.below hbw).at_ encRW (i := k) (by rw [hlr]; exact hlt)
      have hyx : y = x.pr := by
        rw [← HE.out, List.getElem?_map, hx] at hy
        cases hy
        rfl
      obtain ⟨base, hob⟩ := HW.out x (List.mem_of_getElem? hx)
      have hob2 : OB wr base x.v x.L := hob.below hbw
      obtain ⟨Ax, cx, hvx, _, hrd⟩ := hob2.form
      obtain ⟨nx, hnx⟩ : ∃ nx, nx = x.L.length := ⟨_, rfl⟩
      rw [← hnx] at hvx
      have q0 := hcx 0 (.int .i64 x.at_) (by omega) rfl
      have q1 : wr.cell? ⟨(ad.add (k * 2)).block, (ad.add (k * 2)).off + 1, none⟩ = some (.slice Ax nx cx) := hcx 1 _ (by omega) (by simp [pcW, hvx]; rfl)
      have p0 := hcy 0 (.int .i64 x.at_) (by omega) (by rw [hyx]; rfl)
      have p1 : wr.cell? ⟨(ad'.add (k * 2)).block, (ad'.add (k * 2)).off + 1, none⟩ = some (.string (mk x.L)) := hcy 1 _ (by omega) (by rw [hyx]; rfl)
      rw [add_of_add] at q0 p0
      simp only [Nat.add_zero] at q0 p0
      have hcv : ∀ d : Nat, (convert 46 9 (.slice Ax nx cx)).run Tryz.prog (wr.drewN d) = .ok (.string (mk x.L)) (wr.drewN d) := fun d => conv_rd (c := cx) (hrd.below (below_drewN (Below.refl wr.heap.size wr) d)) hnx.symm
      obtain ⟨tx, htx⟩ : ∃ tx, tx = mk x.L := ⟨_, rfl⟩
      rw [← htx] at p1
      rw [← htx] at hcv
      obtain ⟨za, hza⟩ : ∃ z, z = x.at_ := ⟨_, rfl⟩
      rw [← hza] at q0 p0
      have hdd : decide (za ≠ za) = false := by simp
      clear hx hcx hy hcy hyx hob hob2 hvx hrd hnx htx hza
      go_wp2
      go_quiet (fail)
      go_wp2
      exact ⟨⟨k + 1, by omega, by go_num, below_drewN hbw _⟩, by simp [intOf]; omega⟩
    · have hke : k = n := by omega
      go_wp2
      go_ret
      exact ⟨rfl, hbw⟩

end Go.Proofs.YtelenboncejdaaaGreatDoor

/-
  told and Lay of a tree or none; a second plan behind a first one; lists of what is known, alike; conditions stand at each.
-/
namespace Go.Proofs.YtelenboncejdaaaGreatDoor
open Go.RowKit Go.Sort
open Rt (Fx Stp)
set_option linter.unusedVariables false
set_option linter.unusedSimpArgs false

theorem lay_nil (w : World) (a : Addr) : Calls Tryz.prog 31 #[.pointer (some a), .pointer none] w fun e w' => e = .returned (.int .i64 0) ∧ w' = w := by
  go_enter Tryz.func31, Tryz.ntmps31
  go_wp2
  go_ret
  exact ⟨rfl, rfl⟩
/-- What told answers for a tree, or none. -/
def ToldTO (wb w : World) (U : List Nat) (Z : Nat → Prop) (sb : Nat) (v : Value) (l : List (Nat × Nat)) (T : TO) (e : Ending) (w' : World) : Prop :=
  ∃ rp v' l', e = .returned (.pointer rp) ∧ TM wb w' U Z sb v' (l ++ l') ∧ Stp (XM sb v) w (XM sb v') w' ∧ (∀ x, T = some x → ∃ r, rp = some ⟨r, 0, none⟩ ∧ (x.2.b, r) ∈ l ++ l') ∧ (T = none → rp = none)
theorem told_to {wb w : World} {U : List Nat} {Z : Nat → Prop} {sb : Nat} {v : Value} {l : List (Nat × Nat)} {T : TO} {L : List PN} (hU : U.length ≤ 100000) (hT : PrT wb T L) (hLU : ∀ P ∈ L, P.b ∈ U) (hZ : ∀ q, Z q → q < w.heap.size) (hm : TM wb w U Z sb v l) :
    Calls Tryz.prog 32 #[tb T, .pointer (some ⟨sb, 0, none⟩)] w (ToldTO wb w U Z sb v l T) := by
  cases T with
  | none =>
    refine (told_none w _).mono ?_
    rintro e w' ⟨rfl, rfl⟩
    exact ⟨none, v, [], rfl, by rw [List.append_nil]; exact hm, Stp.refl fun q hq => by
      rcases hq with rfl | hq
      · exact lt_of_block hm.memo.box
      · exact hm.memo.row.lt q hq, (fun x hx => by cases hx), fun _ => rfl⟩
  | some x =>
    obtain ⟨h, s⟩ := x
    refine (told_tr hU (show Pr wb h s L from hT) hLU w Z sb v l hZ hm).mono ?_
    rintro e w' ⟨r, v', l', rfl, h1, h2, h3, _⟩
    exact ⟨_, v', l', rfl, h1, h3, (fun y hy => by
      cases hy
      exact ⟨r, rfl, h2⟩), fun hy => by cases hy⟩
theorem lay_to {R : Option Addr → List Int → Prop} {wb0 wb w : World} {pb base : Nat} {vo vn vw : Value} {O Nw : List KN} {l : List (Nat × Nat)} {K : PM} {T : TO} {L : List PN} {ws : List (Int × List UInt8)} {j : Nat} {rp : Option Addr} (hT : PrT wb0 T L) (hc : LC R wb pb vo O l K L) (hrt : RT wb0 w base l)
    (hr : ∀ x, T = some x → ∃ r, rp = some ⟨r, 0, none⟩ ∧ (x.2.b, r) ∈ l) (hn : T = none → rp = none) (hb : Below wb.heap.size wb w) (hrp : RP w wb.heap.size pb vo vn vw (j + 2) Nw ws) (h1 : j + costs L + 20 ≤ 4000) (h2 : ws.length + costs L ≤ 3000) (h3 : Nw.length + L.length ≤ 50000)
    (hok : ∀ d ∈ allDrafts (layM K L j) (L.filter (fresh K)), okPage d.2 ∧ Bd d.2) :
    Calls Tryz.prog 31 #[.pointer (some ⟨pb, 0, none⟩), .pointer rp] w (LayT R wb w pb vo l Nw ws (layM K L j) (allDrafts (layM K L j) (L.filter (fresh K))) (j + newC K L) (rootP (layM K L j) (tn T))) := by
  cases T with
  | none =>
    have hL : L = [] := hT
    subst hL
    rw [hn rfl]
    refine (lay_nil w _).mono ?_
    rintro e w' ⟨rfl, rfl⟩
    exact ⟨vn, vw, [], rfl, by
      rw [List.append_nil, show (allDrafts (layM K [] j) ([].filter (fresh K))).map encOf = [] from rfl, List.append_nil]
      exact ⟨hrp, hb, .refl _⟩, KnOk.nil _ _ _ _⟩
  | some x =>
    obtain ⟨h, s⟩ := x
    obtain ⟨r, hre, hin⟩ := hr _ rfl
    rw [hre]
    exact lay_tr (show Pr wb0 h s L from hT) hc w vn vw Nw ws j r (layM K L j) hrt hin hb hrp h1 h2 h3 (fun P _ => rfl) hok
/-- A world's first blocks. -/
def cutW (w : World) (n : Nat) : World := { w with heap := w.heap.extract 0 n }
theorem cutW_size {w : World} {n : Nat} (h : n ≤ w.heap.size) : (cutW w n).heap.size = n := by simp [cutW]; omega
theorem cutW_block {w : World} {n i : Nat} (h : n ≤ w.heap.size) (hi : i < n) : (cutW w n).heap[i]? = w.heap[i]? := by
  simp [cutW, Array.getElem?_extract]
  intro h2
  omega
theorem cutW_below {w : World} {n : Nat} (h : n ≤ w.heap.size) : Below (cutW w n).heap.size (cutW w n) w := ⟨rfl, rfl, rfl, by rw [cutW_size h]; exact h, fun i hi => by
  rw [cutW_size h] at hi
  exact (cutW_block h hi).symm⟩
/-- Where nodes lie, as the list has it. -/
theorem findK_pgs {b r : Nat} : ∀ {N : List KN} {M : PM}, N.length = M.length → (∀ (i : Nat) (x : KN) (y : Nat × List Int), N[i]? = some x → M[i]? = some y → (x.p = some r ↔ y.1 = b) ∧ x.l = y.2) → findK N r = pgs M b
  | [], [], _, _ => rfl
  | [], _ :: _, h, _ => by simp at h
  | _ :: _, [], h, _ => by simp at h
  | x :: N, y :: M, h, ha => by
    obtain ⟨h1, h2⟩ := ha 0 x y rfl rfl
    rw [findK_cons, pgs_cons]
    have ih := findK_pgs (N := N) (M := M) (by simpa using h) fun i x' y' hx hy => ha (i + 1) x' y' (by simpa using hx) (by simpa using hy)
    by_cases hb : y.1 = b
    · rw [if_pos hb, if_pos (h1.2 hb), h2]
    · rw [if_neg hb, if_neg fun e => hb (h1.1 e), ih]
theorem KnOk.find {R : Option Addr → List Int → Prop} {W : World} {base : Nat} {l l' : List (Nat × Nat)} {N : List KN} {M : PM} (h : KnOk R W base l N M) (hsub : ∀ x ∈ l, x ∈ l') (hi : ∀ p ∈ l', ∀ p' ∈ l', p.1 = p'.1 ↔ p.2 = p'.2) {b r : Nat} (hb : (b, r) ∈ l') : findK N r = pgs M b :=
  findK_pgs h.len fun i x y hx hy => by
    obtain ⟨r', h1, h2, h3⟩ := h.at_ i x y hx hy
    refine ⟨?_, h3⟩
    rw [h2]
    have := hi _ (hsub _ h1) _ hb
    simp only [Option.some.injEq]
    exact this.symm
theorem KnOk.all {R : Option Addr → List Int → Prop} {W : World} {base : Nat} {l : List (Nat × Nat)} {N : List KN} {M : PM} (h : KnOk R W base l N M) {la : List Int} (hr : Rising la) (hm : ∀ x, x ∈ la ↔ ∃ y ∈ M, x ∈ y.2) : la = allK N :=
  rising_ext hr (allK_rising N) fun x => by
    rw [hm, allK_iff]
    constructor
    · rintro ⟨y, hy, hx⟩
      obtain ⟨i, hi⟩ := List.getElem?_of_mem hy
      have hil := (List.getElem?_eq_some_iff.1 hi).1
      have hN : N[i]? = some (N[i]'(by rw [h.len]; exact hil)) := List.getElem?_eq_getElem _
      obtain ⟨r, _, _, h3⟩ := h.at_ i _ y hN hi
      exact ⟨_, List.mem_of_getElem? hN, by rw [h3]; exact hx⟩
    · rintro ⟨k, hk, hx⟩
      obtain ⟨i, hi⟩ := List.getElem?_of_mem hk
      have hil := (List.getElem?_eq_some_iff.1 hi).1
      have hM : M[i]? = some (M[i]'(by rw [← h.len]; exact hil)) := List.getElem?_eq_getElem _
      obtain ⟨r, _, _, h3⟩ := h.at_ i k _ hi hM
      exact ⟨_, List.mem_of_getElem? hM, by rw [← h3]; exact hx⟩
theorem TM.alike {wb W : World} {U : List Nat} {Z : Nat → Prop} {sb : Nat} {v : Value} {l : List (Nat × Nat)} (h : TM wb W U Z sb v l) : ∀ p ∈ l, ∀ p' ∈ l, p.1 = p'.1 ↔ p.2 = p'.2 := fun p hp p' hp' => by
  have hi := h.inj
  rw [List.pairwise_iff_getElem] at hi
  obtain ⟨i, hil, rfl⟩ := List.getElem_of_mem hp
  obtain ⟨j, hjl, rfl⟩ := List.getElem_of_mem hp'
  rcases Nat.lt_trichotomy i j with hlt | he | hgt
  · exact ⟨fun e => absurd e (hi i j hil hjl hlt).1, fun e => absurd e (hi i j hil hjl hlt).2⟩
  · subst he
    exact ⟨fun _ => rfl, fun _ => rfl⟩
  · exact ⟨fun e => absurd e.symm (hi j i hjl hil hgt).1, fun e => absurd e.symm (hi j i hjl hil hgt).2⟩
/-- A list of what is known can be read. -/
theorem KnOk.arg {R : Option Addr → List Int → Prop} {W : World} {base : Nat} {l : List (Nat × Nat)} {N : List KN} {M : PM} (h : KnOk R W base l N M) (hR : ∀ A m, R A m → Ls icell W A m) {A : Option Addr} {n : Nat} (hl : Ls pcKn W A N) (hn : N.length = n) : ArgK W A n N := ⟨hn, hl, fun x hx => (h.rows x hx).ls hR⟩
/-- What a first plan knows is all of its own. -/
def NoR : Option Addr → List Int → Prop := fun _ _ => False
/-- What a second plan knows of a first one: in the world behind what was told since, cut at its own box. -/
theorem LC.second {wb w13 w15 : World} {base sb n c pb : Nat} {A : Option Addr} {l l' : List (Nat × Nat)} {N : List KN} {M : PM} {v v' : Value} {L : List PN} (hn : N.length = n) (hn2 : n ≤ 100000) (hko : KnOk NoR w13 base l N M) (hwb : Below wb.heap.size wb w13)
    (hown : OwnL pcKn 76 2 w13 wb.heap.size (.slice A n c) N) (hmm : Memo w13 wb.heap.size sb v l) (hst : Stp (XM sb v) w13 (XM sb v') w15) (hsb : wb.heap.size ≤ sb) (hpb : w13.heap.size ≤ pb)
    (hsub : ∀ x ∈ l, x ∈ l') (hi : ∀ p ∈ l', ∀ p' ∈ l', p.1 = p'.1 ↔ p.2 = p'.2) : LC (fun A m => Ls icell (cutW w15 w13.heap.size) A m) (cutW w15 w13.heap.size) pb (.slice A n c) N l' M L := by
  have hle := hst.fx.size
  have hpz := stp_pst (Z := fun _ => False) hmm hst
  have hk : ∀ (q : Nat) (cs : Array Value) (t : TypeId), w13.heap[q]? = some (.cells cs t (0, 0)) → t ≠ 74 → t ≠ 60 → (cutW w15 w13.heap.size).heap[q]? = w13.heap[q]? := fun q cs t hq h1 h2 => (cutW_block hle (lt_of_block hq)).trans (hpz.2 q cs t hq h1 h2 fun h => h)
  have hW : Below wb.heap.size wb (cutW w15 w13.heap.size) := ⟨hst.fx.os.trans hwb.os, hst.fx.tape.trans hwb.tape, hst.fx.output.trans hwb.output, by rw [cutW_size hle]; exact hwb.size, fun i hi => by
    refine (cutW_block hle (Nat.lt_of_lt_of_le hi hwb.size)).trans ((hst.same i (Nat.lt_of_lt_of_le hi hwb.size) fun hx => ?_).trans (hwb.block i hi))
    rcases hx with rfl | hx
    · omega
    · have := hmm.row.at_block i hx
      omega⟩
  have hrow : ∀ x ∈ N, Ls icell (cutW w15 w13.heap.size) x.A x.l := fun x hx => by
    rcases hko.rows x hx with h | h
    · exact row_ls (OwnL.keep h fun g hg _ => by
        obtain ⟨cur, hc⟩ := own_cells h g hg
        exact hk g cur _ hc (by decide) (by decide))
    · exact h.elim
  refine ⟨by rw [cutW_size hle]; exact hpb, ⟨A, n, c, rfl, ⟨hn, row_ls (hown.keep fun g hg _ => ?_), hrow⟩, hn2⟩, fun x hx => ?_, fun P hP r hr => hko.find hsub hi hr, hrow, fun A m h => h⟩
  · obtain ⟨cur, hc⟩ := own_cells hown g hg
    exact hk g cur _ hc (by decide) (by decide)
  · obtain ⟨i, hix⟩ := List.getElem?_of_mem hx
    have hil := (List.getElem?_eq_some_iff.1 hix).1
    obtain ⟨r, h1, h2, _⟩ := hko.at_ i x _ hix (List.getElem?_eq_getElem (by rw [← hko.len]; exact hil))
    obtain ⟨_, u, z, h3⟩ := hmm.nodes _ h1
    exact ⟨r, u, z, h2, (hk r _ _ h3 (by decide) (by decide)).trans h3⟩

end Go.Proofs.YtelenboncejdaaaGreatDoor
