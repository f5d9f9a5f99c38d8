/-
  Plans of a tree that is known, and of one changed in one place: what is fresh, how much is written, on which pages; conditions stand at each.
-/
import Derived.Test.YtelenboncejdaaaGreatDoorShSame
namespace Go.Proofs.YtelenboncejdaaaGreatDoor
open Go.RowKit Go.Sort
open Rt (Fx Stp)
set_option linter.unusedVariables false
set_option linter.unusedSimpArgs false

theorem layM_known {K : PM} : ∀ {L : List PN} {j : Nat}, (∀ P ∈ L, pgs K P.b ≠ []) → layM K L j = L.map fun P => (P.b, pgs K P.b)
  | [], j, _ => rfl
  | P :: L, j, h => by
    have h0 := h P (List.mem_cons_self ..)
    have hf : ¬ fresh K P = true := fun e => h0 (List.isEmpty_iff.1 e)
    rw [layM, if_neg hf, List.map_cons, layM_known fun Q hQ => h Q (List.mem_cons_of_mem _ hQ)]
theorem pm_self {M : PM} {L : List PN} (hk : M.map (·.1) = L.map (·.b)) (hn : (L.map (·.b)).Nodup) : (L.map fun P => (P.b, pgs M P.b)) = M := by
  have h1 : (L.map fun P => (P.b, pgs M P.b)) = (L.map (·.b)).map fun b => (b, pgs M b) := by rw [List.map_map]; rfl
  rw [h1, ← hk, List.map_map]
  conv => rhs; rw [← List.map_id M]
  refine List.map_congr_left fun y hy => ?_
  have := pgs_mem (M := M) (by rw [hk]; exact hn) (b := y.1) (l := y.2) hy
  simp only [Function.comp, id, this]
theorem newC_known {K : PM} : ∀ {L : List PN}, (∀ P ∈ L, pgs K P.b ≠ []) → newC K L = 0
  | [], _ => rfl
  | P :: L, h => by
    have h0 := h P (List.mem_cons_self ..)
    have hf : ¬ fresh K P = true := fun e => h0 (List.isEmpty_iff.1 e)
    rw [newC, if_neg hf, newC_known fun Q hQ => h Q (List.mem_cons_of_mem _ hQ)]
/-- A tree that is known is planned as it lies. -/
theorem lay_again {wb : World} {T : TO} {L : List PN} {K : PM} {i j : Nat} (hT : PrT wb T L) (hK : ∀ k, ∀ x ∈ pgs K k, okNum x) (hr : i + newC K L ≤ 510) : newC (layM K L i) L = 0 ∧ layM (layM K L i) L j = layM K L i := by
  have h : ∀ P ∈ L, pgs (layM K L i) P.b ≠ [] := fun P hP => (layM_ok hK hr _ (layM_at hT.nodup hP)).1
  exact ⟨newC_known h, by rw [layM_known h, pm_self (layM_keys _ _ _) hT.nodup]⟩
/-- What is known lies on few pages, those of pages. -/
theorem lay_few {wb : World} {T : TO} {L : List PN} {K : PM} {j : Nat} (hT : PrT wb T L) (hKl : ∀ k, (pgs K k).length ≤ 13) (hK : ∀ k, ∀ x ∈ pgs K k, okNum x) (hr : j + newC K L ≤ 510) : ∀ k, (pgs (layM K L j) k).length ≤ 13 ∧ ∀ x ∈ pgs (layM K L j) k, okNum x := fun k =>
  pgs_all (p := fun l => l.length ≤ 13 ∧ ∀ x ∈ l, okNum x) ⟨by simp, by simp⟩ (fun y hy => ⟨by
    obtain ⟨P, hP, _, ⟨_, i, _, _, h⟩ | ⟨_, h⟩⟩ := layM_mem hy
    · rw [h, nodePgs_len]
      obtain ⟨N, hN⟩ := hT.at_ P hP
      exact hN.cost
    · rw [h]
      exact hKl P.b, (layM_ok hK hr y hy).2⟩) k
theorem PNAt'.cost9 {w : World} {P : PN} {N : NR} (h : PNAt' w P N) : P.cost ≤ 9 := by
  have h1 := pieces_le P.l
  unfold PN.cost
  rcases h.kind with ⟨_, h2, _⟩ | ⟨_, h2, _⟩
  · have := (okLeaf_len h2).2
    omega
  · rw [h2] at h1 ⊢
    simp at h1
    omega
theorem costs9 {w : World} : ∀ F : List PN, (∀ P ∈ F, PNAt w P) → costs F ≤ 9 * F.length
  | [], _ => Nat.le_refl _
  | P :: F, h => by
    have ih := costs9 F fun Q hQ => h Q (List.mem_cons_of_mem _ hQ)
    obtain ⟨N, hN⟩ := h P (List.mem_cons_self ..)
    have := hN.cost9
    unfold costs at ih ⊢
    rw [List.map_cons, List.sum_cons, List.length_cons]
    omega
theorem PrT.ids {w : World} {T : TO} {L : List PN} (h : PrT w T L) : ∀ x, x ∈ L.map (·.b) ↔ x ∈ tids T := by
  cases T with
  | none =>
    have h : L = [] := h
    rw [h]
    intro x
    simp [tids]
  | some x => exact Pr.ids (h := x.1) (s := x.2) h
/-- A tree with few new nodes takes few pages. -/
theorem few_new {wb : World} {T T' : TO} {L L' : List PN} {K : PM} {i q : Nat} (hT : PrT wb T L) (hT' : PrT wb T' L') (hK : ∀ k, ∀ x ∈ pgs K k, okNum x) (hr : i + newC K L ≤ 510) (hf : FewNew (tids T) q (tids T')) : newC (layM K L i) L' ≤ 9 * q := by
  obtain ⟨new, h1, h2⟩ := hf
  have hn : ((L'.filter (fresh (layM K L i))).map (·.b)).Nodup := List.Nodup.sublist (List.filter_sublist.map _) hT'.nodup
  have h3 := nodup_sub (m := new) hn fun x hx => by
    obtain ⟨P, hP, rfl⟩ := List.mem_map.1 hx
    obtain ⟨hP1, hP2⟩ := List.mem_filter.1 hP
    refine (h2 P.b ((hT'.ids P.b).1 (List.mem_map.2 ⟨P, hP1, rfl⟩))).resolve_left fun hold => ?_
    obtain ⟨Q, hQ, hb⟩ := List.mem_map.1 ((hT.ids P.b).2 hold)
    have := (layM_ok hK hr _ (layM_at (K := K) (j := i) hT.nodup hQ)).1
    rw [hb] at this
    exact this (List.isEmpty_iff.1 hP2)
  rw [List.length_map] at h3
  have h4 := costs9 (w := wb) (L'.filter (fresh (layM K L i))) fun P hP => hT'.at_ P (List.mem_filter.1 hP).1
  rw [newC_filter]
  omega
/-- The pages that are written are of those that were taken. -/
theorem chainD_at {c : List ByteArray} {r : List Int} (h : c.length ≤ r.length) : ∀ d ∈ chainD c r, d.1 ∈ r := fun d hd => by
  obtain ⟨i, s, n, _, rfl, hi, _⟩ := chainD_mem hd
  simp only
  rw [List.getD_eq_getElem?_getD, List.getElem?_eq_getElem (by omega)]
  exact List.getElem_mem _
theorem drafts_at {M : PM} {P : PN} (hc : P.cost ≤ (pgs M P.b).length) : ∀ d ∈ drafts M P, d.1 ∈ pgs M P.b := fun d hd => by
  have hown : ownP M P.b ∈ pgs M P.b := by
    unfold ownP
    unfold PN.cost at hc
    cases hp : pgs M P.b with
    | nil =>
      rw [hp] at hc
      simp at hc
    | cons x t => exact List.mem_cons_self ..
  unfold drafts at hd
  split at hd
  · rcases List.mem_append.1 hd with hd | hd
    · obtain ⟨e, r', _, h2, h3, h4⟩ := leafD_mem hd
      refine List.mem_of_mem_tail (h3 _ (chainD_at (h4 ?_) d h2))
      unfold PN.cost at hc
      rw [List.length_tail]
      omega
    · rw [List.mem_singleton.1 hd]
      exact hown
  · rw [List.mem_singleton.1 hd]
    exact hown
theorem wr_at {wb : World} {T : TO} {L : List PN} {K : PM} {j : Nat} {ws : List WR} (hT : PrT wb T L) (h : ws.map WR.pr = (allDrafts (layM K L j) (L.filter (fresh K))).map encOf) : ∀ x ∈ ws, (j + 2 : Int) ≤ x.at_ ∧ x.at_ < (j + newC K L + 2 : Int) := fun x hx => by
  have h1 : x.pr ∈ (allDrafts (layM K L j) (L.filter (fresh K))).map encOf := by
    rw [← h]
    exact List.mem_map.2 ⟨x, hx, rfl⟩
  obtain ⟨d, hd, he⟩ := List.mem_map.1 h1
  have hxd : x.at_ = d.1 := (congrArg Prod.fst he).symm
  obtain ⟨P, hP, hd⟩ := List.mem_flatMap.1 hd
  obtain ⟨hPL, hPf⟩ := List.mem_filter.1 hP
  have hm := layM_at (K := K) (j := j) hT.nodup hPL
  obtain ⟨Q, hQ, hb, ⟨hf, i, h1, h2, h3⟩ | ⟨hf, h3⟩⟩ := layM_mem hm
  · have hQP : Q = P := PNAt.unique (hT.at_ Q hQ) (hT.at_ P hPL) hb
    subst hQP
    simp only at h3
    have := drafts_at (M := layM K L j) (P := Q) (by rw [h3, nodePgs_len]; exact Nat.le_refl _) d hd
    rw [h3, nodePgs_mem] at this
    rw [hxd]
    omega
  · have hQP : Q = P := PNAt.unique (hT.at_ Q hQ) (hT.at_ P hPL) hb
    subst hQP
    rw [hPf] at hf
    cases hf
theorem ups_at : ∀ (j c i : Nat), i < c → (ups j c)[i]? = some ((j + i + 2 : Nat) : Int)
  | j, 0, i, h => by omega
  | j, c + 1, 0, h => rfl
  | j, c + 1, i + 1, h => by
    rw [ups, List.getElem?_cons_succ, ups_at (j + 1) c i (by omega), show j + 1 + i + 2 = j + (i + 1) + 2 by omega]

end Go.Proofs.YtelenboncejdaaaGreatDoor
