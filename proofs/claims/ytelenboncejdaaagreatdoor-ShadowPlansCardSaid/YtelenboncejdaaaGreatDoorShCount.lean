/-
  How many pages a plan writes, which pages a plan over nothing known takes; conditions stand at each.
-/
import Derived.Test.YtelenboncejdaaaGreatDoorShAwake
namespace Go.Proofs.YtelenboncejdaaaGreatDoor
open Go.RowKit Go.Sort
set_option linter.unusedVariables false
set_option linter.unusedSimpArgs false

theorem drafts_len {w : World} {P : PN} (h : PNAt w P) (M : PM) : (drafts M P).length = P.cost := by
  obtain ⟨N, h⟩ := h
  unfold drafts PN.cost
  rcases h.kind with ⟨h0, _⟩ | ⟨h0, hl, _⟩
  · rw [if_pos h0, List.length_append, leafD_len]
    rfl
  · rw [if_neg h0, hl]
    rfl
theorem allD_len {w : World} (M : PM) : ∀ F : List PN, (∀ P ∈ F, PNAt w P) → (allDrafts M F).length = costs F
  | [], _ => rfl
  | P :: F, h => by
    have ih := allD_len M F fun Q hQ => h Q (List.mem_cons_of_mem _ hQ)
    rw [show allDrafts M (P :: F) = drafts M P ++ allDrafts M F from rfl, List.length_append, drafts_len (h P (List.mem_cons_self ..)), ih]
    simp [costs]
theorem newC_filter (K : PM) : ∀ L : List PN, newC K L = costs (L.filter (fresh K))
  | [] => rfl
  | P :: L => by
    rw [newC, newC_filter K L]
    by_cases h : fresh K P = true
    · rw [if_pos h, List.filter_cons_of_pos h]
      simp [costs]
    · rw [if_neg h, List.filter_cons_of_neg h, Nat.zero_add]
theorem wr_len {wb : World} {T : TO} {L : List PN} {K M : PM} {ws : List WR} (hT : PrT wb T L) (h : ws.map WR.pr = (allDrafts M (L.filter (fresh K))).map encOf) : ws.length = newC K L := by
  have := congrArg List.length h
  rw [List.length_map, List.length_map, allD_len (w := wb) M _ fun P hP => hT.at_ P (List.mem_filter.1 hP).1] at this
  rw [this, newC_filter]
theorem ups_rising : ∀ (j c : Nat), Rising (ups j c)
  | j, 0 => List.Pairwise.nil
  | j, c + 1 => by
    unfold Rising
    rw [ups, List.pairwise_cons]
    refine ⟨fun x hx => ?_, ups_rising (j + 1) c⟩
    have := (ups_mem.1 hx).1
    omega
/-- The pages of a plan over nothing known. -/
theorem lay_pages : ∀ (L : List PN) (j : Nat) (x : Int), (∃ y ∈ layM [] L j, x ∈ y.2) ↔ x ∈ ups j (costs L)
  | [], j, x => by simp [layM, costs, ups]
  | P :: L, j, x => by
    have hc : costs (P :: L) = P.cost + costs L := by simp [costs]
    rw [layM, if_pos (show fresh [] P = true from rfl), hc, ups_append, List.mem_append, ← lay_pages L (j + P.cost) x]
    constructor
    · rintro ⟨y, hy, hx⟩
      rcases List.mem_cons.1 hy with rfl | hy
      · exact .inl (ups_mem.2 (nodePgs_mem.1 hx))
      · exact .inr ⟨y, hy, hx⟩
    · rintro (h | ⟨y, hy, hx⟩)
      · exact ⟨_, List.mem_cons_self .., nodePgs_mem.2 (ups_mem.1 h)⟩
      · exact ⟨y, List.mem_cons_of_mem _ hy, hx⟩
theorem lay_all {w w' : World} {L : List PN} {j : Nat} {r : Ending} (h : AllPost w (layM [] L j) r w') : ∃ A c, r = .returned (.slice A (costs L) c) ∧ costs L ≤ c ∧ Ls icell w' A (ups j (costs L)) ∧ Below w.heap.size w w' := by
  obtain ⟨v, l, rfl, ho, hr, hm, hb⟩ := h
  have : l = ups j (costs L) := rising_ext hr (ups_rising _ _) fun x => by rw [hm, lay_pages]
  subst this
  obtain ⟨A, c, rfl, hc, hls⟩ := ho.form
  rw [ups_len] at hc ⊢
  exact ⟨A, c, rfl, hc, hls, hb⟩
/-- The sum of the pages of few nodes. -/
theorem lay_sum {wb : World} {T : TO} {L : List PN} {K : PM} {j : Nat} (hT : PrT wb T L) (hK : ∀ k, (pgs K k).length ≤ 100) (hl : L.length ≤ 1000) : ((layM K L j).map (·.2.length)).sum ≤ 1000000 := by
  refine layM_sum _ _ _ (fun y hy => ?_) hl
  obtain ⟨P, hP, _, ⟨_, i, _, _, h⟩ | ⟨_, h⟩⟩ := layM_mem hy
  · rw [h, nodePgs_len]
    obtain ⟨N, hN⟩ := hT.at_ P hP
    have := hN.cost
    omega
  · rw [h]
    exact hK P.b

end Go.Proofs.YtelenboncejdaaaGreatDoor
