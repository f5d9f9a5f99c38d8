/-
  Pages lie apart behind two plans over one ledger; how many there are; the contract of lies for a tree or none; conditions stand at each.
-/
import Derived.Test.YtelenboncejdaaaGreatDoorShLies
namespace Go.Proofs.YtelenboncejdaaaGreatDoor
open Go.RowKit Go.Sort
open Rt (Fx Stp)
set_option linter.unusedVariables false
set_option linter.unusedSimpArgs false

theorem nodePgs_nodup (j : Nat) (P : PN) : (nodePgs j P).Nodup := by
  rw [nodePgs, List.nodup_cons]
  refine ⟨fun h => ?_, ups_nodup _ _⟩
  have := (ups_mem.1 h).2
  omega
theorem lay_apart {K : PM} : ∀ {L : List PN} {j : Nat}, (∀ P ∈ L, ∀ x ∈ pgs K P.b, x < (j + 2 : Int)) → (∀ P ∈ L, (pgs K P.b).Nodup) → (L.Pairwise fun P Q => ∀ x ∈ pgs K P.b, ∀ y ∈ pgs K Q.b, x ≠ y) → ((layM K L j).flatMap (·.2)).Nodup
  | [], j, _, _, _ => List.nodup_nil
  | P :: L, j, h1, h2, h3 => by
    obtain ⟨h4, h5⟩ := List.pairwise_cons.1 h3
    have hrest : ∀ (i : Nat), ∀ b ∈ (layM K L i).flatMap (·.2), (i + 2 : Int) ≤ b ∨ ∃ Q ∈ L, b ∈ pgs K Q.b := fun i b hb => by
      obtain ⟨y, hy, hb⟩ := List.mem_flatMap.1 hb
      obtain ⟨Q, hQ, _, ⟨_, i', h6, _, h7⟩ | ⟨_, h7⟩⟩ := layM_mem hy
      · rw [h7] at hb
        have := (nodePgs_mem.1 hb).1
        exact .inl (by omega)
      · rw [h7] at hb
        exact .inr ⟨Q, hQ, hb⟩
    rw [layM]
    by_cases hf : fresh K P = true
    · rw [if_pos hf, List.flatMap_cons, List.nodup_append]
      refine ⟨nodePgs_nodup j P, lay_apart (fun Q hQ x hx => ?_) (fun Q hQ => h2 Q (List.mem_cons_of_mem _ hQ)) h5, fun a ha b hb => ?_⟩
      · have := h1 Q (List.mem_cons_of_mem _ hQ) x hx
        omega
      · have h6 := nodePgs_mem.1 ha
        rcases hrest _ b hb with h | ⟨Q, hQ, h⟩
        · omega
        · have := h1 Q (List.mem_cons_of_mem _ hQ) b h
          omega
    · rw [if_neg hf, List.flatMap_cons, List.nodup_append]
      refine ⟨h2 P (List.mem_cons_self ..), lay_apart (fun Q hQ x hx => h1 Q (List.mem_cons_of_mem _ hQ) x hx) (fun Q hQ => h2 Q (List.mem_cons_of_mem _ hQ)) h5, fun a ha b hb => ?_⟩
      have h6 := h1 P (List.mem_cons_self ..) a ha
      rcases hrest _ b hb with h | ⟨Q, hQ, h⟩
      · omega
      · exact h4 Q hQ a ha b h
theorem pgs_in {M : PM} {b : Nat} {x : Int} (h : x ∈ pgs M b) : (b, pgs M b) ∈ M := by
  unfold pgs at h ⊢
  cases hf : M.find? (fun x => x.1 == b) with
  | none =>
    rw [hf] at h
    cases h
  | some y =>
    have h1 := List.mem_of_find?_eq_some hf
    have h2 : y.1 = b := by simpa using List.find?_some hf
    rw [← h2]
    exact h1
theorem pgs_apart {M : PM} (h : (M.flatMap (·.2)).Nodup) {b c : Nat} (hbc : b ≠ c) : ∀ x ∈ pgs M b, ∀ y ∈ pgs M c, x ≠ y := fun x hx y hy => by
  have hp : M.Pairwise fun a b => ∀ x ∈ a.2, ∀ y ∈ b.2, x ≠ y := (List.pairwise_flatMap.1 h).2
  obtain ⟨i, hi, ei⟩ := List.getElem_of_mem (pgs_in hx)
  obtain ⟨j, hj, ej⟩ := List.getElem_of_mem (pgs_in hy)
  have hij : i ≠ j := fun e => by
    subst e
    rw [ei] at ej
    exact hbc (congrArg Prod.fst ej)
  rcases Nat.lt_or_gt_of_ne hij with hl | hl
  · have := List.pairwise_iff_getElem.1 hp i j hi hj hl
    rw [ei, ej] at this
    exact this x hx y hy
  · have := List.pairwise_iff_getElem.1 hp j i hj hi hl
    rw [ei, ej] at this
    exact fun e => this y hy x hx e.symm
theorem pgs_nodup {M : PM} (h : (M.flatMap (·.2)).Nodup) (b : Nat) : (pgs M b).Nodup := by
  cases hp : pgs M b with
  | nil => exact List.nodup_nil
  | cons x t =>
    rw [← hp]
    exact (List.pairwise_flatMap.1 h).1 _ (pgs_in (x := x) (by rw [hp]; exact List.mem_cons_self ..))
theorem lay1_apart (L : List PN) : ((layM [] L 0).flatMap (·.2)).Nodup := lay_apart (fun P _ x hx => by cases hx) (fun P _ => List.nodup_nil) (by
  rw [List.pairwise_iff_getElem]
  intro i j _ _ _ x hx
  cases hx)
/-- The pages behind two plans lie apart. -/
theorem lay2_apart {wb : World} {T' : TO} {L L' : List PN} (hT' : PrT wb T' L') : (pl (layM (layM [] L 0) L' (costs L)) L').Nodup := by
  have h1 := lay1_apart L
  have hb : (L'.map (·.b)).Nodup := hT'.nodup
  have h2 : ((layM (layM [] L 0) L' (costs L)).flatMap (·.2)).Nodup := by
    refine lay_apart (fun P _ x hx => ?_) (fun P _ => pgs_nodup h1 P.b) ?_
    · have := (lay_pages L 0 x).1 ⟨_, pgs_in hx, hx⟩
      have := (ups_mem.1 this).2
      omega
    · exact (List.pairwise_map.1 hb).imp fun {P Q} h => pgs_apart h1 h
  have h3 := pm_self (layM_keys (layM [] L 0) L' (costs L)) hb
  rw [← h3, List.flatMap_map] at h2
  exact h2
theorem lay_cases {wb : World} {T : TO} {L : List PN} {K : PM} {j : Nat} (hT : PrT wb T L) {P : PN} (hP : P ∈ L) : (fresh K P = true ∧ ∃ i, pgs (layM K L j) P.b = nodePgs i P) ∨ (fresh K P = false ∧ pgs (layM K L j) P.b = pgs K P.b) := by
  obtain ⟨Q, hQ, hb, ⟨hf, i, _, _, h3⟩ | ⟨hf, h3⟩⟩ := layM_mem (layM_at (K := K) (j := j) hT.nodup hP)
  · have : Q = P := PNAt.unique (hT.at_ Q hQ) (hT.at_ P hP) hb
    subst this
    exact .inl ⟨hf, i, h3⟩
  · have : Q = P := PNAt.unique (hT.at_ Q hQ) (hT.at_ P hP) hb
    subst this
    exact .inr ⟨hf, h3⟩
theorem pl_len {wb : World} {T : TO} {L : List PN} {K : PM} {j : Nat} (hT : PrT wb T L) : ∀ F : List PN, (∀ P ∈ F, P ∈ L) → (pl (layM K L j) F).length = newC K F + cntP K F
  | [], _ => rfl
  | P :: F, h => by
    have ih := pl_len (K := K) (j := j) hT F fun Q hQ => h Q (List.mem_cons_of_mem _ hQ)
    rw [show pl (layM K L j) (P :: F) = pgs (layM K L j) P.b ++ pl (layM K L j) F from rfl, List.length_append, ih, newC, show cntP K (P :: F) = (pgs K P.b).length + cntP K F by simp [cntP]]
    rcases lay_cases (K := K) (j := j) hT (h P (List.mem_cons_self ..)) with ⟨hf, i, hp⟩ | ⟨hf, hp⟩
    · rw [hp, nodePgs_len, if_pos hf, show pgs K P.b = [] from List.isEmpty_iff.1 hf]
      simp
      omega
    · rw [hp, if_neg (by rw [hf]; simp)]
      omega
theorem nodup_subI : ∀ {l m : List Int}, l.Nodup → (∀ x ∈ l, x ∈ m) → l.length ≤ m.length
  | [], m, _, _ => Nat.zero_le _
  | x :: l, m, hn, h => by
    obtain ⟨h1, h2⟩ := List.nodup_cons.1 hn
    have hx := h x (List.mem_cons_self ..)
    have := nodup_subI (m := m.erase x) h2 fun y hy => (List.mem_erase_of_ne (fun e => h1 (by rw [← e]; exact hy))).2 (h y (List.mem_cons_of_mem _ hy))
    rw [List.length_erase_of_mem hx] at this
    have := List.length_pos_of_mem hx
    simp only [List.length_cons]
    omega
theorem rising_nodup {l : List Int} (h : Rising l) : l.Nodup := h.imp fun {a b} h => by omega
/-- How many pages there are behind two plans. -/
theorem all2_len {w w' wb : World} {T' : TO} {L L' : List PN} {r : Ending} (hT' : PrT wb T' L') (h : AllPost w (layM (layM [] L 0) L' (costs L)) r w') : ∃ A c l, r = .returned (.slice A (newC (layM [] L 0) L' + cntP (layM [] L 0) L') c) ∧ Ls icell w' A l ∧ Below w.heap.size w w' := by
  obtain ⟨v, l, rfl, ho, hr, hm, hb⟩ := h
  have hn := lay2_apart (L := L) hT'
  have hmem : ∀ x, x ∈ l ↔ x ∈ pl (layM (layM [] L 0) L' (costs L)) L' := fun x => by
    rw [hm]
    have h3 := pm_self (layM_keys (layM [] L 0) L' (costs L)) hT'.nodup
    conv => lhs; rw [← h3]
    constructor
    · rintro ⟨y, hy, hx⟩
      obtain ⟨P, hP, rfl⟩ := List.mem_map.1 hy
      exact List.mem_flatMap.2 ⟨P, hP, hx⟩
    · intro hx
      obtain ⟨P, hP, hx⟩ := List.mem_flatMap.1 hx
      exact ⟨_, List.mem_map.2 ⟨P, hP, rfl⟩, hx⟩
  have h1 := nodup_subI (rising_nodup hr) fun x hx => (hmem x).1 hx
  have h2 := nodup_subI hn fun x hx => (hmem x).2 hx
  have h3 := pl_len (K := layM [] L 0) (j := costs L) hT' L' fun P hP => hP
  obtain ⟨A, c, rfl, hc, hls⟩ := ho.form
  rw [show l.length = newC (layM [] L 0) L' + cntP (layM [] L 0) L' by omega]
  exact ⟨A, c, l, rfl, hls, hb⟩

end Go.Proofs.YtelenboncejdaaaGreatDoor
