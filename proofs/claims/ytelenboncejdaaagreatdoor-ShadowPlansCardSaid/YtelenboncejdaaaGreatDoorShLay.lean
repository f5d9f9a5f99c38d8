/-
  Where nodes lie behind a plan over a fresh ledger; that all of it can be written; the contract of Plan where there is room, and where there is none; conditions stand at each.
-/
import Derived.Test.YtelenboncejdaaaGreatDoorShLed
namespace Go.Proofs.YtelenboncejdaaaGreatDoor
open Go.RowKit Go.Sort
open Rt (Fx Stp)
set_option linter.unusedVariables false
set_option linter.unusedSimpArgs false

theorem layM_keys (K : PM) : ∀ (L : List PN) (j : Nat), (layM K L j).map (·.1) = L.map (·.b)
  | [], j => rfl
  | P :: L, j => by
    rw [layM]
    split
    · rw [List.map_cons, layM_keys K L, List.map_cons]
    · rw [List.map_cons, layM_keys K L, List.map_cons]
theorem layM_mem {K : PM} : ∀ {L : List PN} {j : Nat} {y : Nat × List Int}, y ∈ layM K L j → ∃ P ∈ L, P.b = y.1 ∧ ((fresh K P = true ∧ ∃ i, j ≤ i ∧ i + P.cost ≤ j + newC K L ∧ y.2 = nodePgs i P) ∨ (fresh K P = false ∧ y.2 = pgs K P.b))
  | P :: L, j, y, h => by
    rw [layM] at h
    by_cases hf : fresh K P = true
    · rw [if_pos hf] at h
      rw [newC, if_pos hf]
      rcases List.mem_cons.1 h with rfl | h
      · exact ⟨P, List.mem_cons_self .., rfl, .inl ⟨hf, j, Nat.le_refl _, by omega, rfl⟩⟩
      · obtain ⟨Q, h1, h2, h3⟩ := layM_mem h
        refine ⟨Q, List.mem_cons_of_mem _ h1, h2, ?_⟩
        rcases h3 with ⟨h3, i, h4, h5, h6⟩ | h3
        · exact .inl ⟨h3, i, by omega, by omega, h6⟩
        · exact .inr h3
    · rw [if_neg hf] at h
      rw [newC, if_neg hf, Nat.zero_add]
      rcases List.mem_cons.1 h with rfl | h
      · exact ⟨P, List.mem_cons_self .., rfl, .inr ⟨by simpa using hf, rfl⟩⟩
      · obtain ⟨Q, h1, h2, h3⟩ := layM_mem h
        exact ⟨Q, List.mem_cons_of_mem _ h1, h2, h3⟩
theorem layM_ok {K : PM} {L : List PN} {j : Nat} (hK : ∀ k, ∀ x ∈ pgs K k, okNum x) (hr : j + newC K L ≤ 510) : ∀ y ∈ layM K L j, y.2 ≠ [] ∧ ∀ x ∈ y.2, okNum x := by
  intro y hy
  obtain ⟨P, hP, hb, ⟨hf, i, h1, h2, h3⟩ | ⟨hf, h3⟩⟩ := layM_mem hy
  · rw [h3]
    refine ⟨by simp [nodePgs], fun x hx => ?_⟩
    have := nodePgs_mem.1 hx
    exact ⟨by omega, by omega⟩
  · rw [h3]
    exact ⟨fun e => by simp [fresh, e] at hf, hK P.b⟩
theorem layM_at {K : PM} {L : List PN} {j : Nat} (hn : (L.map (·.b)).Nodup) {P : PN} (hP : P ∈ L) : (P.b, pgs (layM K L j) P.b) ∈ layM K L j := by
  have h1 : P.b ∈ (layM K L j).map (·.1) := by
    rw [layM_keys]
    exact List.mem_map.2 ⟨P, hP, rfl⟩
  obtain ⟨y, hy, he⟩ := List.mem_map.1 h1
  have h2 := pgs_mem (M := layM K L j) (by rw [layM_keys]; exact hn) (b := P.b) (l := y.2) (by rw [← he]; exact hy)
  rw [h2, ← he]
  exact hy
/-- A tree's kids are of its nodes. -/
theorem Pr.kids_in {w : World} : ∀ {h : Nat} {s : ST} {L : List PN}, Pr w h s L → ∀ P ∈ L, ∀ k ∈ P.ks, ∃ Q ∈ L, Q.b = k.2
  | 0, s, L, ⟨t, e⟩, P, hP, k, hk => by
    rw [e] at hP
    rw [List.mem_singleton.1 hP] at hk
    cases hk
  | h + 1, s, L, ⟨t, ks, Q, t2, t3, t4, t5, t7, t8, t9, hq, hr, e⟩, P, hP, k, hk => by
    rw [e] at hP ⊢
    rcases List.mem_append.1 hP with hP | hP
    · obtain ⟨j, M, hj, hP'⟩ := mem_flatten_at hP
      obtain ⟨x, hx⟩ := lt_at hq hj
      obtain ⟨q, h1, h2⟩ := (hr j x M hx hj).kids_in P hP' k hk
      exact ⟨q, List.mem_append_left _ (List.mem_flatten.2 ⟨M, List.mem_of_getElem? hj, h1⟩), h2⟩
    · rw [List.mem_singleton.1 hP] at hk
      obtain ⟨x, hx, rfl⟩ := List.mem_map.1 hk
      obtain ⟨j, hj⟩ := List.getElem?_of_mem hx
      obtain ⟨M, hM⟩ := lt_at hq.symm hj
      obtain ⟨L0, p, h1, h2, _⟩ := (hr j x M hj hM).last
      exact ⟨p, List.mem_append_left _ (List.mem_flatten.2 ⟨M, List.mem_of_getElem? hM, by rw [h1]; simp⟩), h2⟩
theorem PrT.kids_in {w : World} {T : TO} {L : List PN} (h : PrT w T L) : ∀ P ∈ L, ∀ k ∈ P.ks, ∃ Q ∈ L, Q.b = k.2 := by
  cases T with
  | none =>
    have h : L = [] := h
    rw [h]
    intro P hP
    cases hP
  | some x => exact Pr.kids_in (h := x.1) (s := x.2) h
/-- All of it can be written. -/
theorem lay_ok {wb : World} {T : TO} {L : List PN} {K : PM} {j : Nat} (hT : PrT wb T L) (hK : ∀ k, ∀ x ∈ pgs K k, okNum x) (hr : j + newC K L ≤ 510) : ∀ d ∈ allDrafts (layM K L j) (L.filter (fresh K)), okPage d.2 := by
  intro d hd
  obtain ⟨P, hP, hd⟩ := List.mem_flatMap.1 hd
  obtain ⟨hPL, hPf⟩ := List.mem_filter.1 hP
  obtain ⟨N, hN⟩ := hT.at_ P hPL
  have hm := layM_at (K := K) (j := j) hT.nodup hPL
  refine drafts_ok hN (layM_ok hK hr _ hm).2 ?_ (fun k hk => ?_) d hd
  · obtain ⟨Q, hQ, hb, ⟨hf, i, h1, h2, h3⟩ | ⟨hf, h3⟩⟩ := layM_mem hm
    · have : Q = P := PNAt.unique (hT.at_ Q hQ) ⟨N, hN⟩ hb
      simp only at h3
      rw [h3, nodePgs_len, this]
      exact Nat.le_refl _
    · have : Q = P := PNAt.unique (hT.at_ Q hQ) ⟨N, hN⟩ hb
      rw [this, hPf] at hf
      cases hf
  · obtain ⟨Q, hQ, hb⟩ := hT.kids_in P hPL k hk
    obtain ⟨h1, h2⟩ := layM_ok hK hr _ (layM_at (K := K) (j := j) hT.nodup hQ)
    unfold ownP
    rw [← hb]
    cases hp : pgs (layM K L j) Q.b with
    | nil => exact absurd hp h1
    | cons x t => exact h2 x (by simp only; rw [hp]; exact List.mem_cons_self ..)

/-- What Plan answers where there is room. -/
structure PlanOk (w wb : World) (b n j : Nat) (K : PM) (L : List PN) (nb : Option Nat) (e : Ending) (W : World) : Prop where
  led : Led W b n noMark noMark (tkn (j + newC K L))
  bel : Below wb.heap.size wb W
  stp : Stp (fun k => k = b) w (fun k => k = b) W
  out : ∃ v g m R ws, e = .returned (.tuple #[v, .pointer (some ⟨g, 0, none⟩), .int .i64 (rootP (layM K L j) nb), .int .i64 0]) ∧ PB W g (some m) R ∧ Mof R = layM K L j ∧ w.heap.size ≤ g ∧ w.heap.size ≤ m ∧ OwnW W w.heap.size v ws ∧
    ws.map WR.pr = (allDrafts (layM K L j) (L.filter (fresh K))).map encOf ∧ ∀ x ∈ ws, WOk W w.heap.size x
theorem okNum_i64 {x : Int} (h : okNum x) : I64 x := ⟨by have := h.1; omega, by have := h.2; omega⟩
theorem planL_ok {w wb : World} {T : TO} {L : List PN} {b n j : Nat} {kv : Value} {K : PM} (hT : PrT wb T L) (hw : Below wb.heap.size wb w) (hwb : wb.heap.size ≤ b) (hd : Led w b n noMark noMark (tkn j)) (hK : PgIs w kv K) (hKl : ∀ k, (pgs K k).length ≤ 100000 ∧ ∀ x ∈ pgs K k, okNum x) (hh : Half wb) (hfew : (tl T).length ≤ 4000) (hr : j + newC K L + 2 ≤ n) :
    Calls Tryz.prog 18 #[tb T, kv, .func (.func 30) #[.pointer (some ⟨b, 0, none⟩)] #[]] w (PlanOk w wb b n j K L (tn T)) := by
  refine (planL_any hT hw hwb hd hK (fun k => ⟨(hKl k).1, fun x hx => okNum_i64 ((hKl k).2 x hx)⟩) hh hfew).mono ?_
  have hs := hd.small
  rw [fold_ld L [] [] j hr]
  rintro e W ⟨h1, h2, h3, ⟨_, h4⟩ | ⟨_, ⟨d, hd, hno⟩, _⟩ | ⟨h4, _⟩⟩
  · obtain ⟨v, g, m, R, ws, q⟩ := h4.out
    simp only [List.nil_append] at q
    exact ⟨h1, h2.bel, h3, v, g, m, R, ws, q⟩
  · simp only [List.nil_append] at hd
    exact absurd (lay_ok hT (fun k => (hKl k).2) (by omega) d hd) hno
  · exact absurd rfl h4
/-- What Plan answers where there is none. -/
structure PlanNo (w wb : World) (b n : Nat) (e : Ending) (W : World) : Prop where
  bel : Below wb.heap.size wb W
  stp : Stp (fun k => k = b) w (fun k => k = b) W
  out : e = .returned (.tuple #[.slice none 0 0, .pointer none, .int .i64 0, .int .i64 8])
theorem planL_no {w wb : World} {T : TO} {L : List PN} {b n j : Nat} {kv : Value} {K : PM} (hT : PrT wb T L) (hw : Below wb.heap.size wb w) (hwb : wb.heap.size ≤ b) (hd : Led w b n noMark noMark (tkn j)) (hK : PgIs w kv K) (hKl : ∀ k, (pgs K k).length ≤ 100000 ∧ ∀ x ∈ pgs K k, okNum x) (hh : Half wb) (hfew : (tl T).length ≤ 4000) (hr : n < j + newC K L + 2) (h0 : 0 < newC K L) :
    Calls Tryz.prog 18 #[tb T, kv, .func (.func 30) #[.pointer (some ⟨b, 0, none⟩)] #[]] w (PlanNo w wb b n) := by
  refine (planL_any hT hw hwb hd hK (fun k => ⟨(hKl k).1, fun x hx => okNum_i64 ((hKl k).2 x hx)⟩) hh hfew).mono ?_
  have he := fold_full (n := n) (K := K) L [] [] j hr h0
  rintro e W ⟨h1, h2, h3, ⟨h4, _⟩ | ⟨h4, _⟩ | ⟨h4, h5⟩⟩
  · rw [he] at h4
    omega
  · rw [he] at h4
    omega
  · rw [he] at h5
    exact ⟨h2.bel, h3, h5⟩

end Go.Proofs.YtelenboncejdaaaGreatDoor
