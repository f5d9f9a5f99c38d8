/-
  Pages that are to be written: their numbers are small, and they can be, where each number is that of a page; conditions stand at each.
-/
import Derived.Test.YtelenboncejdaaaGreatDoorShBranch
namespace Go.Proofs.YtelenboncejdaaaGreatDoor
open Go.RowKit Go.Sort
set_option linter.unusedVariables false
set_option linter.unusedSimpArgs false

theorem getD_all {p : Int → Prop} (h0 : p 0) {r : List Int} (h : ∀ x ∈ r, p x) (i : Nat) : p (r.getD i 0) := by
  rw [List.getD_eq_getElem?_getD]
  cases hi : r[i]? with
  | none => exact h0
  | some x => exact h x (List.mem_of_getElem? hi)
theorem i64_zero : I64 0 := ⟨by omega, by omega⟩
theorem okE_parts {e : Ent} (h : okE e = true) : 1 ≤ e.k.size ∧ e.k.size ≤ 24 ∧ e.v.size ≤ 400 := by
  simp only [okE, Bool.and_eq_true, decide_eq_true_eq] at h
  obtain ⟨h1, h2⟩ := h
  unfold keyNo at h1
  unfold valNo at h2
  split at h1
  · cases h1
  · split at h1
    · cases h1
    · split at h2
      · cases h2
      · omega
theorem keyNo_parts {k : ByteArray} (h : keyNo k = 0) : 1 ≤ k.size ∧ k.size ≤ 24 := by
  unfold keyNo at h
  split at h
  · cases h
  · split at h
    · cases h
    · omega
theorem chainD_mem {c : List ByteArray} {r : List Int} {d : Int × PP} (h : d ∈ chainD c r) : ∃ (i : Nat) (s : ByteArray) (n : Int), s ∈ c ∧ d = (r.getD i 0, chP s n) ∧ i < c.length ∧ (n = 0 ∨ (n = r.getD 1 0 ∧ 2 ≤ c.length)) := by
  match c, h with
  | [a], h =>
    rw [show chainD [a] r = [(r.getD 0 0, chP a 0)] from rfl, List.mem_singleton] at h
    exact ⟨0, a, 0, by simp, h, by simp, .inl rfl⟩
  | a :: b :: t, h =>
    rw [show chainD (a :: b :: t) r = [(r.getD 1 0, chP b 0), (r.getD 0 0, chP a (r.getD 1 0))] from rfl] at h
    rcases List.mem_cons.1 h with h | h
    · exact ⟨1, b, 0, by simp, h, by simp, .inl rfl⟩
    · exact ⟨0, a, r.getD 1 0, by simp, List.mem_singleton.1 h, by simp, .inr ⟨rfl, by simp⟩⟩
theorem leafD_mem {d : Int × PP} : ∀ {l : List Ent} {r : List Int}, d ∈ leafD l r → ∃ (e : Ent) (r' : List Int), e ∈ l ∧ d ∈ chainD (cutL e.v) r' ∧ (∀ x ∈ r', x ∈ r) ∧ (pieces l ≤ r.length → (cutL e.v).length ≤ r'.length)
  | [], r, h => by cases h
  | e :: l, r, h => by
    rw [leafD] at h
    rcases List.mem_append.1 h with h | h
    · exact ⟨e, r, List.mem_cons_self .., h, fun x hx => hx, fun hl => by rw [pieces_cons] at hl; omega⟩
    · obtain ⟨e', r', h1, h2, h3, h4⟩ := leafD_mem h
      exact ⟨e', r', List.mem_cons_of_mem _ h1, h2, fun x hx => List.mem_of_mem_drop (h3 x hx), fun hl => h4 (by rw [pieces_cons] at hl; rw [List.length_drop]; omega)⟩
theorem leafC_mem {c : PC} : ∀ {l : List Ent} {r : List Int}, c ∈ leafC l r → ∃ (e : Ent) (r' : List Int), e ∈ l ∧ c = cellOf e r' ∧ (∀ x ∈ r', x ∈ r) ∧ (pieces l ≤ r.length → (cutL e.v).length ≤ r'.length)
  | [], r, h => by cases h
  | e :: l, r, h => by
    rw [leafC] at h
    rcases List.mem_cons.1 h with h | h
    · exact ⟨e, r, List.mem_cons_self .., h, fun x hx => hx, fun hl => by rw [pieces_cons] at hl; omega⟩
    · obtain ⟨e', r', h1, h2, h3, h4⟩ := leafC_mem h
      exact ⟨e', r', List.mem_cons_of_mem _ h1, h2, fun x hx => List.mem_of_mem_drop (h3 x hx), fun hl => h4 (by rw [pieces_cons] at hl; rw [List.length_drop]; omega)⟩
theorem cutL_size {s p : ByteArray} (h : p ∈ cutL s) : 1 ≤ p.size ∧ p.size ≤ 240 := by
  unfold cutL pcs at h
  by_cases hl : Long s.size
  · rw [if_pos hl] at h
    have h1 := hl.1
    have h2 := hl.2
    rw [if_neg (by omega)] at h
    by_cases h3 : s.size ≤ 240
    · rw [if_pos h3, List.mem_singleton] at h
      rw [h]
      omega
    · rw [if_neg h3] at h
      rcases List.mem_cons.1 h with h | h
      · rw [h, ByteArray.size_extract]
        omega
      · rw [List.mem_singleton.1 h, ByteArray.size_extract]
        omega
  · rw [if_neg hl] at h
    cases h
theorem PNAt'.okL {w : World} {P : PN} {N : NR} (h : PNAt' w P N) : ∀ e ∈ P.l, okE e = true := fun e he => by
  rcases h.kind with ⟨_, hl, _⟩ | ⟨_, hl, _⟩
  · simp only [okLeaf, Bool.and_eq_true] at hl
    exact List.all_eq_true.1 hl.1.2 e he
  · rw [hl] at he
    cases he

/-- The numbers and strings of what is to be written are small. -/
theorem drafts_bd {w : World} {P : PN} {N : NR} {M : PM} (h : PNAt' w P N) (hI : ∀ b, ∀ x ∈ pgs M b, I64 x) : ∀ d ∈ drafts M P, Bd d.2 := by
  intro d hd
  have hr : ∀ x ∈ (pgs M P.b).tail, I64 x := fun x hx => hI P.b x (List.mem_of_mem_tail hx)
  unfold drafts at hd
  by_cases h0 : P.h = 0
  · rw [if_pos h0] at hd
    rcases List.mem_append.1 hd with hd | hd
    · obtain ⟨e, r', he, hd, hs, _⟩ := leafD_mem hd
      obtain ⟨i, s, n, hs1, rfl, _, hn⟩ := chainD_mem hd
      have h2 := cutL_size hs1
      have hn64 : I64 n := by
        rcases hn with rfl | ⟨rfl, _⟩
        · exact i64_zero
        · exact getD_all i64_zero (fun x hx => hr x (hs x hx)) 1
      exact ⟨⟨by simp [chP], by simp [chP]⟩, hn64, by simp only [chP]; omega, by simp [chP], by simp [chP], by simp [chP], by simp [chP]⟩
    · rw [List.mem_singleton.1 hd]
      have hll : P.l.length ≤ 6 := by
        have h1 := h.few.1
        have h2 := h.en
        omega
      refine ⟨⟨by simp [leafP], by simp [leafP]⟩, ⟨by simp [leafP], by simp [leafP]⟩, by simp [leafP], ?_, by simp [leafP], fun c hc => ?_, by simp [leafP]⟩
      · show (leafC P.l (pgs M P.b).tail).length ≤ _
        rw [leafC_len]
        omega
      · obtain ⟨e, r', he, rfl, hs, _⟩ := leafC_mem (show c ∈ leafC P.l (pgs M P.b).tail from hc)
        obtain ⟨k1, k2, k3⟩ := okE_parts (h.okL e he)
        unfold cellOf
        split
        · exact ⟨by simp only; omega, by simp only; omega, i64_zero, i64_zero⟩
        · exact ⟨by simp only; omega, by simp, ⟨by simp only; omega, by simp only; omega⟩, getD_all i64_zero (fun x hx => hr x (hs x hx)) 0⟩
  · rw [if_neg h0, List.mem_singleton] at hd
    rw [hd]
    rcases h.kind with ⟨h1, _⟩ | ⟨_, _, k2, k6, _, hkk⟩
    · exact absurd h1 h0
    · refine ⟨⟨by simp [brP], by simp [brP]⟩, ⟨by simp [brP], by simp [brP]⟩, by simp [brP], by simp [brP], ?_, by simp [brP], fun c hc => ?_⟩
      · simp only [brP, List.length_map]
        omega
      · obtain ⟨k, hk, rfl⟩ := List.mem_map.1 (show c ∈ P.ks.map _ from hc)
        have := keyNo_parts (hkk k hk)
        refine ⟨by simp only; omega, ?_⟩
        show I64 (ownP M k.2)
        unfold ownP
        cases hp : pgs M k.2 with
        | nil => exact i64_zero
        | cons x t => exact hI k.2 x (by rw [hp]; exact List.mem_cons_self ..)

/-- What is to be written can be a page, where each number is that of a page. -/
theorem drafts_ok {w : World} {P : PN} {N : NR} {M : PM} (h : PNAt' w P N) (hr : ∀ x ∈ pgs M P.b, okNum x) (hc : P.cost ≤ (pgs M P.b).length) (hk : ∀ k ∈ P.ks, okNum (ownP M k.2)) : ∀ d ∈ drafts M P, okPage d.2 := by
  intro d hd
  have hr' : ∀ x ∈ (pgs M P.b).tail, okNum x := fun x hx => hr x (List.mem_of_mem_tail hx)
  have hget : ∀ (r : List Int) (i : Nat), i < r.length → (∀ x ∈ r, okNum x) → okNum (r.getD i 0) := fun r i hi h => by
    rw [List.getD_eq_getElem?_getD, List.getElem?_eq_getElem hi]
    exact h _ (List.getElem_mem _)
  have hpc : pieces P.l ≤ (pgs M P.b).tail.length := by
    unfold PN.cost at hc
    rw [List.length_tail]
    omega
  unfold drafts at hd
  by_cases h0 : P.h = 0
  · rw [if_pos h0] at hd
    rcases List.mem_append.1 hd with hd | hd
    · obtain ⟨e, r', he, hd, hs, hl⟩ := leafD_mem hd
      obtain ⟨i, s, n, hs1, rfl, _, hn⟩ := chainD_mem hd
      have h2 := cutL_size hs1
      refine .inr (.inr ⟨rfl, rfl, rfl, h2.1, h2.2, ?_⟩)
      rcases hn with rfl | ⟨rfl, h2'⟩
      · exact .inl rfl
      · exact .inr (hget r' 1 (by have := hl hpc; omega) fun x hx => hr' x (hs x hx))
    · rw [List.mem_singleton.1 hd]
      have hkind : okLeaf P.l = true := by
        rcases h.kind with ⟨_, h1, _⟩ | ⟨h', _⟩
        · exact h1
        · exact absurd h0 h'
      refine .inl ⟨rfl, rfl, rfl, rfl, ?_, fun c hc => ?_, fun x hx => ?_, ?_⟩
      · show (leafC P.l (pgs M P.b).tail).length ≤ 4
        rw [leafC_len]
        exact (okLeaf_len hkind).2
      · obtain ⟨e, r', he, rfl, hs, hl⟩ := leafC_mem (show c ∈ leafC P.l (pgs M P.b).tail from hc)
        obtain ⟨k1, k2, k3⟩ := okE_parts (h.okL e he)
        unfold cellOf
        by_cases hcu : cutL e.v = []
        · rw [if_pos hcu]
          refine .inl ⟨rfl, rfl, ?_⟩
          show e.v.size ≤ 24
          by_cases hlg : 24 < e.v.size
          · have : cutL e.v ≠ [] := by
              unfold cutL pcs
              rw [if_pos ⟨by omega, by omega⟩, if_neg (by omega)]
              split <;> simp
            exact absurd hcu this
          · omega
        · rw [if_neg hcu]
          have hlg : Long e.v.size := by
            by_cases hl : Long e.v.size
            · exact hl
            · exact absurd (if_neg hl) hcu
          refine .inr ⟨rfl, ?_, ?_, hget r' 0 (by
            have := hl hpc
            have : 0 < (cutL e.v).length := List.length_pos_iff.2 hcu
            omega) fun x hx => hr' x (hs x hx)⟩
          · have := hlg.1
            show (25 : Int) ≤ e.v.size
            omega
          · have := hlg.2
            show (e.v.size : Int) ≤ 400
            omega
      · obtain ⟨c, hc, rfl⟩ := List.mem_map.1 hx
        obtain ⟨e, r', he, rfl, hs, hl⟩ := leafC_mem (show c ∈ leafC P.l (pgs M P.b).tail from hc)
        obtain ⟨k1, k2, k3⟩ := okE_parts (h.okL e he)
        have : (cellOf e r').key.k = e.k := by
          unfold cellOf
          split <;> rfl
        rw [okKey, this]
        exact ⟨k1, k2⟩
      · have hs := okLeaf_sorted hkind
        have hkeys : ∀ (l : List Ent) (r : List Int), ((leafC l r).map PC.key).map (·.k) = l.map (·.k) := by
          intro l
          induction l with
          | nil => intro r; rfl
          | cons e l ih =>
            intro r
            rw [leafC, List.map_cons, List.map_cons, ih, List.map_cons]
            congr 1
            unfold cellOf
            split <;> rfl
        have h1 : ∀ l : List Ent, Sorted l ↔ (l.map (·.k)).Pairwise kl := fun l => by
          unfold Sorted
          rw [List.pairwise_map]
        rw [show (leafP P.l (pgs M P.b).tail).cells = leafC P.l (pgs M P.b).tail from rfl, h1, hkeys, ← h1]
        exact hs
  · rw [if_neg h0, List.mem_singleton] at hd
    rw [hd]
    rcases h.kind with ⟨h1, _⟩ | ⟨_, _, k2, k6, hsr, hkk⟩
    · exact absurd h1 h0
    · refine .inr (.inl ⟨rfl, rfl, rfl, rfl, by simpa [brP] using k2, by simpa [brP] using k6, fun c hc => ?_, fun x hx => ?_, ?_⟩)
      · obtain ⟨k, hk', rfl⟩ := List.mem_map.1 (show c ∈ P.ks.map _ from hc)
        exact hk k hk'
      · obtain ⟨c, hc, rfl⟩ := List.mem_map.1 hx
        obtain ⟨k, hk', rfl⟩ := List.mem_map.1 (show c ∈ P.ks.map _ from hc)
        exact keyNo_parts (hkk k hk')
      · have h1 : ∀ l : List Ent, Sorted l ↔ (l.map (·.k)).Pairwise kl := fun l => by
          unfold Sorted
          rw [List.pairwise_map]
        rw [h1]
        rw [List.pairwise_map] at hsr
        rw [List.pairwise_map, List.pairwise_map, show (brP M P.ks).kids = P.ks.map (fun k => ⟨k.1, ownP M k.2⟩) from rfl, List.pairwise_map]
        exact hsr

end Go.Proofs.YtelenboncejdaaaGreatDoor
