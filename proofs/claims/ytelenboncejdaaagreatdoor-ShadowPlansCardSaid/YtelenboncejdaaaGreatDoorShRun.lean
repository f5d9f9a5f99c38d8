/-
  Plans over a fresh ledger, without a program: which pages nodes get; how many; trees' nodes, counted; conditions stand at each.
-/
import Derived.Test.YtelenboncejdaaaGreatDoorShPlan
namespace Go.Proofs.YtelenboncejdaaaGreatDoor
open Go.RowKit Go.Sort
open Rt (Fx Stp)
set_option linter.unusedVariables false
set_option linter.unusedSimpArgs false

/-- A ledger that has given so many pages: what it gives next. -/
def ldT (n : Nat) : TS Nat := ⟨fun j => if j + 2 < n then ((j + 2 : Nat) : Int) else 0, fun j => if j + 2 < n then 0 else 8, fun j => if j + 2 < n then j + 1 else j⟩
def tkn (j : Nat) : Nat → Bool := fun i => decide (2 ≤ i) && decide (i < j + 2)
theorem tkn_zero : tkn 0 = noMark := by
  funext i
  simp [tkn, noMark]
theorem tkn_succ (j : Nat) : mark1 (tkn j) (j + 2) = tkn (j + 1) := by
  funext i
  simp only [mark1, tkn]
  by_cases h2 : 2 ≤ i
  · by_cases h3 : i < j + 2
    · simp [h2, h3, show i < j + 1 + 2 by omega]
    · by_cases h4 : i = j + 2
      · simp [h4]
      · simp [h3, h4, show ¬ i < j + 1 + 2 by omega]
  · simp [h2, show i ≠ j + 2 by omega]
theorem least_tkn (j n : Nat) : ldLeast (fr noMark noMark (tkn j)) n = if j + 2 < n then some (j + 2) else none := by
  split
  · rename_i h
    refine ldLeast_some h ?_ fun i hi => ?_
    · simp [fr, noMark, tkn]
    · simp only [fr, noMark, tkn]
      by_cases h2 : 2 ≤ i
      · simp [h2, hi]
      · simp [h2]
  · rename_i h
    refine ldLeast_none fun i hi => ?_
    simp only [fr, noMark, tkn]
    by_cases h2 : 2 ≤ i
    · simp [h2, show i < j + 2 by omega]
    · simp [h2]
theorem ldT_i64 (n : Nat) (h : n ≤ 512) (s : Nat) : I64 ((ldT n).pg s) := by
  unfold ldT I64
  simp only
  split <;> constructor <;> omega

/-- So many pages from one on. -/
def ups (j : Nat) : Nat → List Int
  | 0 => []
  | c + 1 => ((j + 2 : Nat) : Int) :: ups (j + 1) c
theorem ups_len : ∀ (j c : Nat), (ups j c).length = c
  | j, 0 => rfl
  | j, c + 1 => by rw [ups, List.length_cons, ups_len]
theorem ups_mem : ∀ {j c : Nat} {x : Int}, x ∈ ups j c ↔ (j + 2 : Int) ≤ x ∧ x < (j + c + 2 : Int)
  | j, 0, x => by
    simp only [ups, List.not_mem_nil, false_iff]
    omega
  | j, c + 1, x => by
    rw [ups, List.mem_cons, ups_mem]
    omega
theorem ups_snoc : ∀ (j c : Nat), ups j (c + 1) = ups j c ++ [((j + c + 2 : Nat) : Int)]
  | j, 0 => rfl
  | j, c + 1 => by
    rw [ups, ups_snoc (j + 1) c, ups, List.cons_append, show j + 1 + c + 2 = j + (c + 1) + 2 by omega]
theorem ups_append : ∀ (j a b : Nat), ups j (a + b) = ups j a ++ ups (j + a) b
  | j, 0, b => by simp [ups]
  | j, a + 1, b => by
    rw [show a + 1 + b = (a + b) + 1 by omega, ups, ups_append (j + 1) a b, ups, List.cons_append, show j + 1 + a = j + (a + 1) by omega]
theorem ups_nodup : ∀ (j c : Nat), (ups j c).Nodup
  | j, 0 => List.nodup_nil
  | j, c + 1 => by
    rw [ups, List.nodup_cons]
    refine ⟨fun h => ?_, ups_nodup (j + 1) c⟩
    have := (ups_mem.1 h).1
    omega
theorem takes_ups {n : Nat} : ∀ (c j : Nat), j + c + 2 ≤ n → (ldT n).takes c j = (ups j c, 0, j + c)
  | 0, j, h => rfl
  | c + 1, j, h => by
    have h0 : (ldT n).er j = 0 := if_pos (by omega)
    have h1 : (ldT n).nx j = j + 1 := if_pos (by omega)
    have h2 : (ldT n).pg j = ((j + 2 : Nat) : Int) := if_pos (by omega)
    rw [TS.takes, if_pos h0, h1, h2, takes_ups c (j + 1) (by omega)]
    simp only [ups]
    rw [show j + 1 + c = j + (c + 1) by omega]
theorem takes_full_err {n : Nat} : ∀ (c j : Nat), n < j + c + 2 → 0 < c → ((ldT n).takes c j).2.1 = 8
  | 0, j, h, h0 => by omega
  | c + 1, j, h, _ => by
    by_cases hj : j + 2 < n
    · have h0 : (ldT n).er j = 0 := if_pos hj
      have h1 : (ldT n).nx j = j + 1 := if_pos hj
      rw [TS.takes, if_pos h0, h1]
      exact takes_full_err c (j + 1) (by omega) (by omega)
    · have h0 : (ldT n).er j = 8 := if_neg hj
      rw [TS.takes, if_neg (by rw [h0]; omega)]
      exact h0

/-- A node's pages: its own, and those of its pieces. -/
def nodePgs (j : Nat) (P : PN) : List Int := ((j + pieces P.l + 2 : Nat) : Int) :: ups j (pieces P.l)
theorem rot_ups (j : Nat) (P : PN) : rot (pieces P.l) (ups j P.cost) = nodePgs j P := by
  rw [rot, PN.cost, ups_snoc, List.drop_left' (ups_len _ _), List.take_left' (ups_len _ _)]
  rfl
theorem nodePgs_len (j : Nat) (P : PN) : (nodePgs j P).length = P.cost := by rw [nodePgs, List.length_cons, ups_len, PN.cost]
theorem nodePgs_mem {j : Nat} {P : PN} {x : Int} : x ∈ nodePgs j P ↔ (j + 2 : Int) ≤ x ∧ x < (j + P.cost + 2 : Int) := by
  rw [nodePgs, List.mem_cons, ups_mem, PN.cost]
  omega
/-- What is taken for the nodes that are not known. -/
def fresh (K : PM) (P : PN) : Bool := (pgs K P.b).isEmpty
def newC (K : PM) : List PN → Nat
  | [] => 0
  | P :: L => (if fresh K P then P.cost else 0) + newC K L
/-- Where nodes lie then. -/
def layM (K : PM) : List PN → Nat → PM
  | [], _ => []
  | P :: L, j => if fresh K P then (P.b, nodePgs j P) :: layM K L (j + P.cost) else (P.b, pgs K P.b) :: layM K L j
theorem fold_ld {n : Nat} {K : PM} : ∀ (L : List PN) (M : PM) (F : List PN) (j : Nat), j + newC K L + 2 ≤ n → L.foldl (stepP (ldT n) K) ⟨M, F, j, 0⟩ = ⟨M ++ layM K L j, F ++ L.filter (fresh K), j + newC K L, 0⟩
  | [], M, F, j, _ => by simp [layM, newC]
  | P :: L, M, F, j, h => by
    rw [List.foldl_cons]
    by_cases hf : fresh K P = true
    · have hk : pgs K P.b = [] := List.isEmpty_iff.1 hf
      rw [newC, if_pos hf] at h ⊢
      have ht := takes_ups (n := n) P.cost j (by omega)
      rw [stepP_ok (st := ⟨M, F, j, 0⟩) rfl hk (by rw [ht]), ht]
      simp only
      rw [rot_ups, fold_ld L _ _ _ (by omega), layM, if_pos hf, List.filter_cons_of_pos hf, List.append_assoc, List.append_assoc, Nat.add_assoc]
      rfl
    · have hk : pgs K P.b ≠ [] := fun e => hf (List.isEmpty_iff.2 e)
      rw [newC, if_neg hf] at h ⊢
      rw [stepP_known (st := ⟨M, F, j, 0⟩) rfl hk]
      simp only
      rw [fold_ld L _ _ _ (by omega), layM, if_neg hf, List.filter_cons_of_neg hf, List.append_assoc, Nat.zero_add]
      rfl
theorem fold_full {n : Nat} {K : PM} : ∀ (L : List PN) (M : PM) (F : List PN) (j : Nat), n < j + newC K L + 2 → 0 < newC K L → (L.foldl (stepP (ldT n) K) ⟨M, F, j, 0⟩).e = 8
  | [], M, F, j, _, h => by simp [newC] at h
  | P :: L, M, F, j, h, h0 => by
    rw [List.foldl_cons]
    by_cases hf : fresh K P = true
    · have hk : pgs K P.b = [] := List.isEmpty_iff.1 hf
      rw [newC, if_pos hf] at h h0
      by_cases hc : j + P.cost + 2 ≤ n
      · have ht := takes_ups (n := n) P.cost j hc
        rw [stepP_ok (st := ⟨M, F, j, 0⟩) rfl hk (by rw [ht]), ht]
        exact fold_full (n := n) L _ _ (j + P.cost) (by omega) (by omega)
      · have ht := takes_full_err (n := n) P.cost j (by omega) (by unfold PN.cost; omega)
        rw [stepP_no (st := ⟨M, F, j, 0⟩) rfl hk (by simp only; rw [ht]; omega), foldP_err (by simp only; rw [ht]; omega)]
        exact ht
    · have hk : pgs K P.b ≠ [] := fun e => hf (List.isEmpty_iff.2 e)
      rw [newC, if_neg hf, Nat.zero_add] at h h0
      rw [stepP_known (st := ⟨M, F, j, 0⟩) rfl hk]
      exact fold_full L _ _ _ h h0

/-- All that nodes cost. -/
def costs (L : List PN) : Nat := (L.map PN.cost).sum
theorem newC_le (K : PM) : ∀ L, newC K L ≤ costs L
  | [] => Nat.le_refl _
  | P :: L => by
    have := newC_le K L
    rw [newC, costs, List.map_cons, List.sum_cons]
    unfold costs at this
    split <;> omega
theorem newC_nil : ∀ L, newC [] L = costs L
  | [] => rfl
  | P :: L => by
    rw [newC, newC_nil L, if_pos (show fresh [] P = true from rfl)]
    simp [costs]
theorem costs_append (a b : List PN) : costs (a ++ b) = costs a + costs b := by simp [costs]
theorem flat_cons (k : ST) (ks : List ST) : flat (k :: ks) = k.l ++ flat ks := rfl
theorem kids_count : ∀ (ks : List ST) (Q : List (List PN)), Q.length = ks.length → (∀ (j : Nat) (k : ST) (M : List PN), ks[j]? = some k → Q[j]? = some M → 4 * M.length + 2 ≤ 3 * k.l.length) → 4 * Q.flatten.length + 2 * ks.length ≤ 3 * (flat ks).length
  | [], Q, h, _ => by
    cases Q with
    | nil => simp
    | cons a b => simp at h
  | k :: ks, Q, h, hr => by
    cases Q with
    | nil => simp at h
    | cons M Q =>
      have h0 := hr 0 k M rfl rfl
      have ih := kids_count ks Q (by simpa using h) fun j x N hx hN => hr (j + 1) x N (by simpa using hx) (by simpa using hN)
      rw [flat_cons, List.flatten_cons, List.length_append, List.length_append, List.length_cons]
      omega
theorem kids_costs : ∀ (ks : List ST) (Q : List (List PN)), Q.length = ks.length → (∀ (j : Nat) (k : ST) (M : List PN), ks[j]? = some k → Q[j]? = some M → costs M = pieces k.l + M.length) → costs Q.flatten = pieces (flat ks) + Q.flatten.length
  | [], Q, h, _ => by
    cases Q with
    | nil => simp [costs, flat, pieces]
    | cons a b => simp at h
  | k :: ks, Q, h, hr => by
    cases Q with
    | nil => simp at h
    | cons M Q =>
      have h0 := hr 0 k M rfl rfl
      have ih := kids_costs ks Q (by simpa using h) fun j x N hx hN => hr (j + 1) x N (by simpa using hx) (by simpa using hN)
      rw [flat_cons, List.flatten_cons, List.length_append, costs_append, pieces_append]
      omega
/-- How many nodes a tree has. -/
theorem Pr.count {w : World} : ∀ {h : Nat} {s : ST} {L : List PN}, Pr w h s L → 4 * L.length ≤ 3 * s.l.length + 1 ∧ (s.good = true → 4 * L.length + 2 ≤ 3 * s.l.length)
  | 0, s, L, ⟨t, e⟩ => by
    have h1 := t.2.1.en
    have h2 := okLeaf_len t.2.2.2.1
    have h3 := t.2.1.kn
    have hg := Tr.good_iff (h := 0) t
    rw [e, hg]
    unfold ST.size
    simp only [List.length_singleton, if_pos, decide_eq_true_eq]
    omega
  | h + 1, s, L, ⟨t, ks, Q, t2, t3, t4, t5, t7, t8, t9, hq, hr, e⟩ => by
    have hc := kids_count ks Q hq fun j k M hk hM => (hr j k M hk hM).count.2 (t7 k (List.mem_of_getElem? hk)).2
    have h1 := t2.en
    have h3 := t2.kn
    rw [nbs_len] at h3
    have hg := t.good_iff
    rw [e, hg, t8, List.length_append, List.length_singleton]
    unfold ST.size
    rw [if_neg (by omega)]
    simp only [decide_eq_true_eq]
    omega
/-- What a tree costs. -/
theorem Pr.costs {w : World} : ∀ {h : Nat} {s : ST} {L : List PN}, Pr w h s L → costs L = pieces s.l + L.length
  | 0, s, L, ⟨t, e⟩ => by
    rw [e]
    simp [Go.Proofs.YtelenboncejdaaaGreatDoor.costs, PN.cost]
  | h + 1, s, L, ⟨t, ks, Q, t2, t3, t4, t5, t7, t8, t9, hq, hr, e⟩ => by
    have hc := kids_costs ks Q hq fun j k M hk hM => (hr j k M hk hM).costs
    rw [e, costs_append, hc, t8, List.length_append]
    simp [Go.Proofs.YtelenboncejdaaaGreatDoor.costs, PN.cost, pieces]
    omega
/-- A tree's nodes lie apart. -/
theorem Pr.low {w : World} : ∀ {h : Nat} {s : ST} {L : List PN}, Pr w h s L → ∀ P ∈ L, P.h ≤ h ∧ ∃ N, NodeAt w P.b N ∧ ∃ e ∈ s.l, e.k = N.lo
  | 0, s, L, ⟨t, e⟩, P, hP => by
    rw [e] at hP
    rw [List.mem_singleton.1 hP]
    exact ⟨Nat.le_refl _, s.N, t.1, Tr.lo_mem (h := 0) t⟩
  | h + 1, s, L, ⟨t, ks, Q, t2, t3, t4, t5, t7, t8, t9, hq, hr, e⟩, P, hP => by
    rw [e] at hP
    rcases List.mem_append.1 hP with hP | hP
    · obtain ⟨j, M, hj, hP⟩ := mem_flatten_at hP
      obtain ⟨k, hk⟩ := lt_at hq hj
      obtain ⟨h1, N, h2, x, h3, h4⟩ := (hr j k M hk hj).low P hP
      exact ⟨by omega, N, h2, x, by rw [t8]; exact List.mem_flatMap.2 ⟨k, List.mem_of_getElem? hk, h3⟩, h4⟩
    · rw [List.mem_singleton.1 hP]
      exact ⟨Nat.le_refl _, s.N, t.at_, t.lo_mem⟩
theorem Pr.apart {w : World} : ∀ {h : Nat} {s : ST} {L : List PN}, Pr w h s L → L.Pairwise fun a c => a.b ≠ c.b
  | 0, s, L, ⟨t, e⟩ => by
    rw [e]
    exact List.pairwise_singleton _ _
  | h + 1, s, L, ⟨t, ks, Q, t2, t3, t4, t5, t7, t8, t9, hq, hr, e⟩ => by
    have same : ∀ {a c : PN} {N M : NR}, a.b = c.b → NodeAt w a.b N → NodeAt w c.b M → N.lo = M.lo := fun {a c N M} e h1 h2 => by
      rw [e] at h1
      have h3 : w.heap[c.b]? = some (.cells N.cells 103 (0, 0)) := h1
      have h4 : w.heap[c.b]? = some (.cells M.cells 103 (0, 0)) := h2
      rw [h3] at h4
      simp only [Option.some.injEq, Obj.cells.injEq, and_true] at h4
      have := congrArg (·[3]?) h4
      simpa only [NR.cells, List.getElem?_toArray, List.getElem?_cons_zero, List.getElem?_cons_succ, Option.some.injEq, Value.string.injEq] using this
    have hs := t8 ▸ t.sorted
    rw [e, List.pairwise_append]
    refine ⟨List.pairwise_flatten.2 ⟨fun M hM => ?_, ?_⟩, List.pairwise_singleton _ _, fun a ha c hc => ?_⟩
    · obtain ⟨j, hj⟩ := List.getElem?_of_mem hM
      obtain ⟨k, hk⟩ := lt_at hq hj
      exact (hr j k M hk hj).apart
    · rw [List.pairwise_iff_getElem]
      intro i j hi hj hij a ha c hc heq
      have qi := List.getElem?_eq_getElem hi
      have qj := List.getElem?_eq_getElem hj
      obtain ⟨ki, hki⟩ := lt_at hq qi
      obtain ⟨kj, hkj⟩ := lt_at hq qj
      obtain ⟨_, N, n1, x, x1, x2⟩ := (hr i ki _ hki qi).low a ha
      obtain ⟨_, M, m1, y, y1, y2⟩ := (hr j kj _ hkj qj).low c hc
      have hlt := flat_cross hs hij hki hkj x1 y1
      rw [x2, y2, same heq n1 m1] at hlt
      exact kl_irrefl _ hlt
    · rw [List.mem_singleton.1 hc]
      obtain ⟨j, M, hj, hP⟩ := mem_flatten_at ha
      obtain ⟨k, hk⟩ := lt_at hq hj
      have h1 := ((hr j k M hk hj).low a hP).1
      intro heq
      have hp := (hr j k M hk hj).at_ a hP
      have hroot : PNAt w ⟨s.b, h + 1, [], kidsP ks⟩ := Pr.at_ (h := h + 1) (s := s) ⟨t, ks, Q, t2, t3, t4, t5, t7, t8, t9, hq, hr, rfl⟩ _ (List.mem_append_right _ (List.mem_singleton.2 rfl))
      have := PNAt.unique hp hroot heq
      rw [this] at h1
      simp at h1
      omega
theorem Pr.nodup {w : World} {h : Nat} {s : ST} {L : List PN} (hp : Pr w h s L) : (L.map (·.b)).Nodup := List.pairwise_map.2 hp.apart

end Go.Proofs.YtelenboncejdaaaGreatDoor
