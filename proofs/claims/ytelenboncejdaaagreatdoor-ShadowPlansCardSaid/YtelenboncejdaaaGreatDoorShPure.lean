/-
  Plans, without a program: nodes in the order in which they are written, the pages of a node, what is taken, what is written; no condition beyond those stated.
-/
import Derived.Test.YtelenboncejdaaaGreatDoorShInts
namespace Go.Proofs.YtelenboncejdaaaGreatDoor
open Go.RowKit Go.Sort
set_option linter.unusedVariables false
set_option linter.unusedSimpArgs false

/-- A node as a plan sees it: its block, its level, a leaf's entries, a branch's kids by their least keys and their blocks. -/
structure PN where
  b : Nat
  h : Nat
  l : List Ent
  ks : List (ByteArray × Nat)
/-- How many pieces the values of entries have. -/
def pieces (l : List Ent) : Nat := (l.map fun e => (cutL e.v).length).sum
theorem pieces_nil : pieces [] = 0 := rfl
theorem pieces_cons (e : Ent) (l : List Ent) : pieces (e :: l) = (cutL e.v).length + pieces l := by simp [pieces]
theorem pieces_append (a b : List Ent) : pieces (a ++ b) = pieces a + pieces b := by simp [pieces]
theorem pieces_snoc {l : List Ent} {k : Nat} {e : Ent} (h : l[k]? = some e) : pieces (l.take (k + 1)) = pieces (l.take k) + (cutL e.v).length := by
  rw [List.take_add_one, h]
  simp [pieces]
theorem pieces_take (l : List Ent) (k : Nat) : pieces (l.take k) ≤ pieces l := by
  conv => rhs; rw [← List.take_append_drop k l, pieces_append]
  omega
theorem pieces_le_take {l : List Ent} {k : Nat} {e : Ent} (h : l[k]? = some e) : pieces (l.take k) + (cutL e.v).length ≤ pieces l := by
  rw [← pieces_snoc h]
  exact pieces_take _ _
theorem cutL_le (s : ByteArray) : (cutL s).length ≤ 2 := by
  unfold cutL pcs
  by_cases h : Long s.size
  · rw [if_pos h]
    by_cases h0 : s.size = 0
    · simp [h0]
    · by_cases h1 : s.size ≤ 240
      · simp [h0, h1]
      · simp [h0, h1]
  · simp [h]
theorem pieces_le (l : List Ent) : pieces l ≤ 2 * l.length := by
  induction l with
  | nil => simp [pieces]
  | cons e l ih =>
    have := cutL_le e.v
    rw [pieces_cons, List.length_cons]
    omega
/-- How many pages a node takes. -/
def PN.cost (P : PN) : Nat := pieces P.l + 1

/-- Nodes with their pages. -/
abbrev PM := List (Nat × List Int)
/-- The pages of a node, or none. -/
def pgs (M : PM) (b : Nat) : List Int := ((M.find? fun x => x.1 == b).map (·.2)).getD []
/-- The page that holds the node itself. -/
def ownP (M : PM) (b : Nat) : Int := (pgs M b).headD 0
theorem pgs_none {M : PM} {b : Nat} (h : ∀ x ∈ M, x.1 ≠ b) : pgs M b = [] := by
  unfold pgs
  rw [List.find?_eq_none.2 fun x hx => by simpa using h x hx]
  rfl
theorem pgs_append_old {M N : PM} {b : Nat} (h : ∃ x ∈ M, x.1 = b) : pgs (M ++ N) b = pgs M b := by
  unfold pgs
  rw [List.find?_append]
  cases hf : M.find? (fun x => x.1 == b) with
  | none =>
    obtain ⟨x, hx, hb⟩ := h
    exact absurd (List.find?_eq_none.1 hf x hx) (by simp [hb])
  | some x => rfl
theorem pgs_append_new {M N : PM} {b : Nat} (h : ∀ x ∈ M, x.1 ≠ b) : pgs (M ++ N) b = pgs N b := by
  unfold pgs
  rw [List.find?_append, List.find?_eq_none.2 fun x hx => by simpa using h x hx]
  rfl
theorem pgs_one (b : Nat) (l : List Int) : pgs [(b, l)] b = l := by simp [pgs]
theorem pgs_snoc {M : PM} {b : Nat} (h : ∀ x ∈ M, x.1 ≠ b) (l : List Int) : pgs (M ++ [(b, l)]) b = l := by rw [pgs_append_new h, pgs_one]
theorem pgs_mem {M : PM} (hd : (M.map (·.1)).Nodup) {b : Nat} {l : List Int} (h : (b, l) ∈ M) : pgs M b = l := by
  induction M with
  | nil => cases h
  | cons x M ih =>
    rw [List.map_cons, List.nodup_cons] at hd
    unfold pgs
    rw [List.find?_cons]
    rcases List.mem_cons.1 h with rfl | h
    · simp
    · have : x.1 ≠ b := fun e => hd.1 (by rw [e]; exact List.mem_map.2 ⟨_, h, rfl⟩)
      rw [show (x.1 == b) = false by simpa using this]
      exact ih hd.2 h

/-- What gives pages: the page, the error, what gives the next. -/
structure TS (σ : Type) where
  pg : σ → Int
  er : σ → Int
  nx : σ → σ
/-- What gives pages behind so many. -/
def TS.it {σ : Type} (t : TS σ) : Nat → σ → σ
  | 0, s => s
  | n + 1, s => TS.it t n (t.nx s)
theorem TS.it_succ {σ : Type} (t : TS σ) : ∀ (n : Nat) (s : σ), t.it (n + 1) s = t.nx (t.it n s)
  | 0, s => rfl
  | n + 1, s => by
    show t.it (n + 1) (t.nx s) = _
    rw [TS.it_succ t n (t.nx s)]
    rfl
/-- So many pages, or the first error. -/
def TS.takes {σ : Type} (t : TS σ) : Nat → σ → List Int × Int × σ
  | 0, s => ([], 0, s)
  | n + 1, s => if t.er s = 0 then let r := TS.takes t n (t.nx s); (t.pg s :: r.1, r.2.1, r.2.2) else ([], t.er s, t.nx s)
theorem TS.takes_ok {σ : Type} (t : TS σ) : ∀ (n : Nat) (s : σ), (∀ i, i < n → t.er (t.it i s) = 0) → t.takes n s = ((List.range n).map fun i => t.pg (t.it i s), 0, t.it n s)
  | 0, s, _ => rfl
  | n + 1, s, h => by
    have h0 : t.er s = 0 := h 0 (by omega)
    have ih := TS.takes_ok t n (t.nx s) fun i hi => h (i + 1) (by omega)
    rw [TS.takes, if_pos h0, ih, List.range_succ_eq_map, List.map_cons, List.map_map]
    rfl
theorem TS.takes_err {σ : Type} (t : TS σ) : ∀ (n j : Nat) (s : σ), j < n → (∀ i, i < j → t.er (t.it i s) = 0) → t.er (t.it j s) ≠ 0 → (t.takes n s).2 = (t.er (t.it j s), t.it (j + 1) s)
  | 0, j, s, hj, _, _ => by omega
  | n + 1, 0, s, _, _, he => by
    have he' : ¬ t.er s = 0 := he
    rw [TS.takes, if_neg he']
    rfl
  | n + 1, j + 1, s, hj, h, he => by
    have h0 : t.er s = 0 := h 0 (by omega)
    have ih := TS.takes_err t n j (t.nx s) (by omega) (fun i hi => h (i + 1) (by omega)) he
    rw [TS.takes, if_pos h0]
    show ((t.takes n (t.nx s)).2.1, (t.takes n (t.nx s)).2.2) = _
    rw [show ((t.takes n (t.nx s)).2.1, (t.takes n (t.nx s)).2.2) = (t.takes n (t.nx s)).2 from rfl, ih]
    rfl
/-- The page that was taken last comes first. -/
def rot (k : Nat) (t : List Int) : List Int := t.drop k ++ t.take k

/-- A plan in the making: where nodes lie, which are fresh, what gives pages, the error. -/
structure PS (σ : Type) where
  M : PM
  F : List PN
  s : σ
  e : Int
/-- A node is placed. -/
def stepP {σ : Type} (t : TS σ) (K : PM) (st : PS σ) (P : PN) : PS σ :=
  if st.e ≠ 0 then st
  else if pgs K P.b ≠ [] then ⟨st.M ++ [(P.b, pgs K P.b)], st.F, st.s, 0⟩
  else if (t.takes P.cost st.s).2.1 = 0 then ⟨st.M ++ [(P.b, rot (pieces P.l) (t.takes P.cost st.s).1)], st.F ++ [P], (t.takes P.cost st.s).2.2, 0⟩
  else ⟨st.M, st.F, (t.takes P.cost st.s).2.2, (t.takes P.cost st.s).2.1⟩
theorem stepP_err {σ : Type} {t : TS σ} {K : PM} {st : PS σ} (h : st.e ≠ 0) (P : PN) : stepP t K st P = st := by
  unfold stepP
  rw [if_pos h]
theorem foldP_err {σ : Type} {t : TS σ} {K : PM} {st : PS σ} (h : st.e ≠ 0) : ∀ L : List PN, L.foldl (stepP t K) st = st
  | [] => rfl
  | P :: L => by rw [List.foldl_cons, stepP_err h, foldP_err h]
theorem stepP_known {σ : Type} {t : TS σ} {K : PM} {st : PS σ} {P : PN} (h : st.e = 0) (hk : pgs K P.b ≠ []) : stepP t K st P = ⟨st.M ++ [(P.b, pgs K P.b)], st.F, st.s, 0⟩ := by
  unfold stepP
  rw [if_neg (by simp [h]), if_pos hk]
theorem stepP_ok {σ : Type} {t : TS σ} {K : PM} {st : PS σ} {P : PN} (h : st.e = 0) (hk : pgs K P.b = []) (ht : (t.takes P.cost st.s).2.1 = 0) :
    stepP t K st P = ⟨st.M ++ [(P.b, rot (pieces P.l) (t.takes P.cost st.s).1)], st.F ++ [P], (t.takes P.cost st.s).2.2, 0⟩ := by
  unfold stepP
  rw [if_neg (by simp [h]), if_neg (by simp [hk]), if_pos ht]
theorem stepP_no {σ : Type} {t : TS σ} {K : PM} {st : PS σ} {P : PN} (h : st.e = 0) (hk : pgs K P.b = []) (ht : (t.takes P.cost st.s).2.1 ≠ 0) :
    stepP t K st P = ⟨st.M, st.F, (t.takes P.cost st.s).2.2, (t.takes P.cost st.s).2.1⟩ := by
  unfold stepP
  rw [if_neg (by simp [h]), if_neg (by simp [hk]), if_neg ht]
/-- The nodes that were placed, in order. -/
theorem foldP_keys {σ : Type} {t : TS σ} {K : PM} : ∀ (L : List PN) (st : PS σ), (L.foldl (stepP t K) st).e = 0 → (L.foldl (stepP t K) st).M.map (·.1) = st.M.map (·.1) ++ L.map (·.b)
  | [], st, _ => by simp
  | P :: L, st, h => by
    rw [List.foldl_cons] at h ⊢
    rw [foldP_keys L _ h]
    have h0 : st.e = 0 := by
      by_cases h0 : st.e = 0
      · exact h0
      · rw [stepP_err h0, foldP_err h0] at h
        exact absurd h h0
    by_cases hk : pgs K P.b = []
    · by_cases ht : (t.takes P.cost st.s).2.1 = 0
      · rw [stepP_ok h0 hk ht]
        simp
      · rw [stepP_no h0 hk ht, foldP_err (by exact ht)] at h
        exact absurd h ht
    · rw [stepP_known h0 hk]
      simp

/-- The pages of pieces, of a leaf, of a branch. -/
def chP (s : ByteArray) (n : Int) : PP := ⟨3, [], [], s, n⟩
def chainD (c : List ByteArray) (r : List Int) : List (Int × PP) := match c with
  | [] => []
  | [a] => [(r.getD 0 0, chP a 0)]
  | a :: b :: _ => [(r.getD 1 0, chP b 0), (r.getD 0 0, chP a (r.getD 1 0))]
def cellOf (e : Ent) (r : List Int) : PC := if cutL e.v = [] then ⟨e.k, e.v, 0, 0⟩ else ⟨e.k, ByteArray.empty, e.v.size, r.getD 0 0⟩
def leafD : List Ent → List Int → List (Int × PP)
  | [], _ => []
  | e :: l, r => chainD (cutL e.v) r ++ leafD l (r.drop (cutL e.v).length)
def leafC : List Ent → List Int → List PC
  | [], _ => []
  | e :: l, r => cellOf e r :: leafC l (r.drop (cutL e.v).length)
theorem leafD_append : ∀ (a b : List Ent) (r : List Int), leafD (a ++ b) r = leafD a r ++ leafD b (r.drop (pieces a))
  | [], b, r => by simp [leafD, pieces]
  | e :: a, b, r => by
    rw [List.cons_append, leafD, leafD, leafD_append a b, pieces_cons, List.drop_drop, List.append_assoc]
theorem leafC_append : ∀ (a b : List Ent) (r : List Int), leafC (a ++ b) r = leafC a r ++ leafC b (r.drop (pieces a))
  | [], b, r => by simp [leafC, pieces]
  | e :: a, b, r => by
    rw [List.cons_append, leafC, leafC, leafC_append a b, pieces_cons, List.drop_drop, List.cons_append]
theorem leafD_snoc {l : List Ent} {k : Nat} {e : Ent} (h : l[k]? = some e) (r : List Int) : leafD (l.take (k + 1)) r = leafD (l.take k) r ++ chainD (cutL e.v) (r.drop (pieces (l.take k))) := by
  rw [List.take_add_one, h]
  simp [leafD_append, leafD]
theorem leafC_snoc {l : List Ent} {k : Nat} {e : Ent} (h : l[k]? = some e) (r : List Int) : leafC (l.take (k + 1)) r = leafC (l.take k) r ++ [cellOf e (r.drop (pieces (l.take k)))] := by
  rw [List.take_add_one, h]
  simp [leafC_append, leafC]
theorem leafC_len : ∀ (l : List Ent) (r : List Int), (leafC l r).length = l.length
  | [], r => rfl
  | e :: l, r => by rw [leafC, List.length_cons, leafC_len l, List.length_cons]
theorem chainD_len (c : List ByteArray) (r : List Int) (h : c.length ≤ 2) : (chainD c r).length = c.length := by
  match c, h with
  | [], _ => rfl
  | [a], _ => rfl
  | [a, b], _ => rfl
theorem leafD_len : ∀ (l : List Ent) (r : List Int), (leafD l r).length = pieces l
  | [], r => rfl
  | e :: l, r => by rw [leafD, List.length_append, chainD_len _ _ (cutL_le _), leafD_len l, pieces_cons]
def leafP (l : List Ent) (r : List Int) : PP := ⟨1, leafC l r, [], ByteArray.empty, 0⟩
def brP (M : PM) (ks : List (ByteArray × Nat)) : PP := ⟨2, [], ks.map fun k => ⟨k.1, ownP M k.2⟩, ByteArray.empty, 0⟩
/-- What is to be written for a node. -/
def drafts (M : PM) (P : PN) : List (Int × PP) :=
  if P.h = 0 then leafD P.l (pgs M P.b).tail ++ [(ownP M P.b, leafP P.l (pgs M P.b).tail)] else [(ownP M P.b, brP M P.ks)]
def allDrafts (M : PM) (F : List PN) : List (Int × PP) := F.flatMap (drafts M)

end Go.Proofs.YtelenboncejdaaaGreatDoor
