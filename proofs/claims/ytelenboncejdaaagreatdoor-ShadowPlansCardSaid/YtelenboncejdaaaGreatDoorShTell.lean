/-
  Several texts in one: ShPgPure, ShPgLaid, ShTellR, ShTellN, ShTellG, ShTellT. Each says what it proves, and under which conditions.
-/
import Derived.Test.YtelenboncejdaaaGreatDoorShToldN

/-
  What is told to a set of pages, and to the reference's list, agree; what abides when a set of pages turns; conditions stand at each.
-/
namespace Go.Proofs.YtelenboncejdaaaGreatDoor
open Go.RowKit Go.Sort
set_option linter.unusedVariables false
set_option linter.unusedSimpArgs false

theorem addR_len (R : List PR) (b : Nat) (v : Value) (l : List Int) : (addR R b v l).length ≤ R.length + 1 := by
  induction R with
  | nil => simp [addR]
  | cons r R ih =>
    rw [addR]
    split
    · simp
    · simp only [List.length_cons]
      omega
theorem addR_keys (R : List PR) (b : Nat) (v : Value) (l : List Int) : (Mof (addR R b v l)).map (·.1) = (Mof R).map (·.1) ∨ (b ∉ (Mof R).map (·.1) ∧ (Mof (addR R b v l)).map (·.1) = (Mof R).map (·.1) ++ [b]) := by
  induction R with
  | nil => exact .inr ⟨by simp [Mof], by simp [Mof, addR]⟩
  | cons r R ih =>
    rw [addR]
    split
    · rename_i h
      exact .inl (by simp [Mof, h])
    · rename_i h
      rcases ih with ih | ⟨h1, h2⟩
      · exact .inl (by
          simp only [Mof, List.map_cons, List.cons.injEq, true_and] at ih ⊢
          exact ih)
      · refine .inr ⟨?_, ?_⟩
        · simp only [Mof, List.map_cons, List.mem_cons, not_or] at h1 ⊢
          exact ⟨fun e => h e.symm, h1⟩
        · simp only [Mof, List.map_cons, List.cons_append, List.cons.injEq, true_and] at h2 ⊢
          exact h2
theorem pgs_has {M : PM} {b : Nat} {x : Int} (h : x ∈ pgs M b) : ∃ y ∈ M, x ∈ y.2 := by
  induction M with
  | nil => simp [pgs] at h
  | cons y M ih =>
    rw [pgs_cons] at h
    split at h
    · exact ⟨y, List.mem_cons_self .., h⟩
    · obtain ⟨z, hz, hx⟩ := ih h
      exact ⟨z, List.mem_cons_of_mem _ hz, hx⟩
theorem findK_in {K : List KN} {r : Nat} {x : Int} (h : x ∈ findK K r) : ∃ y ∈ K, x ∈ y.l := by
  induction K with
  | nil => simp [findK] at h
  | cons y K ih =>
    rw [findK_cons] at h
    split at h
    · exact ⟨y, List.mem_cons_self .., h⟩
    · obtain ⟨z, hz, hx⟩ := ih h
      exact ⟨z, List.mem_cons_of_mem _ hz, hx⟩
theorem findK_of {K : List KN} (hn : (K.map (·.p)).Nodup) {k : KN} (hk : k ∈ K) {r : Nat} (hp : k.p = some r) : findK K r = k.l := by
  induction K with
  | nil => cases hk
  | cons y K ih =>
    rw [List.map_cons, List.nodup_cons] at hn
    rw [findK_cons]
    rcases List.mem_cons.1 hk with rfl | hk
    · rw [if_pos hp]
    · rw [if_neg fun e => hn.1 (List.mem_map.2 ⟨k, hk, hp.trans e.symm⟩)]
      exact ih hn.2 hk
/-- What is known of other nodes. -/
def lessK (K : List KN) (r : Nat) : List KN := K.filter fun x => x.p != some r
theorem lessK_snoc {K : List KN} {k : Nat} {x : KN} (h : K[k]? = some x) (r : Nat) : lessK (K.take (k + 1)) r = lessK (K.take k) r ++ (if x.p = some r then [] else [x]) := by
  rw [List.take_add_one, h]
  simp only [lessK, Option.toList_some, List.filter_append]
  by_cases hx : x.p = some r
  · simp [hx]
  · simp [hx]
theorem findK_told (K : List KN) (r : Nat) (A : Option Addr) (c : Nat) (l : List Int) (s : Nat) : findK (lessK K r ++ [⟨some r, A, c, l⟩]) s = if r = s then l else findK K s := by
  induction K with
  | nil =>
    simp only [lessK, List.filter_nil, List.nil_append, findK_cons, Option.some.injEq]
  | cons x K ih =>
    by_cases hx : x.p = some r
    · have e : lessK (x :: K) r = lessK K r := by simp [lessK, hx]
      rw [e, ih, findK_cons]
      by_cases hs : r = s
      · rw [if_pos hs, if_pos hs]
      · rw [if_neg hs, if_neg hs, if_neg (by rw [hx]; simpa using hs)]
    · have e : lessK (x :: K) r = x :: lessK K r := by simp [lessK, hx]
      rw [e, List.cons_append, findK_cons, findK_cons, ih]
      by_cases hs : r = s
      · subst hs
        rw [if_neg hx, if_pos rfl, if_pos rfl]
      · rw [if_neg hs, if_neg hs]
theorem lessK_len (K : List KN) (r : Nat) : (lessK K r).length ≤ K.length := List.length_filter_le _ _
theorem allK_iff (K : List KN) (x : Int) : x ∈ allK K ↔ ∃ y ∈ K, x ∈ y.l := by
  have h : ∀ (K : List KN) (o : List Int), x ∈ K.foldl (fun o x => insA o x.l) o ↔ x ∈ o ∨ ∃ y ∈ K, x ∈ y.l := by
    intro K
    induction K with
    | nil => intro o; simp
    | cons y K ih =>
      intro o
      rw [List.foldl_cons, ih, insA_mem]
      simp only [List.mem_cons, exists_eq_or_imp, or_assoc]
  rw [allK, h]
  simp
theorem allK_rising (K : List KN) : Rising (allK K) := by
  have h : ∀ (K : List KN) (o : List Int), Rising o → Rising (K.foldl (fun o x => insA o x.l) o) := by
    intro K
    induction K with
    | nil => intro o ho; exact ho
    | cons y K ih =>
      intro o ho
      rw [List.foldl_cons]
      exact ih _ (insA_rising y.l _ ho)
  exact h K [] List.Pairwise.nil
theorem allK_len {m : Nat} : ∀ (K : List KN), (∀ x ∈ K, x.l.length ≤ m) → (allK K).length ≤ m * K.length := by
  have h : ∀ (K : List KN) (o : List Int), (∀ x ∈ K, x.l.length ≤ m) → (K.foldl (fun o x => insA o x.l) o).length ≤ o.length + m * K.length := by
    intro K
    induction K with
    | nil => intro o _; simp
    | cons y K ih =>
      intro o hm
      rw [List.foldl_cons, List.length_cons, Nat.mul_add]
      have h1 := ih (insA o y.l) fun x hx => hm x (List.mem_cons_of_mem _ hx)
      have h2 := insA_len y.l o
      have h3 := hm y (List.mem_cons_self ..)
      omega
  intro K hm
  have := h K [] hm
  rw [List.length_nil, Nat.zero_add] at this
  exact this
theorem sumR_le {m : Nat} : ∀ (R : List PR), (∀ r ∈ R, r.l.length ≤ m) → ((Mof R).map (·.2.length)).sum ≤ m * R.length := by
  intro R
  induction R with
  | nil => intro _; simp [Mof]
  | cons r R ih =>
    intro hm
    have h1 := ih fun x hx => hm x (List.mem_cons_of_mem _ hx)
    have h2 := hm r (List.mem_cons_self ..)
    simp only [Mof, List.map_cons, List.sum_cons, List.length_cons, Nat.mul_add] at h1 ⊢
    omega

end Go.Proofs.YtelenboncejdaaaGreatDoor

/-
  Nodes that were laid and told; a set that was told pages of a node (Add, whichever set), and what abides; conditions stand at each.
-/
namespace Go.Proofs.YtelenboncejdaaaGreatDoor
open Go.RowKit Go.Sort
open Rt (Fx Stp)
set_option linter.unusedVariables false
set_option linter.unusedSimpArgs false

theorem row_ls {α : Type} {f : α → List Value} {k : Nat} {t : TypeId} {w : World} {base n c : Nat} {A : Option Addr} {l : List α} (h : OwnL f t k w base (.slice A n c) l) : Ls f w A l := by
  obtain ⟨A', c', e, _, hl⟩ := h.form
  injection e with e1 e2 e3
  rw [e1]
  exact hl
theorem knInfo : (Tryz.prog.info? 76).map (fun i => (i.zero, i.size, i.bytes)) = some (some (.agg #[.pointer none, .slice none 0 0]), 2, 32) := by kernel_rfl

end Go.Proofs.YtelenboncejdaaaGreatDoor

/-
  The reference's nodes of a tree in memory: each as the plan sees the program's; what abides while told goes on; conditions stand at each.
-/
namespace Go.Proofs.YtelenboncejdaaaGreatDoor
open Go.RowKit Go.Sort
open Rt (Fx Stp)
set_option linter.unusedVariables false
set_option linter.unusedSimpArgs false

/-- A node of the reference is a plan's node: its entries, its kids, which were told; its blocks are none of Z. -/
structure RefIs (Z : Nat → Prop) (W : World) (base : Nat) (l : List (Nat × Nat)) (r : Nat) (P : PN) (A : Option Addr) (c : Nat) (B : Option Addr) (d : Nat) (rs : List Nat) : Prop where
  box : RefAt W r (.slice A P.l.length c) (.slice B P.ks.length d)
  es : Own W base (.slice A P.l.length c) P.l
  len : rs.length = P.ks.length
  ks : OwnL pcP 67 1 W base (.slice B P.ks.length d) (rs.map some)
  in_ : ∀ (i : Nat) (k : ByteArray × Nat) (r' : Nat), P.ks[i]? = some k → rs[i]? = some r' → (k.2, r') ∈ l
  z0 : ¬ Z r
  z1 : ∀ q, (Value.slice A P.l.length c).ownBlock = some q → ¬ Z q
  z2 : ∀ q, (Value.slice B P.ks.length d).ownBlock = some q → ¬ Z q
def RefOk (Z : Nat → Prop) (W : World) (base : Nat) (l : List (Nat × Nat)) (r : Nat) (P : PN) : Prop := ∃ A c B d rs, RefIs Z W base l r P A c B d rs
theorem es_cells {w : World} {base : Nat} {v : Value} {l : List Ent} (h : Own w base v l) : ∀ g, v.ownBlock = some g → ∃ cur, w.heap[g]? = some (.cells cur 87 (0, 0)) := by
  intro g hg
  rcases h.2 with ⟨rfl, h0⟩ | ⟨g', cap, cur, rfl, hb, hh, _⟩
  · simp [Value.ownBlock] at hg
  · have : g' = g := by simpa [Value.ownBlock] using hg
    subst this
    exact ⟨cur, hh⟩
theorem es_keep {w w' : World} {base : Nat} {v : Value} {l : List Ent} (h : Own w base v l) (hb : ∀ g, v.ownBlock = some g → g < w.heap.size → w'.heap[g]? = w.heap[g]?) : Own w' base v l := by
  refine ⟨h.1, ?_⟩
  rcases h.2 with hv | ⟨g, cap, cur, h1, h2, h3, h4⟩
  · exact .inl hv
  · refine .inr ⟨g, cap, cur, h1, h2, (hb g ?_ (lt_of_block h3)).trans h3, h4⟩
    rw [h1]
    rfl
/-- What was written of the reference's nodes stays, but in Z. -/
def PstZ (Z : Nat → Prop) (w w' : World) : Prop := w.heap.size ≤ w'.heap.size ∧ ∀ (q : Nat) (cs : Array Value) (t : TypeId), w.heap[q]? = some (.cells cs t (0, 0)) → t ≠ 74 → t ≠ 60 → ¬ Z q → w'.heap[q]? = w.heap[q]?
theorem PstZ.of_below {Z : Nat → Prop} {w w' : World} (h : Below w.heap.size w w') : PstZ Z w w' := ⟨h.size, fun q cs t hq _ _ _ => h.block q (lt_of_block hq)⟩
theorem PstZ.trans {Z : Nat → Prop} {a b c : World} (h : PstZ Z a b) (k : PstZ Z b c) : PstZ Z a c := ⟨Nat.le_trans h.1 k.1, fun q cs t hq h1 h2 h3 => (k.2 q cs t ((h.2 q cs t hq h1 h2 h3).trans hq) h1 h2 h3).trans (h.2 q cs t hq h1 h2 h3)⟩
theorem PstZ.own {Z : Nat → Prop} {α : Type} {f : α → List Value} {k : Nat} {t : TypeId} {w w' : World} {base : Nat} {v : Value} {l : List α} (h : PstZ Z w w') (ho : OwnL f t k w base v l) (h1 : t ≠ 74) (h2 : t ≠ 60) (hz : ∀ q, v.ownBlock = some q → ¬ Z q) : OwnL f t k w' base v l :=
  ho.keep fun g hg _ => by
    obtain ⟨cur, hcur⟩ := own_cells ho g hg
    exact h.2 g cur t hcur h1 h2 (hz g hg)
theorem PstZ.es {Z : Nat → Prop} {w w' : World} {base : Nat} {v : Value} {l : List Ent} (h : PstZ Z w w') (ho : Own w base v l) (hz : ∀ q, v.ownBlock = some q → ¬ Z q) : Own w' base v l :=
  es_keep ho fun g hg _ => by
    obtain ⟨cur, hcur⟩ := es_cells ho g hg
    exact h.2 g cur _ hcur (by decide) (by decide) (hz g hg)
theorem RefIs.pst {Z : Nat → Prop} {W W' : World} {base : Nat} {l l' : List (Nat × Nat)} {r : Nat} {P : PN} {A : Option Addr} {c : Nat} {B : Option Addr} {d : Nat} {rs : List Nat} (h : RefIs Z W base l r P A c B d rs) (hp : PstZ Z W W') (hl : ∀ x ∈ l, x ∈ l') : RefIs Z W' base l' r P A c B d rs :=
  ⟨(hp.2 r _ _ h.box (by decide) (by decide) h.z0).trans h.box, hp.es h.es h.z1, h.len, hp.own h.ks (by decide) (by decide) h.z2, fun i k r' h1 h2 => hl _ (h.in_ i k r' h1 h2), h.z0, h.z1, h.z2⟩
theorem RefIs.less {Z Z' : Nat → Prop} {W : World} {base : Nat} {l : List (Nat × Nat)} {r : Nat} {P : PN} {A : Option Addr} {c : Nat} {B : Option Addr} {d : Nat} {rs : List Nat} (h : RefIs Z W base l r P A c B d rs) (hz : ∀ q, q < W.heap.size → Z' q → Z q) : RefIs Z' W base l r P A c B d rs :=
  ⟨h.box, h.es, h.len, h.ks, h.in_, fun h2 => h.z0 (hz _ (lt_of_block h.box) h2), fun q hq h2 => by
    obtain ⟨cur, hc⟩ := es_cells h.es q hq
    exact h.z1 q hq (hz _ (lt_of_block hc) h2), fun q hq h2 => h.z2 q hq (hz _ (h.ks.lt q hq) h2)⟩
/-- What was told: each node once, as the plan sees it. -/
structure TM (wb W : World) (U : List Nat) (Z : Nat → Prop) (sb : Nat) (v : Value) (l : List (Nat × Nat)) : Prop where
  memo : Memo W wb.heap.size sb v l
  bel : Below wb.heap.size wb W
  inj : l.Pairwise fun a b => a.1 ≠ b.1 ∧ a.2 ≠ b.2
  inU : ∀ x ∈ l, x.1 ∈ U
  ref : ∀ x ∈ l, ∃ P, P.b = x.1 ∧ PNAt wb P ∧ RefOk Z W wb.heap.size l x.2 P
  ge : wb.heap.size ≤ sb
theorem TM.fst {wb W : World} {U : List Nat} {Z : Nat → Prop} {sb : Nat} {v : Value} {l : List (Nat × Nat)} (h : TM wb W U Z sb v l) : (l.map (·.1)).Nodup := List.pairwise_map.2 (h.inj.imp fun h => h.1)
theorem TM.snd {wb W : World} {U : List Nat} {Z : Nat → Prop} {sb : Nat} {v : Value} {l : List (Nat × Nat)} (h : TM wb W U Z sb v l) : (l.map (·.2)).Nodup := List.pairwise_map.2 (h.inj.imp fun h => h.2)
theorem TM.len {wb W : World} {U : List Nat} {Z : Nat → Prop} {sb : Nat} {v : Value} {l : List (Nat × Nat)} (h : TM wb W U Z sb v l) : l.length ≤ U.length := by
  have := nodup_sub h.fst (m := U) fun x hx => by
    obtain ⟨y, hy, rfl⟩ := List.mem_map.1 hx
    exact h.inU y hy
  simpa using this
theorem TM.less {wb W : World} {U : List Nat} {Z Z' : Nat → Prop} {sb : Nat} {v : Value} {l : List (Nat × Nat)} (h : TM wb W U Z sb v l) (hz : ∀ q, q < W.heap.size → Z' q → Z q) : TM wb W U Z' sb v l :=
  ⟨h.memo, h.bel, h.inj, h.inU, fun x hx => by
    obtain ⟨P, h1, h2, A, c, B, d, rs, h3⟩ := h.ref x hx
    exact ⟨P, h1, h2, A, c, B, d, rs, h3.less hz⟩, h.ge⟩
theorem TM.below {wb W W' : World} {U : List Nat} {Z : Nat → Prop} {sb : Nat} {v : Value} {l : List (Nat × Nat)} (h : TM wb W U Z sb v l) (hb : Below W.heap.size W W') : TM wb W' U Z sb v l :=
  ⟨h.memo.below hb, h.bel.trans (hb.mono h.bel.size), h.inj, h.inU, fun x hx => by
    obtain ⟨P, h1, h2, A, c, B, d, rs, h3⟩ := h.ref x hx
    exact ⟨P, h1, h2, A, c, B, d, rs, h3.pst (.of_below hb) fun x h => h⟩, h.ge⟩
/-- What is of blocks in Y alone turns: what was told stays. -/
theorem TM.keep {wb W W' : World} {U : List Nat} {Z Y : Nat → Prop} {sb : Nat} {v : Value} {l : List (Nat × Nat)} (h : TM wb W U Z sb v l) (hk : Keep Y W W') (hyz : ∀ q, q < W.heap.size → Y q → Z q) (hz : ∀ q, Y q → wb.heap.size ≤ q)
    (ht : ∀ (q : Nat) (cs : Array Value) (t : TypeId), Y q → W.heap[q]? = some (.cells cs t (0, 0)) → t ≠ 74 ∧ t ≠ 60) : TM wb W' U Z sb v l := by
  have hp : PstZ Z W W' := ⟨hk.size, fun q cs t hq _ _ hn => hk.block q (lt_of_block hq) fun hy => hn (hyz q (lt_of_block hq) hy)⟩
  have hbx : W'.heap[sb]? = W.heap[sb]? := hk.block sb (lt_of_block h.memo.box) fun hq => (ht sb _ _ hq h.memo.box).2 rfl
  have hW : Below wb.heap.size wb W' := ⟨hk.os.trans h.bel.os, hk.tape.trans h.bel.tape, hk.output.trans h.bel.output, Nat.le_trans h.bel.size hk.size, fun i hi => (hk.block i (Nat.lt_of_lt_of_le hi h.bel.size) fun hq => by have := hz i hq; omega).trans (h.bel.block i hi)⟩
  refine ⟨⟨hbx.trans h.memo.box, h.memo.row.keep fun g hg hl => hk.block g hl fun hq => ?_, fun x hx => ?_⟩, hW, h.inj, h.inU, fun x hx => ?_, h.ge⟩
  · obtain ⟨cur, hc⟩ := own_cells h.memo.row g hg
    exact (ht g _ _ hq hc).1 rfl
  · obtain ⟨P, h1, ⟨N, h2⟩, A, c, B, d, rs, h3⟩ := h.ref x hx
    refine ⟨⟨N, ?_⟩, _, _, (h3.pst hp fun x h => h).box⟩
    have hb : NodeAt wb P.b N := h2.at_
    rw [h1] at hb
    exact hb.below hW
  · obtain ⟨P, h1, h2, A, c, B, d, rs, h3⟩ := h.ref x hx
    exact ⟨P, h1, h2, A, c, B, d, rs, h3.pst hp fun x h => h⟩
/-- What told turns are the blocks of its list. -/
theorem stp_pst {Z : Nat → Prop} {base sb : Nat} {v v' : Value} {l : List (Nat × Nat)} {W W' : World} (hm : Memo W base sb v l) (hs : Stp (XM sb v) W (XM sb v') W') : PstZ Z W W' :=
  ⟨hs.fx.size, fun q cs t hq h1 h2 _ => hs.same q (lt_of_block hq) fun hx => by
    rcases hx with rfl | hx
    · rw [hm.box] at hq
      cases hq
      exact h2 rfl
    · obtain ⟨cur, hc⟩ := own_cells hm.row q hx
      rw [hq] at hc
      cases hc
      exact h1 rfl⟩
/-- What told answers. -/
def ToldT (wb w : World) (U : List Nat) (Z : Nat → Prop) (sb : Nat) (v : Value) (l : List (Nat × Nat)) (b : Nat) (ids : List Nat) (e : Ending) (w' : World) : Prop :=
  ∃ r v' l', e = .returned (.pointer (some ⟨r, 0, none⟩)) ∧ TM wb w' U Z sb v' (l ++ l') ∧ (b, r) ∈ l ++ l' ∧ Stp (XM sb v) w (XM sb v') w' ∧ ∀ x ∈ l', x.1 ∈ ids
theorem Rt.Stp.own_more {T T1 T2 : Nat → Prop} {A B : World} (h : Stp T A T1 B) (hT : ∀ k, T2 k → T1 k ∨ A.heap.size ≤ k) (hl : ∀ k, T2 k → k < B.heap.size) : Stp T A T2 B :=
  ⟨h.fx, fun k hk h2 => (hT k h2).elim (h.own k hk) (fun h => by omega), hl, h.same⟩
theorem Rt.Stp.wide {T T1 R : Nat → Prop} {A B : World} (h : Stp T A T1 B) (hR : ∀ k, R k → k < A.heap.size) : Stp (fun k => T k ∨ R k) A (fun k => T1 k ∨ R k) B :=
  ⟨h.fx, fun k hk h2 => h2.elim (fun h1 => .inl (h.own k hk h1)) .inr, fun k h2 => h2.elim (h.lt k) (fun h1 => Nat.lt_of_lt_of_le (hR k h1) h.fx.size), fun k hk hn => h.same k hk fun h1 => hn (.inl h1)⟩

end Go.Proofs.YtelenboncejdaaaGreatDoor

/-
  The contract of told for a node that was not told, whose kids' contract is known; conditions stand at each.
-/
namespace Go.Proofs.YtelenboncejdaaaGreatDoor
open Go.RowKit Go.Sort
open Rt (Fx Stp)
set_option linter.unusedVariables false
set_option linter.unusedSimpArgs false

theorem row_at {α : Type} {f : α → List Value} {k : Nat} {t : TypeId} {w : World} {base n c : Nat} {A : Option Addr} {l : List α} (he : Enc f k) (h : OwnL f t k w base (.slice A n c) l) {i : Nat} (hi : i < l.length) :
    ∃ ad x cur, A = some ad ∧ l[i]? = some x ∧ w.heap[ad.block]? = some (.cells cur t (0, 0)) ∧ (∀ q, (Value.slice A n c).ownBlock = some q → q = ad.block) ∧ ∀ j u, j < k → (f x)[j]? = some u → w.cell? ((ad.add (i * k)).add j) = some u := by
  obtain ⟨ad, x, hA, hx, _, hc⟩ := (row_ls h).at_ he hi
  rcases h.2 with ⟨hv, h0⟩ | ⟨g, cap, cur, hv, _, hh, _⟩
  · injection hv with e1 e2 e3
    rw [e1] at hA
    cases hA
  · injection hv with e1 e2 e3
    rw [e1] at hA
    cases hA
    exact ⟨_, x, cur, e1, hx, hh, fun q hq => by
      rw [e1] at hq
      simpa [Value.ownBlock] using hq.symm, hc⟩
theorem refPInfo : (Tryz.prog.info? 67).map (fun i => (i.zero, i.size, i.bytes)) = some (some (.pointer none), 1, 8) := by kernel_rfl
/-- Kids told so far: the node in the making, what was told. -/
structure TellAt (wb w : World) (U ids : List Nat) (Z : Nat → Prop) (sb ob : Nat) (v : Value) (l : List (Nat × Nat)) (P : PN) (ve v7 : Value) (i : Nat) (v1 vk : Value) (l1 : List (Nat × Nat)) (rs : List Nat) (W : World) : Prop where
  tm : TM wb W U (fun q => Z q ∨ q = ob ∨ vk.ownBlock = some q) sb v1 (l ++ l1)
  box : W.heap[ob]? = some (.cells #[ve, vk] 137 (0, 0))
  es : Own W w.heap.size ve P.l
  ks : OwnL pcP 67 1 W w.heap.size vk (rs.map some)
  row : OwnP W wb.heap.size v7 (P.ks.map fun k => some k.2)
  len : rs.length = i
  in_ : ∀ (i : Nat) (k : ByteArray × Nat) (r' : Nat), P.ks[i]? = some k → rs[i]? = some r' → (k.2, r') ∈ l ++ l1
  ids : ∀ x ∈ l1, x.1 ∈ ids
  stp : Stp (XM sb v) w (fun k => XM sb v1 k ∨ (k = ob ∨ vk.ownBlock = some k)) W
  ge : w.heap.size ≤ ob
theorem TellAt.below {wb w : World} {U ids : List Nat} {Z : Nat → Prop} {sb ob : Nat} {v : Value} {l : List (Nat × Nat)} {P : PN} {ve v7 : Value} {i : Nat} {v1 vk : Value} {l1 : List (Nat × Nat)} {rs : List Nat} {W W' : World} (h : TellAt wb w U ids Z sb ob v l P ve v7 i v1 vk l1 rs W) (hb : Below W.heap.size W W') : TellAt wb w U ids Z sb ob v l P ve v7 i v1 vk l1 rs W' :=
  ⟨h.tm.below hb, (hb.block _ (lt_of_block h.box)).trans h.box, h.es.below hb, h.ks.below hb, h.row.below hb, h.len, h.in_, h.ids, h.stp.below_ hb, h.ge⟩
/-- A kid more: it was told, its reference appended, the slice stored. -/
theorem TellAt.step {wb w : World} {U ids : List Nat} {Z : Nat → Prop} {sb ob : Nat} {v : Value} {l : List (Nat × Nat)} {P : PN} {ve v7 : Value} {i : Nat} {v1 vk : Value} {l1 : List (Nat × Nat)} {rs : List Nat} {W : World} (h : TellAt wb w U ids Z sb ob v l P ve v7 i v1 vk l1 rs W)
    {k : ByteArray × Nat} (hk : P.ks[i]? = some k) {wy w4 : World} {r : Nat} {v1' vk' : Value} {l1' : List (Nat × Nat)} (htm : TM wb wy U (fun q => Z q ∨ q = ob ∨ vk.ownBlock = some q) sb v1' (l ++ l1 ++ l1')) (hr : (k.2, r) ∈ l ++ l1 ++ l1') (hs : Stp (XM sb v1) W (XM sb v1') wy) (hi : ∀ x ∈ l1', x.1 ∈ ids)
    (hwb : wb.heap.size ≤ w.heap.size)
    (ho : OwnL pcP 67 1 w4 w.heap.size vk' ((rs ++ [r]).map some)) (hg : (wy.alloc (.cells (pcP (some r)).toArray 67)).grownBy w4 vk.ownBlock) (hv : vk'.ownBlock = vk.ownBlock ∨ vk'.ownBlock = some (wy.alloc (.cells (pcP (some r)).toArray 67)).heap.size) :
    TellAt wb w U ids Z sb ob v l P ve v7 (i + 1) v1' vk' (l1 ++ l1') (rs ++ [r]) (w4.setCell ⟨ob, 1, none⟩ vk') ∧ w4.heap[ob]? = some (.cells #[ve, vk] 137 (0, 0)) := by
  have hpz := stp_pst (Z := fun _ => False) h.tm.memo hs
  have hby : wy.heap[ob]? = some (.cells #[ve, vk] 137 (0, 0)) := (hpz.2 ob _ _ h.box (by decide) (by decide) (fun h => h)).trans h.box
  have hky := hpz.own h.ks (by decide) (by decide) fun q _ h => h
  have hba : Below wy.heap.size wy (wy.alloc (.cells (pcP (some r)).toArray 67)) := (Below.refl _ _).alloc (Nat.le_refl _) _
  have hobk : vk.ownBlock ≠ some ob := fun e => by
    obtain ⟨cur, hc⟩ := own_cells hky ob e
    rw [hby] at hc
    cases hc
  have hb4 : w4.heap[ob]? = some (.cells #[ve, vk] 137 (0, 0)) := (hg.block ob (Nat.lt_of_lt_of_le (lt_of_block hby) hba.size) (fun e => hobk e.symm)).trans ((hba.block _ (lt_of_block hby)).trans hby)
  have hobk' : vk'.ownBlock ≠ some ob := fun e => by
    obtain ⟨cur, hc⟩ := own_cells ho ob e
    rw [hb4] at hc
    cases hc
  have hs4 : wy.heap.size ≤ w4.heap.size := Nat.le_trans hba.size hg.size
  have hz5 : (w4.setCell ⟨ob, 1, none⟩ vk').heap.size = w4.heap.size := by simp [World.setCell]
  have hk5 : ∀ q, q < wy.heap.size → q ≠ ob → vk.ownBlock ≠ some q → (w4.setCell ⟨ob, 1, none⟩ vk').heap[q]? = wy.heap[q]? := fun q hq h1 h2 => by
    rw [Below.heap_setCell _ _ _ _ h1]
    exact (hg.block q (Nat.lt_of_lt_of_le hq hba.size) (fun e => h2 e.symm)).trans (hba.block q hq)
  have hkeep : Keep (fun q => q = ob ∨ vk.ownBlock = some q) wy (w4.setCell ⟨ob, 1, none⟩ vk') := ⟨hg.os.trans hba.os, hg.tape.trans hba.tape, hg.output.trans hba.output, by rw [hz5]; exact hs4, fun q hq hn => hk5 q hq (fun e => hn (.inl e)) fun e => hn (.inr e)⟩
  have hfr : ∀ q, vk'.ownBlock = some q → vk.ownBlock = some q ∨ wy.heap.size ≤ q := fun q hq => by
    rcases hv with e | e
    · exact .inl (by rw [← e]; exact hq)
    · rw [e] at hq
      cases hq
      exact .inr hba.size
  have hgek : ∀ q, vk.ownBlock = some q → w.heap.size ≤ q := fun q hq => h.ks.at_block q hq
  refine ⟨⟨?_, ?_, ?_, ?_, ?_, ?_, ?_, ?_, ?_, h.ge⟩, hb4⟩
  · rw [← List.append_assoc]
    have h1 : TM wb wy U (fun q => (Z q ∨ q = ob ∨ vk.ownBlock = some q) ∨ vk'.ownBlock = some q) sb v1' (l ++ l1 ++ l1') := htm.less fun q hq hz => by
      rcases hz with hz | hz
      · exact hz
      · rcases hfr q hz with e | e
        · exact .inr (.inr e)
        · omega
    have h2 := h1.keep hkeep (fun q _ hy => .inl (.inr hy)) (fun q hy => by
      rcases hy with rfl | hy
      · exact Nat.le_trans hwb h.ge
      · exact Nat.le_trans hwb (hgek q hy)) fun q cs t hy hq => by
        rcases hy with rfl | hy
        · rw [hby] at hq
          cases hq
          exact ⟨by decide, by decide⟩
        · obtain ⟨cur, hc⟩ := own_cells hky q hy
          rw [hq] at hc
          cases hc
          exact ⟨by decide, by decide⟩
    exact h2.less fun q _ hz => by
      rcases hz with hz | hz | hz
      · exact .inl (.inl hz)
      · exact .inl (.inr (.inl hz))
      · exact .inr hz
  · exact blk_set hb4 1 vk'
  · refine es_keep (es_keep h.es fun g hg2 hl => hs.same g hl fun hx => ?_) fun g hg2 hl => hk5 g hl ?_ ?_
    · obtain ⟨cur, hc⟩ := es_cells h.es g hg2
      rcases hx with rfl | hx
      · rw [h.tm.memo.box] at hc
        cases hc
      · obtain ⟨cur2, hc2⟩ := own_cells h.tm.memo.row g hx
        rw [hc] at hc2
        cases hc2
    · rintro rfl
      obtain ⟨cur, hc⟩ := es_cells h.es g hg2
      rw [h.box] at hc
      cases hc
    · intro e
      obtain ⟨cur, hc⟩ := es_cells h.es g hg2
      obtain ⟨cur2, hc2⟩ := own_cells h.ks g e
      rw [hc] at hc2
      cases hc2
  · exact ho.keep fun g hg2 _ => Below.heap_setCell _ _ _ _ fun e => hobk' (by rw [hg2]; exact congrArg some e)
  · refine (hpz.own h.row (by decide) (by decide) fun q _ h => h).keep fun g hg2 hl => hk5 g hl ?_ ?_
    · rintro rfl
      obtain ⟨cur, hc⟩ := own_cells h.row g hg2
      rw [h.box] at hc
      cases hc
    · intro e
      obtain ⟨cur, hc⟩ := own_cells h.row g hg2
      obtain ⟨cur2, hc2⟩ := own_cells h.ks g e
      rw [hc] at hc2
      cases hc2
  · rw [List.length_append, h.len]
    rfl
  · intro i' k' r' h1 h2
    rw [← List.append_assoc]
    rcases Nat.lt_or_ge i' rs.length with hlt | hge
    · rw [List.getElem?_append_left hlt] at h2
      exact List.mem_append_left _ (h.in_ i' k' r' h1 h2)
    · rw [List.getElem?_append_right hge] at h2
      have : i' = rs.length := by
        have := (List.getElem?_eq_some_iff.1 h2).1
        simp at this
        omega
      rw [this, Nat.sub_self] at h2
      cases h2
      rw [this, h.len, hk] at h1
      cases h1
      exact hr
  · intro x hx
    rcases List.mem_append.1 hx with hx | hx
    · exact h.ids x hx
    · exact hi x hx
  · have h1 : Stp (fun k => XM sb v1 k ∨ (k = ob ∨ vk.ownBlock = some k)) W (fun k => XM sb v1' k ∨ (k = ob ∨ vk.ownBlock = some k)) wy := hs.wide fun k hk => by
      rcases hk with rfl | hk
      · exact lt_of_block h.box
      · exact h.ks.lt k hk
    refine (h.stp.trans h1).trans (T2 := fun k => XM sb v1' k ∨ (k = ob ∨ vk'.ownBlock = some k)) ⟨⟨hkeep.os, hkeep.tape, hkeep.output, hkeep.size⟩, fun q hq hx => ?_, fun q hx => ?_, fun q hq hx => hkeep.block q hq fun h2 => hx (.inr h2)⟩
    · rcases hx with hx | hx | hx
      · exact .inl hx
      · exact .inr (.inl hx)
      · rcases hfr q hx with e | e
        · exact .inr (.inr e)
        · omega
    · rcases hx with hx | hx | hx
      · exact Nat.lt_of_lt_of_le (hs.lt q hx) hkeep.size
      · rw [hx, hz5]
        exact lt_of_block hb4
      · rw [hz5]
        exact ho.lt q hx

end Go.Proofs.YtelenboncejdaaaGreatDoor

/-
  The contract of told for a node that was not told, whose kids' contract is known: the end of it, and the walk; conditions stand at each.
-/
namespace Go.Proofs.YtelenboncejdaaaGreatDoor
open Go.RowKit Go.Sort
open Rt (Fx Stp)
set_option linter.unusedVariables false
set_option linter.unusedSimpArgs false

theorem TellAt.done {wb w : World} {U ids : List Nat} {Z : Nat → Prop} {sb ob : Nat} {v : Value} {l : List (Nat × Nat)} {P : PN} {A1 Ak : Option Addr} {c1 ck : Nat} {v7 v1 : Value} {l1 : List (Nat × Nat)} {rs : List Nat} {W : World} (h : TellAt wb w U ids Z sb ob v l P (.slice A1 P.l.length c1) v7 P.ks.length v1 (.slice Ak P.ks.length ck) l1 rs W)
    (hP : PNAt wb P) (hPU : P.b ∈ U) (hnew : ∀ y ∈ l, y.1 ≠ P.b) (hid : P.b ∉ ids) (hZ : ∀ q, Z q → q < w.heap.size) (hwb : wb.heap.size ≤ w.heap.size)
    {w4 : World} {v' : Value} (ho : OwnL pcPg 74 2 w4 wb.heap.size v' (l ++ l1 ++ [(P.b, ob)])) (hg : (W.alloc (.cells (pcPg (P.b, ob)).toArray 74)).grownBy w4 v1.ownBlock)
    (hv : v'.ownBlock = v1.ownBlock ∨ v'.ownBlock = some (W.alloc (.cells (pcPg (P.b, ob)).toArray 74)).heap.size) :
    ToldT wb w U Z sb v l P.b (P.b :: ids) (.returned (.pointer (some ⟨ob, 0, none⟩))) (w4.setCell ⟨sb, 0, none⟩ v') ∧ w4.heap[sb]? = some (.cells #[v1] 60 (0, 0)) := by
  have hba : Below W.heap.size W (W.alloc (.cells (pcPg (P.b, ob)).toArray 74)) := (Below.refl _ _).alloc (Nat.le_refl _) _
  have hm := h.tm.memo
  have hsz : W.heap.size ≤ w4.heap.size := Nat.le_trans hba.size hg.size
  have hk4 : ∀ q, q < W.heap.size → v1.ownBlock ≠ some q → w4.heap[q]? = W.heap[q]? := fun q hq hne => (hg.block q (Nat.lt_of_lt_of_le hq hba.size) fun e => hne e.symm).trans (hba.block q hq)
  have hsb : v1.ownBlock ≠ some sb := fun e => by
    obtain ⟨cur, hc⟩ := own_cells hm.row sb e
    rw [hm.box] at hc
    cases hc
  have hB4 : w4.heap[sb]? = some (.cells #[v1] 60 (0, 0)) := (hk4 sb (lt_of_block hm.box) hsb).trans hm.box
  have hz5 : (w4.setCell ⟨sb, 0, none⟩ v').heap.size = w4.heap.size := by simp [World.setCell]
  have hk5 : ∀ q, q < W.heap.size → q ≠ sb → v1.ownBlock ≠ some q → (w4.setCell ⟨sb, 0, none⟩ v').heap[q]? = W.heap[q]? := fun q hq h1 h2 => by
    rw [Below.heap_setCell _ _ _ _ h1]
    exact hk4 q hq h2
  have hpz : ∀ Y : Nat → Prop, PstZ Y W (w4.setCell ⟨sb, 0, none⟩ v') := fun Y => ⟨by rw [hz5]; exact hsz, fun q cs t hq h1 h2 _ => hk5 q (lt_of_block hq) (by
      rintro rfl
      rw [hm.box] at hq
      cases hq
      exact h2 rfl) fun e => by
        obtain ⟨cur, hc⟩ := own_cells hm.row q e
        rw [hq] at hc
        cases hc
        exact h1 rfl⟩
  have hsge := h.tm.ge
  have hbel : Below wb.heap.size wb (w4.setCell ⟨sb, 0, none⟩ v') := ⟨hg.os.trans (hba.os.trans h.tm.bel.os), hg.tape.trans (hba.tape.trans h.tm.bel.tape), hg.output.trans (hba.output.trans h.tm.bel.output), by rw [hz5]; exact Nat.le_trans h.tm.bel.size hsz, fun i hi => (hk5 i (Nat.lt_of_lt_of_le hi h.tm.bel.size) (by omega) fun e => by
    have := hm.row.at_block i e
    omega).trans (h.tm.bel.block i hi)⟩
  have hfr : ∀ q, v'.ownBlock = some q → v1.ownBlock = some q ∨ W.heap.size ≤ q := fun q hq => by
    rcases hv with e | e
    · exact .inl (by rw [← e]; exact hq)
    · rw [e] at hq
      cases hq
      exact .inr hba.size
  have hsb' : v'.ownBlock ≠ some sb := fun e => by
    obtain ⟨cur, hc⟩ := own_cells ho sb e
    rw [hB4] at hc
    cases hc
  have hPN : NodeAt wb P.b hP.choose := hP.choose_spec.at_
  have hst : Stp (XM sb v) w (XM sb v') (w4.setCell ⟨sb, 0, none⟩ v') := by
    have h1 : Stp (XM sb v) w (XM sb v1) W := h.stp.own_more (fun k hk => .inl (.inl hk)) fun k hk => h.stp.lt k (.inl hk)
    refine h1.trans ⟨⟨hg.os.trans hba.os, hg.tape.trans hba.tape, hg.output.trans hba.output, by rw [hz5]; exact hsz⟩, fun q hq hx => ?_, fun q hx => ?_, fun q hq hx => hk5 q hq (fun e => hx (.inl e)) fun e => hx (.inr e)⟩
    · rcases hx with rfl | hx
      · exact .inl rfl
      · rcases hfr q hx with e | e
        · exact .inr e
        · omega
    · rcases hx with rfl | hx
      · rw [hz5]
        exact lt_of_block hB4
      · rw [hz5]
        exact ho.lt q hx
  refine ⟨⟨ob, v', l1 ++ [(P.b, ob)], rfl, ⟨⟨blk_set hB4 0 v', ?_, fun x hx => ?_⟩, hbel, ?_, fun x hx => ?_, fun x hx => ?_, hsge⟩, by simp, hst, fun x hx => ?_⟩, hB4⟩
  · rw [← List.append_assoc]
    exact ho.keep fun g hg2 _ => Below.heap_setCell _ _ _ _ fun e => hsb' (by rw [hg2]; exact congrArg some e)
  · rw [← List.append_assoc] at hx
    rcases List.mem_append.1 hx with hx | hx
    · obtain ⟨⟨M, hM⟩, u, y, hR⟩ := hm.nodes x hx
      exact ⟨⟨M, ((hpz fun _ => False).2 _ _ _ hM (by decide) (by decide) fun h => h).trans hM⟩, u, y, ((hpz fun _ => False).2 _ _ _ hR (by decide) (by decide) fun h => h).trans hR⟩
    · rw [List.mem_singleton.1 hx]
      exact ⟨⟨_, hPN.below hbel⟩, _, _, ((hpz fun _ => False).2 _ _ _ h.box (by decide) (by decide) fun h => h).trans h.box⟩
  · rw [← List.append_assoc]
    refine List.pairwise_append.2 ⟨h.tm.inj, List.pairwise_singleton _ _, fun x hx y hy => ?_⟩
    rw [List.mem_singleton.1 hy]
    refine ⟨?_, fun e => ?_⟩
    · rcases List.mem_append.1 hx with hx | hx
      · exact hnew x hx
      · exact fun e => hid (by rw [← show x.1 = P.b from e]; exact h.ids x hx)
    · obtain ⟨Q, _, _, A, c, B, d, rs', h3⟩ := h.tm.ref x hx
      exact h3.z0 (.inr (.inl e))
  · rw [← List.append_assoc] at hx
    rcases List.mem_append.1 hx with hx | hx
    · exact h.tm.inU x hx
    · rw [List.mem_singleton.1 hx]
      exact hPU
  · rw [← List.append_assoc] at hx
    rcases List.mem_append.1 hx with hx | hx
    · obtain ⟨Q, h1, h2, A, c, B, d, rs', h3⟩ := h.tm.ref x hx
      refine ⟨Q, h1, h2, A, c, B, d, rs', (h3.less fun q _ hz => .inl hz).pst (hpz Z) fun y hy => ?_⟩
      rw [← List.append_assoc]
      exact List.mem_append_left _ hy
    · rw [List.mem_singleton.1 hx]
      refine ⟨P, rfl, hP, A1, c1, Ak, ck, rs, ⟨((hpz fun _ => False).2 _ _ _ h.box (by decide) (by decide) fun h => h).trans h.box, (((hpz fun _ => False).es h.es fun q _ h => h).mono hwb), h.len, (((hpz fun _ => False).own h.ks (by decide) (by decide) fun q _ h => h).mono hwb), fun i k r' h1 h2 => ?_, fun hz => ?_, fun q hq hz => ?_, fun q hq hz => ?_⟩⟩
      · rw [← List.append_assoc]
        exact List.mem_append_left _ (h.in_ i k r' h1 h2)
      · have := hZ _ hz
        have := h.ge
        omega
      · have := hZ _ hz
        have := h.es.at_block q hq
        omega
      · have := hZ _ hz
        have := h.ks.at_block q hq
        omega
  · rcases List.mem_append.1 hx with hx | hx
    · exact List.mem_cons_of_mem _ (h.ids x hx)
    · rw [List.mem_singleton.1 hx]
      exact List.mem_cons_self ..

set_option maxHeartbeats 8000000 in
set_option maxRecDepth 100000 in
theorem told_gen {wb w : World} {U ids : List Nat} {Z : Nat → Prop} {sb : Nat} {v : Value} {l : List (Nat × Nat)} {P : PN} (hm : TM wb w U Z sb v l) (hU : U.length ≤ 100000) (hZ : ∀ q, Z q → q < w.heap.size) (hP : PNAt wb P) (hPU : P.b ∈ U) (hnew : ∀ y ∈ l, y.1 ≠ P.b) (hid : P.b ∉ ids)
    (hk : ∀ (i : Nat) (k : ByteArray × Nat), P.ks[i]? = some k → ∀ (w1 : World) (Z1 : Nat → Prop) (v1 : Value) (l1 : List (Nat × Nat)), (∀ q, Z1 q → q < w1.heap.size) → TM wb w1 U Z1 sb v1 (l ++ l1) → Calls Tryz.prog 32 #[pn k.2, .pointer (some ⟨sb, 0, none⟩)] w1 (ToldT wb w1 U Z1 sb v1 (l ++ l1) k.2 ids)) :
    Calls Tryz.prog 32 #[pn P.b, .pointer (some ⟨sb, 0, none⟩)] w (ToldT wb w U Z sb v l P.b (P.b :: ids)) := by
  have hPP := hP
  obtain ⟨N, hN⟩ := hP
  have hfew := hN.few
  have hm' := hm
  obtain ⟨A, c, rfl, hc, hr⟩ := hm.memo.row.form
  obtain ⟨n, hn⟩ : ∃ n, l.length = n := ⟨_, rfl⟩
  have c0 := cell_at hm.memo.box 0 _ rfl
  have hl := hm.len
  rw [hn] at c0 hc hl hm'
  have HM := Lib.hid hm'
  have HR := Lib.hid hr
  have HN := Lib.hid hn
  have HNA := Lib.hid hN
  have HNd := Lib.hid (hN.at_.below hm.bel)
  have HF := Lib.hid hnew
  have HZ := Lib.hid hZ
  have HPP := Lib.hid hPP
  have HPU := Lib.hid hPU
  have HID := Lib.hid hid
  have HK := Lib.hid hk
  have HBW := Lib.hid hm.bel
  rw [hn]
  clear hm hm' hr hn hN hnew hZ hPP hPU hid hk
  unfold pn
  go_enter Tryz.func32, Tryz.ntmps32
  go_wp2
  go_loopw [15] (fun s15 wr => ∃ k : Nat, k ≤ n ∧ s15 = .int .i64 k ∧ wr = w) (fun s15 _ => n - (intOf s15).toNat)
  case atStart => exact ⟨0, Nat.zero_le _, rfl, rfl⟩
  case round =>
    obtain ⟨k, hk, rfl, rfl⟩ := hrel
    by_cases hlt : k < n
    · obtain ⟨ad, x, rfl, hx, hl1, hcx⟩ := HR.out.at_ encPg (i := k) (by rw [HN.out]; exact hlt)
      obtain ⟨⟨M, hM⟩, _⟩ := HM.out.memo.nodes x (List.mem_of_getElem? hx)
      have q0 := hcx 0 (.pointer (some ⟨x.1, 0, none⟩)) (by omega) rfl
      rw [add_of_add] at q0
      simp only [Nat.add_zero] at q0
      have he := eql_pn hM HNd.out
      rw [decide_eq_false (HF.out x (List.mem_of_getElem? hx))] at he
      clear hcx hM hx
      go_wp2
      exact ⟨⟨k + 1, by omega, by go_num, trivial⟩, by simp [intOf]; omega⟩
    · have he : k = n := by omega
      subst he
      obtain ⟨w0, hw0⟩ : ∃ x, x = wr := ⟨_, rfl⟩
      subst hw0
      clear c0
      go_wp2_with fail
      refine (entries_any HNd.out (HNA.out.es.below HBW.out) HNA.out.en (by omega)).mono ?_
      rintro e w1 ⟨u, rfl, ho1, hb1⟩
      obtain ⟨A1, c1, rfl, _, _⟩ := ho1.form
      obtain ⟨n1, hn1⟩ : ∃ n1, P.l.length = n1 := ⟨_, rfl⟩
      obtain ⟨ob, hob⟩ : ∃ ob, ob = w1.heap.size := ⟨_, rfl⟩
      obtain ⟨w2, hw2⟩ : ∃ w2, w2 = w1.alloc (.cells #[.slice A1 n1 c1, .slice none 0 0] 137) := ⟨_, rfl⟩
      have hb12 : Below w1.heap.size w1 w2 := by rw [hw2]; exact (Below.refl _ _).alloc (Nat.le_refl _) _
      have hb2 := bthen hb1 hb12
      have hx2 : w2.heap[ob]? = some (.cells #[.slice A1 P.l.length c1, .slice none 0 0] 137 (0, 0)) := by rw [hw2, hob, hn1]; exact heap_alloc_new _ _
      have HOB : Hid (w0.heap.size ≤ ob) := Lib.hid (by rw [hob]; exact hb1.size)
      have HO1 := Lib.hid (ho1.below hb12)
      have HX2 := Lib.hid hx2
      have HB2 := Lib.hid hb2
      have HN1 := Lib.hid hn1
      have HW2 := Lib.hid hw2
      have HOB2 := Lib.hid hob
      rw [hn1]
      clear ho1 hb1 hb12 hb2 hx2 hw2 hn1 hob
      go_wp2_with fail
      rw [← HW2.out, ← HOB2.out]
      refine (kids_any (HNd.out.below HB2.out) (l := P.ks.map fun k => some k.2) ((HNA.out.ka.below HBW.out).below HB2.out) (by rw [List.length_map]; exact HNA.out.kn) (by omega)).mono ?_
      rintro e w3 ⟨u7, rfl, ho7, hb3⟩
      obtain ⟨A7, c7, hv7, _, _⟩ := ho7.form
      obtain ⟨m7, hm7⟩ : ∃ m7, P.ks.length = m7 := ⟨_, rfl⟩
      rw [List.length_map, hm7] at hv7
      subst hv7
      have hm76 : m7 ≤ 6 := by rw [← hm7, HNA.out.kn]; exact hfew.2
      have hb03 := bthen HB2.out hb3
      have hT0 : TellAt wb w0 U ids Z sb ob (.slice A k c) l P (.slice A1 P.l.length c1) (.slice A7 m7 c7) 0 (.slice A k c) (.slice none 0 0) [] [] w3 := by
        refine ⟨?_, (hb3.block _ (lt_of_block HX2.out)).trans HX2.out, HO1.out.below hb3, OwnL.nil_ _ _ _, ho7.mono (Nat.le_trans HBW.out.size HB2.out.size), rfl, ?_, ?_, ?_, HOB.out⟩
        · rw [List.append_nil]
          refine (HM.out.less fun q hq hz => ?_).below hb03
          rcases hz with hz | hz | hz
          · exact hz
          · have := HOB.out
            omega
          · cases hz
        · intro i k r' _ h
          cases h
        · intro x hx
          cases hx
        · refine (Stp.of_below hb03 fun q hq => ?_).own_more (fun q hq => ?_) fun q hq => ?_
          · rcases hq with hq | hq
            · rw [hq]
              exact lt_of_block HM.out.memo.box
            · exact HM.out.memo.row.lt q hq
          · rcases hq with hq | hq | hq
            · exact .inl hq
            · rw [hq]
              exact .inr HOB.out
            · cases hq
          · rcases hq with (hq | hq) | hq | hq
            · rw [hq]
              exact Nat.lt_of_lt_of_le (lt_of_block HM.out.memo.box) hb03.size
            · exact Nat.lt_of_lt_of_le (HM.out.memo.row.lt q hq) hb03.size
            · rw [hq]
              exact Nat.lt_of_lt_of_le (lt_of_block HX2.out) hb3.size
            · cases hq
      have HT0 := Lib.hid hT0
      clear hT0
      have HM7 := Lib.hid hm7
      clear ho7 hb3 hb03 hm7
      go_wp2_with fail
      go_loopw [43] (fun s43 wx => ∃ (i : Nat) (v1 vk : Value) (l1 : List (Nat × Nat)) (rs : List Nat), i ≤ m7 ∧ s43 = .int .i64 i ∧ Hid (TellAt wb w0 U ids Z sb ob (.slice A k c) l P (.slice A1 P.l.length c1) (.slice A7 m7 c7) i v1 vk l1 rs wx)) (fun s43 _ => m7 - (intOf s43).toNat)
      case atStart => exact ⟨0, _, _, _, _, Nat.zero_le _, rfl, HT0⟩
      case round =>
        clear HT0
        obtain ⟨i, v1, vk, l1, rs, hi, rfl, HT⟩ := hrel
        by_cases hit : i < m7
        · obtain ⟨W, hW⟩ : ∃ W, W = wr.drew := ⟨_, rfl⟩
          have hdW : Below wr.heap.size wr W := by rw [hW]; exact ⟨rfl, rfl, rfl, Nat.le_refl _, fun k _ => rfl⟩
          have HTW := Lib.hid (HT.out.below hdW)
          have HW := Lib.hid hW
          obtain ⟨a7, p7, cur7, hA7, hp7, hh7, _, hc7⟩ := row_at encP HTW.out.row (i := i) (by rw [List.length_map, HM7.out]; exact hit)
          subst hA7
          rw [List.getElem?_map] at hp7
          obtain ⟨kk, hkk, hpe⟩ := Option.map_eq_some_iff.1 hp7
          subst hpe
          have q7 : W.cell? (a7.add i) = some (.pointer (some ⟨kk.2, 0, none⟩)) := by
            have := hc7 0 _ (by omega) rfl
            rwa [add_of_add, Nat.mul_one, Nat.add_zero] at this
          have hob1 : sb ≠ ob := fun e => by
            have h1 := HTW.out.box
            rw [← e, HTW.out.tm.memo.box] at h1
            cases h1
          have hob2 : v1.ownBlock ≠ some ob := fun e => by
            obtain ⟨cur, h1⟩ := own_cells HTW.out.tm.memo.row ob e
            rw [HTW.out.box] at h1
            cases h1
          have hob3 : vk.ownBlock ≠ some ob := fun e => by
            obtain ⟨cur, h1⟩ := own_cells HTW.out.ks ob e
            rw [HTW.out.box] at h1
            cases h1
          have hg1 : sb ≠ a7.block := fun e => by
            rw [← e, HTW.out.tm.memo.box] at hh7
            cases hh7
          have hg2 : v1.ownBlock ≠ some a7.block := fun e => by
            obtain ⟨cur, h1⟩ := own_cells HTW.out.tm.memo.row a7.block e
            rw [hh7] at h1
            cases h1
          have hg3 : vk.ownBlock ≠ some a7.block := fun e => by
            obtain ⟨cur, h1⟩ := own_cells HTW.out.ks a7.block e
            rw [hh7] at h1
            cases h1
          obtain ⟨bs, hbs⟩ : ∃ bs : List Nat, bs = sb :: (v1.ownBlock.toList ++ vk.ownBlock.toList) := ⟨_, rfl⟩
          have hn1 : ob ∉ bs := by
            rw [hbs]
            intro hx
            rcases List.mem_cons.1 hx with rfl | hx
            · exact hob1 rfl
            · rcases List.mem_append.1 hx with hx | hx
              · exact hob2 (by simpa using hx)
              · exact hob3 (by simpa using hx)
          have hn7 : a7.block ∉ bs := by
            rw [hbs]
            intro hx
            rcases List.mem_cons.1 hx with rfl | hx
            · exact hg1 rfl
            · rcases List.mem_append.1 hx with hx | hx
              · exact hg2 (by simpa using hx)
              · exact hg3 (by simpa using hx)
          have hP1 : ∀ p' : Dc.Past bs W, p'.val.cell? ⟨ob, 1, none⟩ = some vk := fun p' => (p'.ok.cell (lt_of_block HTW.out.box) hn1).trans (cell_at HTW.out.box 1 vk rfl)
          have hP7 : ∀ p' : Dc.Past bs W, p'.val.cell? (a7.add i) = some (.pointer (some ⟨kk.2, 0, none⟩)) := fun p' => (p'.ok.cell (by rw [block_of_add]; exact lt_of_block hh7) (by rw [block_of_add]; exact hn7)).trans q7
          obtain ⟨Ak, ck, hvk, hck, _⟩ := HTW.out.ks.form
          rw [List.length_map, HTW.out.len] at hvk
          have HVK := Lib.hid hvk
          rw [hvk] at hP1
          have HBS1 : Hid (∀ q, q ∉ bs → ¬ XM sb v1 q) := Lib.hid (fun q hq hx => hq (by
            rw [hbs]
            rcases hx with rfl | hx
            · exact List.mem_cons_self ..
            · exact List.mem_cons_of_mem _ (List.mem_append_left _ (by simpa using hx))))
          have HBS2 : Hid (∀ q, q ∉ bs → vk.ownBlock ≠ some q) := Lib.hid (fun q hq hx => hq (by
            rw [hbs]
            exact List.mem_cons_of_mem _ (List.mem_append_right _ (by simpa using hx))))
          have HKK := Lib.hid hkk
          clear hdW hW hp7 hkk hh7 hc7 q7 hob1 hob2 hob3 hg1 hg2 hg3 hbs hn1 hn7 hvk hck
          go_wp2_with fail
          refine Dc.wp_region_segs 15 bs [([0, 1, 2, 3, 4, 5, 6, 7, 8, 9], 10), ([], 11), ([], 12), ([13, 14], 15)] [] (by kernel_rfl) (by kernel_rfl) (by kernel_rfl) (by kernel_rfl) (by kernel_rfl) (by intro c a d v w h; cases d <;> exact h) ?_
          rw [← HW.out]
          refine Dc.wpSegs_more ?_
          simp only [Dc.pick, List.getElem?_cons_zero, List.getElem?_cons_succ]
          repeat (first | go_big_quiet_step (fail) | quiet_step (fail))
          refine wpQuiet_nil ?_
          refine Dc.wpOp_heavy rfl (by rfl) (fun Q hQ => ?_)
          go_simp
          refine (HK.out i kk HKK.out W _ v1 l1 (fun q hq => ?_) HTW.out.tm).mono ?_
          · rcases hq with hq | rfl | hq
            · exact Nat.lt_of_lt_of_le (HZ.out q hq) HTW.out.stp.fx.size
            · exact lt_of_block HTW.out.box
            · exact HTW.out.ks.lt q hq
          rintro e wy ⟨r, v1', l1', rfl, htm, hr, hs, hi'⟩
          refine hQ _ _ (fun _ => ⟨hs.fx.size, fun q hq hn => hs.same q hq (HBS1.out q hn)⟩) ?_
          clear hQ Q hP1 hP7
          have hky := (stp_pst (Z := fun _ => False) HTW.out.tm.memo hs).own HTW.out.ks (by decide) (by decide) fun q _ h => h
          have hba : Below wy.heap.size wy (wy.alloc (.cells (pcP (some r)).toArray 67)) := (Below.refl _ _).alloc (Nat.le_refl _) _
          obtain ⟨vk', w4, hr4, ho4, hg4, hv4⟩ := run_append_at encP 135 67 135 _ _ ⟨_, Tryz.underlying135, rfl⟩ refPInfo rfl (by omega) (by omega) (hky.below hba) (some r) (heap_alloc_new wy _) (by rw [List.length_map, HTW.out.len]; omega) (Nat.le_trans HTW.out.stp.fx.size (Nat.le_trans hs.fx.size hba.size))
          have hstep := HTW.out.step HKK.out htm hr hs hi' HBW.out.size (by rw [List.map_append]; exact ho4) hg4 hv4
          obtain ⟨hst5, hb4⟩ := hstep
          have d4 := cell_at hb4 1 vk rfl
          have f4 := free_at hb4 1
          obtain ⟨A4, c4, hvk4, _, _⟩ := ho4.form
          obtain ⟨n4, hn4⟩ : ∃ n4, n4 = (List.map some rs ++ [some r]).length := ⟨_, rfl⟩
          rw [← hn4] at hvk4
          have HST5 := Lib.hid hst5
          have HR4 := Lib.hid hr4
          have HG4 := Lib.hid hg4
          have HBA := Lib.hid hba
          have HVK4 := Lib.hid hvk4
          rw [HVK.out] at d4 HR4
          clear htm hr hs hi' hky hba hr4 ho4 hg4 hv4 hst5 hb4 hvk4 hn4
          refine Dc.wpSegs_more ?_
          simp only [Dc.pick]
          refine wpQuiet_nil ?_
          refine Dc.wpOp_heavy rfl (by rfl) (fun Q hQ => ?_)
          go_simp
          refine hQ _ _ (fun _ => Dc.But.of_below HBA.out) ?_
          clear hQ Q
          refine Dc.wpSegs_more ?_
          simp only [Dc.pick]
          refine wpQuiet_nil ?_
          refine Dc.wpOp_heavy rfl (by rfl) (fun Q hQ => ?_)
          refine oper_append_ran (.tmp 50) (.tmp 57) 135 rfl _ _ _ _ rfl rfl HR4.out ?_
          refine hQ _ _ (fun _ => ⟨HG4.out.size, fun q hq hn => HG4.out.block q hq fun e => HBS2.out q hn e.symm⟩) ?_
          clear hQ Q
          refine Dc.wpSegs_more ?_
          simp only [Dc.pick, List.getElem?_cons_zero, List.getElem?_cons_succ]
          repeat (first | go_big_quiet_step (fail) | quiet_step (fail))
          refine wpQuiet_nil ?_
          refine Dc.wpOp_heavy rfl (by rfl) (fun Q hQ => ?_)
          rw [HVK4.out] at HST5 ⊢
          go_simp
          refine hQ _ _ (fun h => absurd rfl h) ?_
          clear hQ Q d4 f4
          refine Dc.wpSegs_last ?_
          simp only [Dc.pick]
          refine wpQuiet_nil ?_
          go_wp2
          exact ⟨⟨i + 1, _, _, _, _, by omega, by go_num, HST5⟩, by simp [intOf]; omega⟩
        · have hie : i = m7 := by omega
          subst hie
          obtain ⟨A2, c2, hv2, _, _⟩ := HT.out.tm.memo.row.form
          obtain ⟨n2, hn2⟩ : ∃ n2, n2 = (l ++ l1).length := ⟨_, rfl⟩
          rw [← hn2] at hv2
          obtain ⟨Ak, ck, hvk, hck, _⟩ := HT.out.ks.form
          rw [List.length_map, HT.out.len] at hvk
          have hbz : Below wr.heap.size wr (wr.alloc (.cells (pcPg (P.b, ob)).toArray 74)) := (Below.refl _ _).alloc (Nat.le_refl _) _
          obtain ⟨v', w4, h1, h2, h3, h5⟩ := run_append_at encPg 60 74 60 _ _ ⟨_, Tryz.underlying60, rfl⟩ pgInfo rfl (by omega) (by omega) (HT.out.tm.memo.row.below hbz) (P.b, ob) (heap_alloc_new wr _) (by have := HT.out.tm.len; omega) (Nat.le_trans HT.out.tm.bel.size hbz.size)
          obtain ⟨A', c', hv', _, _⟩ := h2.form
          obtain ⟨n', hn'⟩ : ∃ n', n' = (l ++ l1 ++ [(P.b, ob)]).length := ⟨_, rfl⟩
          rw [← hn'] at hv'
          subst hv2 hvk hv'
          have hTA : TellAt wb w0 U ids Z sb ob (.slice A k c) l P (.slice A1 P.l.length c1) (.slice A7 i c7) P.ks.length (.slice A2 n2 c2) (.slice Ak P.ks.length ck) l1 rs wr := by
            rw [HM7.out]
            exact HT.out
          obtain ⟨HF1, hB4⟩ := hTA.done HPP.out HPU.out HF.out HID.out HZ.out HBW.out.size h2 h3 h5
          have HFIN := Lib.hid HF1
          have d3 := cell_at HT.out.tm.memo.box 0 (.slice A2 n2 c2) rfl
          have d4 := cell_at hB4 0 (.slice A2 n2 c2) rfl
          have f4 := free_at hB4 0
          have HRUN := Lib.hid h1
          clear h1 h2 h3 h5 hbz hn2 hck hn' hTA HF1 hB4
          go_wp2_with (at_builtin; refine wpList_append_ran rfl (.tmp 65) (.tmp 69) 60 rfl _ _ _ _ rfl rfl HRUN.out ?_)
          go_ret
          exact HFIN.out

end Go.Proofs.YtelenboncejdaaaGreatDoor

/-
  The contract of told for a tree; conditions: its nodes lie in memory, few of them.
-/
namespace Go.Proofs.YtelenboncejdaaaGreatDoor
open Go.RowKit Go.Sort
open Rt (Fx Stp)
set_option linter.unusedVariables false
set_option linter.unusedSimpArgs false

theorem ToldT.ids {wb w : World} {U : List Nat} {Z : Nat → Prop} {sb : Nat} {v : Value} {l : List (Nat × Nat)} {b : Nat} {I J : List Nat} {e : Ending} {w' : World} (h : ToldT wb w U Z sb v l b I e w') (hi : ∀ x ∈ I, x ∈ J) : ToldT wb w U Z sb v l b J e w' := by
  obtain ⟨r, v', l', h1, h2, h3, h4, h5⟩ := h
  exact ⟨r, v', l', h1, h2, h3, h4, fun x hx => hi _ (h5 x hx)⟩
theorem told_seen {wb w : World} {U : List Nat} {Z : Nat → Prop} {sb b : Nat} {v : Value} {l : List (Nat × Nat)} {I : List Nat} (hm : TM wb w U Z sb v l) (hU : U.length ≤ 100000) (hb : b ∈ l.map (·.1)) :
    Calls Tryz.prog 32 #[pn b, .pointer (some ⟨sb, 0, none⟩)] w (ToldT wb w U Z sb v l b I) := by
  obtain ⟨x, hx, rfl⟩ := List.mem_map.1 hb
  obtain ⟨i, hi⟩ := List.getElem?_of_mem hx
  obtain ⟨⟨N, hN⟩, _⟩ := hm.memo.nodes x hx
  refine (told_old (r := x.2) hm.memo (by have := hm.len; omega) hN hi fun j y hj hy => ?_).mono ?_
  · have h := hm.inj
    rw [List.pairwise_iff_getElem] at h
    obtain ⟨hil, rfl⟩ := List.getElem?_eq_some_iff.1 hi
    obtain ⟨hjl, rfl⟩ := List.getElem?_eq_some_iff.1 hy
    exact (h j i hjl hil hj).1
  · rintro e w' ⟨rfl, rfl⟩
    exact ⟨x.2, v, [], rfl, by rw [List.append_nil]; exact hm, by rw [List.append_nil]; exact hx, Stp.refl fun q hq => by
      rcases hq with rfl | hq
      · exact lt_of_block hm.memo.box
      · exact hm.memo.row.lt q hq, fun y hy => by cases hy⟩
theorem told_tr {wb : World} {U : List Nat} (hU : U.length ≤ 100000) : ∀ {h : Nat} {s : ST} {L : List PN}, Pr wb h s L → (∀ P ∈ L, P.b ∈ U) → ∀ (w : World) (Z : Nat → Prop) (sb : Nat) (v : Value) (l : List (Nat × Nat)), (∀ q, Z q → q < w.heap.size) → TM wb w U Z sb v l →
    Calls Tryz.prog 32 #[pn s.b, .pointer (some ⟨sb, 0, none⟩)] w (ToldT wb w U Z sb v l s.b (L.map (·.b)))
  | 0, s, L, hp, hLU, w, Z, sb, v, l, hZ, hm => by
    by_cases hb : s.b ∈ l.map (·.1)
    · exact told_seen hm hU hb
    · obtain ⟨t, e⟩ := id hp
      have hP := hp.at_ ⟨s.b, 0, s.l, []⟩ (by rw [e]; exact List.mem_singleton.2 rfl)
      refine (told_gen (ids := []) hm hU hZ hP (hLU _ (by rw [e]; exact List.mem_singleton.2 rfl)) (fun y hy e2 => hb (List.mem_map.2 ⟨y, hy, e2⟩)) (by simp) (fun i k hk => by simp at hk)).mono ?_
      intro e2 w' h
      rw [e]
      exact h
  | h + 1, s, L, hp, hLU, w, Z, sb, v, l, hZ, hm => by
    by_cases hb : s.b ∈ l.map (·.1)
    · exact told_seen hm hU hb
    · obtain ⟨t, ks, Q, t2, t3, t4, t5, t7, t8, t9, hq, hr, e⟩ := id hp
      have hP := hp.at_ ⟨s.b, h + 1, [], kidsP ks⟩ (by rw [e]; simp)
      have hnd := hp.nodup
      rw [e, List.map_append, List.nodup_append] at hnd
      refine (told_gen (ids := Q.flatten.map (·.b)) hm hU hZ hP (hLU _ (by rw [e]; simp)) (fun y hy e2 => hb (List.mem_map.2 ⟨y, hy, e2⟩)) (fun hx => hnd.2.2 _ hx s.b (by simp) rfl) (fun i k hk w1 Z1 v1 l1 hZ1 hm1 => ?_)).mono ?_
      · simp only [kidsP, List.getElem?_map] at hk
        obtain ⟨x, hx, rfl⟩ := Option.map_eq_some_iff.1 hk
        obtain ⟨M, hM⟩ := lt_at hq.symm hx
        have hin : ∀ P ∈ M, P ∈ Q.flatten := fun P hP => List.mem_flatten.2 ⟨M, List.mem_of_getElem? hM, hP⟩
        refine (told_tr hU (hr i x M hx hM) (fun P hP => hLU P (by rw [e]; exact List.mem_append_left _ (hin P hP))) w1 Z1 sb v1 (l ++ l1) hZ1 hm1).mono ?_
        intro e2 w' h2
        exact h2.ids fun y hy => by
          obtain ⟨P, hP, rfl⟩ := List.mem_map.1 hy
          exact List.mem_map.2 ⟨P, hin P hP, rfl⟩
      · intro e2 w' h2
        refine h2.ids fun y hy => ?_
        rw [e, List.map_append]
        rcases List.mem_cons.1 hy with rfl | hy
        · exact List.mem_append_right _ (by simp)
        · exact List.mem_append_left _ hy
theorem told_none (w : World) (a : Value) : Calls Tryz.prog 32 #[.pointer none, a] w fun e w' => e = .returned (.pointer none) ∧ w' = w := by
  go_enter Tryz.func32, Tryz.ntmps32
  go_wp2
  go_ret
  exact ⟨rfl, rfl⟩

end Go.Proofs.YtelenboncejdaaaGreatDoor
