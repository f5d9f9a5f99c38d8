/-
  The contracts of node.validBranch, node.Branch and what they call: slices.Index, Contains, IndexFunc, ContainsFunc, node.lacks; conditions: the slice can be read, its nodes lie in memory.
-/
import Derived.Test.YtkooaechcbopnaaNodeLeaf
import Derived.LaidEql
namespace Go.Proofs.Ytkooaechcbopnaa
open Go.RowKit Go.Sort
set_option linter.unusedVariables false

theorem ptr_nil_eq (p : Option Nat) : (ptr p = .pointer none) ↔ p = none := by cases p <;> simp [ptr]

theorem eql_nil_some (a : Addr) (w : World) : (binOp .eql 26 (.pointer none) (.pointer (some a))).run Try.prog w = .ok (.bool false) w := by
  have h : ∀ d : Nat, (Op.equalIn (d + 1) 26 (.pointer none) (.pointer (some a))).run Try.prog w = .ok false w := fun d => by
    simp [Op.equalIn, run_underlying Try.underlying26]
  simp only [binOp]
  simp [Op.equal, Op.maxDepth, h 9999]
theorem eql_ptr_same (a : Addr) (w : World) : (binOp .eql 26 (.pointer (some a)) (.pointer (some a))).run Try.prog w = .ok (.bool true) w := by
  obtain ⟨j, hj⟩ : ∃ j, Try.prog.info? 93 = some j := Option.isSome_iff_exists.1 (by kernel_rfl)
  have h : ∀ d : Nat, (Op.equalIn (d + 1) 26 (.pointer (some a)) (.pointer (some a))).run Try.prog w = .ok true w := fun d => by
    simp [Op.equalIn, run_underlying Try.underlying26, sizeOf, typeInfo, hj, run_sameAddr_same]
  simp only [binOp]
  simp [Op.equal, Op.maxDepth, h 9999]
theorem neq_ptr_same (a : Addr) (w : World) : (binOp .neq 26 (.pointer (some a)) (.pointer (some a))).run Try.prog w = .ok (.bool false) w := by
  obtain ⟨j, hj⟩ : ∃ j, Try.prog.info? 93 = some j := Option.isSome_iff_exists.1 (by kernel_rfl)
  have h : ∀ d : Nat, (Op.equalIn (d + 1) 26 (.pointer (some a)) (.pointer (some a))).run Try.prog w = .ok true w := fun d => by
    simp [Op.equalIn, run_underlying Try.underlying26, sizeOf, typeInfo, hj, run_sameAddr_same]
  simp only [binOp]
  simp [Op.equal, Op.maxDepth, h 9999]

set_option maxHeartbeats 1000000 in
theorem index_nil (A : Option Addr) (n c : Nat) (l : List (Option Nat)) (w : World) (hr : Ls pcP w A l) (hn : l.length = n) (hb : n ≤ 100000000000) :
    Calls Try.prog 86 #[.slice A n c, .pointer none] w fun e w' => w = w' ∧ ((none ∉ l ∧ e = .returned (.int .i64 (-1))) ∨ (none ∈ l ∧ ∃ k : Nat, k ≤ n ∧ e = .returned (.int .i64 (k : Int)))) := by
  have Hn := Lib.hid hn
  clear hn
  go_enter Try.func86, Try.ntmps86
  go_wp2
  go_loop [8] (fun i => ∃ k : Nat, k ≤ n ∧ i = .int .i64 k ∧ Hid (∀ j, j < k → l[j]? ≠ some none)) (fun i => n - (intOf i).toNat)
  case atStart => exact ⟨0, Nat.zero_le _, rfl, Lib.hid fun j hj => absurd hj (by omega)⟩
  case round =>
    obtain ⟨k, hk, rfl, HA⟩ := hrel
    by_cases hlt : k < n
    · obtain ⟨ad, p, rfl, hp, hl, q1⟩ := hr.ptr_at (i := k) (by rw [Hn.out]; exact hlt)
      have HP := Lib.hid hp
      clear hp
      cases p with
      | none =>
        simp only [ptr, Option.map_none] at q1
        go_wp2
        go_ret
        exact ⟨rfl, .inr ⟨List.mem_of_getElem? HP.out, k, by omega, rfl⟩⟩
      | some b =>
        simp only [ptr, Option.map_some] at q1
        have hq := eql_nil_some ⟨b, 0, none⟩
        go_wp2
        refine ⟨⟨k + 1, by omega, by go_num, Lib.hid fun j hj => ?_⟩, by simp [intOf]; omega⟩
        rcases Nat.lt_or_ge j k with h | h
        · exact HA.out j h
        · have : j = k := by omega
          subst this
          rw [HP.out]
          simp
    · have he : k = n := by omega
      subst he
      go_wp2
      go_ret
      refine ⟨rfl, .inl ⟨fun hm => ?_, rfl⟩⟩
      obtain ⟨j, hj⟩ := List.getElem?_of_mem hm
      exact HA.out j (by have := (List.getElem?_eq_some_iff.1 hj).1; rw [Hn.out] at this; exact this) hj
theorem contains_nil (A : Option Addr) (n c : Nat) (l : List (Option Nat)) (w : World) (hr : Ls pcP w A l) (hn : l.length = n) (hb : n ≤ 100000000000) :
    Calls Try.prog 82 #[.slice A n c, .pointer none] w fun e w' => w = w' ∧ e = .returned (.bool (decide (none ∈ l))) := by
  have Hn := Lib.hid hn
  clear hn
  go_enter Try.func82, Try.ntmps82
  go_wp2_with fail
  refine (index_nil A n c l w hr Hn.out hb).mono ?_
  rintro e w1 ⟨rfl, ⟨hm, rfl⟩ | ⟨hm, k, hk, rfl⟩⟩
  · have HM := Lib.hid hm
    clear hm
    go_wp2
    go_ret
    rw [decide_eq_false HM.out]
    exact ⟨rfl, rfl⟩
  · have HM := Lib.hid hm
    clear hm
    go_wp2
    go_ret
    rw [decide_eq_true HM.out]
    exact ⟨rfl, rfl⟩

/-- Nodes in memory, by their blocks. -/
def All (w : World) (L : List (Nat × NR)) : Prop := ∀ x ∈ L, NodeAt w x.1 x.2
def ptrs (L : List (Nat × NR)) : List (Option Nat) := L.map fun x => some x.1
def krs (L : List (Nat × NR)) : List KR := L.map fun x => x.2.kr
/-- Heights and sizes are small numbers. -/
def Tame (L : List (Nat × NR)) : Prop := ∀ x ∈ L, 1 ≤ x.2.h ∧ x.2.h ≤ 1000000 ∧ x.2.en + x.2.kn ≤ 1000000
theorem All.below {w w' : World} {L : List (Nat × NR)} (h : All w L) (hb : Below w.heap.size w w') : All w' L := fun x hx => (h x hx).below hb
theorem All.at_ {w : World} {L : List (Nat × NR)} (h : All w L) {i : Nat} {x : Nat × NR} (hx : L[i]? = some x) : NodeAt w x.1 x.2 := h x (List.mem_of_getElem? hx)
theorem ptrs_len (L : List (Nat × NR)) : (ptrs L).length = L.length := by simp [ptrs]
theorem krs_len (L : List (Nat × NR)) : (krs L).length = L.length := by simp [krs]
theorem ptrs_at {L : List (Nat × NR)} {i : Nat} {x : Nat × NR} (h : L[i]? = some x) : (ptrs L)[i]? = some (some x.1) := by simp [ptrs, h]
theorem krs_at {L : List (Nat × NR)} {i : Nat} {x : Nat × NR} (h : L[i]? = some x) : (krs L)[i]? = some x.2.kr := by simp [krs, h]
theorem krs_inv {L : List (Nat × NR)} {i : Nat} {k : KR} (h : (krs L)[i]? = some k) : ∃ x, L[i]? = some x ∧ k = x.2.kr := by
  simp only [krs, List.getElem?_map, Option.map_eq_some_iff] at h
  obtain ⟨x, hx, rfl⟩ := h
  exact ⟨x, hx, rfl⟩
theorem none_ptrs (L : List (Nat × NR)) : none ∉ ptrs L := by simp [ptrs]
/-- The pointer and the node at a place. -/
theorem Ls.node_at {w : World} {A : Option Addr} {L : List (Nat × NR)} (h : Ls pcP w A (ptrs L)) {i : Nat} (hi : i < L.length) : ∃ ad x, A = some ad ∧ L[i]? = some x ∧ ad.block < w.heap.size ∧ w.cell? (ad.add i) = some (pn x.1) := by
  obtain ⟨ad, p, e, hp, hl, hc⟩ := h.ptr_at (i := i) (by rw [ptrs_len]; exact hi)
  have hx : L[i]? = some L[i] := List.getElem?_eq_getElem hi
  rw [ptrs_at hx] at hp
  cases hp
  exact ⟨ad, L[i], e, hx, hl, hc⟩

set_option maxHeartbeats 1000000 in
theorem lacks_any {w : World} {b : Nat} {N : NR} (h : NodeAt w b N) (hs : N.en + N.kn ≤ 1000000) : Calls Try.prog 75 #[pn b] w fun e w' => e = .returned (.bool (!goodK N.kr)) ∧ ∃ nq, w' = w.drewN nq := by
  have c2 := h.c2
  have c5 := h.c5
  have HN := Lib.hid h
  obtain ⟨ea, en, ec, ka, kn, kc, hh, lo, hi, lk⟩ := N
  simp only at c2 c5 hs
  have HG := Lib.hid (show goodK (NR.kr ⟨ea, en, ec, ka, kn, kc, hh, lo, hi, lk⟩) = (!lk && decide ((if hh = 1 then 2 else 3) ≤ en + kn)) from rfl)
  obtain ⟨r, hr⟩ : ∃ r, r = goodK (NR.kr ⟨ea, en, ec, ka, kn, kc, hh, lo, hi, lk⟩) := ⟨_, rfl⟩
  rw [← hr]
  have HR := Lib.hid (hr.trans HG.out)
  clear hr HG h
  obtain ⟨m, hm⟩ : ∃ m, m = en + kn := ⟨_, rfl⟩
  have HM := Lib.hid hm
  have hm1 : m ≤ 1000000 := by omega
  clear hs hm
  cases lk with
  | true =>
    have hr : r = false := HR.out
    subst hr
    by_cases h1 : hh = 1
    · subst h1
      go_enter Try.func75, Try.ntmps75
      go_wp2
      go_ret
      exact ⟨rfl, 0, rfl⟩
    · go_enter Try.func75, Try.ntmps75
      go_wp2
      go_ret
      exact ⟨rfl, 0, rfl⟩
  | false =>
    by_cases h1 : hh = 1
    · have hr : r = decide (2 ≤ m) := by rw [HR.out, HM.out, if_pos h1]; rfl
      subst hr h1
      go_enter Try.func75, Try.ntmps75
      go_wp2_with fail
      refine (size_any HN.out (by simp only; rw [← HM.out]; omega)).mono ?_
      rintro e w1 ⟨rfl, nq, rfl⟩
      simp only
      rw [← HM.out]
      go_wp2
      go_ret
      refine ⟨congrArg (fun b => Ending.returned (Value.bool b)) (show decide ((m : Int) < 2) = !decide (2 ≤ m) from ?_), nq, rfl⟩
      rw [← decide_not]
      exact decide_eq_decide.2 (by omega)
    · have hr : r = decide (3 ≤ m) := by rw [HR.out, HM.out, if_neg h1]; rfl
      subst hr
      go_enter Try.func75, Try.ntmps75
      go_wp2_with fail
      refine (size_any HN.out (by simp only; rw [← HM.out]; omega)).mono ?_
      rintro e w1 ⟨rfl, nq, rfl⟩
      simp only
      rw [← HM.out]
      go_wp2
      go_ret
      refine ⟨congrArg (fun b => Ending.returned (Value.bool b)) (show decide ((m : Int) < 3) = !decide (3 ≤ m) from ?_), nq, rfl⟩
      rw [← decide_not]
      exact decide_eq_decide.2 (by omega)

theorem drewN_add (w : World) (i j : Nat) : (w.drewN i).drewN j = w.drewN (i + j) := by
  unfold World.drewN
  simp [Nat.add_assoc]

set_option maxHeartbeats 1000000 in
theorem indexLacks_any (A : Option Addr) (n c : Nat) (L : List (Nat × NR)) (w : World) (hr : Ls pcP w A (ptrs L)) (hn : L.length = n) (hb : n ≤ 1000000) (ha : All w L) (ht : Tame L) :
    Calls Try.prog 83 #[.slice A n c, .func (.func 75) #[] #[]] w fun e w' => Below w.heap.size w w' ∧ (((krs L).all goodK = true ∧ e = .returned (.int .i64 (-1))) ∨ ((krs L).all goodK = false ∧ ∃ k : Nat, k ≤ n ∧ e = .returned (.int .i64 (k : Int)))) := by
  have Hn := Lib.hid hn
  have HA := Lib.hid ha
  have HT := Lib.hid ht
  clear hn ha ht
  go_enter Try.func83, Try.ntmps83
  go_wp2
  go_loopw [8] (fun i wr => ∃ k : Nat, k ≤ n ∧ i = .int .i64 k ∧ Below w.heap.size w wr ∧ Hid (∀ j x, j < k → (krs L)[j]? = some x → goodK x = true)) (fun i _ => n - (intOf i).toNat)
  case atStart => exact ⟨0, Nat.zero_le _, rfl, Below.refl _ _, Lib.hid fun j _ hj => absurd hj (by omega)⟩
  case round =>
    obtain ⟨k, hk, rfl, hbw, HG⟩ := hrel
    by_cases hlt : k < n
    · obtain ⟨ad, x, rfl, hx, hl, q1⟩ := (hr.below hbw).node_at (i := k) (by rw [Hn.out]; exact hlt)
      have hnx := (HA.out.below hbw).at_ hx
      have htx := HT.out x (List.mem_of_getElem? hx)
      have HX := Lib.hid (krs_at hx)
      clear hx
      go_wp2_with fail
      refine (lacks_any hnx htx.2.2).mono ?_
      rintro e w1 ⟨rfl, nq, rfl⟩
      obtain ⟨r, hrr⟩ : ∃ r, r = goodK x.2.kr := ⟨_, rfl⟩
      rw [← hrr]
      have HR := Lib.hid hrr
      have HB := Lib.hid (below_drewN hbw nq)
      clear hrr hnx htx
      cases r with
      | true =>
        go_wp2
        refine ⟨⟨k + 1, by omega, by go_num, HB.out, Lib.hid fun j y hj hy => ?_⟩, by simp [intOf]; omega⟩
        rcases Nat.lt_or_ge j k with h | h
        · exact HG.out j y h hy
        · have : j = k := by omega
          subst this
          rw [HX.out] at hy
          cases hy
          exact HR.out.symm
      | false =>
        go_wp2
        go_ret
        refine ⟨HB.out, .inr ⟨Bool.eq_false_iff.2 fun h => ?_, k, by omega, rfl⟩⟩
        have := List.all_eq_true.1 h _ (List.mem_of_getElem? HX.out)
        rw [← HR.out] at this
        cases this
    · have he : k = n := by omega
      subst he
      go_wp2
      go_ret
      refine ⟨hbw, .inl ⟨List.all_eq_true.2 fun y hy => ?_, rfl⟩⟩
      obtain ⟨j, hj⟩ := List.getElem?_of_mem hy
      exact HG.out j y (by have := (List.getElem?_eq_some_iff.1 hj).1; rw [krs_len, Hn.out] at this; exact this) hj
theorem anyLacks_any (A : Option Addr) (n c : Nat) (L : List (Nat × NR)) (w : World) (hr : Ls pcP w A (ptrs L)) (hn : L.length = n) (hb : n ≤ 1000000) (ha : All w L) (ht : Tame L) :
    Calls Try.prog 74 #[.slice A n c, .func (.func 75) #[] #[]] w fun e w' => Below w.heap.size w w' ∧ e = .returned (.bool (!(krs L).all goodK)) := by
  have Hn := Lib.hid hn
  have HA := Lib.hid ha
  have HT := Lib.hid ht
  clear hn ha ht
  go_enter Try.func74, Try.ntmps74
  go_wp2_with fail
  refine (indexLacks_any A n c L w hr Hn.out hb HA.out HT.out).mono ?_
  rintro e w1 ⟨hb1, ⟨hm, rfl⟩ | ⟨hm, k, hk, rfl⟩⟩
  · have HM := Lib.hid hm
    clear hm
    go_wp2
    go_ret
    rw [HM.out]
    exact ⟨hb1, rfl⟩
  · have HM := Lib.hid hm
    clear hm
    go_wp2
    go_ret
    rw [HM.out]
    exact ⟨hb1, rfl⟩


set_option maxHeartbeats 1000000 in
/-- Some kid is nil. -/
theorem validBranch_nil (A : Option Addr) (n c : Nat) (l : List (Option Nat)) (w : World) (hr : Ls pcP w A l) (hn : l.length = n) (hb : n ≤ 100000000000) (hm : n < 2 ∨ none ∈ l) :
    Calls Try.prog 72 #[.slice A n c] w fun e w' => e = .returned (.bool false) ∧ w = w' := by
  have Hn := Lib.hid hn
  clear hn
  by_cases h2 : n < 2
  · clear hm
    go_enter Try.func72, Try.ntmps72
    go_wp2
    go_ret
    exact ⟨rfl, rfl⟩
  have HM := Lib.hid (hm.resolve_left h2)
  clear hm
  by_cases h6 : 6 < n
  · go_enter Try.func72, Try.ntmps72
    go_wp2
    go_ret
    exact ⟨rfl, rfl⟩
  go_enter Try.func72, Try.ntmps72
  go_wp2_with fail
  refine (contains_nil A n c l w hr Hn.out hb).mono ?_
  rintro e w1 ⟨rfl, rfl⟩
  rw [decide_eq_true HM.out]
  go_wp2
  go_ret
  exact ⟨rfl, rfl⟩

theorem NR.kr_h (N : NR) : N.kr.h = N.h := rfl
theorem NR.kr_lo (N : NR) : N.kr.lo = N.lo := rfl
theorem NR.kr_hi (N : NR) : N.kr.hi = N.hi := rfl

set_option maxHeartbeats 1000000 in
set_option maxRecDepth 100000 in
theorem validBranch_any (A : Option Addr) (n c : Nat) (L : List (Nat × NR)) (w : World) (hr : Ls pcP w A (ptrs L)) (hn : L.length = n) (hc : n ≤ c) (hb : n ≤ 1000000) (ha : All w L) (ht : Tame L) :
    Calls Try.prog 72 #[.slice A n c] w fun e w' => e = .returned (.bool (okBr (krs L))) ∧ Below w.heap.size w w' := by
  have Hn := Lib.hid hn
  have HA := Lib.hid ha
  have HT := Lib.hid ht
  clear hn ha ht
  by_cases h2 : n < 2
  · rw [okBr_short (by rw [krs_len, Hn.out]; exact h2)]
    go_enter Try.func72, Try.ntmps72
    go_wp2
    go_ret
    exact ⟨rfl, Below.refl _ _⟩
  by_cases h6 : 6 < n
  · rw [okBr_long (by rw [krs_len, Hn.out]; exact h6)]
    go_enter Try.func72, Try.ntmps72
    go_wp2
    go_ret
    exact ⟨rfl, Below.refl _ _⟩
  obtain ⟨r, hR⟩ : ∃ r, r = okBr (krs L) := ⟨_, rfl⟩
  rw [← hR]
  have HR := Lib.hid hR
  clear hR
  obtain ⟨ad, x0, rfl, _, hl, _⟩ := hr.node_at (i := 0) (by rw [Hn.out]; omega)
  go_enter Try.func72, Try.ntmps72
  go_wp2_with fail
  refine (contains_nil (some ad) n c (ptrs L) w hr ((ptrs_len L).trans Hn.out) (by omega)).mono ?_
  rintro e w1 ⟨rfl, rfl⟩
  rw [decide_eq_false (none_ptrs L)]
  go_wp2
  simp only [show decide ((n : Int) < 2) = false from decide_eq_false (by omega), show decide ((6 : Int) < n) = false from decide_eq_false (by omega), Bool.or_self]
  obtain ⟨ae, hae⟩ : ∃ ae : Addr, ae = ⟨ad.block, ad.off + 1, none⟩ := ⟨_, rfl⟩
  rw [← hae]
  have HAE := Lib.hid hae
  clear hae
  go_loopw [21] (fun i wr => ∃ k : Nat, k ≤ n - 1 ∧ i = .int .i64 k ∧ Below w.heap.size w wr ∧ Hid (∀ (j : Nat) (a b : KR), j < k → (krs L)[j]? = some a → (krs L)[j + 1]? = some b → a.h = b.h ∧ kl a.hi b.lo)) (fun i _ => n - (intOf i).toNat)
  case atStart => exact ⟨0, Nat.zero_le _, rfl, Below.refl _ _, Lib.hid fun j _ _ hj => absurd hj (by omega)⟩
  case round =>
    obtain ⟨k, hk, rfl, hbw, HG⟩ := hrel
    by_cases hlt : k < n - 1
    · obtain ⟨ad', x, e', hx, _, q1⟩ := (hr.below hbw).node_at (i := k) (by rw [Hn.out]; omega)
      cases e'
      obtain ⟨ad', y, e', hy, _, p1⟩ := (hr.below hbw).node_at (i := k + 1) (by rw [Hn.out]; omega)
      cases e'
      rw [show ad.add (k + 1) = ae.add k by rw [Nat.add_comm, ← add_of_add, HAE.out]; rfl] at p1
      have hnx := (HA.out.below hbw).at_ hx
      have hny := (HA.out.below hbw).at_ hy
      have HX := Lib.hid (krs_at hx)
      have HY := Lib.hid (krs_at hy)
      have x2 := hnx.c2
      have x4 := hnx.c4
      have y2 := hny.c2
      have y3 := hny.c3
      have htx := HT.out x (List.mem_of_getElem? hx)
      have hty := HT.out y (List.mem_of_getElem? hy)
      clear hx hy hnx hny
      obtain ⟨b1, N1⟩ := x
      obtain ⟨b2, N2⟩ := y
      simp only at *
      have HXH := Lib.hid (NR.kr_h N1)
      have HYH := Lib.hid (NR.kr_h N2)
      have HXI := Lib.hid (NR.kr_hi N1)
      have HYL := Lib.hid (NR.kr_lo N2)
      generalize N1.h = h1 at *
      generalize N1.hi = i1 at *
      generalize N2.h = h2' at *
      generalize N2.lo = l2 at *
      generalize N1.kr = K1 at *
      generalize N2.kr = K2 at *
      have hle := less_eq i1 l2
      by_cases hh : h1 = h2'
      · subst hh
        by_cases hd : kl i1 l2
        · rw [decide_eq_true hd] at hle
          go_wp2
          go_quiet (fail)
          go_wp2
          refine ⟨⟨k + 1, by omega, by go_num, below_drewN hbw _, Lib.hid fun j a b hj ha hbb => ?_⟩, by simp [intOf]; omega⟩
          rcases Nat.lt_or_ge j k with hjk | hjk
          · exact HG.out j a b hjk ha hbb
          · have : j = k := by omega
            subst this
            rw [HX.out] at ha
            rw [HY.out] at hbb
            cases ha; cases hbb
            exact ⟨HXH.out.trans HYH.out.symm, by rw [HXI.out, HYL.out]; exact hd⟩
        · rw [decide_eq_false hd] at hle
          go_wp2
          go_quiet (fail)
          go_wp2
          go_ret
          rw [HR.out, okBr_bad HX.out HY.out fun h => hd (by rw [← HXI.out, ← HYL.out]; exact h.2)]
          exact ⟨rfl, below_drewN hbw _⟩
      · have hq : ((h1 : Int) == (h2' : Int)) = false := by simp only [beq_eq_false_iff_ne, ne_eq]; omega
        have hq2 : ((h1 : Int) != (h2' : Int)) = true := by simp only [bne_iff_ne, ne_eq]; omega
        go_wp2
        go_quiet (fail)
        go_wp2
        go_ret
        rw [HR.out, okBr_bad HX.out HY.out fun h => hh (by rw [← HXH.out, ← HYH.out]; exact h.1)]
        exact ⟨rfl, below_drewN hbw _⟩
    · have he : k = n - 1 := by omega
      subst he
      go_wp2
      go_ret
      rw [HR.out, okBr_good (by rw [krs_len, Hn.out]; omega) (by rw [krs_len, Hn.out]; omega) fun j a b ha hbb => HG.out j a b (by have := (List.getElem?_eq_some_iff.1 hbb).1; rw [krs_len, Hn.out] at this; omega) ha hbb]
      exact ⟨rfl, hbw⟩

/-- A branch of these nodes: its box. -/
structure BranchR (N : NR) (L : List (Nat × NR)) : Prop where
  ea : N.ea = none
  en : N.en = 0
  kn : N.kn = L.length
  h : ∀ x, L[0]? = some x → N.h = x.2.h + 1
  lo : ∀ x, L[0]? = some x → N.lo = x.2.lo
  hi : ∀ x, L[L.length - 1]? = some x → N.hi = x.2.hi
  lk : N.lk = !(krs L).all goodK
/-- What node.Branch answers: a new node, or none. -/
def BranchPost (w : World) (L : List (Nat × NR)) (e : Ending) (w' : World) : Prop :=
  Below w.heap.size w w' ∧ ((okBr (krs L) = true ∧ ∃ b N, e = .returned (.tuple #[pn b, .int .i64 0]) ∧ w.heap.size ≤ b ∧ NodeAt w' b N ∧ BranchR N L ∧ Ls pcP w' N.ka (ptrs L) ∧ (∀ ad, N.ka = some ad → w.heap.size ≤ ad.block ∧ ad.block < w'.heap.size)) ∨
    (okBr (krs L) = false ∧ e = .returned (.tuple #[.pointer none, .int .i64 1])))

theorem OwnL.addr_ge {α : Type} {f : α → List Value} {k : Nat} {t : TypeId} {w : World} {base n c : Nat} {A : Option Addr} {l : List α} (h : OwnL f t k w base (.slice A n c) l) : ∀ ad, A = some ad → base ≤ ad.block ∧ ad.block < w.heap.size := by
  intro ad e
  subst e
  rcases h.2 with ⟨hv, _⟩ | ⟨g, cap, cur, hv, hg, hh, _⟩
  · cases hv
  · cases hv
    exact ⟨hg, lt_of_block hh⟩

theorem branch_nil (A : Option Addr) (n c : Nat) (l : List (Option Nat)) (w : World) (hr : Ls pcP w A l) (hn : l.length = n) (hb : n ≤ 100000000000) (hm : n < 2 ∨ none ∈ l) :
    Calls Try.prog 56 #[.slice A n c] w fun e w' => e = .returned (.tuple #[.pointer none, .int .i64 1]) ∧ w = w' := by
  have Hn := Lib.hid hn
  have HM := Lib.hid hm
  clear hn hm
  go_enter Try.func56, Try.ntmps56
  go_wp2_with fail
  refine (validBranch_nil A n c l w hr Hn.out hb HM.out).mono ?_
  rintro e w1 ⟨rfl, rfl⟩
  go_wp2
  go_ret2
  exact ⟨rfl, rfl⟩

set_option maxHeartbeats 1000000 in
set_option maxRecDepth 100000 in
theorem branch_any (A : Option Addr) (n c : Nat) (L : List (Nat × NR)) (w : World) (hr : Ls pcP w A (ptrs L)) (hn : L.length = n) (hc : n ≤ c) (hb : n ≤ 1000000) (ha : All w L) (ht : Tame L) :
    Calls Try.prog 56 #[.slice A n c] w (BranchPost w L) := by
  have Hn := Lib.hid hn
  have HA := Lib.hid ha
  have HT := Lib.hid ht
  clear hn ha ht
  go_enter Try.func56, Try.ntmps56
  go_wp2_with fail
  refine (validBranch_any A n c L w hr Hn.out hc hb HA.out HT.out).mono ?_
  rintro e w1 ⟨rfl, hb1⟩
  obtain ⟨r, hR⟩ : ∃ r, r = okBr (krs L) := ⟨_, rfl⟩
  rw [← hR]
  have HR := Lib.hid hR
  clear hR
  cases r with
  | false =>
    go_wp2
    go_ret2
    exact ⟨hb1, .inr ⟨HR.out.symm, rfl⟩⟩
  | true =>
    have hlen := okBr_len HR.out.symm
    rw [krs_len, Hn.out] at hlen
    have hn1 : 2 ≤ n := hlen.1
    have hn6 : n ≤ 6 := hlen.2
    clear hlen
    have hr1 := hr.below hb1
    obtain ⟨ad, x, rfl, hx, hl, q1⟩ := hr1.node_at (i := 0) (by rw [Hn.out]; omega)
    obtain ⟨ad', y, e', hy, _, p1⟩ := hr1.node_at (i := n - 1) (by rw [Hn.out]; omega)
    cases e'
    rw [show ad.add 0 = ad by simp [Addr.add]] at q1
    have ha1 := HA.out.below hb1
    have hnx := ha1.at_ hx
    have hny := ha1.at_ hy
    have htx := HT.out x (List.mem_of_getElem? hx)
    obtain ⟨W, hW⟩ : ∃ W, W = w1.drew := ⟨_, rfl⟩
    have hbW : Below w1.heap.size w1 W := by rw [hW]; exact (Below.refl _ _).drew
    have f1 : ∀ d os, (grow (redrawn W d) os).cell? ad = some (pn x.1) := fun d os => (((bthen hbW (below_regrown W d os)).cell hl).trans q1)
    have f2 : ∀ d os, (grow (redrawn W d) os).cell? (ad.add (n - 1)) = some (pn y.1) := fun d os => (((bthen hbW (below_regrown W d os)).cell (by rw [block_of_add]; exact hl)).trans p1)
    have f3 : ∀ d os, (grow (redrawn W d) os).cell? ⟨x.1, 2, none⟩ = some (.int .i64 (x.2.h : Int)) := fun d os => (hnx.below (bthen hbW (below_regrown W d os))).c2
    have f4 : ∀ d os, (grow (redrawn W d) os).cell? ⟨x.1, 3, none⟩ = some (.string x.2.lo) := fun d os => (hnx.below (bthen hbW (below_regrown W d os))).c3
    have f5 : ∀ d os, (grow (redrawn W d) os).cell? ⟨y.1, 4, none⟩ = some (.string y.2.hi) := fun d os => (hny.below (bthen hbW (below_regrown W d os))).c4
    have HX := Lib.hid hx
    have HY := Lib.hid hy
    have HW := Lib.hid hW
    have HRW := Lib.hid (hr1.below hbW)
    have HAW := Lib.hid (ha1.below hbW)
    have HBW := Lib.hid (bthen hb1 hbW)
    clear hx hy hW q1 p1 hbW hr1 hb1 hr hnx hny ha1
    obtain ⟨bx, Nx⟩ := x
    obtain ⟨by_, Ny⟩ := y
    simp only at *
    obtain ⟨hxx, hhxx⟩ : ∃ h, h = Nx.h := ⟨_, rfl⟩
    obtain ⟨lox, hlox⟩ : ∃ h, h = Nx.lo := ⟨_, rfl⟩
    obtain ⟨hiy, hhiy⟩ : ∃ h, h = Ny.hi := ⟨_, rfl⟩
    rw [← hhxx] at f3 htx
    rw [← hlox] at f4
    rw [← hhiy] at f5
    have H1 := Lib.hid hhxx
    have H2 := Lib.hid hlox
    have H3 := Lib.hid hhiy
    clear hhxx hlox hhiy
    go_wp2_with fail
    refine wp_region_segs [([0, 2, 3, 4, 5, 6, 7, 8, 9, 10, 11, 12, 13, 14, 15, 16, 17, 18, 19, 20, 21, 22, 23, 24], 1), ([], 25), ([26], 27)] [28, 29] (by kernel_rfl) (by kernel_rfl) (by kernel_rfl) (by kernel_rfl) (by intro c a d v w h; cases d <;> exact h) ?_
    rw [← HW.out]
    refine wpSegs_more ?_
    simp only [pick, List.getElem?_cons_zero, List.getElem?_cons_succ]
    repeat (first | go_big_quiet_step (fail) | quiet_step (fail))
    refine wpQuiet_nil ?_
    refine wpOp_heavy rfl (by rfl) (fun K hK => ?_)
    go_simp
    refine (cloneP_any (some ad) n c (ptrs L) W HRW.out ((ptrs_len L).trans Hn.out) (by omega)).mono ?_
    rintro e w2 ⟨v, rfl, hown, hb2⟩
    obtain ⟨A2, c2, rfl, hc2, hls2⟩ := hown.form
    rw [ptrs_len, Hn.out] at hown ⊢
    have HOW := Lib.hid hown
    have HLS := Lib.hid hls2
    have HB2 := Lib.hid hb2
    refine hK _ _ hb2 ?_
    clear hK K hown hls2 hb2 f1 f2 f3 f4 f5 hc2
    refine wpSegs_more ?_
    simp only [pick]
    refine wpQuiet_nil ?_
    refine wpOp_heavy rfl (by rfl) (fun K hK => ?_)
    go_simp
    refine (anyLacks_any (some ad) n c L w2 (HRW.out.below HB2.out) Hn.out hb (HAW.out.below HB2.out) HT.out).mono ?_
    rintro e w3 ⟨hb3, rfl⟩
    obtain ⟨lk, hlk⟩ : ∃ lk, lk = (!(krs L).all goodK) := ⟨_, rfl⟩
    rw [← hlk]
    have HLK := Lib.hid hlk
    have HB3 := Lib.hid hb3
    refine hK _ _ hb3 ?_
    clear hK K hlk hb3
    refine wpSegs_more ?_
    simp only [pick, List.getElem?_cons_zero, List.getElem?_cons_succ]
    repeat (first | go_big_quiet_step (fail) | quiet_step (fail))
    refine wpQuiet_nil ?_
    refine wpOp_heavy rfl (by rfl) (fun K hK => ?_)
    go_simp
    have hbn : Below w3.heap.size w3 (w3.alloc (.cells (NR.cells ⟨none, 0, 0, A2, n, c2, hxx + 1, lox, hiy, lk⟩) 93)) := (Below.refl _ _).alloc (Nat.le_refl _) _
    refine hK _ _ hbn ?_
    clear hK K
    refine wpSegs_last ?_
    simp only [pick, List.getElem?_cons_zero, List.getElem?_cons_succ]
    repeat (first | go_big_quiet_step (fail) | quiet_step (fail))
    refine wpQuiet_nil ?_
    go_wp2
    go_ret2
    refine ⟨bthen HBW.out (bthen HB2.out (bthen HB3.out hbn)), .inl ⟨HR.out.symm, w3.heap.size, ⟨none, 0, 0, A2, n, c2, hxx + 1, lox, hiy, lk⟩, rfl, ?_, NodeAt.new w3 ⟨none, 0, 0, A2, n, c2, hxx + 1, lox, hiy, lk⟩, ⟨rfl, rfl, Hn.out.symm, ?_, ?_, ?_, HLK.out⟩, HLS.out.below (bthen HB3.out hbn), ?_⟩⟩
    · exact Nat.le_trans HBW.out.size (Nat.le_trans HB2.out.size HB3.out.size)
    · intro e he
      rw [HX.out] at he
      cases he
      exact congrArg (· + 1) H1.out
    · intro e he
      rw [HX.out] at he
      cases he
      exact H2.out
    · intro e he
      rw [Hn.out, HY.out] at he
      cases he
      exact H3.out
    · intro a he
      obtain ⟨h1, h2⟩ := HOW.out.addr_ge a he
      exact ⟨Nat.le_trans HBW.out.size h1, Nat.lt_of_lt_of_le h2 (bthen HB3.out hbn).size⟩

end Go.Proofs.Ytkooaechcbopnaa
