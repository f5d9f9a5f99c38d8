/-
  The contract of Pages.All: all pages, rising, each once; conditions: few pages.
-/
import Derived.Test.YtelenboncejdaaaGreatDoorShSet
import Derived.Test.YtelenboncejdaaaGreatDoorShSort
import Derived.Sort.OwnSortedInts
import Derived.Lib.OwnBridge
namespace Go.Proofs.YtelenboncejdaaaGreatDoor
open Go.RowKit Go.Sort
open Go.ChangeMaps (setBlock)
set_option linter.unusedVariables false
set_option linter.unusedSimpArgs false

/-- Rising, each once. -/
def Rising (l : List Int) : Prop := l.Pairwise (· < ·)
theorem rising_ext : ∀ {l m : List Int}, Rising l → Rising m → (∀ e, e ∈ l ↔ e ∈ m) → l = m
  | [], [], _, _, _ => rfl
  | [], x :: m, _, _, h => absurd ((h x).2 (List.mem_cons_self ..)) (by simp)
  | x :: l, [], _, _, h => absurd ((h x).1 (List.mem_cons_self ..)) (by simp)
  | x :: l, y :: m, hl, hm, h => by
    have hl' := List.pairwise_cons.1 hl
    have hm' := List.pairwise_cons.1 hm
    have hxy : x = y := by
      rcases List.mem_cons.1 ((h x).1 (List.mem_cons_self ..)) with e | hx
      · exact e
      · rcases List.mem_cons.1 ((h y).2 (List.mem_cons_self ..)) with e | hy
        · exact e.symm
        · have := hl'.1 y hy
          have := hm'.1 x hx
          omega
    subst hxy
    rw [rising_ext hl'.2 hm'.2 fun e => ?_]
    constructor
    · intro he
      rcases List.mem_cons.1 ((h e).1 (List.mem_cons_of_mem _ he)) with rfl | hx
      · have := hl'.1 e he
        omega
      · exact hx
    · intro he
      rcases List.mem_cons.1 ((h e).2 (List.mem_cons_of_mem _ he)) with rfl | hx
      · have := hm'.1 e he
        omega
      · exact hx
theorem compact_inv {d : Array Int} (hd : d.toList.Pairwise (· ≤ ·)) : ∀ m, m ≤ d.size → Rising (Lib.compactUpTo d m) ∧ (∀ x ∈ Lib.compactUpTo d m, ∀ j, m = j + 1 → x ≤ d[j]!) ∧ (∀ x, x ∈ Lib.compactUpTo d m ↔ ∃ j, j < m ∧ d[j]! = x)
  | 0, _ => ⟨by simp [Lib.compactUpTo, Rising], by simp [Lib.compactUpTo], by simp [Lib.compactUpTo]⟩
  | m + 1, hm => by
    obtain ⟨h1, h2, h3⟩ := compact_inv hd m (by omega)
    have hmono : ∀ i j, i ≤ j → j < d.size → d[i]! ≤ d[j]! := by
      intro i j hij hj
      rcases Nat.lt_or_ge i j with h | h
      · have := List.pairwise_iff_getElem.1 hd i j (by simpa using by omega) (by simpa using hj) h
        rw [getElem!_pos d i (by omega), getElem!_pos d j hj]
        simpa using this
      · rw [show i = j by omega]
        exact Int.le_refl _
    rw [Lib.compactUpTo_succ]
    by_cases hk : Lib.keeps d m = true
    · rw [if_pos hk]
      have hlt : ∀ x ∈ Lib.compactUpTo d m, x < d[m]! := by
        intro x hx
        cases m with
        | zero => simp [Lib.compactUpTo] at hx
        | succ m =>
          have hx1 := h2 x hx m rfl
          have hx2 := hmono m (m + 1) (by omega) (by omega)
          have hne : d[m + 1]! ≠ d[m]! := by
            simp only [Lib.keeps, decide_eq_true_eq, Nat.add_sub_cancel] at hk
            exact hk.resolve_left (by omega)
          omega
      refine ⟨?_, ?_, ?_⟩
      · refine List.pairwise_append.2 ⟨h1, by simp, fun x hx y hy => ?_⟩
        rw [List.mem_singleton.1 hy]
        exact hlt x hx
      · intro x hx j hj
        have : j = m := by omega
        subst this
        rcases List.mem_append.1 hx with hx | hx
        · exact Int.le_of_lt (hlt x hx)
        · rw [List.mem_singleton.1 hx]
          exact Int.le_refl _
      · intro x
        rw [List.mem_append, h3]
        constructor
        · rintro (⟨j, hj, e⟩ | hx)
          · exact ⟨j, by omega, e⟩
          · exact ⟨m, by omega, (List.mem_singleton.1 hx).symm⟩
        · rintro ⟨j, hj, e⟩
          rcases Nat.lt_or_ge j m with h | h
          · exact .inl ⟨j, h, e⟩
          · have : j = m := by omega
            subst this
            exact .inr (by rw [e]; simp)
    · have hk' : Lib.keeps d m = false := by simpa using hk
      rw [if_neg (by simp [hk']), List.append_nil]
      have hm0 : ∃ k, m = k + 1 := by
        cases m with
        | zero => simp [Lib.keeps] at hk'
        | succ m => exact ⟨m, rfl⟩
      obtain ⟨k, rfl⟩ := hm0
      have he : d[k + 1]! = d[k]! := by
        simp only [Lib.keeps, decide_eq_false_iff_not, not_or, Nat.add_sub_cancel] at hk'
        exact Decidable.not_not.1 hk'.2
      refine ⟨h1, ?_, ?_⟩
      · intro x hx j hj
        have : j = k + 1 := by omega
        subst this
        rw [he]
        exact h2 x hx k rfl
      · intro x
        rw [h3]
        constructor
        · rintro ⟨j, hj, e⟩
          exact ⟨j, by omega, e⟩
        · rintro ⟨j, hj, e⟩
          rcases Nat.lt_or_ge j (k + 1) with h | h
          · exact ⟨j, h, e⟩
          · have : j = k + 1 := by omega
            subst this
            exact ⟨k, by omega, by rw [← he]; exact e⟩
/-- Numbers sorted and compacted: rising, and the same. -/
theorem compact_sort (zs : List Int) : Rising (Lib.compact (zs.mergeSort fun x y => decide (x ≤ y))) ∧ ∀ x, x ∈ Lib.compact (zs.mergeSort fun x y => decide (x ≤ y)) ↔ x ∈ zs := by
  have hs : (zs.mergeSort fun x y => decide (x ≤ y)).Pairwise (· ≤ ·) := by
    have := List.pairwise_mergeSort (le := fun x y : Int => decide (x ≤ y)) (by intro a b c h k; simp at *; omega) (by intro a b; simp; omega) zs
    exact this.imp fun h => by simpa using h
  have hp := List.mergeSort_perm zs fun x y : Int => decide (x ≤ y)
  generalize hm : zs.mergeSort (fun x y => decide (x ≤ y)) = ms at *
  obtain ⟨h1, _, h3⟩ := compact_inv (d := ms.toArray) (by simpa using hs) ms.length (by simp)
  refine ⟨h1, fun x => ?_⟩
  unfold Lib.compact
  rw [h3, ← hp.mem_iff]
  constructor
  · rintro ⟨j, hj, rfl⟩
    rw [getElem!_pos ms.toArray j (by simpa using hj)]
    simp
  · intro hx
    obtain ⟨j, hj, e⟩ := List.getElem_of_mem hx
    exact ⟨j, hj, by rw [getElem!_pos ms.toArray j (by simpa using hj)]; simpa using e⟩

/-- append(v, l...): onto a row of the call's own that is not nil. -/
theorem run_append_ints {w : World} {base : Nat} {v : Value} {xs : List Int} (hown : OwnI w base v xs) (hv : v ≠ .slice none 0 0) {A : Option Addr} {l : List Int} (n c : Nat) (hr : Ls icell w A l) (hn : l.length = n) (hb : xs.length + n ≤ 1000000) (hbase : base ≤ w.heap.size) :
    ∃ v' w', (Builtin.append_ #[38, 38] 38 #[v, .slice A n c]).run Tryz.prog w = .ok v' w' ∧ OwnI w' base v' (xs ++ l) ∧ v' ≠ .slice none 0 0 ∧ w.grownBy w' v.ownBlock := by
  rcases A with _ | ad
  · have h0 : l = [] := by
      rcases Nat.eq_zero_or_pos l.length with h0 | h0
      · exact List.eq_nil_of_length_eq_zero h0
      · obtain ⟨ad, e, _⟩ := hr h0
        cases e
    obtain ⟨v', w', h1, h2, h3⟩ := run_append_ls ienc 38 3 38 _ _ ⟨_, Tryz.underlying38, rfl⟩ intInfo rfl (by omega) (by omega) hown n c hr hn hb hbase
    refine ⟨v', w', h1, h2, ?_, h3⟩
    subst h0
    have hn0 : n = 0 := hn.symm
    subst hn0
    obtain ⟨i0, hi0, hz0, hz1, hz2⟩ := info_parts intInfo
    rcases hown.2 with ⟨rfl, _⟩ | ⟨g, cap, cur, rfl, _, _, hnc, _⟩
    · exact absurd rfl hv
    · simp [Builtin.append_, run_underlying Tryz.underlying38, sizeOf, typeInfo, hi0, Builtin.lenOf, Builtin.firstCells, hnc, storeCells] at h1
      intro e
      rw [e] at h1
      simp at h1
  · subst hn
    obtain ⟨i0, hi0, hz0, hz1, hz2⟩ := info_parts intInfo
    have hcells : ∀ j u, (l.flatMap icell)[j]? = some u → w.cell? (ad.add j) = some u := by
      intro j u hu
      have hl : 0 < l.length := by
        have := (List.getElem?_eq_some_iff.1 hu).1
        rw [ienc.flen] at this
        omega
      obtain ⟨ad', e, _, hc⟩ := hr hl
      cases e
      exact hc j u hu
    obtain ⟨v', w', h1, h2, h3, h4, _⟩ := run_append_own_at (P := Tryz.prog) (w := w) base 38 38 3 i0 _ 1 8 Tryz.underlying38 hi0 hz0 hz1 hz2 rfl (by omega) v xs.length (xs.flatMap icell) hown ad l.length c (l.flatMap icell) (ienc.flen l) hcells (ienc.fone l) (by simp only [maxLen]; omega) (by omega) hbase
    refine ⟨v', w', h1, ?_, fun e => hv (h4.1 e).1, h3⟩
    unfold OwnI OwnL
    rw [List.flatMap_append, List.length_append]
    exact h2

/-- The pages of the entries that are still to come. -/
def toGo (R : List PR) (seen : Array Nat) : Nat := (R.zipIdx.map fun p => if seen.contains p.2 then 0 else p.1.l.length).sum
theorem go_push (seen : Array Nat) (r : PR) (i : Nat) (hs : seen.contains i = false) : ∀ (R : List PR) (k : Nat), k ≤ i → R[i - k]? = some r →
    ((R.zipIdx k).map fun p => if seen.contains p.2 then 0 else p.1.l.length).sum = ((R.zipIdx k).map fun p => if (seen.push i).contains p.2 then 0 else p.1.l.length).sum + r.l.length
  | [], k, _, h => by simp at h
  | x :: R, k, hk, h => by
    have hpush : ∀ y, (seen.push i).contains y = (seen.contains y || y == i) := fun y => contains_push seen i y
    rw [List.zipIdx_cons, List.map_cons, List.map_cons, List.sum_cons, List.sum_cons]
    by_cases he : k = i
    · subst he
      have hx : x = r := by simpa using h
      subst hx
      have hrest : ∀ (R : List PR) (j : Nat), k < j → ((R.zipIdx j).map fun p => if seen.contains p.2 then 0 else p.1.l.length) = ((R.zipIdx j).map fun p => if (seen.push k).contains p.2 then 0 else p.1.l.length) := by
        intro R
        induction R with
        | nil => intro j _; rfl
        | cons y R ih =>
          intro j hj
          have hjk : (j == k) = false := beq_eq_false_iff_ne.2 (by omega)
          rw [List.zipIdx_cons, List.map_cons, List.map_cons, ih (j + 1) (by omega)]
          simp only [hpush, hjk, Bool.or_false]
      rw [hrest R (k + 1) (by omega)]
      simp only [hs, hpush, beq_self_eq_true, Bool.or_true, if_true, Bool.false_eq_true, if_false]
      omega
    · have hlt : k < i := by omega
      have hki : (k == i) = false := beq_eq_false_iff_ne.2 (by omega)
      have h' : R[i - (k + 1)]? = some r := by
        rw [show i - k = (i - (k + 1)) + 1 by omega, List.getElem?_cons_succ] at h
        exact h
      rw [go_push seen r i hs R (k + 1) (by omega) h']
      simp only [hpush, hki, Bool.or_false]
      omega
theorem toGo_push {R : List PR} {seen : Array Nat} {r : PR} {i : Nat} (hs : seen.contains i = false) (hb : R[i]? = some r) : toGo R seen = toGo R (seen.push i) + r.l.length := by
  have := go_push seen r i hs R 0 (Nat.zero_le _) (by simpa using hb)
  simpa [toGo] using this
theorem pents_mem {R : List PR} {e : MapEntry} (he : e ∈ (pents R).toArray.toList) : ∃ i r, R[i]? = some r ∧ e = ⟨pn r.b, r.v, i⟩ := by
  obtain ⟨i, hi⟩ := List.getElem?_of_mem he
  change (pents R)[i]? = some e at hi
  rw [pents_at] at hi
  obtain ⟨b, hb, rfl⟩ := Option.map_eq_some_iff.1 hi
  exact ⟨i, b, hb, rfl⟩
theorem pents_seen {R : List PR} {seen : Array Nat} (h : (leftOf (pents R).toArray seen).size = 0) {i : Nat} {r : PR} (hb : R[i]? = some r) : seen.contains i = true := by
  have hm : (⟨pn r.b, r.v, i⟩ : MapEntry) ∈ (pents R).toArray.toList := List.mem_of_getElem? (l := pents R) (i := i) (by rw [pents_at, hb]; rfl)
  exact all_seen _ _ h _ hm
theorem pents_born (R : List PR) : ((pents R).toArray.toList.map (·.born)).Nodup := by
  show ((pents R).map (·.born)).Nodup
  have : (pents R).map (·.born) = List.range R.length := by
    simp only [pents, List.map_map]
    apply List.ext_getElem?
    intro i
    simp only [List.getElem?_map, List.getElem?_zipIdx, List.getElem?_range]
    by_cases hi : i < R.length
    · simp [hi]
    · simp [hi]
  rw [this]
  exact List.nodup_range
theorem pents_old (R : List PR) : ∀ x ∈ (pents R).toArray.toList, x.born < R.length := fun x hx => by
  obtain ⟨i, b, hb, rfl⟩ := pents_mem hx
  exact (List.getElem?_eq_some_iff.1 hb).1

/-- What All answers. -/
def AllPost (w : World) (M : PM) (r : Ending) (w' : World) : Prop := ∃ v l, r = .returned v ∧ OwnI w' w.heap.size v l ∧ Rising l ∧ (∀ x, x ∈ l ↔ ∃ y ∈ M, x ∈ y.2) ∧ Below w.heap.size w w'
theorem AllPost.mk' {w w1 : World} {zs : List Int} {v : Value} {M : PM} (ho : OwnI w1 w.heap.size v zs) (hv : v ≠ .slice none 0 0) (hb : Below w.heap.size w w1) (hm : ∀ x, x ∈ zs ↔ ∃ y ∈ M, x ∈ y.2) :
    ∃ g c, v = .slice (some ⟨g, 0, none⟩) zs.length c ∧ zs.length ≤ c ∧ g < w1.heap.size ∧ Holds (Value.int .i64) w1 g 0 zs.toArray ∧ ∀ n os, ∃ ys, zs.mergeSort (fun x y => decide (x ≤ y)) = ys ∧ ys.length = zs.length ∧
      Holds (Value.int .i64) (grow (putRow (Value.int .i64) (Sort.ahead w1 n) g 0 ys.toArray) os) g 0 ys.toArray ∧
      ∀ q, AllPost w M (.returned (.slice (some ⟨g, 0, none⟩) (Lib.compact ys).length c)) (putRow (Value.int .i64) (Sort.ahead (grow (putRow (Value.int .i64) (Sort.ahead w1 n) g 0 ys.toArray) os) q) g 0 (Lib.compact ys ++ List.replicate (ys.length - (Lib.compact ys).length) 0).toArray) := by
  have ho' : w1.ownsRow w.heap.size 3 1 v zs.length (zs.map (Value.int .i64)) := by
    have := ho
    unfold OwnI OwnL at this
    rw [icell_flat] at this
    exact this
  obtain ⟨g, c, rfl, hg, hlt, hc, hc2, _, hH⟩ := Lib.holds_of_ownsRow ho' hv
  refine ⟨g, c, rfl, hc, hlt, hH, fun n os => ⟨_, rfl, List.length_mergeSort zs, ?_, fun q => ?_⟩⟩
  · exact holds_grow _ _ _ _ _ _ (by simpa using hlt) (holds_putRow _ _ _ _ zs.toArray _ (holds_ahead _ _ _ _ _ _ hH) (by simp))
  · obtain ⟨h1, h2⟩ := compact_sort zs
    have hl2 : (zs.mergeSort fun x y => decide (x ≤ y)).length = zs.length := List.length_mergeSort zs
    generalize (zs.mergeSort fun x y => decide (x ≤ y)) = ys at *
    have hle : (Lib.compact ys).length ≤ ys.length := by
      rw [Lib.compact, Lib.compactUpTo, List.length_map]
      refine Nat.le_trans (List.length_filter_le ..) (by simp)
    rcases ho'.2 with ⟨h0, _⟩ | ⟨g', cap', cur, hv', hbase, hb', k1, k2, k3, k4⟩
    · cases h0
    cases hv'
    have hs := ownsRow_sortedI (n := n) (os := os) (ts := ys) hl2 hbase hb' k1 k2 k3
    rw [← hl2] at hs
    have hcp := Lib.ownsRow_putRow (q := q) (k := (Lib.compact ys).length) (ys := Lib.compact ys ++ List.replicate (ys.length - (Lib.compact ys).length) 0) hs (by simp; omega) (by omega)
    rw [List.take_left] at hcp
    refine ⟨_, Lib.compact ys, rfl, ?_, h1, fun x => (h2 x).trans (hm x), Lib.below_putRow (hb.grown (grownBy_sortedI _) hb.size (fun j hj => by cases hj; exact hbase)) hg⟩
    unfold OwnI OwnL
    rw [icell_flat]
    exact hcp

theorem all_nil (w : World) : Calls Tryz.prog 17 #[.pointer none] w (AllPost w []) := by
  go_enter Tryz.func17, Tryz.ntmps17
  go_wp2
  go_ret
  exact ⟨_, [], rfl, OwnL.nil_ _ _ _, List.Pairwise.nil, by simp, Below.refl _ _⟩
theorem empty_row (w : World) : OwnI (w.alloc (.cells #[] 3)) w.heap.size (.slice (some ⟨w.heap.size, 0, none⟩) 0 0) [] := OwnL.empty _ w
theorem AllPost.of_empty {w w1 w2 : World} {g c : Nat} (h : Below w.heap.size w w2) (hg : OwnI w2 w.heap.size (.slice (some ⟨g, 0, none⟩) 0 c) []) : AllPost w [] (.returned (.slice (some ⟨g, 0, none⟩) 0 c)) w2 :=
  ⟨_, [], rfl, hg, List.Pairwise.nil, by simp, h⟩

set_option maxHeartbeats 1000000 in
set_option maxRecDepth 100000 in
theorem all_some {w : World} {g m : Nat} {R : List PR} (h : PB w g (some m) R) (hl : toGo R #[] ≤ 1000000) : Calls Tryz.prog 17 #[.pointer (some ⟨g, 0, none⟩)] w (AllPost w (Mof R)) := by
  have HPB := Lib.hid h
  have HL := Lib.hid hl
  have hb0 : Below w.heap.size w (w.alloc (.cells #[] 3)) := (Below.refl _ _).alloc (Nat.le_refl _) _
  have c0 := cell_at ((hb0.block g (lt_of_block h.box)).trans h.box) 0 (.map (some m)) rfl
  have hmr := h.map m rfl
  have hm1 : MapIs (w.alloc (.cells #[] 3)) m R := (hb0.block m hmr.lt).trans hmr
  have hrg := run_range_map (P := Tryz.prog) (w.alloc (.cells #[] 3)) 80 25 38 m (pents R).toArray R.length Tryz.underlying80 hm1
  have HO := Lib.hid (empty_row w)
  have HB0 := Lib.hid hb0
  have HM1 := Lib.hid hm1
  clear h hl hb0 hmr hm1
  go_enter Tryz.func17, Tryz.ntmps17
  go_wp2_with fail
  have e1 : (w.alloc (.cells #[] 3)).heap.size = w.heap.size + 1 := by simp
  generalize hW1 : w.alloc (.cells #[] 3) = W1 at *
  obtain ⟨r, hr⟩ : ∃ r, r = W1.heap.size := ⟨_, rfl⟩
  have HR0 : Hid ((W1.alloc (.mapIter (some m) R.length #[] R.length)).heap[r]? = some (.mapIter (some m) R.length #[] R.length)) := Lib.hid (by rw [hr]; exact heap_alloc_new _ _)
  have HS1 : Hid (MapIs (W1.alloc (.mapIter (some m) R.length #[] R.length)) m R) := Lib.hid ((heap_alloc_old _ _ HM1.out.lt).trans HM1.out)
  have HBW : Hid (Below w.heap.size w (W1.alloc (.mapIter (some m) R.length #[] R.length))) := Lib.hid (HB0.out.alloc HB0.out.size _)
  have HOW : Hid (OwnI (W1.alloc (.mapIter (some m) R.length #[] R.length)) w.heap.size (.slice (some ⟨w.heap.size, 0, none⟩) 0 0) []) := Lib.hid (HO.out.below ((Below.refl _ _).alloc (Nat.le_refl _) _))
  have HGR : Hid (w.heap.size ≤ r ∧ r ≠ m) := Lib.hid ⟨by rw [hr]; exact HB0.out.size, fun e => by
    have := HM1.out.lt
    omega⟩
  rw [← e1, ← hr]
  have HRO : Hid (RowsIn (W1.alloc (.mapIter (some m) R.length #[] R.length)) R) := Lib.hid (HPB.out.rows.below HBW.out)
  clear hr hW1 e1
  go_loopw [3] (fun s3 wr => ∃ (seen : Array Nat) (c0 : Nat) (zs : List Int) (v3 : Value), v3 = s3 ∧ wr.heap[r]? = some (.mapIter (some m) R.length seen c0) ∧ R.length ≤ c0 ∧ MapIs wr m R ∧ RowsIn wr R ∧ Below w.heap.size w wr ∧ OwnI wr w.heap.size v3 zs ∧ v3 ≠ .slice none 0 0 ∧ zs.length + toGo R seen = toGo R #[] ∧ (∀ x, x ∈ zs ↔ ∃ i q, R[i]? = some q ∧ seen.contains i = true ∧ x ∈ q.l)) (fun _ wr => wr.rangeLeft m r)
  case atStart => exact ⟨#[], _, [], _, rfl, HR0.out, Nat.le_refl _, HS1.out, HRO.out, HBW.out, HOW.out, by simp, by simp, by simp⟩
  case round =>
    obtain ⟨seen, c0, zs, v3, rfl, hrr, hc0, hs1, hro, hbw, hown, hnn, htot, hmem⟩ := hrel
    have HC0 := Lib.hid hc0
    have HS1 := Lib.hid hs1
    have HRO := Lib.hid hro
    have HBW := Lib.hid hbw
    have HOWN := Lib.hid hown
    have HNN := Lib.hid hnn
    have HTOT := Lib.hid htot
    have HMEM := Lib.hid hmem
    have HRR := Lib.hid hrr
    clear hc0 hs1 hbw hown hnn htot hmem hrr hro
    rcases run_next_at (P := Tryz.prog) wr 0 r m R.length c0 seen (pents R).toArray R.length HRR.out HS1.out (pents_old R) HC0.out with ⟨h0, hrun⟩ | ⟨e, he, w1, hw1, hrun⟩
    · have hnx : ∀ ty, (Instr.next (.pointer (some ⟨r, 0, none⟩)) false ty).run Tryz.prog wr = .ok (.tuple #[.bool false]) wr := fun ty => hrun
      have hmm : ∀ x, x ∈ zs ↔ ∃ y ∈ Mof R, x ∈ y.2 := fun x => by
        rw [HMEM.out]
        constructor
        · rintro ⟨i, q, hq, _, hx⟩
          exact ⟨(q.b, q.l), List.mem_map.2 ⟨q, List.mem_of_getElem? hq, rfl⟩, hx⟩
        · rintro ⟨y, hy, hx⟩
          obtain ⟨q, hq, rfl⟩ := List.mem_map.1 hy
          obtain ⟨i, hi⟩ := List.getElem?_of_mem hq
          exact ⟨i, q, hi, pents_seen h0 hi, hx⟩
      obtain ⟨gg, c, rfl, hcc, hgl, hH, hrest⟩ := AllPost.mk' HOWN.out HNN.out HBW.out hmm
      have hzl : zs.length ≤ 1000000 := by
        have := HTOT.out
        have := HL.out
        omega
      have HH := Lib.hid hH
      have HREST := Lib.hid hrest
      clear hrun h0 hmm hH hrest
      go_wp2_with fail
      refine (sort_any gg 0 c zs wr HH.out hgl (by omega)).mono ?_
      rintro e w2 ⟨rfl, nn, os, hw2⟩
      obtain ⟨ys, hys, hyl, hH2, hpost⟩ := HREST.out nn os
      rw [hys] at hw2
      rw [← hw2] at hH2 hpost
      have HPOST := Lib.hid hpost
      have HH2 := Lib.hid hH2
      clear hw2 hpost hH2 hys HREST
      go_wp2_with fail
      rw [← hyl]
      refine (compact_any gg 0 c ys w2 HH2.out (by omega) (by omega)).mono ?_
      rintro e w3 ⟨rfl, q, hw3⟩
      have hp := HPOST.out q
      rw [← hw3] at hp
      have HP := Lib.hid hp
      clear hw3 hp
      go_wp2
      go_ret
      exact HP.out
    · obtain ⟨hem, hsn⟩ := mem_left he
      obtain ⟨i, x, hbi, rfl⟩ := pents_mem hem
      have hlf := left_shrinks _ _ _ he
      have hh1 : w1.heap = wr.heap := by rcases hw1 with rfl | rfl <;> rfl
      have hbr1 : Below wr.heap.size wr w1 := by
        rcases hw1 with rfl | rfl
        · exact Below.refl _ _
        · exact (Below.refl _ _).drew
      have hr1 : w1.heap[r]? = some (.mapIter (some m) R.length seen c0) := by rw [hh1]; exact HRR.out
      have hs11 : MapIs w1 m R := by unfold MapIs; rw [hh1]; exact HS1.out
      simp only at hrun hsn hlf
      obtain ⟨w2, hw2⟩ : ∃ w2, w2 = setBlock w1 r (.mapIter (some m) R.length (seen.push i) R.length) := ⟨_, rfl⟩
      have hr2 : w2.heap[r]? = some (.mapIter (some m) R.length (seen.push i) R.length) := by rw [hw2]; exact setBlock_at hr1
      have hs12 : MapIs w2 m R := by unfold MapIs; rw [hw2, setBlock_other _ _ _ _ (Ne.symm HGR.out.2)]; exact hs11
      have hg12 : w1.grownBy w2 (some r) := by rw [hw2]; exact grown_setBlock _ _ _
      have hbw2 : Below w.heap.size w w2 := (HBW.out.trans (hbr1.mono HBW.out.size)).grown hg12 (Nat.le_trans HBW.out.size hbr1.size) fun j hj => by cases hj; exact HGR.out.1
      have hcell : ∀ {k : Nat} {cs : Array Value} {t : TypeId}, wr.heap[k]? = some (.cells cs t (0, 0)) → w2.heap[k]? = wr.heap[k]? := fun {k cs t} hk => by
        rw [hw2, setBlock_other _ _ _ _ (fun e => by
          subst e
          rw [hk] at HRR
          have := HRR.out
          cases this), hh1]
      have hro2 : RowsIn w2 R := fun q hq => by
        obtain ⟨k1, N, k2⟩ := HRO.out q hq
        exact ⟨k1.keep fun g hg _ => (own_cells k1 g hg).elim fun cur hcur => hcell hcur, N, k2.keep (hcell k2)⟩
      have hown2 : OwnI w2 w.heap.size v3 zs := HOWN.out.keep fun g hg _ => (own_cells HOWN.out g hg).elim fun cur hcur => hcell hcur
      rw [← hw2] at hrun
      have hnx : ∀ ty, (Instr.next (.pointer (some ⟨r, 0, none⟩)) false ty).run Tryz.prog wr = .ok (.tuple #[.bool true, pn x.b, x.v]) w2 := fun ty => hrun
      have hen := run_entry_at (P := Tryz.prog) w2 r m R.length seen (pents R).toArray R.length _ hr2 hs12 hem (pents_born R)
      have hto := toGo_push hsn hbi
      obtain ⟨hxo, _⟩ := hro2 x (List.mem_of_getElem? hbi)
      obtain ⟨A, c, hxv, hxc, hxr⟩ := hxo.form
      have hbound : zs.length + x.l.length ≤ 1000000 := by
        have h1 := HTOT.out
        have h2 := HL.out
        omega
      obtain ⟨v', w3, hap, hown3, hnn3, hg3⟩ := run_append_ints hown2 HNN.out x.l.length c hxr rfl hbound hbw2.size
      have hfr : ∀ {k : Nat}, (∀ cs t, w2.heap[k]? ≠ some (.cells cs t (0, 0))) → k < w2.heap.size → w3.heap[k]? = w2.heap[k]? := fun {k} hk hlt => hg3.block k hlt fun e => by
        obtain ⟨cur, hcur⟩ := own_cells hown2 k e.symm
        exact hk _ _ hcur
      have hr3 : w3.heap[r]? = some (.mapIter (some m) R.length (seen.push i) R.length) := (hfr (fun cs t e => by rw [hr2] at e; cases e) (Array.getElem?_eq_some_iff.1 hr2).1).trans hr2
      have hs3 : MapIs w3 m R := (hfr (fun cs t e => by rw [show w2.heap[m]? = _ from hs12] at e; cases e) hs12.lt).trans hs12
      have hbw3 : Below w.heap.size w w3 := hown2.grow_below hbw2 hbw2.size hg3
      have HM0 : Hid (wr.rangeLeft m r = (leftOf (pents R).toArray seen).size) := Lib.hid (by
        have h1 : wr.heap[m]? = some (.map (pents R).toArray R.length) := HS1.out
        simp only [World.rangeLeft, h1, HRR.out])
      have HM3 : Hid (w3.rangeLeft m r < wr.rangeLeft m r) := Lib.hid (by
        rw [HM0.out]
        have h1 : w3.heap[m]? = some (.map (pents R).toArray R.length) := hs3
        simp only [World.rangeLeft, h1, hr3]
        exact hlf)
      have HROWS : Hid (RowsIn w3 R) := Lib.hid (HPB.out.rows.below hbw3)
      have HK : Hid ((zs ++ x.l).length + toGo R (seen.push i) = toGo R #[]) := Lib.hid (by rw [← HTOT.out, hto, List.length_append]; omega)
      have HX : Hid (∀ y, y ∈ zs ++ x.l ↔ ∃ j q, R[j]? = some q ∧ (seen.push i).contains j = true ∧ y ∈ q.l) := Lib.hid fun y => by
        rw [List.mem_append, HMEM.out]
        constructor
        · rintro (⟨j, q, h1, h2, h3⟩ | hy)
          · exact ⟨j, q, h1, by rw [contains_push, h2]; rfl, h3⟩
          · exact ⟨i, x, hbi, by rw [contains_push]; simp, hy⟩
        · rintro ⟨j, q, h1, h2, h3⟩
          rw [contains_push, Bool.or_eq_true] at h2
          rcases h2 with h2 | h2
          · exact .inl ⟨j, q, h1, h2, h3⟩
          · have hji : j = i := by simpa using h2
            subst hji
            rw [hbi] at h1
            cases h1
            exact .inr h3
      have HA := Lib.hid hap
      have HFIN : Hid (w3.heap[r]? = some (.mapIter (some m) R.length (seen.push i) R.length) ∧ MapIs w3 m R ∧ Below w.heap.size w w3 ∧ OwnI w3 w.heap.size v' (zs ++ x.l) ∧ v' ≠ .slice none 0 0) := Lib.hid ⟨hr3, hs3, hbw3, hown3, hnn3⟩
      obtain ⟨xv, hxv2⟩ : ∃ xv, xv = x.v := ⟨_, rfl⟩
      simp only at hen
      rw [← hxv2] at hnx hen
      rw [hxv2.symm.trans hxv2] at hxv2
      rw [hxv] at hxv2
      subst hxv2
      clear he hem hsn hbi hlf hh1 hbr1 hr1 hs11 hw2 hr2 hs12 hg12 hbw2 hcell hro2 hown2 hrun hto hxo hxv hxr hbound hap hown3 hnn3 hg3 hfr hr3 hs3 hbw3 hw1
      go_wp2_with (at_builtin; refine wpList_append_ran rfl (.tmp 18) (.tmp 19) 38 rfl _ _ _ _ rfl rfl HA.out ?_)
      exact ⟨⟨seen.push i, R.length, zs ++ x.l, v', rfl, HFIN.out.1, Nat.le_refl _, HFIN.out.2.1, HROWS.out, HFIN.out.2.2.1, HFIN.out.2.2.2.1, HFIN.out.2.2.2.2, HK.out, HX.out⟩, HM3.out⟩

set_option maxHeartbeats 1000000 in
set_option maxRecDepth 100000 in
theorem all_zero {w : World} {g : Nat} (h : w.heap[g]? = some (.cells #[.map none] 82 (0, 0))) : Calls Tryz.prog 17 #[.pointer (some ⟨g, 0, none⟩)] w (AllPost w []) := by
  have hb0 : Below w.heap.size w (w.alloc (.cells #[] 3)) := (Below.refl _ _).alloc (Nat.le_refl _) _
  have c0 := cell_at ((hb0.block g (lt_of_block h)).trans h) 0 (.map none) rfl
  have HO := Lib.hid (empty_row w)
  have HB0 := Lib.hid hb0
  have e1 : (w.alloc (.cells #[] 3)).heap.size = w.heap.size + 1 := by simp
  have hrg := run_range_nilMap (P := Tryz.prog) (w.alloc (.cells #[] 3)) 80 25 38 Tryz.underlying80
  have hnx : ∀ ty, (Instr.next (.pointer (some ⟨w.heap.size + 1, 0, none⟩)) false ty).run Tryz.prog ((w.alloc (.cells #[] 3)).alloc (.mapIter none 0 #[] 0)) = .ok (.tuple #[.bool false]) ((w.alloc (.cells #[] 3)).alloc (.mapIter none 0 #[] 0)) := fun ty => by
    rw [← e1]
    exact run_next_nilMap _ ty 0 0 #[]
  have hbw : Below w.heap.size w ((w.alloc (.cells #[] 3)).alloc (.mapIter none 0 #[] 0)) := hb0.alloc hb0.size _
  obtain ⟨gg, c, hge, hcc, hgl, hH, hrest⟩ := AllPost.mk' (M := []) ((empty_row w).below ((Below.refl _ _).alloc (Nat.le_refl _) (.mapIter none 0 #[] 0))) (by simp) hbw (by simp)
  simp only [List.length_nil, Value.slice.injEq, Option.some.injEq] at hge
  obtain ⟨hge1, _, hge2⟩ := hge
  simp only [Addr.mk.injEq, and_true] at hge1
  subst hge1 hge2
  have HH := Lib.hid hH
  have HREST := Lib.hid hrest
  clear h hb0 hH hrest e1 hbw
  go_enter Tryz.func17, Tryz.ntmps17
  go_wp2_with fail
  obtain ⟨r, hr⟩ : ∃ r, r = w.heap.size + 1 := ⟨_, rfl⟩
  rw [← hr] at hnx ⊢
  generalize (w.alloc (.cells #[] 3)).alloc (.mapIter none 0 #[] 0) = W2 at *
  clear hr hrg HO HB0
  refine wp_loop_rounds 1 ?_
  rw [rounds_succ]
  go_wp2_with fail
  refine (sort_any w.heap.size 0 0 [] _ HH.out hgl (by simp)).mono ?_
  rintro e w2 ⟨rfl, nn, os, hw2⟩
  obtain ⟨ys, hys, hyl, hH2, hpost⟩ := HREST.out nn os
  rw [hys] at hw2
  rw [← hw2] at hH2 hpost
  have HPOST := Lib.hid hpost
  have HH2 := Lib.hid hH2
  clear hw2 hpost hH2 hys HREST
  have hy0 : ys = [] := List.eq_nil_of_length_eq_zero hyl
  subst hy0
  clear hyl
  go_wp2_with fail
  refine (compact_any w.heap.size 0 0 [] w2 HH2.out (by simp) (by simp)).mono ?_
  rintro e w3 ⟨rfl, q, hw3⟩
  have hp := HPOST.out q
  rw [← hw3] at hp
  have HP := Lib.hid hp
  clear hw3 hp
  go_wp2
  go_ret
  exact HP.out

theorem toGo_sum (R : List PR) : toGo R #[] = ((Mof R).map (·.2.length)).sum := by
  have h : ∀ (R : List PR) (k : Nat), ((R.zipIdx k).map fun p => if (#[] : Array Nat).contains p.2 then 0 else p.1.l.length) = (Mof R).map (·.2.length) := by
    intro R
    induction R with
    | nil => intro k; rfl
    | cons r R ih =>
      intro k
      rw [List.zipIdx_cons, List.map_cons, ih]
      simp [Mof]
  rw [toGo, h]
theorem all_any {w : World} {v : Value} {M : PM} (h : PgIs w v M) (hl : (M.map (·.2.length)).sum ≤ 1000000) : Calls Tryz.prog 17 #[v] w (AllPost w M) := by
  rcases h with ⟨rfl, rfl⟩ | ⟨g, o, R, rfl, hp, rfl⟩
  · exact all_nil w
  · cases o with
    | none =>
      have := hp.none_ rfl
      subst this
      exact all_zero hp.box
    | some m => exact all_some hp (by rw [toGo_sum]; exact hl)

end Go.Proofs.YtelenboncejdaaaGreatDoor
