/-
  The contract of tree.Nodes: how many nodes a tree has, and how many of them it shares with another one; conditions: both are valid and lie in memory, or are nil.
-/
import Derived.Test.YtobkldjomplhgaaTreeAdd
namespace Go.Proofs.Ytobkldjomplhgaa
open Go.RowKit Go.Sort
open Go.ChangeMaps (setBlock)
set_option linter.unusedVariables false
set_option linter.unusedSimpArgs false

theorem nodup_sub : ∀ {l m : List Nat}, l.Nodup → (∀ x ∈ l, x ∈ m) → l.length ≤ m.length
  | [], m, _, _ => Nat.zero_le _
  | x :: l, m, hn, h => by
    obtain ⟨h1, h2⟩ := List.nodup_cons.1 hn
    have hx := h x (List.mem_cons_self ..)
    have := nodup_sub (m := m.erase x) h2 fun y hy => (List.mem_erase_of_ne (fun e => h1 (by rw [← e]; exact hy))).2 (h y (List.mem_cons_of_mem _ hy))
    rw [List.length_erase_of_mem hx] at this
    have := List.length_pos_of_mem hx
    simp only [List.length_cons]
    omega
theorem idsOf_len : ∀ {ks : List ST}, (∀ k ∈ ks, k.ids.length + 1 ≤ 2 * k.l.length) → (idsOf ks).length + ks.length ≤ 2 * (flat ks).length
  | [], _ => by simp [idsOf, flat]
  | k :: ks, h => by
    have h1 := h k (List.mem_cons_self ..)
    have h2 := idsOf_len fun x hx => h x (List.mem_cons_of_mem _ hx)
    rw [show idsOf (k :: ks) = k.ids ++ idsOf ks from rfl, show flat (k :: ks) = k.l ++ flat ks from rfl]
    simp only [List.length_append, List.length_cons]
    omega
theorem Tr.ids_len {w : World} : ∀ {h : Nat} {s : ST}, Tr w h s → s.ids.length + 1 ≤ 2 * s.l.length
  | 0, s, k => by
    have := okLeaf_len k.2.2.2.1
    rw [k.2.2.2.2, List.length_singleton]
    omega
  | h + 1, s, ⟨ks, t1, t2, t3, t4, t5, t6, t7, t8, t9⟩ => by
    have := idsOf_len fun k hk => (t7 k hk).1.ids_len
    rw [t8, t9, List.length_cons]
    omega
theorem tids_len {w : World} {T : TO} (ht : TreeIs w T) : (tids T).length ≤ 2 * (tl T).length := by
  cases T with
  | none => simp [tids]
  | some x =>
    have := (ht x rfl).ids_len
    show x.2.ids.length ≤ 2 * x.2.l.length
    omega

/-- How many of those that are left lie in the other set. -/
def toCome (bs cs : List Nat) (seen : Array Nat) : Nat := bs.zipIdx.countP fun p => decide (p.1 ∈ cs) && !seen.contains p.2
theorem toCome_start (bs cs : List Nat) : toCome bs cs #[] = (bs.filter fun x => decide (x ∈ cs)).length := by
  have h1 : ∀ (l : List Nat) (k : Nat), (l.zipIdx k).countP (fun p => decide (p.1 ∈ cs) && !(#[] : Array Nat).contains p.2) = (l.filter fun x => decide (x ∈ cs)).length := by
    intro l
    induction l with
    | nil => intro k; rfl
    | cons x l ih =>
      intro k
      rw [List.zipIdx_cons, List.countP_cons, ih, List.filter_cons]
      by_cases hx : x ∈ cs <;> simp [hx]
  exact h1 bs 0
theorem count_push (f : Nat → Bool) (seen : Array Nat) (b i : Nat) (hs : seen.contains i = false) : ∀ (l : List Nat) (k : Nat), k ≤ i → l[i - k]? = some b →
    (l.zipIdx k).countP (fun p => f p.1 && !seen.contains p.2) = (l.zipIdx k).countP (fun p => f p.1 && !(seen.push i).contains p.2) + (if f b then 1 else 0)
  | [], k, _, h => by simp at h
  | x :: l, k, hk, h => by
    have hpush : ∀ y, (seen.push i).contains y = (seen.contains y || y == i) := fun y => contains_push seen i y
    rw [List.zipIdx_cons, List.countP_cons, List.countP_cons]
    by_cases he : k = i
    · subst he
      have hx : x = b := by simpa using h
      subst hx
      have hrest : ∀ (l : List Nat) (j : Nat), k < j → (l.zipIdx j).countP (fun p => f p.1 && !seen.contains p.2) = (l.zipIdx j).countP (fun p => f p.1 && !(seen.push k).contains p.2) := by
        intro l
        induction l with
        | nil => intro j _; rfl
        | cons y l ih =>
          intro j hj
          have hjk : (j == k) = false := beq_eq_false_iff_ne.2 (by omega)
          rw [List.zipIdx_cons, List.countP_cons, List.countP_cons, ih (j + 1) (by omega)]
          simp only [hpush, hjk, Bool.or_false]
      rw [hrest l (k + 1) (by omega)]
      simp only [hs, hpush, beq_self_eq_true, Bool.or_true, Bool.not_true, Bool.and_false, Bool.not_false, Bool.and_true]
      simp
    · have hlt : k < i := by omega
      have hki : (k == i) = false := beq_eq_false_iff_ne.2 (by omega)
      have h' : l[i - (k + 1)]? = some b := by
        rw [show i - k = (i - (k + 1)) + 1 by omega, List.getElem?_cons_succ] at h
        exact h
      rw [count_push f seen b i hs l (k + 1) (by omega) h']
      simp only [hpush, hki, Bool.or_false]
      omega
theorem toCome_push {bs cs : List Nat} {seen : Array Nat} {b i : Nat} (hs : seen.contains i = false) (hb : bs[i]? = some b) : toCome bs cs seen = toCome bs cs (seen.push i) + if b ∈ cs then 1 else 0 := by
  have := count_push (fun x => decide (x ∈ cs)) seen b i hs bs 0 (Nat.zero_le _) (by simpa using hb)
  simpa [toCome] using this
theorem ents_mem {bs : List Nat} {e : MapEntry} (he : e ∈ (ents bs).toArray.toList) : ∃ i b, bs[i]? = some b ∧ e = ⟨pn b, .agg #[], i⟩ := by
  obtain ⟨i, hi⟩ := List.getElem?_of_mem he
  change (ents bs)[i]? = some e at hi
  rw [ents_at] at hi
  obtain ⟨b, hb, rfl⟩ := Option.map_eq_some_iff.1 hi
  exact ⟨i, b, hb, rfl⟩
theorem toCome_end {bs cs : List Nat} {seen : Array Nat} (h : (leftOf (ents bs).toArray seen).size = 0) : toCome bs cs seen = 0 := by
  have hall := all_seen _ _ h
  unfold toCome
  rw [List.countP_eq_zero]
  rintro ⟨b, i⟩ hp
  have hb : bs[i]? = some b := by
    have := List.mem_zipIdx_iff_getElem?.1 hp
    simpa using this
  have hm : (⟨pn b, .agg #[], i⟩ : MapEntry) ∈ (ents bs).toArray.toList := by
    exact List.mem_of_getElem? (l := ents bs) (i := i) (by rw [ents_at, hb]; rfl)
  have h3 : seen.contains i = true := hall _ hm
  show ¬ (decide (b ∈ cs) && !seen.contains i) = true
  rw [h3]
  simp
theorem ents_born (bs : List Nat) : ((ents bs).toArray.toList.map (·.born)).Nodup := by
  show ((ents bs).map (·.born)).Nodup
  have : (ents bs).map (·.born) = List.range bs.length := by
    simp only [ents, List.map_map]
    apply List.ext_getElem?
    intro i
    simp only [List.getElem?_map, List.getElem?_zipIdx, List.getElem?_range]
    by_cases hi : i < bs.length
    · simp [hi]
    · simp [hi]
  rw [this]
  exact List.nodup_range
theorem ents_old (bs : List Nat) : ∀ x ∈ (ents bs).toArray.toList, x.born < bs.length := fun x hx => by
  obtain ⟨i, b, hb, rfl⟩ := ents_mem hx
  exact (List.getElem?_eq_some_iff.1 hb).1
/-- len(s). -/
theorem len_set {w : World} {m : Nat} {bs : List Nat} (hs : SetAt w m bs) (ty : TypeId) : (Builtin.len_ #[78] ty #[.map (some m)]).run Try.prog w = .ok (.int .i64 bs.length) w := by
  have hs' : w.heap[m]? = some (.map (ents bs).toArray bs.length) := hs
  simp [Builtin.len_, run_underlying Try.underlying78, MapKept.run_getObj_map hs', goInt, Result.andThen, ents_len]
theorem rangeLeft_eq {w : World} {m r : Nat} {es : Array MapEntry} {c : Nat} {x : Option Nat} {since c0 : Nat} {seen : Array Nat} (hb : w.heap[m]? = some (.map es c)) (hr : w.heap[r]? = some (.mapIter x since seen c0)) : w.rangeLeft m r = (leftOf es seen).size := by
  simp only [World.rangeLeft, hb, hr]
/-- What tree.Nodes answers. -/
def NodesPost (w : World) (T U : TO) (r : Ending) (w' : World) : Prop :=
  ∃ bs : List Nat, r = .returned (.tuple #[.int .i64 bs.length, .int .i64 (bs.filter fun x => decide (x ∈ tids U)).length]) ∧ bs.Nodup ∧ (∀ x, x ∈ bs ↔ x ∈ tids T) ∧ bs.length ≤ (tids T).length ∧ Below w.heap.size w w'

set_option maxHeartbeats 2000000 in
set_option maxRecDepth 100000 in
theorem nodes_two {w : World} {T U : TO} (ht : TreeIs w T) (hu : TreeIs w U) (hl : (tl T).length ≤ 1000000) : Calls Try.prog 22 #[tb T, tb U] w (NodesPost w T U) := by
  have hmm := @run_makeMap Try.prog
  have HT := Lib.hid ht
  have HU := Lib.hid hu
  have HLEN := Lib.hid (Nat.le_trans (tids_len ht) (Nat.mul_le_mul_left 2 hl))
  clear ht hu hl
  go_enter Try.func22, Try.ntmps22
  go_wp2_with fail
  have hb1 : Below w.heap.size w ((w.alloc (.map #[] 0)).alloc (.map #[] 0)) := ((Below.refl _ _).alloc (Nat.le_refl _) _).alloc (by simp) _
  have e1 : (w.alloc (.map #[] 0)).heap.size = w.heap.size + 1 := by simp
  have hm1 : SetAt ((w.alloc (.map #[] 0)).alloc (.map #[] 0)) w.heap.size [] := by
    unfold SetAt
    rw [heap_alloc_old _ _ (by rw [e1]; omega), heap_alloc_new]
    rfl
  have hm2 : SetAt ((w.alloc (.map #[] 0)).alloc (.map #[] 0)) (w.heap.size + 1) [] := by
    unfold SetAt
    rw [← e1, heap_alloc_new]
    rfl
  have hsz2 : w.heap.size + 1 < ((w.alloc (.map #[] 0)).alloc (.map #[] 0)).heap.size := by simp
  obtain ⟨m1, hm1e⟩ : ∃ m, m = w.heap.size := ⟨_, rfl⟩
  obtain ⟨m2, hm2e⟩ : ∃ m, m = w.heap.size + 1 := ⟨_, rfl⟩
  rw [← hm2e] at hm2 hsz2 ⊢
  rw [show Value.map (some w.heap.size) = Value.map (some m1) by rw [hm1e]]
  rw [← hm1e] at hm1
  have hne : m1 ≠ m2 := by omega
  have hge1 : w.heap.size ≤ m1 := by omega
  have hge2 : w.heap.size ≤ m2 := by omega
  generalize (w.alloc (.map #[] 0)).alloc (.map #[] 0) = W1 at hb1 hm1 hm2 hsz2 ⊢
  clear hm1e hm2e e1 hmm
  refine (add_any HT.out ⟨hb1, hm1, hge1, fun x hx => by cases hx⟩).mono ?_
  rintro r wA ⟨rfl, bs, hpA, hndA, hmemA, hgA⟩
  have hm2A : SetAt wA m2 [] := (hgA.block m2 hsz2 fun e => hne (Option.some.inj e).symm).trans hm2
  have HPA := Lib.hid hpA
  have HM2A := Lib.hid hm2A
  have HNA := Lib.hid (hndA List.nodup_nil)
  have HMA := Lib.hid hmemA
  have HNE := Lib.hid hne
  have HGE1 := Lib.hid hge1
  have HGE2 := Lib.hid hge2
  clear hb1 hm1 hm2 hsz2 hpA hndA hmemA hgA hm2A hne hge1 hge2
  go_wp2_with fail
  refine (add_any HU.out ⟨HPA.out.below, HM2A.out, HGE2.out, fun x hx => by cases hx⟩).mono ?_
  rintro r wB ⟨rfl, cs, hpB, hndB, hmemB, hgB⟩
  have HPB := Lib.hid hpB
  have HMB := Lib.hid hmemB
  have HSB : Hid (SetAt wB m1 bs) := Lib.hid ((hgB.block m1 HPA.out.lt fun e => HNE.out (Option.some.inj e)).trans HPA.out.at_)
  have hrg := run_range_map (P := Try.prog) wB 78 25 80 m1 (ents bs).toArray bs.length Try.underlying78 HSB.out
  have HR0 : Hid ((wB.alloc (.mapIter (some m1) bs.length #[] bs.length)).heap[wB.heap.size]? = some (.mapIter (some m1) bs.length #[] bs.length)) := Lib.hid (heap_alloc_new _ _)
  have HS1 : Hid (SetAt (wB.alloc (.mapIter (some m1) bs.length #[] bs.length)) m1 bs) := Lib.hid ((heap_alloc_old _ _ (Array.getElem?_eq_some_iff.1 HSB.out).1).trans HSB.out)
  have HS2 : Hid (SetAt (wB.alloc (.mapIter (some m1) bs.length #[] bs.length)) m2 cs) := Lib.hid ((heap_alloc_old _ _ HPB.out.lt).trans HPB.out.at_)
  have HBW : Hid (Below w.heap.size w (wB.alloc (.mapIter (some m1) bs.length #[] bs.length))) := Lib.hid (HPB.out.below.alloc HPB.out.below.size _)
  have HGR : Hid (w.heap.size ≤ wB.heap.size ∧ wB.heap.size ≠ m1 ∧ wB.heap.size ≠ m2) := Lib.hid ⟨HPB.out.below.size, fun e => by
    have := (Array.getElem?_eq_some_iff.1 HSB.out).1
    omega, fun e => by
    have := HPB.out.lt
    omega⟩
  clear hpB hndB hmemB hgB
  go_wp2_with fail
  obtain ⟨r, hr⟩ : ∃ r, r = wB.heap.size := ⟨_, rfl⟩
  rw [← hr] at HR0 HGR ⊢
  clear hr
  go_loopw [5] (fun s5 wr => ∃ (seen : Array Nat) (c0 k : Nat), s5 = .int .i64 k ∧ wr.heap[r]? = some (.mapIter (some m1) bs.length seen c0) ∧ bs.length ≤ c0 ∧ SetAt wr m1 bs ∧ SetAt wr m2 cs ∧ Below w.heap.size w wr ∧ k + toCome bs cs seen = (bs.filter fun x => decide (x ∈ cs)).length) (fun _ wr => wr.rangeLeft m1 r)
  case atStart => exact ⟨#[], _, 0, rfl, HR0.out, Nat.le_refl _, HS1.out, HS2.out, HBW.out, by rw [toCome_start]; omega⟩
  case round =>
    obtain ⟨seen, c0, k, rfl, hrr, hc0, hs1, hs2, hbw, htot⟩ := hrel
    have hkb : k ≤ 2000000 := by
      have h1 := List.length_filter_le (fun x => decide (x ∈ cs)) bs
      have h2 := nodup_sub HNA.out fun x hx => ((HMA.out x).1 hx).resolve_left (by simp)
      have h3 := HLEN.out
      omega
    have HC0 := Lib.hid hc0
    have HS1 := Lib.hid hs1
    have HS2 := Lib.hid hs2
    have HBW := Lib.hid hbw
    have HTOT := Lib.hid htot
    have HRR := Lib.hid hrr
    clear hc0 hs1 hs2 hbw htot hrr
    rcases run_next_at (P := Try.prog) wr 0 r m1 bs.length c0 seen (ents bs).toArray bs.length HRR.out HS1.out (ents_old bs) HC0.out with ⟨h0, hrun⟩ | ⟨e, he, w1, hw1, hrun⟩
    · have hnx : ∀ ty, (Instr.next (.pointer (some ⟨r, 0, none⟩)) false ty).run Try.prog wr = .ok (.tuple #[.bool false]) wr := fun ty => hrun
      have hls := fun ty => len_set HS1.out ty
      have hke : k = (bs.filter fun x => decide (x ∈ cs)).length := by
        have := HTOT.out
        rw [toCome_end h0] at this
        omega
      have HPOST : Hid (NodesPost w T U (.returned (.tuple #[.int .i64 bs.length, .int .i64 k])) wr) := Lib.hid ⟨bs, by
        rw [hke]
        have : (fun x => decide (x ∈ cs)) = fun x => decide (x ∈ tids U) := by
          funext x
          congr 1
          rw [HMB.out]
          simp
        rw [this], HNA.out, fun x => by rw [HMA.out]; simp, nodup_sub HNA.out fun x hx => ((HMA.out x).1 hx).resolve_left (by simp), HBW.out⟩
      clear hrun h0 hke
      go_wp2
      go_ret2
      exact HPOST.out
    · obtain ⟨hem, hsn⟩ := mem_left he
      obtain ⟨i, b, hbi, rfl⟩ := ents_mem hem
      have hlf := left_shrinks _ _ _ he
      have hh1 : w1.heap = wr.heap := by rcases hw1 with rfl | rfl <;> rfl
      have hbw1 : Below w.heap.size w w1 := by
        rcases hw1 with rfl | rfl
        · exact HBW.out
        · exact HBW.out.drew
      have hr1 : w1.heap[r]? = some (.mapIter (some m1) bs.length seen c0) := by rw [hh1]; exact HRR.out
      have hs11 : SetAt w1 m1 bs := by unfold SetAt; rw [hh1]; exact HS1.out
      have hs21 : SetAt w1 m2 cs := by unfold SetAt; rw [hh1]; exact HS2.out
      simp only at hrun hsn hlf
      obtain ⟨w2, hw2⟩ : ∃ w2, w2 = setBlock w1 r (.mapIter (some m1) bs.length (seen.push i) bs.length) := ⟨_, rfl⟩
      have hr2 : w2.heap[r]? = some (.mapIter (some m1) bs.length (seen.push i) bs.length) := by rw [hw2]; exact setBlock_at hr1
      have hs12 : SetAt w2 m1 bs := by unfold SetAt; rw [hw2, setBlock_other _ _ _ _ (Ne.symm HGR.out.2.1)]; exact hs11
      have hs22 : SetAt w2 m2 cs := by unfold SetAt; rw [hw2, setBlock_other _ _ _ _ (Ne.symm HGR.out.2.2)]; exact hs21
      have hbw2 : Below w.heap.size w w2 := by
        rw [hw2]
        exact hbw1.grown (grown_setBlock _ _ _) hbw1.size fun j hj => by cases hj; exact HGR.out.1
      rw [← hw2] at hrun
      have hnx : ∀ ty, (Instr.next (.pointer (some ⟨r, 0, none⟩)) false ty).run Try.prog wr = .ok (.tuple #[.bool true, pn b, .agg #[]]) w2 := fun ty => hrun
      have hen := run_entry_at (P := Try.prog) w2 r m1 bs.length seen (ents bs).toArray bs.length _ hr2 hs12 hem (ents_born bs)
      obtain ⟨M, hM⟩ := HPA.out.nodes b (List.mem_of_getElem? hbi)
      have hhas := has_set hs22 (hM.below hbw2) fun x hx => by
        obtain ⟨N, hN⟩ := HPB.out.nodes x hx
        exact ⟨N, hN.below hbw2⟩
      have hto := toCome_push (cs := cs) hsn hbi
      have hlt1 : m1 < w2.heap.size := (Array.getElem?_eq_some_iff.1 hs12).1
      have hlt2 : m2 < w2.heap.size := (Array.getElem?_eq_some_iff.1 hs22).1
      have hltr : r < w2.heap.size := (Array.getElem?_eq_some_iff.1 hr2).1
      have HM0 : Hid (wr.rangeLeft m1 r = (leftOf (ents bs).toArray seen).size) := Lib.hid (rangeLeft_eq HS1.out HRR.out)
      have HALL : Hid (∀ o, (w2.alloc o).heap[r]? = some (.mapIter (some m1) bs.length (seen.push i) bs.length) ∧ SetAt (w2.alloc o) m1 bs ∧ SetAt (w2.alloc o) m2 cs ∧ Below w.heap.size w (w2.alloc o) ∧ (w2.alloc o).rangeLeft m1 r < wr.rangeLeft m1 r) := Lib.hid fun o => by
        have g1 := (heap_alloc_old w2 o hltr).trans hr2
        have g2 : SetAt (w2.alloc o) m1 bs := (heap_alloc_old w2 o hlt1).trans hs12
        refine ⟨g1, g2, (heap_alloc_old w2 o hlt2).trans hs22, hbw2.alloc hbw2.size _, ?_⟩
        rw [HM0.out, rangeLeft_eq g2 g1]
        exact hlf
      by_cases hbc : b ∈ cs
      · rw [decide_eq_true hbc] at hhas
        rw [if_pos hbc] at hto
        have HK : Hid (k + 1 + toCome bs cs (seen.push i) = (bs.filter fun x => decide (x ∈ cs)).length) := Lib.hid (by rw [← HTOT.out, hto]; omega)
        clear he hem hsn hbi hlf hh1 hbw1 hr1 hs11 hs21 hw2 hr2 hs12 hs22 hbw2 hrun hM hto hlt1 hlt2 hltr hw1 hbc
        go_wp2
        obtain ⟨g1, g2, g3, g4, g5⟩ := HALL.out (.cells #[] 80)
        exact ⟨⟨_, _, k + 1, by push_cast; rfl, g1, Nat.le_refl _, g2, g3, g4, HK.out⟩, g5⟩
      · rw [decide_eq_false hbc] at hhas
        rw [if_neg hbc] at hto
        have HK : Hid (k + toCome bs cs (seen.push i) = (bs.filter fun x => decide (x ∈ cs)).length) := Lib.hid (by rw [← HTOT.out, hto]; omega)
        clear he hem hsn hbi hlf hh1 hbw1 hr1 hs11 hs21 hw2 hr2 hs12 hs22 hbw2 hrun hM hto hlt1 hlt2 hltr hw1 hbc
        go_wp2
        obtain ⟨g1, g2, g3, g4, g5⟩ := HALL.out (.cells #[] 80)
        exact ⟨⟨_, _, k, rfl, g1, Nat.le_refl _, g2, g3, g4, HK.out⟩, g5⟩

end Go.Proofs.Ytobkldjomplhgaa
