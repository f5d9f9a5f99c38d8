/-
  The iterator of walk.From: it yields the entries of a tree from a key on; conditions: the tree is valid and lies in memory, or is nil.
-/
import Derived.Test.YtcoaloignmkemaaWalkLv
namespace Go.Proofs.Ytcoaloignmkemaa
open Go.RowKit Go.Sort Go.Shelf Rt
set_option linter.unusedVariables false
attribute [local go_sem] Oper.semAt_some wide_fn wide_depth

def encE (e : Ent) : Array Value := #[.string e.k, .string e.v]
theorem Own.keep {w w' : World} {base : Nat} {v : Value} {l : List Ent} (h : Own w base v l) (hb : ∀ g, v.ownBlock = some g → g < w.heap.size → w'.heap[g]? = w.heap[g]?) : Own w' base v l := by
  refine ⟨h.1, ?_⟩
  rcases h.2 with hv | ⟨g, cap, cur, h1, h2, h3, h4⟩
  · exact .inl hv
  · refine .inr ⟨g, cap, cur, h1, h2, (hb g ?_ (Array.getElem?_eq_some_iff.1 h3).1).trans h3, h4⟩
    rw [h1]
    rfl
theorem own_es {w : World} {base n c : Nat} {A : Option Addr} {l : List Ent} (h : Own w base (.slice A n c) l) : Es w A l := by
  obtain ⟨A', c', e, _, hl⟩ := h.form
  cases e
  exact hl
/-- What a leaf, or nil, answers to Entries. -/
theorem ents_os {w0 : World} {x : OS} (hx : ∀ s, x = some s → Tr w0 0 s) {W : World} (hb : Below w0.heap.size w0 W) :
    Calls Try.prog 29 #[ptr (x.map (·.b))] W fun e w' => ∃ v, e = .returned v ∧ Own w' W.heap.size v (leafL x) ∧ Below W.heap.size W w' := by
  cases x with
  | none =>
    refine (entries_nil W).mono ?_
    rintro e w' ⟨rfl, rfl⟩
    exact ⟨_, rfl, Own.nil_ _ _, Below.refl _ _⟩
  | some s =>
    have h := hx s rfl
    have := okLeaf_len h.2.2.2.1
    exact entries_any (h.at_.below hb) (h.2.2.1.below hb) h.2.1.en.symm (by rw [h.2.1.en]; omega)
theorem leafL_len {w0 : World} {x : OS} (hx : ∀ s, x = some s → Tr w0 0 s) : (leafL x).length ≤ 4 := by
  cases x with
  | none => exact Nat.zero_le _
  | some s =>
    have := okLeaf_len (hx s rfl).2.2.2.1
    show s.l.length ≤ 4
    omega
theorem filter_take_yes {l : List Ent} {p : Ent → Bool} {m : Nat} {e : Ent} (h : l[m]? = some e) (hp : p e = true) : (l.take (m + 1)).filter p = (l.take m).filter p ++ [e] := by
  obtain ⟨hi, rfl⟩ := List.getElem?_eq_some_iff.1 h
  rw [List.take_succ_eq_append_getElem hi, List.filter_append]
  simp [hp]
theorem filter_take_no {l : List Ent} {p : Ent → Bool} {m : Nat} {e : Ent} (h : l[m]? = some e) (hp : p e = false) : (l.take (m + 1)).filter p = (l.take m).filter p := by
  obtain ⟨hi, rfl⟩ := List.getElem?_eq_some_iff.1 h
  rw [List.take_succ_eq_append_getElem hi, List.filter_append]
  simp [hp]
theorem flatO_snoc (pre : List OS) (x : OS) : flatO (pre ++ [x]) = flatO pre ++ leafL x := by simp [flatO]
/-- What has been yielded is the beginning of what is to be. -/
theorem yield_prefix {ls pre : List OS} {x : OS} {p : Ent → Bool} (h : pre ++ [x] <+: ls) {m : Nat} : (flatO pre).filter p ++ ((leafL x).take m).filter p <+: (flatO ls).filter p := by
  obtain ⟨r, rfl⟩ := h
  refine ⟨((leafL x).drop m).filter p ++ (flatO r).filter p, ?_⟩
  have e : flatO (pre ++ [x] ++ r) = flatO pre ++ (leafL x ++ flatO r) := by simp [flatO]
  rw [e, List.filter_append, List.filter_append, List.append_assoc, ← List.append_assoc (((leafL x).take m).filter p), ← List.filter_append, List.take_append_drop]
/-- Half-way through a leaf. -/
structure InLeaf (J : List Ent → BS → World → Prop) (w6 : World) (T' : BS) (pre : List Ent) (T1 : BS) (wr : World) : Prop where
  st : Stp T' w6 T1 wr
  j : J pre T1 wr

set_option maxHeartbeats 4000000 in
set_option maxRecDepth 100000 in
theorem from_gives {w0 : World} {T0 : TO} (ht : TreeIs w0 T0) (key : ByteArray) {W : World} {bn bk : Nat} (hb : Below w0.heap.size w0 W) (hbn : W.cell? ⟨bn, 0, none⟩ = some (tb T0)) (hbk : W.cell? ⟨bk, 0, none⟩ = some (.string key)) :
    Gives Try.prog 27 #[pb bn, pb bk] encE ((tl T0).filter (ge key)) (Kf w0.heap.size bn bk) W := by
  obtain ⟨ls, hl, hg⟩ := leaves_any ht key
  rw [← hl.filt]
  intro l J Jx T hT hJ hJx hY h0
  obtain ⟨pt, hpt⟩ : ∃ pt, tb T0 = .pointer pt := ⟨_, rfl⟩
  rw [hpt] at hbn hg
  have HT := Lib.hid hT
  have HJ := Lib.hid hJ
  have HJx := Lib.hid hJx
  have HY := Lib.hid hY
  have H0 := Lib.hid h0
  have HB := Lib.hid hb
  have HL := Lib.hid hl
  have HG := Lib.hid hg
  clear hT hJ hJx hY h0 hb hl hg hpt
  refine callsIn_of_wp_marks Try.func27 rfl trivial ?_ rfl
  simp only [Try.ntmps27, List.size_toArray, List.length_cons, List.length_nil, Nat.reduceAdd, Nat.reduceSub, Array.replicate_succ, Array.replicate_zero, List.push_toArray, List.append_toArray, List.nil_append, List.cons_append]
  obtain ⟨w1, hw1⟩ : ∃ w1, W.alloc (.cells #[.func (.yield l) #[] #[]] 55) = w1 := ⟨_, rfl⟩
  have hb1 : Below W.heap.size W w1 := by rw [← hw1]; exact (Below.refl _ _).alloc (Nat.le_refl _) _
  have hy1 : w1.heap[W.heap.size]? = some (.cells #[.func (.yield l) #[] #[]] 55 (0, 0)) := by rw [← hw1]; exact heap_alloc_new W _
  have hsz1 : w1.heap.size = W.heap.size + 1 := by rw [← hw1]; simp
  have q1 := (hb1.cell (p := ⟨bn, 0, none⟩) (cell_lt hbn)).trans hbn
  have q2 := (hb1.cell (p := ⟨bk, 0, none⟩) (cell_lt hbk)).trans hbk
  rw [← hw1] at q1 q2
  have HBK := Lib.hid hbk
  have HW1 := Lib.hid hw1
  have HB1 := Lib.hid hb1
  have HY1 := Lib.hid hy1
  have HS1 := Lib.hid hsz1
  clear hb1 hy1 hsz1 hbn hbk hw1
  gi_wp2_with fail
  rw [HW1.out]
  refine CallsIn.mono (callsIn_wide.2 (leaves_made w1 _ key)) ?_
  rintro r w2 ⟨rfl, rfl⟩
  have hb2 := boxed2_below w1 (.pointer pt) key
  have HBn := Lib.hid (boxed2_n w1 (.pointer pt) key)
  have HBk := Lib.hid (boxed2_k w1 (.pointer pt) key)
  have HS2 := Lib.hid (boxed2_size w1 (.pointer pt) key)
  obtain ⟨w2, hw2⟩ : ∃ w2, boxed2 w1 (.pointer pt) key = w2 := ⟨_, rfl⟩
  rw [hw2] at hb2 HBn HBk HS2 ⊢
  have HB2 := Lib.hid (bthen HB1.out hb2)
  have HY2 := Lib.hid ((hb2.block _ (by rw [HS1.out]; omega)).trans HY1.out)
  have HTW : Hid (∀ k, T k → k < W.heap.size) := Lib.hid fun k hk => (HT.out k hk).1
  have HST2 := Lib.hid (Stp.of_below HB2.out HTW.out)
  have HSZ : Hid (w2.heap.size = W.heap.size + 3) := Lib.hid (by rw [HS2.out, HS1.out])
  clear hb2 hw2 q1 q2
  gi_wp2_with fail
  have hs1 := HS1.out
  have hsz := HSZ.out
  have hb0 := HB.out.size
  refine wpIn_range (gf := 39) (lb := #[pb w1.heap.size, pb (w1.heap.size + 1)]) rfl (enters_of Try.func39 (by kernel_rfl) rfl) (encs := encO) (fun _ => rfl)
    (fun W' hb' => HG.out W' _ _ ((HB.out.trans (HB2.out.mono HB.out.size)).trans (hb'.mono (by omega))) (cell_row ((hb'.block _ (by omega)).trans HBn.out) 0 _ rfl) (cell_row ((hb'.block _ (by omega)).trans HBk.out) 0 _ rfl))
    (T := T) (fun i hi => ⟨by have := HTW.out i hi; omega, fun hK => ?hK1⟩) (fun i hi => ?hK2)
    (fun pre T' W' => J ((flatO pre).filter (ge key)) T' W') (fun c pre T' W' => c = .ret ∧ ∃ q, q ≠ [] ∧ q <+: (flatO ls).filter (ge key) ∧ Jx q T' W')
    ?hI (fun c => ?hIx) ?h0 ?round ?done ?stop
  case hK1 =>
    have h1 := HTW.out i hi
    rcases hK with hK | rfl | rfl
    · exact (HT.out i hi).2 (.inl hK)
    · omega
    · omega
  case hK2 => rcases hi with h1 | rfl | rfl <;> omega
  case hI => exact fun s T A B j q => HJ.out _ _ _ _ j (q.sub (by omega) fun _ h => h)
  case hIx => exact fun s T A B ⟨j1, q1, j2, j3, j4⟩ q => ⟨j1, q1, j2, j3, HJx.out _ _ _ _ j4 (q.sub (by omega) fun _ h => h)⟩
  case h0 => exact HJ.out _ _ _ _ H0.out (.of_below HB2.out)
  case round =>
    rintro i pre x T' W' hpre hj hst hnl hl hrl C hC
    obtain ⟨px, hpx⟩ : ∃ px, (x.map (·.b)).map (fun b => (⟨b, 0, none⟩ : Addr)) = px := ⟨_, rfl⟩
    have hpv : ptr (x.map (·.b)) = .pointer px := by rw [← hpx]; rfl
    rw [show encO x = #[.pointer px] by rw [← hpv]; rfl]
    have HPV := Lib.hid hpv
    have HC := Lib.hid hC
    have HJr := Lib.hid hj
    have HSr := Lib.hid (HST2.out.trans hst)
    have HS2r := Lib.hid hst
    have HNl := Lib.hid hnl
    have HLi : Hid (W.heap.size + 3 ≤ i) := Lib.hid (by omega)
    have HPr := Lib.hid hpre
    have HLF : Hid (∀ s, x = some s → Tr w0 0 s) := Lib.hid fun s hs => HL.out.leaf s (hpre.subset (by rw [hs]; simp))
    clear hpx hpv hC hj hst hnl hl hpre hrl hs1 hsz hb0
    gi_wp2_with fail
    refine HC.out _ _ (Below.refl _ _) fun W'' hB => ?_
    have HN0 : Hid (∀ k, T' k → w0.heap.size ≤ k) := Lib.hid fun k hk => by
      rcases Nat.lt_or_ge k W.heap.size with h1 | h1
      · exact Nat.le_of_not_lt fun h => (HT.out k (HSr.out.own k h1 hk)).2 (.inl h)
      · have := HB.out.size; omega
    have HBW : Hid (Below w0.heap.size w0 W'') := Lib.hid ((HB.out.trans (HSr.out.below HB.out.size fun k hk => Nat.le_of_not_lt fun h => (HT.out k hk).2 (.inl h))).trans (hB.below (by have := HLi.out; have := HB.out.size; omega)))
    have hby := hB.cell (cell_row (HS2r.out.block HY2.out (fun h => Nat.lt_irrefl _ (HTW.out _ h))) 0 _ rfl) (by have h1 := HLi.out; show W.heap.size ≠ i; omega)
    have hbk := hB.cell (HSr.out.cell HBK.out fun h => (HT.out _ h).2 (.inr (.inr rfl))) (by have h1 := HLi.out; have h2 := cell_lt HBK.out; show bk ≠ i; simp only at h2; omega)
    have HNt : Hid (¬ T' W.heap.size ∧ ¬ T' bk) := Lib.hid ⟨fun h => Nat.lt_irrefl _ (HTW.out _ (HS2r.out.own _ (by have := HSZ.out; omega) h)), fun h => (HT.out _ (HSr.out.own _ (cell_lt HBK.out) h)).2 (.inr (.inr rfl))⟩
    have HTl : Hid (∀ k, T' k → k < W''.heap.size) := Lib.hid fun k hk => by rw [hB.size]; exact HS2r.out.lt k hk
    have HJ2 := Lib.hid (HJ.out _ _ _ _ HJr.out (hB.qt (n := W.heap.size) (by have h1 := HLi.out; omega) HNl.out))
    have HWs : Hid (W.heap.size ≤ W''.heap.size) := Lib.hid (by rw [hB.size]; exact HSr.out.fx.size)
    have HBY := Lib.hid hby
    have HBK2 := Lib.hid hbk
    clear hB hby hbk HS2r HSr HJr
    gi_wp2_with fail
    refine CallsIn.inRound i (CallsIn.mono (callsIn_wide.2 (by have := ents_os HLF.out HBW.out; rw [HPV.out] at this; exact this)) ?_)
    rintro r w6 ⟨v6, rfl, ho6, hb6⟩
    obtain ⟨A6, c6, rfl, hc6, _⟩ := ho6.form
    have HO6 := Lib.hid ho6
    have HB6 := Lib.hid hb6
    have h4 := leafL_len HLF.out
    obtain ⟨n, hn⟩ : ∃ n, (leafL x).length = n := ⟨_, rfl⟩
    rw [hn] at HO6 hc6 h4 ⊢
    have Hn := Lib.hid hn
    clear ho6 hb6 hn
    gi_wp2_with fail
    gi_loopw [14] (fun s14 wr => ∃ (m : Nat) (T1 : BS), m ≤ n ∧ s14 = .int .i64 (m : Int) ∧ Hid (InLeaf J w6 T' ((flatO pre).filter (ge key) ++ ((leafL x).take m).filter (ge key)) T1 wr)) (fun s14 _ => n - (intOf s14).toNat)
    case atStart => exact ⟨0, T', Nat.zero_le _, rfl, Lib.hid ⟨.refl fun k hk => Nat.lt_of_lt_of_le (HTl.out k hk) HB6.out.size, by
      rw [List.take_zero, List.filter_nil, List.append_nil]
      exact HJ.out _ _ _ _ HJ2.out (.of_below HB6.out)⟩⟩
    case round =>
      obtain ⟨m, T1, hm, rfl, HI⟩ := hrel
      by_cases hlt : m < n
      · have hown := HO6.out.keep fun g hg hlt => HI.out.st.same g hlt fun ht => by
          have h1 := HTl.out g ht
          have h2 := HO6.out.at_block g hg
          omega
        obtain ⟨ad, e, rfl, he, hadl, h1, h2⟩ := (own_es hown).at_ (i := m) (by rw [Hn.out]; exact hlt)
        have hby := HI.out.st.cell ((HB6.out.cell (p := ⟨W.heap.size, 0, none⟩) (cell_lt HBY.out)).trans HBY.out) HNt.out.1
        have hbk := HI.out.st.cell ((HB6.out.cell (p := ⟨bk, 0, none⟩) (cell_lt HBK2.out)).trans HBK2.out) HNt.out.2
        have hba : Below wr.heap.size wr (wr.alloc (.cells #[.string e.k, .string e.v] 31)) := (Below.refl _ _).alloc (Nat.le_refl _) _
        have q1 := (hba.cell (p := ⟨bk, 0, none⟩) (cell_lt hbk)).trans hbk
        have q2 := (hba.cell (p := ⟨W.heap.size, 0, none⟩) (cell_lt hby)).trans hby
        have HE := Lib.hid he
        have HBa := Lib.hid hba
        clear hown he hba hby hbk
        have hle := less_eq e.k key
        by_cases hd : kl e.k key
        · have HF : Hid (((leafL x).take (m + 1)).filter (ge key) = ((leafL x).take m).filter (ge key)) := Lib.hid (filter_take_no HE.out (by simp [ge, hd]))
          rw [decide_eq_true hd] at hle
          gi_wp2_with fail
          exact ⟨⟨m + 1, T1, by omega, by go_num, Lib.hid ⟨HI.out.st.below_ HBa.out, by rw [HF.out]; exact HJ.out _ _ _ _ HI.out.j (.of_below HBa.out)⟩⟩, by simp [intOf]; omega⟩
        · have HF : Hid (((leafL x).take (m + 1)).filter (ge key) = ((leafL x).take m).filter (ge key) ++ [e]) := Lib.hid (filter_take_yes HE.out (by simp [ge, hd]))
          have HPx : Hid ((flatO pre).filter (ge key) ++ ((leafL x).take m).filter (ge key) ++ [e] <+: (flatO ls).filter (ge key)) := Lib.hid (by
            rw [List.append_assoc, ← HF.out]
            exact yield_prefix HPr.out)
          rw [decide_eq_false hd] at hle
          obtain ⟨fn, tmps, assign, body, hy, hR⟩ := HY.out _ e T1 _ HPx.out (HJ.out _ _ _ _ HI.out.j (.of_below HBa.out))
          simp only [encE] at hy
          have HRR := Lib.hid hR
          clear hR
          gi_wp2_with fail
          refine HRR.out.mono ?_
          rintro r W3 ⟨T3, hst3, ⟨rfl, hj3⟩ | ⟨rfl, hj3⟩⟩
          · have HI3 : Hid (InLeaf J w6 T' ((flatO pre).filter (ge key) ++ ((leafL x).take (m + 1)).filter (ge key)) T3 W3) := Lib.hid ⟨(HI.out.st.below_ HBa.out).trans hst3, by rw [HF.out, ← List.append_assoc]; exact hj3⟩
            clear hst3 hj3 hy q1 q2 HRR
            gi_wp2_with fail
            exact ⟨⟨m + 1, T3, by omega, by go_num, HI3⟩, by simp [intOf]; omega⟩
          · have HS3 := Lib.hid (((Stp.of_below HB6.out HTl.out).trans (HI.out.st.below_ HBa.out)).trans hst3)
            have HJ3 := Lib.hid hj3
            clear hst3 hj3 hy q1 q2 HRR
            gi_wp2_with fail
            exact ⟨T3, HS3.out, rfl, _, by simp, HPx.out, HJ3.out⟩
      · have he : m = n := by omega
        subst he
        have HS3 := Lib.hid ((Stp.of_below HB6.out HTl.out).trans HI.out.st)
        have HJ3 : Hid (J ((flatO (pre ++ [x])).filter (ge key)) T1 wr) := Lib.hid (by
          have := HI.out.j
          rw [List.take_of_length_le (by rw [Hn.out]; exact Nat.le_refl _)] at this
          rw [flatO_snoc, List.filter_append]
          exact this)
        gi_wp2_with fail
        exact ⟨T1, HS3.out, HJ3.out⟩
  case done =>
    intro D T' W' hj hst hD hTD hh
    have HS3 := Lib.hid (HST2.out.trans hst)
    have HJ3 := Lib.hid hj
    have HD : Hid (∀ E ∈ [D], W.heap.size ≤ E ∧ ¬ T' E) := Lib.hid fun E hE => by rw [List.mem_singleton] at hE; subst hE; exact ⟨by omega, hTD⟩
    have HH : Hid (∀ E ∈ [D], W'.heap[E]? = some (.deferred (some []))) := Lib.hid fun E hE => by rw [List.mem_singleton] at hE; subst hE; exact hh
    clear hj hst hD hTD hh hs1 hsz hb0
    gi_wp2_with fail
    refine leaves_marks [D] W' (by simp) HH.out fun w' hs => ?_
    have hq := shut_qt hs HD.out
    exact ⟨_, results_none rfl _ _ _, ⟨_, rfl⟩, T', HS3.out.qt hq (Nat.le_refl _), .inl (HJ.out _ _ _ _ HJ3.out hq)⟩
  case stop =>
    rintro D c pre T' W' hne hpre ⟨rfl, q, hq1, hq2, hj⟩ hst hD hTD hh
    have HS3 := Lib.hid (HST2.out.trans hst)
    have HJ3 := Lib.hid hj
    have HD : Hid (∀ E ∈ [D], W.heap.size ≤ E ∧ ¬ T' E) := Lib.hid fun E hE => by rw [List.mem_singleton] at hE; subst hE; exact ⟨by omega, hTD⟩
    have HH : Hid (∀ E ∈ [D], W'.heap[E]? = some (.deferred (some []))) := Lib.hid fun E hE => by rw [List.mem_singleton] at hE; subst hE; exact hh
    have HQ := Lib.hid (And.intro hq1 hq2)
    clear hj hst hD hTD hh hs1 hsz hb0 hne hpre hq1 hq2
    gi_wp2_with fail
    refine leaves_marks [D] W' (by simp) HH.out fun w' hs => ?_
    have hq := shut_qt hs HD.out
    exact ⟨_, results_none rfl _ _ _, ⟨_, rfl⟩, T', HS3.out.qt hq (Nat.le_refl _), .inr ⟨q, HQ.out.1, HQ.out.2, HJx.out _ _ _ _ HJ3.out hq⟩⟩

end Go.Proofs.Ytcoaloignmkemaa
