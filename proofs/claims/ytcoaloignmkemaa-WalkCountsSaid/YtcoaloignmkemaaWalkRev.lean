/-
  slices.Backward over entries and over pointers: the maker, the iterator: it yields each index with its element, the last one first; conditions: the slice can be read, and the body does not own what it lies in.
-/
import Derived.Test.YtcoaloignmkemaaWalkFrom
namespace Go.Proofs.Ytcoaloignmkemaa
open Go.RowKit Go.Sort Go.Shelf Rt
set_option linter.unusedVariables false
attribute [local go_sem] Oper.semAt_some wide_fn wide_depth

theorem rev_at {n d : Nat} (h : d < n) : (List.range n).reverse[d]? = some (n - 1 - d) := by
  rw [List.getElem?_reverse (by simpa using h), List.length_range, List.getElem?_range (by omega)]
theorem rev_take {n d : Nat} (h : d < n) : (List.range n).reverse.take (d + 1) = (List.range n).reverse.take d ++ [n - 1 - d] := by
  have h1 := rev_at h
  obtain ⟨hi, e⟩ := List.getElem?_eq_some_iff.1 h1
  rw [List.take_succ_eq_append_getElem hi, e]
theorem rev_prefix {n d : Nat} (h : d < n) : (List.range n).reverse.take d ++ [n - 1 - d] <+: (List.range n).reverse := by
  rw [← rev_take h]
  exact List.take_prefix _ _
theorem rev_flatMap {α β : Type} (l : List α) (d : α) (G : α → List β) : (List.range l.length).reverse.flatMap (fun i => G (l[i]?.getD d)) = l.reverse.flatMap G := by
  have h : (List.range l.length).map (fun i => l[i]?.getD d) = l := by
    apply List.ext_getElem
    · simp
    · intro i h1 h2
      simp [h2]
  conv => rhs; rw [← h]
  rw [← List.map_reverse, List.flatMap_map]
theorem rev_filter (l : List Ent) (p : Ent → Bool) : l.reverse.flatMap (fun e => if p e then [e] else []) = (l.filter p).reverse := by
  induction l with
  | nil => rfl
  | cons e l ih =>
    rw [List.reverse_cons, List.flatMap_append, ih, List.filter_cons]
    by_cases hp : p e <;> simp [hp]
/-- An index with its element. -/
def encI (f : Nat → Value) (i : Nat) : Array Value := #[.int .i64 (i : Int), f i]
def Kb (bs : Nat) (A : Option Addr) : BS := fun k => k = bs ∨ ∃ ad, A = some ad ∧ k = ad.block
theorem Ls.keepB {α : Type} {f : α → List Value} {w w' : World} {A : Option Addr} {l : List α} (h : Ls f w A l) (hb : ∀ ad, A = some ad → w'.heap[ad.block]? = w.heap[ad.block]?) (hs : w.heap.size ≤ w'.heap.size) : Ls f w' A l := fun h0 => by
  obtain ⟨ad, e, hlt, hc⟩ := h h0
  exact ⟨ad, e, Nat.lt_of_lt_of_le hlt hs, fun j u hu => (World.cell?_of_block (w := w) (by rw [block_of_add]; exact hb ad e)).trans (hc j u hu)⟩
theorem Es.keepB {w w' : World} {A : Option Addr} {l : List Ent} (h : Es w A l) (hb : ∀ ad, A = some ad → w'.heap[ad.block]? = w.heap[ad.block]?) (hs : w.heap.size ≤ w'.heap.size) : Es w' A l := fun h0 => by
  obtain ⟨ad, e, hlt, hc⟩ := h h0
  exact ⟨ad, e, Nat.lt_of_lt_of_le hlt hs, fun j u hu => (World.cell?_of_block (w := w) (by rw [block_of_add]; exact hb ad e)).trans (hc j u hu)⟩
/-- Half-way through. -/
structure InRev (J : List Nat → BS → World → Prop) (W : World) (T : BS) (pre : List Nat) (T1 : BS) (wr : World) : Prop where
  st : Stp T W T1 wr
  j : J pre T1 wr

-- BEGIN P
theorem backP_made (w : World) (A : Option Addr) (n c : Nat) : Calls Try.prog 43 #[.slice A n c] w fun e w' =>
    e = .returned (.func (.func 56) #[] #[pb w.heap.size]) ∧ w' = w.alloc (.cells #[.slice A n c] 67) := by
  go_enter Try.func43, Try.ntmps43
  go_wp2
  go_ret
  exact ⟨rfl, rfl⟩
def valP (l : List (Option Nat)) (i : Nat) : Value := ptr (l[i]?.getD none)
set_option maxHeartbeats 4000000 in
set_option maxRecDepth 100000 in
theorem backP_gives {W : World} {bs n c : Nat} {A : Option Addr} {l0 : List (Option Nat)} (hbs : W.cell? ⟨bs, 0, none⟩ = some (.slice A n c)) (hls : Ls pcP W A l0) (hn : l0.length = n) (hb : n ≤ 1000000) :
    Gives Try.prog 56 #[pb bs] (encI (valP l0)) (List.range n).reverse (Kb bs A) W := by
  intro l J Jx T hT hJ hJx hY h0
  have HT := Lib.hid hT
  have HJ := Lib.hid hJ
  have HJx := Lib.hid hJx
  have HY := Lib.hid hY
  have H0 := Lib.hid h0
  have HLS := Lib.hid hls
  have Hn := Lib.hid hn
  have HBS := Lib.hid hbs
  clear hT hJ hJx hY h0 hls hn
  refine callsIn_of_wp_marks Try.func56 rfl trivial ?_ rfl
  simp only [Try.ntmps56, List.size_toArray, List.length_cons, List.length_nil, Nat.reduceAdd, Nat.reduceSub, Array.replicate_succ, Array.replicate_zero, List.push_toArray, List.append_toArray, List.nil_append, List.cons_append]
  gi_wp2_with fail
  gi_loopw [3] (fun s3 wr => ∃ (d : Nat) (T1 : BS), d ≤ n ∧ s3 = .int .i64 ((n : Int) - 1 - d) ∧ Hid (InRev J W T ((List.range n).reverse.take d) T1 wr)) (fun s3 _ => (intOf s3 + 1).toNat)
  case atStart => exact ⟨0, T, Nat.zero_le _, by simp, Lib.hid ⟨.refl fun k hk => (HT.out k hk).1, H0.out⟩⟩
  case round =>
    obtain ⟨d, T1, hd, rfl, HI⟩ := hrel
    have hbr := HI.out.st.cell HBS.out fun h => (HT.out _ h).2 (.inl rfl)
    by_cases hlt : d < n
    · obtain ⟨ad, p, rfl, hp, hadl, hc⟩ := (HLS.out.keepB (fun ad e => HI.out.st.same _ (by
          obtain ⟨ad', e', hl, _⟩ := HLS.out (by rw [Hn.out]; omega)
          rw [e] at e'
          cases e'
          exact hl) fun h => (HT.out _ h).2 (.inr ⟨ad, e, rfl⟩)) HI.out.st.fx.size).ptr_at (i := n - 1 - d) (by rw [Hn.out]; omega)
      obtain ⟨i, hi⟩ : ∃ i, n - 1 - d = i := ⟨_, rfl⟩
      have hii : (n : Int) - 1 - d = (i : Int) := by omega
      have hin : i < n := by omega
      rw [hi] at hp hc
      rw [hii]
      have HPre : Hid ((List.range n).reverse.take d ++ [i] <+: (List.range n).reverse) := Lib.hid (by rw [← hi]; exact rev_prefix hlt)
      have HTk : Hid ((List.range n).reverse.take (d + 1) = (List.range n).reverse.take d ++ [i]) := Lib.hid (by rw [← hi]; exact rev_take hlt)
      have hv : valP l0 i = ptr p := by unfold valP; rw [hp]; rfl
      obtain ⟨fn, tmps, assign, body, hy, hR⟩ := HY.out _ i T1 wr HPre.out HI.out.j
      simp only [encI, hv] at hy
      obtain ⟨u, hu⟩ : ∃ u, ptr p = u := ⟨_, rfl⟩
      rw [hu] at hy hc
      have HRR := Lib.hid hR
      have HII := Lib.hid hii
      have HIN := Lib.hid hi
      clear hR hp hv hu hi hii
      gi_wp2_with fail
      refine HRR.out.mono ?_
      rintro r W3 ⟨T3, hst3, ⟨rfl, hj3⟩ | ⟨rfl, hj3⟩⟩
      · have HI3 : Hid (InRev J W T ((List.range n).reverse.take (d + 1)) T3 W3) := Lib.hid ⟨HI.out.st.trans hst3, by rw [HTk.out]; exact hj3⟩
        clear hst3 hj3 hy HRR hbr hc
        gi_wp2_with fail
        exact ⟨⟨d + 1, T3, by omega, by have := HII.out; go_num, HI3⟩, by simp [intOf]⟩
      · have HS3 := Lib.hid (HI.out.st.trans hst3)
        have HJ3 := Lib.hid hj3
        clear hst3 hj3 hy HRR hbr hc
        gi_wp2_with fail
        exact ⟨_, results_none rfl _ _ _, ⟨_, rfl⟩, T3, HS3.out, .inr ⟨_, by simp, HPre.out, HJ3.out⟩⟩
    · have he : d = n := by omega
      subst he
      have HJ3 := Lib.hid HI.out.j
      rw [List.take_of_length_le (by simp)] at HJ3
      gi_wp2_with fail
      exact ⟨_, results_none rfl _ _ _, ⟨_, rfl⟩, T1, HI.out.st, .inl HJ3.out⟩
-- END P

-- BEGIN E
theorem backE_made (w : World) (A : Option Addr) (n c : Nat) : Calls Try.prog 32 #[.slice A n c] w fun e w' =>
    e = .returned (.func (.func 44) #[] #[pb w.heap.size]) ∧ w' = w.alloc (.cells #[.slice A n c] 22) := by
  go_enter Try.func32, Try.ntmps32
  go_wp2
  go_ret
  exact ⟨rfl, rfl⟩
def entD : Ent := ⟨ByteArray.empty, ByteArray.empty⟩
def agE (e : Ent) : Value := .agg #[.string e.k, .string e.v]
def valE (l : List Ent) (i : Nat) : Value := agE (l[i]?.getD entD)
set_option maxHeartbeats 4000000 in
set_option maxRecDepth 100000 in
theorem backE_gives {W : World} {bs n c : Nat} {A : Option Addr} {l0 : List Ent} (hbs : W.cell? ⟨bs, 0, none⟩ = some (.slice A n c)) (hls : Es W A l0) (hn : l0.length = n) (hb : n ≤ 1000000) :
    Gives Try.prog 44 #[pb bs] (encI (valE l0)) (List.range n).reverse (Kb bs A) W := by
  intro l J Jx T hT hJ hJx hY h0
  have HT := Lib.hid hT
  have HJ := Lib.hid hJ
  have HJx := Lib.hid hJx
  have HY := Lib.hid hY
  have H0 := Lib.hid h0
  have HLS := Lib.hid hls
  have Hn := Lib.hid hn
  have HBS := Lib.hid hbs
  clear hT hJ hJx hY h0 hls hn
  refine callsIn_of_wp_marks Try.func44 rfl trivial ?_ rfl
  simp only [Try.ntmps44, List.size_toArray, List.length_cons, List.length_nil, Nat.reduceAdd, Nat.reduceSub, Array.replicate_succ, Array.replicate_zero, List.push_toArray, List.append_toArray, List.nil_append, List.cons_append]
  gi_wp2_with fail
  gi_loopw [3] (fun s3 wr => ∃ (d : Nat) (T1 : BS), d ≤ n ∧ s3 = .int .i64 ((n : Int) - 1 - d) ∧ Hid (InRev J W T ((List.range n).reverse.take d) T1 wr)) (fun s3 _ => (intOf s3 + 1).toNat)
  case atStart => exact ⟨0, T, Nat.zero_le _, by simp, Lib.hid ⟨.refl fun k hk => (HT.out k hk).1, H0.out⟩⟩
  case round =>
    obtain ⟨d, T1, hd, rfl, HI⟩ := hrel
    have hbr := HI.out.st.cell HBS.out fun h => (HT.out _ h).2 (.inl rfl)
    by_cases hlt : d < n
    · obtain ⟨ad, p, rfl, hp, hadl, hc, hc'⟩ := (HLS.out.keepB (fun ad e => HI.out.st.same _ (by
          obtain ⟨ad', e', hl, _⟩ := HLS.out (by rw [Hn.out]; omega)
          rw [e] at e'
          cases e'
          exact hl) fun h => (HT.out _ h).2 (.inr ⟨ad, e, rfl⟩)) HI.out.st.fx.size).at_ (i := n - 1 - d) (by rw [Hn.out]; omega)
      obtain ⟨i, hi⟩ : ∃ i, n - 1 - d = i := ⟨_, rfl⟩
      have hii : (n : Int) - 1 - d = (i : Int) := by omega
      have hin : i < n := by omega
      rw [hi] at hp hc hc'
      rw [hii]
      have HPre : Hid ((List.range n).reverse.take d ++ [i] <+: (List.range n).reverse) := Lib.hid (by rw [← hi]; exact rev_prefix hlt)
      have HTk : Hid ((List.range n).reverse.take (d + 1) = (List.range n).reverse.take d ++ [i]) := Lib.hid (by rw [← hi]; exact rev_take hlt)
      have hv : valE l0 i = .agg #[.string p.k, .string p.v] := by unfold valE; rw [hp]; rfl
      obtain ⟨fn, tmps, assign, body, hy, hR⟩ := HY.out _ i T1 wr HPre.out HI.out.j
      simp only [encI, hv] at hy
      have HRR := Lib.hid hR
      have HII := Lib.hid hii
      have HIN := Lib.hid hi
      clear hR hp hv hi hii
      gi_wp2_with fail
      refine HRR.out.mono ?_
      rintro r W3 ⟨T3, hst3, ⟨rfl, hj3⟩ | ⟨rfl, hj3⟩⟩
      · have HI3 : Hid (InRev J W T ((List.range n).reverse.take (d + 1)) T3 W3) := Lib.hid ⟨HI.out.st.trans hst3, by rw [HTk.out]; exact hj3⟩
        clear hst3 hj3 hy HRR hbr hc hc'
        gi_wp2_with fail
        exact ⟨⟨d + 1, T3, by omega, by have := HII.out; go_num, HI3⟩, by simp [intOf]⟩
      · have HS3 := Lib.hid (HI.out.st.trans hst3)
        have HJ3 := Lib.hid hj3
        clear hst3 hj3 hy HRR hbr hc hc'
        gi_wp2_with fail
        exact ⟨_, results_none rfl _ _ _, ⟨_, rfl⟩, T3, HS3.out, .inr ⟨_, by simp, HPre.out, HJ3.out⟩⟩
    · have he : d = n := by omega
      subst he
      have HJ3 := Lib.hid HI.out.j
      rw [List.take_of_length_le (by simp)] at HJ3
      gi_wp2_with fail
      exact ⟨_, results_none rfl _ _ _, ⟨_, rfl⟩, T1, HI.out.st, .inl HJ3.out⟩
-- END E

end Go.Proofs.Ytcoaloignmkemaa
