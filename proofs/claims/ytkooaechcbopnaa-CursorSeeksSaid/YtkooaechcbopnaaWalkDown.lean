/-
  slices.Backward over entries and over pointers; the iterators over the leaves of a tree up to a key, and of walk.BackFrom, the last one first; conditions: the tree is valid and lies in memory, or is nil.
-/
import Derived.Test.YtkooaechcbopnaaWalkUp
namespace Go.Proofs.Ytkooaechcbopnaa
open Go.RowKit Go.Sort Go.Shelf Rt
set_option linter.unusedVariables false
attribute [local go_sem] Oper.semAt_some wide_fn wide_depth

theorem rev_at {n d : Nat} (h : d < n) : (List.range n).reverse[d]? = some (n - 1 - d) := by
  rw [List.getElem?_reverse (by simpa using h), List.length_range, List.getElem?_range (by omega)]
theorem rev_take {n d : Nat} (h : d < n) : (List.range n).reverse.take (d + 1) = (List.range n).reverse.take d ++ [n - 1 - d] := by
  have h1 := rev_at h
  obtain ⟨hi, e⟩ := List.getElem?_eq_some_iff.1 h1
  rw [List.take_succ_eq_append_getElem hi, e]
theorem rev_prefix {n d : Nat} (h : d < n) : (List.range n).reverse.take d ++ [n - 1 - d] <+: (List.range n).reverse := by
  rw [← rev_take h]
  exact List.take_prefix _ _
theorem rev_flatMap {α β : Type} (l : List α) (d : α) (G : α → List β) : (List.range l.length).reverse.flatMap (fun i => G (l[i]?.getD d)) = l.reverse.flatMap G := by
  have h : (List.range l.length).map (fun i => l[i]?.getD d) = l := by
    apply List.ext_getElem
    · simp
    · intro i h1 h2
      simp [h2]
  conv => rhs; rw [← h]
  rw [← List.map_reverse, List.flatMap_map]
theorem rev_filter (l : List Ent) (p : Ent → Bool) : l.reverse.flatMap (fun e => if p e then [e] else []) = (l.filter p).reverse := by
  induction l with
  | nil => rfl
  | cons e l ih =>
    rw [List.reverse_cons, List.flatMap_append, ih, List.filter_cons]
    by_cases hp : p e <;> simp [hp]
/-- An index with its element. -/
def encI (f : Nat → Value) (i : Nat) : Array Value := #[.int .i64 (i : Int), f i]
def Kb (bs : Nat) (A : Option Addr) : BS := fun k => k = bs ∨ ∃ ad, A = some ad ∧ k = ad.block
theorem Ls.keepB {α : Type} {f : α → List Value} {w w' : World} {A : Option Addr} {l : List α} (h : Ls f w A l) (hb : ∀ ad, A = some ad → w'.heap[ad.block]? = w.heap[ad.block]?) (hs : w.heap.size ≤ w'.heap.size) : Ls f w' A l := fun h0 => by
  obtain ⟨ad, e, hlt, hc⟩ := h h0
  exact ⟨ad, e, Nat.lt_of_lt_of_le hlt hs, fun j u hu => (World.cell?_of_block (w := w) (by rw [block_of_add]; exact hb ad e)).trans (hc j u hu)⟩
theorem Es.keepB {w w' : World} {A : Option Addr} {l : List Ent} (h : Es w A l) (hb : ∀ ad, A = some ad → w'.heap[ad.block]? = w.heap[ad.block]?) (hs : w.heap.size ≤ w'.heap.size) : Es w' A l := fun h0 => by
  obtain ⟨ad, e, hlt, hc⟩ := h h0
  exact ⟨ad, e, Nat.lt_of_lt_of_le hlt hs, fun j u hu => (World.cell?_of_block (w := w) (by rw [block_of_add]; exact hb ad e)).trans (hc j u hu)⟩
/-- Half-way through. -/
structure InRev (J : List Nat → BS → World → Prop) (W : World) (T : BS) (pre : List Nat) (T1 : BS) (wr : World) : Prop where
  st : Stp T W T1 wr
  j : J pre T1 wr

-- BEGIN P
theorem backP_made (w : World) (A : Option Addr) (n c : Nat) : Calls Try.prog 63 #[.slice A n c] w fun e w' =>
    e = .returned (.func (.func 76) #[] #[pb w.heap.size]) ∧ w' = w.alloc (.cells #[.slice A n c] 63) := by
  go_enter Try.func63, Try.ntmps63
  go_wp2
  go_ret
  exact ⟨rfl, rfl⟩
def valP (l : List (Option Nat)) (i : Nat) : Value := ptr (l[i]?.getD none)
set_option maxHeartbeats 4000000 in
set_option maxRecDepth 100000 in
theorem backP_gives {W : World} {bs n c : Nat} {A : Option Addr} {l0 : List (Option Nat)} (hbs : W.cell? ⟨bs, 0, none⟩ = some (.slice A n c)) (hls : Ls pcP W A l0) (hn : l0.length = n) (hb : n ≤ 1000000) :
    Gives Try.prog 76 #[pb bs] (encI (valP l0)) (List.range n).reverse (Kb bs A) W := by
  intro l J Jx T hT hJ hJx hY h0
  have HT := Lib.hid hT
  have HJ := Lib.hid hJ
  have HJx := Lib.hid hJx
  have HY := Lib.hid hY
  have H0 := Lib.hid h0
  have HLS := Lib.hid hls
  have Hn := Lib.hid hn
  have HBS := Lib.hid hbs
  clear hT hJ hJx hY h0 hls hn
  refine callsIn_of_wp_marks Try.func76 rfl trivial ?_ rfl
  simp only [Try.ntmps76, List.size_toArray, List.length_cons, List.length_nil, Nat.reduceAdd, Nat.reduceSub, Array.replicate_succ, Array.replicate_zero, List.push_toArray, List.append_toArray, List.nil_append, List.cons_append]
  gi_wp2_with fail
  gi_loopw [3] (fun s3 wr => ∃ (d : Nat) (T1 : BS), d ≤ n ∧ s3 = .int .i64 ((n : Int) - 1 - d) ∧ Hid (InRev J W T ((List.range n).reverse.take d) T1 wr)) (fun s3 _ => (intOf s3 + 1).toNat)
  case atStart => exact ⟨0, T, Nat.zero_le _, by simp, Lib.hid ⟨.refl fun k hk => (HT.out k hk).1, H0.out⟩⟩
  case round =>
    obtain ⟨d, T1, hd, rfl, HI⟩ := hrel
    have hbr := HI.out.st.cell HBS.out fun h => (HT.out _ h).2 (.inl rfl)
    by_cases hlt : d < n
    · obtain ⟨ad, p, rfl, hp, hadl, hc⟩ := (HLS.out.keepB (fun ad e => HI.out.st.same _ (by
          obtain ⟨ad', e', hl, _⟩ := HLS.out (by rw [Hn.out]; omega)
          rw [e] at e'
          cases e'
          exact hl) fun h => (HT.out _ h).2 (.inr ⟨ad, e, rfl⟩)) HI.out.st.fx.size).ptr_at (i := n - 1 - d) (by rw [Hn.out]; omega)
      obtain ⟨i, hi⟩ : ∃ i, n - 1 - d = i := ⟨_, rfl⟩
      have hii : (n : Int) - 1 - d = (i : Int) := by omega
      have hin : i < n := by omega
      rw [hi] at hp hc
      rw [hii]
      have HPre : Hid ((List.range n).reverse.take d ++ [i] <+: (List.range n).reverse) := Lib.hid (by rw [← hi]; exact rev_prefix hlt)
      have HTk : Hid ((List.range n).reverse.take (d + 1) = (List.range n).reverse.take d ++ [i]) := Lib.hid (by rw [← hi]; exact rev_take hlt)
      have hv : valP l0 i = ptr p := by unfold valP; rw [hp]; rfl
      obtain ⟨fn, tmps, assign, body, hy, hR⟩ := HY.out _ i T1 wr HPre.out HI.out.j
      simp only [encI, hv] at hy
      obtain ⟨u, hu⟩ : ∃ u, ptr p = u := ⟨_, rfl⟩
      rw [hu] at hy hc
      have HRR := Lib.hid hR
      have HII := Lib.hid hii
      have HIN := Lib.hid hi
      clear hR hp hv hu hi hii
      gi_wp2_with fail
      refine HRR.out.mono ?_
      rintro r W3 ⟨T3, hst3, ⟨rfl, hj3⟩ | ⟨rfl, hj3⟩⟩
      · have HI3 : Hid (InRev J W T ((List.range n).reverse.take (d + 1)) T3 W3) := Lib.hid ⟨HI.out.st.trans hst3, by rw [HTk.out]; exact hj3⟩
        clear hst3 hj3 hy HRR hbr hc
        gi_wp2_with fail
        exact ⟨⟨d + 1, T3, by omega, by have := HII.out; go_num, HI3⟩, by simp [intOf]⟩
      · have HS3 := Lib.hid (HI.out.st.trans hst3)
        have HJ3 := Lib.hid hj3
        clear hst3 hj3 hy HRR hbr hc
        gi_wp2_with fail
        exact ⟨_, results_none rfl _ _ _, ⟨_, rfl⟩, T3, HS3.out, .inr ⟨_, by simp, HPre.out, HJ3.out⟩⟩
    · have he : d = n := by omega
      subst he
      have HJ3 := Lib.hid HI.out.j
      rw [List.take_of_length_le (by simp)] at HJ3
      gi_wp2_with fail
      exact ⟨_, results_none rfl _ _ _, ⟨_, rfl⟩, T1, HI.out.st, .inl HJ3.out⟩
-- END P

-- BEGIN E
theorem backE_made (w : World) (A : Option Addr) (n c : Nat) : Calls Try.prog 45 #[.slice A n c] w fun e w' =>
    e = .returned (.func (.func 64) #[] #[pb w.heap.size]) ∧ w' = w.alloc (.cells #[.slice A n c] 22) := by
  go_enter Try.func45, Try.ntmps45
  go_wp2
  go_ret
  exact ⟨rfl, rfl⟩
def entD : Ent := ⟨ByteArray.empty, ByteArray.empty⟩
def agE (e : Ent) : Value := .agg #[.string e.k, .string e.v]
def valE (l : List Ent) (i : Nat) : Value := agE (l[i]?.getD entD)
set_option maxHeartbeats 4000000 in
set_option maxRecDepth 100000 in
theorem backE_gives {W : World} {bs n c : Nat} {A : Option Addr} {l0 : List Ent} (hbs : W.cell? ⟨bs, 0, none⟩ = some (.slice A n c)) (hls : Es W A l0) (hn : l0.length = n) (hb : n ≤ 1000000) :
    Gives Try.prog 64 #[pb bs] (encI (valE l0)) (List.range n).reverse (Kb bs A) W := by
  intro l J Jx T hT hJ hJx hY h0
  have HT := Lib.hid hT
  have HJ := Lib.hid hJ
  have HJx := Lib.hid hJx
  have HY := Lib.hid hY
  have H0 := Lib.hid h0
  have HLS := Lib.hid hls
  have Hn := Lib.hid hn
  have HBS := Lib.hid hbs
  clear hT hJ hJx hY h0 hls hn
  refine callsIn_of_wp_marks Try.func64 rfl trivial ?_ rfl
  simp only [Try.ntmps64, List.size_toArray, List.length_cons, List.length_nil, Nat.reduceAdd, Nat.reduceSub, Array.replicate_succ, Array.replicate_zero, List.push_toArray, List.append_toArray, List.nil_append, List.cons_append]
  gi_wp2_with fail
  gi_loopw [3] (fun s3 wr => ∃ (d : Nat) (T1 : BS), d ≤ n ∧ s3 = .int .i64 ((n : Int) - 1 - d) ∧ Hid (InRev J W T ((List.range n).reverse.take d) T1 wr)) (fun s3 _ => (intOf s3 + 1).toNat)
  case atStart => exact ⟨0, T, Nat.zero_le _, by simp, Lib.hid ⟨.refl fun k hk => (HT.out k hk).1, H0.out⟩⟩
  case round =>
    obtain ⟨d, T1, hd, rfl, HI⟩ := hrel
    have hbr := HI.out.st.cell HBS.out fun h => (HT.out _ h).2 (.inl rfl)
    by_cases hlt : d < n
    · obtain ⟨ad, p, rfl, hp, hadl, hc, hc'⟩ := (HLS.out.keepB (fun ad e => HI.out.st.same _ (by
          obtain ⟨ad', e', hl, _⟩ := HLS.out (by rw [Hn.out]; omega)
          rw [e] at e'
          cases e'
          exact hl) fun h => (HT.out _ h).2 (.inr ⟨ad, e, rfl⟩)) HI.out.st.fx.size).at_ (i := n - 1 - d) (by rw [Hn.out]; omega)
      obtain ⟨i, hi⟩ : ∃ i, n - 1 - d = i := ⟨_, rfl⟩
      have hii : (n : Int) - 1 - d = (i : Int) := by omega
      have hin : i < n := by omega
      rw [hi] at hp hc hc'
      rw [hii]
      have HPre : Hid ((List.range n).reverse.take d ++ [i] <+: (List.range n).reverse) := Lib.hid (by rw [← hi]; exact rev_prefix hlt)
      have HTk : Hid ((List.range n).reverse.take (d + 1) = (List.range n).reverse.take d ++ [i]) := Lib.hid (by rw [← hi]; exact rev_take hlt)
      have hv : valE l0 i = .agg #[.string p.k, .string p.v] := by unfold valE; rw [hp]; rfl
      obtain ⟨fn, tmps, assign, body, hy, hR⟩ := HY.out _ i T1 wr HPre.out HI.out.j
      simp only [encI, hv] at hy
      have HRR := Lib.hid hR
      have HII := Lib.hid hii
      have HIN := Lib.hid hi
      clear hR hp hv hi hii
      gi_wp2_with fail
      refine HRR.out.mono ?_
      rintro r W3 ⟨T3, hst3, ⟨rfl, hj3⟩ | ⟨rfl, hj3⟩⟩
      · have HI3 : Hid (InRev J W T ((List.range n).reverse.take (d + 1)) T3 W3) := Lib.hid ⟨HI.out.st.trans hst3, by rw [HTk.out]; exact hj3⟩
        clear hst3 hj3 hy HRR hbr hc hc'
        gi_wp2_with fail
        exact ⟨⟨d + 1, T3, by omega, by have := HII.out; go_num, HI3⟩, by simp [intOf]⟩
      · have HS3 := Lib.hid (HI.out.st.trans hst3)
        have HJ3 := Lib.hid hj3
        clear hst3 hj3 hy HRR hbr hc hc'
        gi_wp2_with fail
        exact ⟨_, results_none rfl _ _ _, ⟨_, rfl⟩, T3, HS3.out, .inr ⟨_, by simp, HPre.out, HJ3.out⟩⟩
    · have he : d = n := by omega
      subst he
      have HJ3 := Lib.hid HI.out.j
      rw [List.take_of_length_le (by simp)] at HJ3
      gi_wp2_with fail
      exact ⟨_, results_none rfl _ _ _, ⟨_, rfl⟩, T1, HI.out.st, .inl HJ3.out⟩
-- END E

set_option maxHeartbeats 4000000 in
set_option maxRecDepth 100000 in
theorem leavesBack_one {w0 : World} {x : OS} (hk : NoKids w0 x) {W : World} {bn bk : Nat} (hb : Below w0.heap.size w0 W) (hbn : W.cell? ⟨bn, 0, none⟩ = some (ptr (x.map (·.b)))) :
    Gives Try.prog 62 #[pb bn, pb bk] encO [x] (Kf w0.heap.size bn bk) W := by
  intro l J Jx T hT hJ hJx hY h0
  obtain ⟨px, hpx⟩ : ∃ px, (x.map (·.b)).map (fun b => (⟨b, 0, none⟩ : Addr)) = px := ⟨_, rfl⟩
  have hpv : ptr (x.map (·.b)) = .pointer px := by rw [← hpx]; rfl
  have HPX : Hid (encO x = #[.pointer px]) := Lib.hid (by rw [← hpv]; rfl)
  rw [hpv] at hbn
  have HT := Lib.hid hT
  have HJ := Lib.hid hJ
  have HJx := Lib.hid hJx
  have HY := Lib.hid hY
  have H0 := Lib.hid h0
  have HK := Lib.hid hk
  have HB := Lib.hid hb
  have HPV := Lib.hid hpv
  clear hT hJ hJx hY h0 hk hb hpx hpv
  refine callsIn_of_wp_marks Try.func62 rfl trivial ?_ rfl
  simp only [Try.ntmps62, List.size_toArray, List.length_cons, List.length_nil, Nat.reduceAdd, Nat.reduceSub, Array.replicate_succ, Array.replicate_zero, List.push_toArray, List.append_toArray, List.nil_append, List.cons_append]
  have hb1 : Below W.heap.size W (W.alloc (.cells #[.func (.yield l) #[] #[]] 94)) := (Below.refl _ _).alloc (Nat.le_refl _) _
  have HY1 : Hid ((W.alloc (.cells #[.func (.yield l) #[] #[]] 94)).heap[W.heap.size]? = some (.cells #[.func (.yield l) #[] #[]] 94 (0, 0))) := Lib.hid (heap_alloc_new W _)
  have q1 : (W.alloc (.cells #[.func (.yield l) #[] #[]] 94)).cell? ⟨bn, 0, none⟩ = some (.pointer px) := (hb1.cell (p := ⟨bn, 0, none⟩) (cell_lt hbn)).trans hbn
  have HBN := Lib.hid hbn
  have HB1 := Lib.hid hb1
  clear hb1 hbn
  gi_wp2_with fail
  refine CallsIn.mono (callsIn_wide.2 (by have := HK.out _ (HB.out.trans (HB1.out.mono HB.out.size)); rw [HPV.out] at this; exact this)) ?_
  rintro r w2 ⟨A2, c2, rfl, hb2⟩
  have HB2 := Lib.hid (bthen HB1.out hb2)
  have hby : w2.cell? ⟨W.heap.size, 0, none⟩ = some (.func (.yield l) #[] #[]) := cell_row ((hb2.block _ (Nat.lt_of_lt_of_le (Nat.lt_succ_self _) (by simp))).trans HY1.out) 0 _ rfl
  have q2 : w2.cell? ⟨bn, 0, none⟩ = some (.pointer px) := (HB2.out.cell (p := ⟨bn, 0, none⟩) (cell_lt HBN.out)).trans HBN.out
  obtain ⟨fn, tmps, assign, body, hy, hR⟩ := HY.out [] x T w2 (List.prefix_refl _) (HJ.out _ _ _ _ H0.out (.of_below HB2.out))
  rw [HPX.out] at hy
  clear hb2
  gi_wp2_with fail
  refine hR.mono ?_
  rintro e W3 ⟨T3, hst3, ⟨rfl, hj3⟩ | ⟨rfl, hj3⟩⟩
  · have HS3 := Lib.hid ((Stp.of_below HB2.out fun k hk => (HT.out k hk).1).trans hst3)
    have HJ3 := Lib.hid hj3
    clear hst3 hj3 hy hby
    gi_wp2_with fail
    exact ⟨_, results_none rfl _ _ _, ⟨_, rfl⟩, T3, HS3.out, .inl HJ3.out⟩
  · have HS3 := Lib.hid ((Stp.of_below HB2.out fun k hk => (HT.out k hk).1).trans hst3)
    have HJ3 := Lib.hid hj3
    clear hst3 hj3 hy hby
    gi_wp2_with fail
    exact ⟨_, results_none rfl _ _ _, ⟨_, rfl⟩, T3, HS3.out, .inr ⟨_, by simp, List.prefix_refl _, HJ3.out⟩⟩

theorem ownP_addr {w : World} {base n c : Nat} {A : Option Addr} {l : List (Option Nat)} (h : OwnP w base (.slice A n c) l) : ∀ ad, A = some ad → base ≤ ad.block ∧ ad.block < w.heap.size := by
  intro ad e
  subst e
  rcases h.2 with ⟨h1, _⟩ | ⟨g, cap, cur, h1, h2, h3, _⟩
  · cases h1
  · cases h1
    exact ⟨h2, (Array.getElem?_eq_some_iff.1 h3).1⟩
theorem gtr_eq (a b : ByteArray) : (!Op.bytesLess a.toList b.toList && !a.toList == b.toList) = decide (kl b a) := by
  rw [less_eq, same_eq]
  by_cases h : kl b a
  · rw [decide_eq_true h, decide_eq_false (kl_asymm h), decide_eq_false (fun e : a = b => kl_irrefl b (by rw [e] at h; exact h))]
    rfl
  · by_cases h2 : kl a b
    · rw [decide_eq_true h2, decide_eq_false h]
      rfl
    · rw [decide_eq_true (kl_tri h2 h), decide_eq_false h2, decide_eq_false h]
      rfl
def Fb (key : ByteArray) (f : ST → List OS) (k : ST) : List OS := if kl key k.N.lo then [] else f k
theorem flatMap_snoc {α β : Type} (l : List α) (x : α) (f : α → List β) : (l ++ [x]).flatMap f = l.flatMap f ++ f x := by simp
theorem flatMap_pre {α β : Type} {pre l : List α} {f : α → List β} (h : pre <+: l) : pre.flatMap f <+: l.flatMap f := by
  obtain ⟨r, rfl⟩ := h
  exact ⟨r.flatMap f, by simp⟩

set_option maxHeartbeats 8000000 in
set_option maxRecDepth 100000 in
theorem leavesBack_branch {w0 : World} {h : Nat} {s : ST} {ks : List ST} (hN : NodeAt w0 s.b s.N) (hk : KidsOf w0 h s ks) (key : ByteArray) (f : ST → List OS) {W : World} {bn bk : Nat} (hb : Below w0.heap.size w0 W)
    (hbn : W.cell? ⟨bn, 0, none⟩ = some (pn s.b)) (hbk : W.cell? ⟨bk, 0, none⟩ = some (.string key))
    (hf : ∀ k ∈ ks, ∀ W bn bk, Below w0.heap.size w0 W → W.cell? ⟨bn, 0, none⟩ = some (pn k.b) → W.cell? ⟨bk, 0, none⟩ = some (.string key) →
      Gives Try.prog 62 #[pb bn, pb bk] encO (f k) (Kf w0.heap.size bn bk) W) :
    Gives Try.prog 62 #[pb bn, pb bk] encO (ks.reverse.flatMap (Fb key f)) (Kf w0.heap.size bn bk) W := by
  obtain ⟨g, hg⟩ : ∃ g : Nat → List OS, g = fun i => Fb key f (ks[i]?.getD s) := ⟨_, rfl⟩
  rw [← rev_flatMap ks s (Fb key f), ← hg]
  intro l J Jx T hT hJ hJx hY h0
  have HGk : Hid (∀ i k, ks[i]? = some k → g i = Fb key f k) := Lib.hid fun i k hi => by rw [hg]; simp [hi]
  have HT := Lib.hid hT
  have HJ := Lib.hid hJ
  have HJx := Lib.hid hJx
  have HY := Lib.hid hY
  have H0 := Lib.hid h0
  have HN := Lib.hid hN
  have HK := Lib.hid hk
  have HF := Lib.hid hf
  have HB := Lib.hid hb
  clear hT hJ hJx hY h0 hN hk hf hb hg
  refine callsIn_of_wp_marks Try.func62 rfl trivial ?_ rfl
  simp only [Try.ntmps62, List.size_toArray, List.length_cons, List.length_nil, Nat.reduceAdd, Nat.reduceSub, Array.replicate_succ, Array.replicate_zero, List.push_toArray, List.append_toArray, List.nil_append, List.cons_append]
  have hb1 : Below W.heap.size W (W.alloc (.cells #[.func (.yield l) #[] #[]] 94)) := (Below.refl _ _).alloc (Nat.le_refl _) _
  have HY1 : Hid ((W.alloc (.cells #[.func (.yield l) #[] #[]] 94)).heap[W.heap.size]? = some (.cells #[.func (.yield l) #[] #[]] 94 (0, 0))) := Lib.hid (heap_alloc_new W _)
  have q1 : (W.alloc (.cells #[.func (.yield l) #[] #[]] 94)).cell? ⟨bn, 0, none⟩ = some (pn s.b) := (hb1.cell (p := ⟨bn, 0, none⟩) (cell_lt hbn)).trans hbn
  have HBN := Lib.hid hbn
  have HBK := Lib.hid hbk
  have HB1 := Lib.hid hb1
  clear hb1 hbn hbk
  gi_wp2_with fail
  refine CallsIn.mono (callsIn_wide.2 (kids_any (HN.out.below (HB.out.trans (HB1.out.mono HB.out.size))) (HK.out.ls.below (HB.out.trans (HB1.out.mono HB.out.size))) (by rw [HK.out.br.kn, ptrS_len, nbs_len]) (by rw [HK.out.br.kn, nbs_len]; have := HK.out.six; omega))) ?_
  rintro r w2 ⟨v2, rfl, ho2, hb2⟩
  obtain ⟨A2, c2, rfl, hc2, hls2⟩ := ho2.form
  rw [ptrS_len] at hc2 ⊢
  have h2 := HK.out.two
  have HB2 := Lib.hid (bthen HB1.out hb2)
  have HY2 := Lib.hid ((hb2.block _ (Nat.lt_of_lt_of_le (Nat.lt_succ_self _) (by simp))).trans HY1.out)
  rw [ptrS_len] at ho2
  have HO2 := Lib.hid ho2
  have h6 := HK.out.six
  have h0n : ¬ ((ks.length : Int) = 0) := by omega
  have HA2 : Hid (∀ ad, A2 = some ad → W.heap.size < ad.block ∧ ad.block < w2.heap.size) := Lib.hid fun ad e => by
    have := ownP_addr ho2 ad e
    simp at this
    omega
  clear ho2 hb2 hls2 q1 HB1 HY1
  gi_wp2_with fail
  refine CallsIn.mono (callsIn_wide.2 (backP_made w2 A2 ks.length c2)) ?_
  rintro r w3 ⟨rfl, rfl⟩
  have hb3 : Below w2.heap.size w2 (w2.alloc (.cells #[.slice A2 ks.length c2] 63)) := (Below.refl _ _).alloc (Nat.le_refl _) _
  have HBs := Lib.hid (heap_alloc_new w2 (.cells #[.slice A2 ks.length c2] 63))
  have HS3 : Hid ((w2.alloc (.cells #[.slice A2 ks.length c2] 63)).heap.size = w2.heap.size + 1) := Lib.hid (by simp)
  obtain ⟨w3, hw3⟩ : ∃ w3, w2.alloc (.cells #[.slice A2 ks.length c2] 63) = w3 := ⟨_, rfl⟩
  rw [hw3] at hb3 HBs HS3 ⊢
  have HB3 := Lib.hid (bthen HB2.out hb3)
  have HLS := Lib.hid (ownP_ls (HO2.out.below hb3))
  have HY3 := Lib.hid ((hb3.block _ (Array.getElem?_eq_some_iff.1 HY2.out).1).trans HY2.out)
  have HTW : Hid (∀ k, T k → k < W.heap.size) := Lib.hid fun k hk => (HT.out k hk).1
  have HSI : Hid (W.heap.size < w2.heap.size ∧ w0.heap.size ≤ W.heap.size) := Lib.hid ⟨(Array.getElem?_eq_some_iff.1 HY2.out).1, HB.out.size⟩
  have HST3 := Lib.hid (Stp.of_below HB3.out HTW.out)
  clear hb3 hw3 HB2 HY2 HO2
  gi_wp2_with fail
  have hsi := HSI.out
  have hs3 := HS3.out
  refine wpIn_range (gf := 76) (lb := #[pb w2.heap.size]) rfl (enters_of Try.func76 (by kernel_rfl) rfl) (encs := encI (valP (ptrS ks))) (fun _ => rfl)
    (xs := (List.range ks.length).reverse) (fun W' hb' => backP_gives (cell_row ((hb'.block _ (by omega)).trans HBs.out) 0 _ rfl) (HLS.out.below hb') (ptrS_len ks) (by omega))
    (T := T) (fun i hi => ⟨by have := HTW.out i hi; omega, fun hK => ?hK1⟩) (fun i hi => ?hK2)
    (fun pre T' W' => J (pre.flatMap g) T' W') (fun c pre T' W' => c = .ret ∧ ∃ q, q ≠ [] ∧ q <+: (List.range ks.length).reverse.flatMap g ∧ Jx q T' W')
    ?hI (fun c => ?hIx) ?h0 ?round ?done ?stop
  case hK1 =>
    have h1 := HTW.out i hi
    rcases hK with rfl | ⟨ad, e, rfl⟩
    · omega
    · have := HA2.out ad e
      omega
  case hK2 =>
    rcases hi with rfl | ⟨ad, e, rfl⟩
    · omega
    · have := HA2.out ad e
      omega
  case hI => exact fun s T A B j q => HJ.out _ _ _ _ j (q.sub (by omega) fun _ h => h)
  case hIx => exact fun s T A B ⟨j1, q1, j2, j3, j4⟩ q => ⟨j1, q1, j2, j3, HJx.out _ _ _ _ j4 (q.sub (by omega) fun _ h => h)⟩
  case h0 => exact HJ.out _ _ _ _ H0.out (.of_below HB3.out)
  case round =>
    rintro lo pre i T1 W1 hpre hj hst hnl hl hrl C hC
    obtain ⟨k, hki⟩ : ∃ k, ks[i]? = some k := by
      have hm : i ∈ (List.range ks.length).reverse := hpre.subset (by simp)
      simp at hm
      exact ⟨_, List.getElem?_eq_getElem hm⟩
    have hv : encI (valP (ptrS ks)) i = #[.int .i64 (i : Int), pn k.b] := by
      unfold encI valP
      rw [ptrS_at hki]
      rfl
    rw [hv]
    have HKI := Lib.hid hki
    have HC := Lib.hid hC
    have HJr := Lib.hid hj
    have HSr := Lib.hid (HST3.out.trans hst)
    have HS3r := Lib.hid hst
    have HNl := Lib.hid hnl
    have HLi : Hid (w3.heap.size ≤ lo) := Lib.hid hl
    have HPr := Lib.hid hpre
    have HTK := Lib.hid (HK.out.all k (List.mem_of_getElem? hki)).1
    clear hv hki hC hj hst hnl hl hpre hrl hsi hs3
    gi_wp2_with fail
    refine HC.out _ _ (Below.refl _ _) fun W2 hB => ?_
    have HBW : Hid (Below w0.heap.size w0 W2) := Lib.hid ((HB.out.trans (HSr.out.below HB.out.size fun k hk => Nat.le_of_not_lt fun h => (HT.out k hk).2 (.inl h))).trans (hB.below (by have := HLi.out; have := HSI.out; have := HS3.out; omega)))
    have HBY : Hid (W2.heap[W.heap.size]? = some (.cells #[.func (.yield l) #[] #[]] 94 (0, 0))) := Lib.hid ((hB.same _ (by have h1 := HLi.out; have := HSI.out; have := HS3.out; omega)).trans (HS3r.out.block HY3.out fun h => Nat.lt_irrefl _ (HTW.out _ h)))
    have HNt : Hid (¬ T1 W.heap.size ∧ ¬ T1 bk) := Lib.hid ⟨fun h => Nat.lt_irrefl _ (HTW.out _ (HS3r.out.own _ (by have := HSI.out; have := HS3.out; omega) h)), fun h => (HT.out _ (HSr.out.own _ (cell_lt HBK.out) h)).2 (.inr (.inr rfl))⟩
    have HN0 : Hid (∀ k, T1 k → w0.heap.size ≤ k) := Lib.hid fun k hk => by
      rcases Nat.lt_or_ge k W.heap.size with h1 | h1
      · exact Nat.le_of_not_lt fun h => (HT.out k (HSr.out.own k h1 hk)).2 (.inl h)
      · have := HB.out.size; omega
    have HTl : Hid (∀ k, T1 k → k < W2.heap.size) := Lib.hid fun k hk => by rw [hB.size]; exact HS3r.out.lt k hk
    have HJ2 := Lib.hid (HJ.out _ _ _ _ HJr.out (hB.qt (n := W.heap.size) (by have h1 := HLi.out; have := HSI.out; have := HS3.out; omega) HNl.out))
    have HWs : Hid (w3.heap.size ≤ W2.heap.size) := Lib.hid (by rw [hB.size]; exact HS3r.out.fx.size)
    have HLo := Lib.hid hB.loop
    have hbk := hB.cell (HSr.out.cell HBK.out fun h => (HT.out _ h).2 (.inr (.inr rfl))) (by have h1 := HLi.out; have h2 := cell_lt HBK.out; have := HSI.out; have := HS3.out; show bk ≠ lo; simp only at h2; omega)
    have HBK2 := Lib.hid hbk
    clear hB hbk HS3r HSr HJr
    gi_wp2_with fail
    refine CallsIn.inRound lo (CallsIn.mono (callsIn_wide.2 (ends_any (HTK.out.at_.keep (HBW.out.block _ HTK.out.lt)))) ?_)
    rintro r w4 ⟨rfl, nq, rfl⟩
    have hbq : Below W2.heap.size W2 (W2.drewN nq) := below_drewN (Below.refl _ _) _
    obtain ⟨w4, hw4⟩ : ∃ w4, W2.drewN nq = w4 := ⟨_, rfl⟩
    rw [hw4] at hbq ⊢
    have q3 := (hbq.cell (p := ⟨bk, 0, none⟩) (cell_lt HBK2.out)).trans HBK2.out
    have HBQ := Lib.hid hbq
    clear hbq hw4
    have hgt := gtr_eq k.N.lo key
    by_cases hd : kl key k.N.lo
    · rw [decide_eq_true hd] at hgt
      gi_wp2_with fail
      refine ⟨T1, .of_below HBQ.out HTl.out, ?_⟩
      show J ((pre ++ [i]).flatMap g) T1 w4
      rw [flatMap_snoc, HGk.out i k HKI.out, Fb, if_pos hd, List.append_nil]
      exact HJ.out _ _ _ _ HJ2.out (.of_below HBQ.out)
    · have HE : Hid (g i = f k) := Lib.hid (by rw [HGk.out i k HKI.out, Fb, if_neg hd])
      rw [decide_eq_false hd] at hgt
      gi_wp2_with fail
      refine CallsIn.inRound lo (CallsIn.mono (callsIn_wide.2 (leavesBack_made w4 _ key)) ?_)
      rintro r w5 ⟨rfl, rfl⟩
      have hb5 := boxed2_below w4 (pn k.b) key
      have HS5 : Hid ((boxed2 w4 (pn k.b) key).heap.size = w4.heap.size + 2) := Lib.hid (boxed2_size _ _ _)
      have HBn := Lib.hid (boxed2_n w4 (pn k.b) key)
      have HBk := Lib.hid (boxed2_k w4 (pn k.b) key)
      obtain ⟨w5, hw5⟩ : ∃ w5, boxed2 w4 (pn k.b) key = w5 := ⟨_, rfl⟩
      rw [hw5] at HS5 HBn HBk hb5 ⊢
      have HB5 := Lib.hid (bthen HBQ.out hb5)
      have HSt5 := Lib.hid (Stp.of_below HB5.out HTl.out)
      have HTl4 : Hid (∀ k, T1 k → k < w4.heap.size) := Lib.hid fun k hk => Nat.lt_of_lt_of_le (HTl.out k hk) HBQ.out.size
      have HBR5 := Lib.hid (HBW.out.trans (HB5.out.mono HBW.out.size))
      have HS4 : Hid (W2.heap.size ≤ w4.heap.size) := Lib.hid HBQ.out.size
      have HBY5 := Lib.hid ((HB5.out.block _ (Array.getElem?_eq_some_iff.1 HBY.out).1).trans HBY.out)
      have HLo5 : Hid (∃ r, w5.heap[lo]? = some (.loop r)) := Lib.hid (by obtain ⟨r, hr⟩ := HLo.out; exact ⟨r, (HB5.out.block _ (Array.getElem?_eq_some_iff.1 hr).1).trans hr⟩)
      clear hb5 hw5 hgt q3
      gi_wp2_with fail
      have hs5 := HS5.out
      have hs4 := HS4.out
      have hws := HWs.out
      have hs3 := HS3.out
      have hsi := HSI.out
      refine wpIn_rangeIn (l₀ := lo) HLo5.out (gf := 62) (lb := #[pb w4.heap.size, pb (w4.heap.size + 1)]) rfl (enters_of Try.func62 (by kernel_rfl) rfl) (encs := encO) (fun _ => rfl)
        (fun W' hb' => HF.out k (List.mem_of_getElem? HKI.out) W' _ _ (HBR5.out.trans (hb'.mono HBR5.out.size)) (cell_row ((hb'.block _ (by omega)).trans HBn.out) 0 _ rfl) (cell_row ((hb'.block _ (by omega)).trans HBk.out) 0 _ rfl))
        (T := T1) (fun i hi => ⟨HSt5.out.lt i hi, fun hK => ?hK3⟩) (fun i hi => ?hK4)
        (fun pre' T' W' => J (pre.flatMap g ++ pre') T' W') (fun c pre' T' W' => c = .ret ∧ Jx (pre.flatMap g ++ pre') T' W')
        ?hI2 (fun c => ?hIx2) ?h02 ?round2 ?done2 ?stop2
      case hK3 =>
        have h1 := HTl4.out i hi
        rcases hK with hK | rfl | rfl
        · have := HN0.out i hi
          omega
        · omega
        · omega
      case hK4 => rcases hi with h1 | rfl | rfl <;> omega
      case hI2 => exact fun s T A B j q => HJ.out _ _ _ _ j (q.sub (by omega) fun _ h => h)
      case hIx2 => exact fun s T A B j q => ⟨j.1, HJx.out _ _ _ _ j.2 (q.sub (by omega) fun _ h => h)⟩
      case h02 => rw [List.append_nil]; exact HJ.out _ _ _ _ HJ2.out (.of_below HB5.out)
      case round2 =>
        rintro l2 pre' x T' W' hpre hj hst hnl hl hrl C2 hC2
        obtain ⟨px, hpx⟩ : ∃ px, encO x = #[px] := ⟨_, rfl⟩
        have HPX := Lib.hid hpx
        rw [hpx]
        have HC2 := Lib.hid hC2
        have HJr := Lib.hid hj
        have HSr := Lib.hid hst
        have HNl2 := Lib.hid hnl
        have HLi2 : Hid (w5.heap.size ≤ l2) := Lib.hid hl
        have HPr2 := Lib.hid hpre
        clear hpx hC2 hj hst hnl hl hpre hrl hsi hs5 hs4 hws hs3
        gi_wp2_with fail
        refine HC2.out _ _ (Below.refl _ _) fun W'' hB => ?_
        have hby := hB.cell (cell_row (HSr.out.block HBY5.out HNt.out.1) 0 _ rfl) (by have h1 := HLi2.out; have h2 := HS5.out; have h3 := HSI.out; have := HS4.out; have := HWs.out; have := HS3.out; show W.heap.size ≠ l2; omega)
        obtain ⟨fn, tmps, assign, body, hy, hR⟩ := HY.out (pre.flatMap g ++ pre') x T' W'' (by
          have h1 := flatMap_pre (f := g) HPr.out
          rw [flatMap_snoc, HE.out] at h1
          rw [List.append_assoc]
          exact ((List.prefix_append_right_inj _).2 HPr2.out).trans h1) (HJ.out _ _ _ _ HJr.out (hB.qt (by have h1 := HLi2.out; have h2 := HS5.out; have h3 := HSI.out; have := HS4.out; have := HWs.out; have := HS3.out; omega) HNl2.out))
        rw [HPX.out] at hy
        have HRR := Lib.hid hR
        clear hR
        gi_wp2_with fail
        refine HRR.out.mono ?_
        rintro e W3 ⟨T3, hst3, ⟨rfl, hj3⟩ | ⟨rfl, hj3⟩⟩
        · have HS3' := Lib.hid hst3
          rw [List.append_assoc] at hj3
          have HJ3 := Lib.hid hj3
          clear hst3 hj3 hy hby
          gi_wp2_with fail
          exact ⟨T3, HS3'.out, HJ3.out⟩
        · have HS3' := Lib.hid hst3
          rw [List.append_assoc] at hj3
          have HJ3 := Lib.hid hj3
          clear hst3 hj3 hy hby
          gi_wp2_with fail
          exact ⟨T3, HS3'.out, rfl, HJ3.out⟩
      case done2 =>
        intro T' W' hj hst
        have HS6 := Lib.hid (HSt5.out.trans hst)
        have HJ6 := Lib.hid hj
        clear hj hst hsi hs5 hs4 hws hs3
        gi_wp2_with fail
        exact ⟨T', HS6.out, by show J ((pre ++ [i]).flatMap g) T' W'; rw [flatMap_snoc, HE.out]; exact HJ6.out⟩
      case stop2 =>
        rintro c pre' T' W' hne hpre ⟨rfl, hj⟩ hst
        have HS6 := Lib.hid (HSt5.out.trans hst)
        have HJ6 := Lib.hid hj
        have HP6 : Hid (pre.flatMap g ++ pre' ≠ [] ∧ pre.flatMap g ++ pre' <+: (List.range ks.length).reverse.flatMap g) := Lib.hid ⟨fun h => hne (List.append_eq_nil_iff.1 h).2, by
          have h1 := flatMap_pre (f := g) HPr.out
          rw [flatMap_snoc, HE.out] at h1
          exact ((List.prefix_append_right_inj _).2 hpre).trans h1⟩
        clear hj hst hne hpre hsi hs5 hs4 hws hs3
        gi_wp2_with fail
        exact ⟨T', HS6.out, rfl, _, HP6.out.1, HP6.out.2, HJ6.out⟩
  case done =>
    intro D T' W' hj hst hD hTD hh
    have HS6 := Lib.hid (HST3.out.trans hst)
    have HJ3 := Lib.hid hj
    have HD : Hid (∀ E ∈ [D], W.heap.size ≤ E ∧ ¬ T' E) := Lib.hid fun E hE => by rw [List.mem_singleton] at hE; subst hE; exact ⟨by omega, hTD⟩
    have HH : Hid (∀ E ∈ [D], W'.heap[E]? = some (.deferred (some []))) := Lib.hid fun E hE => by rw [List.mem_singleton] at hE; subst hE; exact hh
    clear hj hst hD hTD hh hsi hs3
    gi_wp2_with fail
    refine leaves_marks [D] W' (by simp) HH.out fun w' hs => ?_
    have hq := shut_qt hs HD.out
    exact ⟨_, results_none rfl _ _ _, ⟨_, rfl⟩, T', HS6.out.qt hq (Nat.le_refl _), .inl (HJ.out _ _ _ _ HJ3.out hq)⟩
  case stop =>
    rintro D c pre T' W' hne hpre ⟨rfl, q, hq1, hq2, hj⟩ hst hD hTD hh
    have HS6 := Lib.hid (HST3.out.trans hst)
    have HJ3 := Lib.hid hj
    have HD : Hid (∀ E ∈ [D], W.heap.size ≤ E ∧ ¬ T' E) := Lib.hid fun E hE => by rw [List.mem_singleton] at hE; subst hE; exact ⟨by omega, hTD⟩
    have HH : Hid (∀ E ∈ [D], W'.heap[E]? = some (.deferred (some []))) := Lib.hid fun E hE => by rw [List.mem_singleton] at hE; subst hE; exact hh
    have HQ := Lib.hid (And.intro hq1 hq2)
    clear hj hst hD hTD hh hsi hs3 hne hpre hq1 hq2
    gi_wp2_with fail
    refine leaves_marks [D] W' (by simp) HH.out fun w' hs => ?_
    have hq := shut_qt hs HD.out
    exact ⟨_, results_none rfl _ _ _, ⟨_, rfl⟩, T', HS6.out.qt hq (Nat.le_refl _), .inr ⟨q, HQ.out.1, HQ.out.2, HJx.out _ _ _ _ HJ3.out hq⟩⟩

theorem rev_flat {α β : Type} (ks : List α) (F : α → List β) : (ks.reverse.flatMap F).reverse = ks.flatMap fun k => (F k).reverse := by
  rw [List.reverse_flatMap, List.reverse_reverse]
  rfl
theorem Tr.lo_ge {w : World} {h : Nat} {s : ST} (t : Tr w h s) {e : Ent} (he : e ∈ s.l) : ¬ kl e.k s.N.lo := t.lo_le he
theorem leavesBack_tr {w0 : World} (key : ByteArray) : ∀ (h : Nat) (s : ST), Tr w0 h s → ∃ ls, Lvs w0 (le key) s.l ls.reverse ∧ ∀ W bn bk, Below w0.heap.size w0 W → W.cell? ⟨bn, 0, none⟩ = some (pn s.b) → W.cell? ⟨bk, 0, none⟩ = some (.string key) →
    Gives Try.prog 62 #[pb bn, pb bk] encO ls (Kf w0.heap.size bn bk) W
  | 0, s, t => ⟨[some s], lvs_one t, fun W bn bk hb hn _ => leavesBack_one (noKids_leaf t) hb hn⟩
  | h + 1, s, t => by
    obtain ⟨ks, hk⟩ := t.kids
    obtain ⟨f, hf⟩ := ex_fun fun k hm => leavesBack_tr key h k (hk.all k hm).1
    refine ⟨ks.reverse.flatMap (Fb key f), ?_, fun W bn bk hb hn hbk => leavesBack_branch t.at_ hk key f hb hn hbk fun k hm => (hf k hm).2⟩
    rw [rev_flat]
    refine lvs_branch hk.l fun k hm => ?_
    unfold Fb
    by_cases hd : kl key k.N.lo
    · rw [if_pos hd]
      exact lvs_none fun e he => by
        have := (hk.all k hm).1.lo_le he
        simp only [le, decide_eq_false_iff_not, Decidable.not_not]
        exact kl_le_trans hd this
    · rw [if_neg hd]
      exact (hf k hm).1
theorem leavesBack_any {w0 : World} {T : TO} (ht : TreeIs w0 T) (key : ByteArray) : ∃ ls, Lvs w0 (le key) (tl T) ls.reverse ∧ ∀ W bn bk, Below w0.heap.size w0 W → W.cell? ⟨bn, 0, none⟩ = some (tb T) → W.cell? ⟨bk, 0, none⟩ = some (.string key) →
    Gives Try.prog 62 #[pb bn, pb bk] encO ls (Kf w0.heap.size bn bk) W := by
  cases T with
  | none => exact ⟨[none], ⟨fun s hs => by simp at hs, by simp [flatO, leafL], by simp [flatO, leafL, tl]⟩, fun W bn bk hb hn _ => leavesBack_one (noKids_none w0) hb hn⟩
  | some x => exact leavesBack_tr key x.1 x.2 (ht x rfl)

/-- A leaf's entries up to a key, the last one first. -/
def rvL (p : Ent → Bool) (x : OS) : List Ent := ((leafL x).filter p).reverse
theorem rvL_all (ls : List OS) (p : Ent → Bool) : ls.flatMap (rvL p) = ((flatO ls.reverse).filter p).reverse := by
  unfold flatO
  rw [List.filter_flatMap, rev_flat]
  rfl
def oneE (p : Ent → Bool) (l : List Ent) (i : Nat) : List Ent := if p (l[i]?.getD entD) then [l[i]?.getD entD] else []
theorem oneE_all (l : List Ent) (p : Ent → Bool) : (List.range l.length).reverse.flatMap (oneE p l) = (l.filter p).reverse := by
  rw [← rev_filter, ← rev_flatMap l entD]
  rfl
theorem leq_eq (a b : ByteArray) : (Op.bytesLess a.toList b.toList || a.toList == b.toList) = decide (¬ kl b a) := by
  rw [less_eq, same_eq]
  by_cases h : kl b a
  · rw [decide_eq_false (kl_asymm h), decide_eq_false (fun e : a = b => kl_irrefl b (by rw [e] at h; exact h)), decide_eq_false (fun h2 : ¬ kl b a => h2 h)]
    rfl
  · by_cases h2 : kl a b
    · rw [decide_eq_true h2, decide_eq_true h]
      rfl
    · rw [decide_eq_true (kl_tri h2 h), decide_eq_false h2, decide_eq_true h]
      rfl

set_option maxHeartbeats 8000000 in
set_option maxRecDepth 100000 in
theorem backFrom_gives {w0 : World} {T0 : TO} (ht : TreeIs w0 T0) (key : ByteArray) {W : World} {bn bk : Nat} (hb : Below w0.heap.size w0 W) (hbn : W.cell? ⟨bn, 0, none⟩ = some (tb T0)) (hbk : W.cell? ⟨bk, 0, none⟩ = some (.string key)) :
    Gives Try.prog 43 #[pb bn, pb bk] encE ((tl T0).filter (le key)).reverse (Kf w0.heap.size bn bk) W := by
  obtain ⟨ls, hl, hg⟩ := leavesBack_any ht key
  rw [← hl.filt, ← rvL_all]
  intro l J Jx T hT hJ hJx hY h0
  obtain ⟨pt, hpt⟩ : ∃ pt, tb T0 = .pointer pt := ⟨_, rfl⟩
  rw [hpt] at hbn hg
  have HT := Lib.hid hT
  have HJ := Lib.hid hJ
  have HJx := Lib.hid hJx
  have HY := Lib.hid hY
  have H0 := Lib.hid h0
  have HB := Lib.hid hb
  have HL := Lib.hid hl
  have HG := Lib.hid hg
  clear hT hJ hJx hY h0 hb hl hg hpt
  refine callsIn_of_wp_marks Try.func43 rfl trivial ?_ rfl
  simp only [Try.ntmps43, List.size_toArray, List.length_cons, List.length_nil, Nat.reduceAdd, Nat.reduceSub, Array.replicate_succ, Array.replicate_zero, List.push_toArray, List.append_toArray, List.nil_append, List.cons_append]
  obtain ⟨w1, hw1⟩ : ∃ w1, W.alloc (.cells #[.func (.yield l) #[] #[]] 74) = w1 := ⟨_, rfl⟩
  have hb1 : Below W.heap.size W w1 := by rw [← hw1]; exact (Below.refl _ _).alloc (Nat.le_refl _) _
  have hy1 : w1.heap[W.heap.size]? = some (.cells #[.func (.yield l) #[] #[]] 74 (0, 0)) := by rw [← hw1]; exact heap_alloc_new W _
  have hsz1 : w1.heap.size = W.heap.size + 1 := by rw [← hw1]; simp
  have q1 := (hb1.cell (p := ⟨bn, 0, none⟩) (cell_lt hbn)).trans hbn
  have q2 := (hb1.cell (p := ⟨bk, 0, none⟩) (cell_lt hbk)).trans hbk
  rw [← hw1] at q1 q2
  have HBK := Lib.hid hbk
  have HW1 := Lib.hid hw1
  have HB1 := Lib.hid hb1
  have HY1 := Lib.hid hy1
  have HS1 := Lib.hid hsz1
  clear hb1 hy1 hsz1 hbn hbk hw1
  gi_wp2_with fail
  rw [HW1.out]
  refine CallsIn.mono (callsIn_wide.2 (leavesBack_made w1 _ key)) ?_
  rintro r w2 ⟨rfl, rfl⟩
  have hb2 := boxed2_below w1 (.pointer pt) key
  have HBn := Lib.hid (boxed2_n w1 (.pointer pt) key)
  have HBk := Lib.hid (boxed2_k w1 (.pointer pt) key)
  have HS2 := Lib.hid (boxed2_size w1 (.pointer pt) key)
  obtain ⟨w2, hw2⟩ : ∃ w2, boxed2 w1 (.pointer pt) key = w2 := ⟨_, rfl⟩
  rw [hw2] at hb2 HBn HBk HS2 ⊢
  have HB2 := Lib.hid (bthen HB1.out hb2)
  have HY2 := Lib.hid ((hb2.block _ (by rw [HS1.out]; omega)).trans HY1.out)
  have HTW : Hid (∀ k, T k → k < W.heap.size) := Lib.hid fun k hk => (HT.out k hk).1
  have HST2 := Lib.hid (Stp.of_below HB2.out HTW.out)
  have HSZ : Hid (w2.heap.size = W.heap.size + 3) := Lib.hid (by rw [HS2.out, HS1.out])
  clear hb2 hw2 q1 q2
  gi_wp2_with fail
  have hs1 := HS1.out
  have hsz := HSZ.out
  have hb0 := HB.out.size
  refine wpIn_range (gf := 62) (lb := #[pb w1.heap.size, pb (w1.heap.size + 1)]) rfl (enters_of Try.func62 (by kernel_rfl) rfl) (encs := encO) (fun _ => rfl)
    (fun W' hb' => HG.out W' _ _ ((HB.out.trans (HB2.out.mono HB.out.size)).trans (hb'.mono (by omega))) (cell_row ((hb'.block _ (by omega)).trans HBn.out) 0 _ rfl) (cell_row ((hb'.block _ (by omega)).trans HBk.out) 0 _ rfl))
    (T := T) (fun i hi => ⟨by have := HTW.out i hi; omega, fun hK => ?hK1⟩) (fun i hi => ?hK2)
    (fun pre T' W' => J (pre.flatMap (rvL (le key))) T' W') (fun c pre T' W' => c = .ret ∧ ∃ q, q ≠ [] ∧ q <+: ls.flatMap (rvL (le key)) ∧ Jx q T' W')
    ?hI (fun c => ?hIx) ?h0 ?round ?done ?stop
  case hK1 =>
    have h1 := HTW.out i hi
    rcases hK with hK | rfl | rfl
    · exact (HT.out i hi).2 (.inl hK)
    · omega
    · omega
  case hK2 => rcases hi with h1 | rfl | rfl <;> omega
  case hI => exact fun s T A B j q => HJ.out _ _ _ _ j (q.sub (by omega) fun _ h => h)
  case hIx => exact fun s T A B ⟨j1, q1, j2, j3, j4⟩ q => ⟨j1, q1, j2, j3, HJx.out _ _ _ _ j4 (q.sub (by omega) fun _ h => h)⟩
  case h0 => exact HJ.out _ _ _ _ H0.out (.of_below HB2.out)
  case round =>
    rintro lo pre x T' W' hpre hj hst hnl hl hrl C hC
    obtain ⟨px, hpx⟩ : ∃ px, (x.map (·.b)).map (fun b => (⟨b, 0, none⟩ : Addr)) = px := ⟨_, rfl⟩
    have hpv : ptr (x.map (·.b)) = .pointer px := by rw [← hpx]; rfl
    rw [show encO x = #[.pointer px] by rw [← hpv]; rfl]
    have HPV := Lib.hid hpv
    have HC := Lib.hid hC
    have HJr := Lib.hid hj
    have HSr := Lib.hid (HST2.out.trans hst)
    have HS2r := Lib.hid hst
    have HNl := Lib.hid hnl
    have HLi : Hid (W.heap.size + 3 ≤ lo) := Lib.hid (by omega)
    have HPr := Lib.hid hpre
    have HLF : Hid (∀ s, x = some s → Tr w0 0 s) := Lib.hid fun s hs => HL.out.leaf s (by rw [List.mem_reverse]; exact hpre.subset (by rw [hs]; simp))
    clear hpx hpv hC hj hst hnl hl hpre hrl hs1 hsz hb0
    gi_wp2_with fail
    refine HC.out _ _ (Below.refl _ _) fun W'' hB => ?_
    have HBW : Hid (Below w0.heap.size w0 W'') := Lib.hid ((HB.out.trans (HSr.out.below HB.out.size fun k hk => Nat.le_of_not_lt fun h => (HT.out k hk).2 (.inl h))).trans (hB.below (by have := HLi.out; have := HB.out.size; omega)))
    have HNt : Hid (¬ T' W.heap.size ∧ ¬ T' bk) := Lib.hid ⟨fun h => Nat.lt_irrefl _ (HTW.out _ (HS2r.out.own _ (by have := HSZ.out; omega) h)), fun h => (HT.out _ (HSr.out.own _ (cell_lt HBK.out) h)).2 (.inr (.inr rfl))⟩
    have HTl : Hid (∀ k, T' k → k < W''.heap.size) := Lib.hid fun k hk => by rw [hB.size]; exact HS2r.out.lt k hk
    have HJ2 := Lib.hid (HJ.out _ _ _ _ HJr.out (hB.qt (n := W.heap.size) (by have h1 := HLi.out; omega) HNl.out))
    have HWs : Hid (W.heap.size + 3 ≤ W''.heap.size) := Lib.hid (by rw [hB.size]; have := HS2r.out.fx.size; have := HSZ.out; omega)
    have HBY := Lib.hid (hB.cell (cell_row (HS2r.out.block HY2.out (fun h => Nat.lt_irrefl _ (HTW.out _ h))) 0 _ rfl) (by have h1 := HLi.out; show W.heap.size ≠ lo; omega))
    have HBK2 := Lib.hid (hB.cell (HSr.out.cell HBK.out fun h => (HT.out _ h).2 (.inr (.inr rfl))) (by have h1 := HLi.out; have h2 := cell_lt HBK.out; show bk ≠ lo; simp only at h2; omega))
    have HLo := Lib.hid hB.loop
    clear hB HS2r HSr HJr
    gi_wp2_with fail
    refine CallsIn.inRound lo (CallsIn.mono (callsIn_wide.2 (by have := ents_os HLF.out HBW.out; rw [HPV.out] at this; exact this)) ?_)
    rintro r w6 ⟨v6, rfl, ho6, hb6⟩
    obtain ⟨A6, c6, rfl, hc6, _⟩ := ho6.form
    have h4 := leafL_len HLF.out
    obtain ⟨n, hn⟩ : ∃ n, (leafL x).length = n := ⟨_, rfl⟩
    have HA6 := Lib.hid ho6.addr_ge
    have HES6 := Lib.hid (own_es ho6)
    rw [hn] at hc6 h4 ⊢
    have Hn := Lib.hid hn
    have HB6 := Lib.hid hb6
    clear ho6 hb6 hn
    gi_wp2_with fail
    refine CallsIn.inRound lo (CallsIn.mono (callsIn_wide.2 (backE_made w6 A6 n c6)) ?_)
    rintro r w7 ⟨rfl, rfl⟩
    have hb7 : Below w6.heap.size w6 (w6.alloc (.cells #[.slice A6 n c6] 22)) := (Below.refl _ _).alloc (Nat.le_refl _) _
    have HBs := Lib.hid (heap_alloc_new w6 (.cells #[.slice A6 n c6] 22))
    have HS7 : Hid ((w6.alloc (.cells #[.slice A6 n c6] 22)).heap.size = w6.heap.size + 1) := Lib.hid (by simp)
    obtain ⟨w7, hw7⟩ : ∃ w7, w6.alloc (.cells #[.slice A6 n c6] 22) = w7 := ⟨_, rfl⟩
    rw [hw7] at hb7 HBs HS7 ⊢
    have HB7 := Lib.hid (bthen HB6.out hb7)
    have HES := Lib.hid (HES6.out.below hb7)
    have HSt7 := Lib.hid (Stp.of_below HB7.out HTl.out)
    have HLo7 : Hid (∃ r, w7.heap[lo]? = some (.loop r)) := Lib.hid (by obtain ⟨r, hr⟩ := HLo.out; exact ⟨r, (HB7.out.block _ (Array.getElem?_eq_some_iff.1 hr).1).trans hr⟩)
    have HSI : Hid (W''.heap.size ≤ w6.heap.size) := Lib.hid HB6.out.size
    have HBY7 := Lib.hid ((HB7.out.cell (p := ⟨W.heap.size, 0, none⟩) (cell_lt HBY.out)).trans HBY.out)
    have HBK7 := Lib.hid ((HB7.out.cell (p := ⟨bk, 0, none⟩) (cell_lt HBK2.out)).trans HBK2.out)
    have HOA : Hid ((List.range n).reverse.flatMap (oneE (le key) (leafL x)) = rvL (le key) x) := Lib.hid (by rw [← Hn.out, oneE_all]; rfl)
    clear hb7 hw7
    gi_wp2_with fail
    have hs7 := HS7.out
    have hsi := HSI.out
    have hws := HWs.out
    refine wpIn_rangeIn (l₀ := lo) HLo7.out (gf := 64) (lb := #[pb w6.heap.size]) rfl (enters_of Try.func64 (by kernel_rfl) rfl) (encs := encI (valE (leafL x))) (fun _ => rfl)
      (xs := (List.range n).reverse) (fun W' hb' => backE_gives (cell_row ((hb'.block _ (by omega)).trans HBs.out) 0 _ rfl) (HES.out.below hb') Hn.out (by omega))
      (T := T') (fun i hi => ⟨HSt7.out.lt i hi, fun hK => ?hK3⟩) (fun i hi => ?hK4)
      (fun pre' T1 W1 => J (pre.flatMap (rvL (le key)) ++ pre'.flatMap (oneE (le key) (leafL x))) T1 W1) (fun c pre' T1 W1 => c = .ret ∧ ∃ q, q ≠ [] ∧ q <+: ls.flatMap (rvL (le key)) ∧ Jx q T1 W1)
      ?hI2 (fun c => ?hIx2) ?h02 ?round2 ?done2 ?stop2
    case hK3 =>
      have h1 := HTl.out i hi
      rcases hK with rfl | ⟨ad, e, rfl⟩
      · omega
      · have := HA6.out ad e
        omega
    case hK4 =>
      rcases hi with rfl | ⟨ad, e, rfl⟩
      · omega
      · have := HA6.out ad e
        omega
    case hI2 => exact fun s T A B j q => HJ.out _ _ _ _ j (q.sub (by omega) fun _ h => h)
    case hIx2 => exact fun s T A B ⟨j1, q1, j2, j3, j4⟩ q => ⟨j1, q1, j2, j3, HJx.out _ _ _ _ j4 (q.sub (by omega) fun _ h => h)⟩
    case h02 =>
      rw [List.flatMap_nil, List.append_nil]
      exact HJ.out _ _ _ _ HJ2.out (.of_below HB7.out)
    case round2 =>
      rintro l2 pre' i T1 W1 hpre hj hst hnl hl hrl C2 hC2
      obtain ⟨e, hei⟩ : ∃ e, (leafL x)[i]? = some e := by
        have hm : i ∈ (List.range n).reverse := hpre.subset (by simp)
        simp at hm
        exact ⟨_, List.getElem?_eq_getElem (by rw [Hn.out]; exact hm)⟩
      have hv : encI (valE (leafL x)) i = #[.int .i64 (i : Int), .agg #[.string e.k, .string e.v]] := by
        unfold encI valE agE
        rw [hei]
        rfl
      rw [hv]
      have HONE : Hid (oneE (le key) (leafL x) i = if le key e then [e] else []) := Lib.hid (by unfold oneE; rw [hei]; rfl)
      have HC2 := Lib.hid hC2
      have HJr := Lib.hid hj
      have HSr := Lib.hid hst
      have HNl2 := Lib.hid hnl
      have HLi2 : Hid (w7.heap.size ≤ l2) := Lib.hid hl
      have HPr2 := Lib.hid hpre
      have HLt2 : Hid (l2 < W1.heap.size) := Lib.hid (by obtain ⟨r, hr⟩ := hrl; exact (Array.getElem?_eq_some_iff.1 hr).1)
      clear hv hei hC2 hj hst hnl hl hpre hrl hsi hws hs7
      gi_wp2_with fail
      have hba : Below W1.heap.size W1 (W1.alloc (.cells #[.string e.k, .string e.v] 39)) := (Below.refl _ _).alloc (Nat.le_refl _) _
      refine HC2.out _ _ hba fun W2 hB => ?_
      have hbx : W2.heap[W1.heap.size]? = some (.cells #[.string e.k, .string e.v] 39 (0, 0)) := (hB.same _ (by have := HLt2.out; omega)).trans (heap_alloc_new W1 _)
      have c0 : W2.cell? ⟨W1.heap.size, 0, none⟩ = some (.string e.k) := cell_row hbx 0 _ rfl
      have c1 : W2.cell? ⟨W1.heap.size, 1, none⟩ = some (.string e.v) := cell_row hbx 1 _ rfl
      have hy7 := HSr.out.cell HBY7.out HNt.out.1
      have hk7 := HSr.out.cell HBK7.out HNt.out.2
      have hby := hB.cell ((hba.cell (p := ⟨W.heap.size, 0, none⟩) (cell_lt hy7)).trans hy7) (by have h1 := HLi2.out; have := HS7.out; have := HSI.out; have := HWs.out; show W.heap.size ≠ l2; omega)
      have hbk := hB.cell ((hba.cell (p := ⟨bk, 0, none⟩) (cell_lt hk7)).trans hk7) (by have h1 := HLi2.out; have h2 := cell_lt HBK.out; have := HS7.out; have := HSI.out; have := HWs.out; show bk ≠ l2; simp only at h2; omega)
      have HJ3 := Lib.hid (HJ.out _ _ _ _ (HJ.out _ _ _ _ HJr.out (.of_below hba)) (hB.qt (n := W.heap.size) (by have h1 := HLi2.out; have := HS7.out; have := HSI.out; have := HWs.out; omega) HNl2.out))
      have HTl1 : Hid (∀ k, T1 k → k < W2.heap.size) := Lib.hid fun k hk => by
        have := HSr.out.lt k hk
        have h2 := hba.size
        rw [hB.size]
        omega
      have HPO : Hid (pre.flatMap (rvL (le key)) ++ (pre' ++ [i]).flatMap (oneE (le key) (leafL x)) <+: ls.flatMap (rvL (le key))) := Lib.hid (by
        have h1 := flatMap_pre (f := rvL (le key)) HPr.out
        have h2 := flatMap_pre (f := oneE (le key) (leafL x)) HPr2.out
        rw [flatMap_snoc, ← HOA.out] at h1
        exact ((List.prefix_append_right_inj _).2 h2).trans h1)
      clear hB hba hbx hy7 hk7 HJr HSr
      have hlq := leq_eq e.k key
      by_cases hd : kl key e.k
      · have HF : Hid ((pre' ++ [i]).flatMap (oneE (le key) (leafL x)) = pre'.flatMap (oneE (le key) (leafL x))) := Lib.hid (by rw [flatMap_snoc, HONE.out, if_neg (by simp [le, hd]), List.append_nil])
        rw [decide_eq_false (fun h : ¬ kl key e.k => h hd)] at hlq
        gi_wp2_with fail
        exact ⟨T1, .refl HTl1.out, by
          show J (pre.flatMap (rvL (le key)) ++ (pre' ++ [i]).flatMap (oneE (le key) (leafL x))) T1 W2
          rw [HF.out]
          exact HJ3.out⟩
      · have HF : Hid ((pre' ++ [i]).flatMap (oneE (le key) (leafL x)) = pre'.flatMap (oneE (le key) (leafL x)) ++ [e]) := Lib.hid (by rw [flatMap_snoc, HONE.out, if_pos (by simp [le, hd])])
        have HPx : Hid (pre.flatMap (rvL (le key)) ++ pre'.flatMap (oneE (le key) (leafL x)) ++ [e] <+: ls.flatMap (rvL (le key))) := Lib.hid (by
          rw [List.append_assoc, ← HF.out]
          exact HPO.out)
        rw [decide_eq_true hd] at hlq
        obtain ⟨fn, tmps, assign, body, hy, hR⟩ := HY.out _ e T1 W2 HPx.out HJ3.out
        simp only [encE] at hy
        have HRR := Lib.hid hR
        clear hR
        gi_wp2_with fail
        refine HRR.out.mono ?_
        rintro r W3 ⟨T3, hst3, ⟨rfl, hj3⟩ | ⟨rfl, hj3⟩⟩
        · have HS3 := Lib.hid hst3
          have HJ4 : Hid (J (pre.flatMap (rvL (le key)) ++ (pre' ++ [i]).flatMap (oneE (le key) (leafL x))) T3 W3) := Lib.hid (by rw [HF.out, ← List.append_assoc]; exact hj3)
          clear hst3 hj3 hy HRR hby hbk c0 c1
          gi_wp2_with fail
          exact ⟨T3, HS3.out, HJ4.out⟩
        · have HS3 := Lib.hid hst3
          have HJ4 := Lib.hid hj3
          clear hst3 hj3 hy HRR hby hbk c0 c1
          gi_wp2_with fail
          exact ⟨T3, HS3.out, rfl, _, by simp, HPx.out, HJ4.out⟩
    case done2 =>
      intro T1 W1 hj hst
      have HS6 := Lib.hid (HSt7.out.trans hst)
      have HJ6 : Hid (J ((pre ++ [x]).flatMap (rvL (le key))) T1 W1) := Lib.hid (by rw [flatMap_snoc, ← HOA.out]; exact hj)
      clear hj hst hsi hws hs7
      gi_wp2_with fail
      exact ⟨T1, HS6.out, HJ6.out⟩
    case stop2 =>
      rintro c pre' T1 W1 hne hpre ⟨rfl, q, hq1, hq2, hj⟩ hst
      have HS6 := Lib.hid (HSt7.out.trans hst)
      have HJ6 := Lib.hid hj
      have HQ := Lib.hid (And.intro hq1 hq2)
      clear hj hst hne hpre hsi hws hs7 hq1 hq2
      gi_wp2_with fail
      exact ⟨T1, HS6.out, rfl, q, HQ.out.1, HQ.out.2, HJ6.out⟩
  case done =>
    intro D T' W' hj hst hD hTD hh
    have HS3 := Lib.hid (HST2.out.trans hst)
    have HJ3 := Lib.hid hj
    have HD : Hid (∀ E ∈ [D], W.heap.size ≤ E ∧ ¬ T' E) := Lib.hid fun E hE => by rw [List.mem_singleton] at hE; subst hE; exact ⟨by omega, hTD⟩
    have HH : Hid (∀ E ∈ [D], W'.heap[E]? = some (.deferred (some []))) := Lib.hid fun E hE => by rw [List.mem_singleton] at hE; subst hE; exact hh
    clear hj hst hD hTD hh hs1 hsz hb0
    gi_wp2_with fail
    refine leaves_marks [D] W' (by simp) HH.out fun w' hs => ?_
    have hq := shut_qt hs HD.out
    exact ⟨_, results_none rfl _ _ _, ⟨_, rfl⟩, T', HS3.out.qt hq (Nat.le_refl _), .inl (HJ.out _ _ _ _ HJ3.out hq)⟩
  case stop =>
    rintro D c pre T' W' hne hpre ⟨rfl, q, hq1, hq2, hj⟩ hst hD hTD hh
    have HS3 := Lib.hid (HST2.out.trans hst)
    have HJ3 := Lib.hid hj
    have HD : Hid (∀ E ∈ [D], W.heap.size ≤ E ∧ ¬ T' E) := Lib.hid fun E hE => by rw [List.mem_singleton] at hE; subst hE; exact ⟨by omega, hTD⟩
    have HH : Hid (∀ E ∈ [D], W'.heap[E]? = some (.deferred (some []))) := Lib.hid fun E hE => by rw [List.mem_singleton] at hE; subst hE; exact hh
    have HQ := Lib.hid (And.intro hq1 hq2)
    clear hj hst hD hTD hh hs1 hsz hb0 hne hpre hq1 hq2
    gi_wp2_with fail
    refine leaves_marks [D] W' (by simp) HH.out fun w' hs => ?_
    have hq := shut_qt hs HD.out
    exact ⟨_, results_none rfl _ _ _, ⟨_, rfl⟩, T', HS3.out.qt hq (Nat.le_refl _), .inr ⟨q, HQ.out.1, HQ.out.2, HJx.out _ _ _ _ HJ3.out hq⟩⟩

end Go.Proofs.Ytkooaechcbopnaa
