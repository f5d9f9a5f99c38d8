/-
  The makers of iterators; the iterators over the leaves of a tree from a key on, and of walk.From: they yield the entries of a tree from a key on; conditions: the tree is valid and lies in memory, or is nil.
-/
import Derived.Test.YtkooaechcbopnaaTreePut
import Derived.Test.YtkooaechcbopnaaRangeT
import Derived.Test.YtkooaechcbopnaaTreeItems
import Derived.Shelf.Abstract
import Derived.OwnWalkIn
import Derived.LoopIn
import Derived.OrdersIn
namespace Go.Proofs.Ytkooaechcbopnaa
open Go.RowKit Go.Sort Go.Shelf Rt
set_option linter.unusedVariables false
attribute [local go_sem] Oper.semAt_some

theorem wide_fn (f : FuncId) : Fence.wide.fn f = True := rfl
theorem wide_depth : Fence.wide.depth = none := rfl
attribute [local go_sem] wide_fn wide_depth

abbrev pb (b : Nat) : Value := .pointer (some ⟨b, 0, none⟩)
/-- Two boxes: a node and a key. -/
def boxed2 (w : World) (n : Value) (key : ByteArray) : World := (w.alloc (.cells #[n] 26)).alloc (.cells #[.string key] 9)
theorem boxed2_size (w : World) (n : Value) (key : ByteArray) : (boxed2 w n key).heap.size = w.heap.size + 2 := by simp [boxed2]
theorem boxed2_below (w : World) (n : Value) (key : ByteArray) : Below w.heap.size w (boxed2 w n key) := ((Below.refl _ w).alloc (Nat.le_refl _) _).alloc (by simp) _
theorem boxed2_n (w : World) (n : Value) (key : ByteArray) : (boxed2 w n key).heap[w.heap.size]? = some (.cells #[n] 26 (0, 0)) :=
  (Below.heap_alloc _ _ _ (by simp)).trans (heap_alloc_new w _)
theorem boxed2_k (w : World) (n : Value) (key : ByteArray) : (boxed2 w n key).heap[w.heap.size + 1]? = some (.cells #[.string key] 9 (0, 0)) := by
  have := heap_alloc_new (w.alloc (.cells #[n] 26)) (.cells #[.string key] 9)
  rwa [World.size_alloc] at this
/-- What such a maker answers. -/
def Mk2 (f : Nat) (n : Value) (key : ByteArray) (w : World) (e : Ending) (w' : World) : Prop := e = .returned (.func (.func f) #[] #[pb w.heap.size, pb (w.heap.size + 1)]) ∧ w' = boxed2 w n key

theorem leaves_made (w : World) (p : Option Addr) (key : ByteArray) : Calls Try.prog 41 #[.pointer p, .string key] w (Mk2 59 (.pointer p) key w) := by
  go_enter Try.func41, Try.ntmps41
  go_wp2
  go_ret
  exact ⟨rfl, rfl⟩
theorem leavesBack_made (w : World) (p : Option Addr) (key : ByteArray) : Calls Try.prog 44 #[.pointer p, .string key] w (Mk2 62 (.pointer p) key w) := by
  go_enter Try.func44, Try.ntmps44
  go_wp2
  go_ret
  exact ⟨rfl, rfl⟩
theorem from_made (w : World) (p : Option Addr) (key : ByteArray) : Calls Try.prog 29 #[.pointer p, .string key] w (Mk2 40 (.pointer p) key w) := by
  go_enter Try.func29, Try.ntmps29
  go_wp2
  go_ret
  exact ⟨rfl, rfl⟩
theorem backFrom_made (w : World) (p : Option Addr) (key : ByteArray) : Calls Try.prog 31 #[.pointer p, .string key] w (Mk2 43 (.pointer p) key w) := by
  go_enter Try.func31, Try.ntmps31
  go_wp2
  go_ret
  exact ⟨rfl, rfl⟩
/-- The greatest key, or the empty one. -/
def hiOf : TO → ByteArray
  | none => ByteArray.empty
  | some x => x.2.N.hi
theorem mk2_drewn {f : Nat} {n : Value} {key : ByteArray} {w w' : World} {e : Ending} {q : Nat} (h : Mk2 f n key (w.drewN q) e w') : e = .returned (.func (.func f) #[] #[pb w.heap.size, pb (w.heap.size + 1)]) ∧ w' = boxed2 (w.drewN q) n key := h
theorem back_made {w : World} {T : TO} (ht : TreeIs w T) : Calls Try.prog 28 #[tb T] w fun e w' => ∃ q, e = .returned (.func (.func 43) #[] #[pb w.heap.size, pb (w.heap.size + 1)]) ∧ w' = boxed2 (w.drewN q) (tb T) (hiOf T) := by
  cases T with
  | none =>
    go_enter Try.func28, Try.ntmps28
    go_wp2_with fail
    refine (ends_nil w).mono ?_
    rintro e w1 ⟨rfl, rfl⟩
    go_wp2_with fail
    refine (backFrom_made w none _).mono ?_
    rintro e w1 ⟨rfl, rfl⟩
    go_wp2
    go_ret
    exact ⟨0, rfl, rfl⟩
  | some x =>
    have HT := Lib.hid (ht x rfl)
    clear ht
    go_enter Try.func28, Try.ntmps28
    go_wp2_with fail
    refine (ends_any HT.out.at_).mono ?_
    rintro e w1 ⟨rfl, q, rfl⟩
    go_wp2_with fail
    refine (backFrom_made _ _ _).mono ?_
    rintro e w1 h
    obtain ⟨rfl, rfl⟩ := mk2_drewn h
    go_wp2
    go_ret
    exact ⟨q, rfl, rfl⟩


/-- A leaf, or none. -/
abbrev OS := Option ST
def encO (x : OS) : Array Value := #[ptr (x.map (·.b))]
def leafL (x : OS) : List Ent := x.elim [] (·.l)
def flatO (ls : List OS) : List Ent := ls.flatMap leafL
/-- Leaves whose entries, as far as p goes, are those of l. -/
structure Lvs (w0 : World) (p : Ent → Bool) (l : List Ent) (ls : List OS) : Prop where
  leaf : ∀ s, some s ∈ ls → Tr w0 0 s
  sub : (flatO ls).Sublist l
  filt : (flatO ls).filter p = l.filter p
/-- What such an iterator reads. -/
def Kf (n bn bk : Nat) : BS := fun k => k < n ∨ k = bn ∨ k = bk
def Fk (key : ByteArray) (f : ST → List OS) (k : ST) : List OS := if kl k.N.hi key then [] else f k

theorem cell_lt {w : World} {a : Addr} {v : Value} (h : w.cell? a = some v) : a.block < w.heap.size := by
  obtain ⟨o, ho, _⟩ := cells_of_cell h
  exact (Array.getElem?_eq_some_iff.1 ho).1
theorem Rt.Stp.cell {T T' : BS} {A B : World} (h : Stp T A T' B) {p : Addr} {v : Value} (hc : A.cell? p = some v) (hn : ¬ T p.block) : B.cell? p = some v := (World.cell?_of_block (w := A) (h.same _ (cell_lt hc) hn)).trans hc
theorem Rt.Stp.block {T T' : BS} {A B : World} (h : Stp T A T' B) {k : Nat} {o : Obj} (hc : A.heap[k]? = some o) (hn : ¬ T k) : B.heap[k]? = some o := (h.same _ (Array.getElem?_eq_some_iff.1 hc).1 hn).trans hc
theorem Rt.Bsy.cell {l : Nat} {A B : World} (h : Bsy l A B) {p : Addr} {v : Value} (hc : A.cell? p = some v) (hn : p.block ≠ l) : B.cell? p = some v := (World.cell?_of_block (w := A) (h.same _ hn)).trans hc
/-- Half-way through a loop whose rounds each hold a range over a function: the marks that they have left. -/
structure LoopAt {α : Type} (J : List α → BS → World → Prop) (w2 : World) (T : BS) (pre : List α) (T1 : BS) (Ds : List Nat) (wr : World) : Prop where
  st : Stp T w2 T1 wr
  j : J pre T1 wr
  nd : Ds.Nodup
  ds : ∀ D ∈ Ds, w2.heap.size ≤ D ∧ ¬ T1 D ∧ wr.heap[D]? = some (.deferred (some []))
theorem shut_qt {Ds : List Nat} {A B : World} {n : Nat} {T : BS} (h : Shut Ds A B) (hd : ∀ D ∈ Ds, n ≤ D ∧ ¬ T D) : Qt n T A B :=
  ⟨h.1, fun k hk h1 => h.2 k fun hm => by obtain ⟨a, b⟩ := hd k hm; rcases h1 with h1 | h1; omega; exact b h1⟩
theorem LoopAt.next {α : Type} {J : List α → BS → World → Prop} {w2 wr wr' : World} {T T1 T2 : BS} {pre pre' : List α} {Ds : List Nat} (h : LoopAt J w2 T pre T1 Ds wr) (hs : Stp T1 wr T2 wr') (hj : J pre' T2 wr') : LoopAt J w2 T pre' T2 Ds wr' :=
  ⟨h.st.trans hs, hj, h.nd, fun D hD => by
    obtain ⟨a, b, c⟩ := h.ds D hD
    have hl := (Array.getElem?_eq_some_iff.1 c).1
    exact ⟨a, fun h => b (hs.own D hl h), (hs.same D hl b).trans c⟩⟩
theorem LoopAt.mark {α : Type} {J : List α → BS → World → Prop} {w2 wr : World} {T T1 : BS} {pre : List α} {Ds : List Nat} (h : LoopAt J w2 T pre T1 Ds wr) {D n : Nat} (hn : n ≤ D) (hD : ∀ E ∈ Ds, E < n) (h2 : w2.heap.size ≤ n) (ht : ¬ T1 D) (hh : wr.heap[D]? = some (.deferred (some []))) : LoopAt J w2 T pre T1 (D :: Ds) wr :=
  ⟨h.st, h.j, List.nodup_cons.2 ⟨fun hm => by have := hD D hm; omega, h.nd⟩, fun E hE => by
    rcases List.mem_cons.1 hE with rfl | hE
    · exact ⟨by omega, ht, hh⟩
    · exact h.ds E hE⟩
theorem LoopAt.lt {α : Type} {J : List α → BS → World → Prop} {w2 wr : World} {T T1 : BS} {pre : List α} {Ds : List Nat} (h : LoopAt J w2 T pre T1 Ds wr) : ∀ E ∈ Ds, E < wr.heap.size := fun E hE => (Array.getElem?_eq_some_iff.1 (h.ds E hE).2.2).1
theorem flatMap_take_succ {α β : Type} {l : List α} {f : α → List β} {i : Nat} {x : α} (h : l[i]? = some x) : (l.take (i + 1)).flatMap f = (l.take i).flatMap f ++ f x := by
  obtain ⟨hi, rfl⟩ := List.getElem?_eq_some_iff.1 h
  rw [List.take_succ_eq_append_getElem hi, List.flatMap_append]
  simp
theorem flatMap_prefix {α β : Type} {l : List α} {f : α → List β} {i : Nat} {x : α} (h : l[i]? = some x) : (l.take i).flatMap f ++ f x <+: l.flatMap f := by
  rw [← flatMap_take_succ h]
  refine ⟨(l.drop (i + 1)).flatMap f, ?_⟩
  rw [← List.flatMap_append, List.take_append_drop]

set_option maxHeartbeats 4000000 in
set_option maxRecDepth 100000 in
theorem leaves_branch {w0 : World} {h : Nat} {s : ST} {ks : List ST} (hN : NodeAt w0 s.b s.N) (hk : KidsOf w0 h s ks) (key : ByteArray) (f : ST → List OS) {W : World} {bn bk : Nat} (hb : Below w0.heap.size w0 W)
    (hbn : W.cell? ⟨bn, 0, none⟩ = some (pn s.b)) (hbk : W.cell? ⟨bk, 0, none⟩ = some (.string key))
    (hf : ∀ k ∈ ks, ∀ W bn bk, Below w0.heap.size w0 W → W.cell? ⟨bn, 0, none⟩ = some (pn k.b) → W.cell? ⟨bk, 0, none⟩ = some (.string key) →
      Gives Try.prog 59 #[pb bn, pb bk] encO (f k) (Kf w0.heap.size bn bk) W) :
    Gives Try.prog 59 #[pb bn, pb bk] encO (ks.flatMap (Fk key f)) (Kf w0.heap.size bn bk) W := by
  intro l J Jx T hT hJ hJx hY h0
  have HT := Lib.hid hT
  have HJ := Lib.hid hJ
  have HJx := Lib.hid hJx
  have HY := Lib.hid hY
  have H0 := Lib.hid h0
  have HN := Lib.hid hN
  have HK := Lib.hid hk
  have HF := Lib.hid hf
  have HB := Lib.hid hb
  clear hT hJ hJx hY h0 hN hk hf hb
  refine callsIn_of_wp_marks Try.func59 rfl trivial ?_ rfl
  simp only [Try.ntmps59, List.size_toArray, List.length_cons, List.length_nil, Nat.reduceAdd, Nat.reduceSub, Array.replicate_succ, Array.replicate_zero, List.push_toArray, List.append_toArray, List.nil_append, List.cons_append]
  have hb1 : Below W.heap.size W (W.alloc (.cells #[.func (.yield l) #[] #[]] 94)) := (Below.refl _ _).alloc (Nat.le_refl _) _
  have HY1 : Hid ((W.alloc (.cells #[.func (.yield l) #[] #[]] 94)).heap[W.heap.size]? = some (.cells #[.func (.yield l) #[] #[]] 94 (0, 0))) := Lib.hid (heap_alloc_new W _)
  have q1 : (W.alloc (.cells #[.func (.yield l) #[] #[]] 94)).cell? ⟨bn, 0, none⟩ = some (pn s.b) := (hb1.cell (p := ⟨bn, 0, none⟩) (cell_lt hbn)).trans hbn
  have HBN := Lib.hid hbn
  have HBK := Lib.hid hbk
  have HB1 := Lib.hid hb1
  clear hb1 hbn hbk
  gi_wp2_with fail
  refine CallsIn.mono (callsIn_wide.2 (kids_any (HN.out.below (HB.out.trans (HB1.out.mono HB.out.size))) (HK.out.ls.below (HB.out.trans (HB1.out.mono HB.out.size))) (by rw [HK.out.br.kn, ptrS_len, nbs_len]) (by rw [HK.out.br.kn, nbs_len]; have := HK.out.six; omega))) ?_
  rintro r w2 ⟨v2, rfl, ho2, hb2⟩
  obtain ⟨A2, c2, rfl, hc2, hls2⟩ := ho2.form
  rw [ptrS_len] at hc2 ⊢
  have h2 := HK.out.two
  have HB2 := Lib.hid (bthen HB1.out hb2)
  have HY2 := Lib.hid ((hb2.block _ (Nat.lt_of_lt_of_le (Nat.lt_succ_self _) (by simp))).trans HY1.out)
  rw [ptrS_len] at ho2
  have HO2 := Lib.hid ho2
  have h6 := HK.out.six
  have h0n : ¬ ((ks.length : Int) = 0) := by omega
  clear ho2 hb2 hls2 q1 HB1 HY1
  gi_wp2_with fail
  have HTW : Hid (∀ k, T k → k < W.heap.size) := Lib.hid fun k hk => (HT.out k hk).1
  have HSW := Lib.hid HB2.out.size
  refine wpIn_loop (fun a wr => ∃ (j : Nat) (T1 : BS) (Ds : List Nat) (u6 u7 u8 u14 u20 u21 u22 u23 u24 u25 u26 u27 u28 u29 u30 u31 u32 u33 u34 u40 : Value), j ≤ ks.length ∧ u20 = .int .i64 (j : Int) ∧ Hid (LoopAt J w2 T ((ks.take j).flatMap (Fk key f)) T1 Ds wr) ∧
    a = { tmps := #[.func (.yield l) #[] #[], pb bn, pb bk, pb W.heap.size, .slice A2 ks.length c2, undef, u6, u7, u8, undef, pn s.b, .slice A2 ks.length c2, .slice A2 ks.length c2, .int .i64 (ks.length : Int), u14, undef, undef, undef,
      .slice A2 ks.length c2, .int .i64 (ks.length : Int), u20, u21, u22, u23, u24, u25, u26, u27, u28, u29, u30, u31, u32, u33, u34, undef, undef, undef, undef, undef, u40], defers := Ds.map mk })
    (fun a _ => ks.length - (intOf (a.tmps.getD 20 undef)).toNat) ?_ ?_
  · refine ⟨0, T, [], undef, undef, undef, _, .int .i64 0, undef, undef, undef, undef, undef, undef, undef, undef, undef, undef, undef, undef, undef, undef, undef, Nat.zero_le _, rfl, Lib.hid ⟨.refl fun k hk => Nat.lt_of_lt_of_le (HTW.out k hk) HSW.out, ?_, List.nodup_nil, fun D hD => by cases hD⟩, rfl⟩
    exact HJ.out _ _ _ _ H0.out (.of_below HB2.out)
  · rintro a wr ⟨j, T1, Ds, u6, u7, u8, u14, u20, u21, u22, u23, u24, u25, u26, u27, u28, u29, u30, u31, u32, u33, u34, u40, hj, rfl, HL, rfl⟩
    have HSt := Lib.hid ((Stp.of_below HB2.out HTW.out).trans HL.out.st)
    have HBR := Lib.hid (HB.out.trans (HSt.out.below HB.out.size fun k hk => Nat.le_of_not_lt fun h => (HT.out k hk).2 (.inl h)))
    by_cases hlt : j < ks.length
    · obtain ⟨k, hkj⟩ : ∃ k, ks[j]? = some k := ⟨_, List.getElem?_eq_getElem hlt⟩
      have hown : OwnP wr (W.alloc (.cells #[.func (.yield l) #[] #[]] 94)).heap.size (.slice A2 ks.length c2) (ptrS ks) := HO2.out.keep fun g hg hlt => HL.out.st.same g hlt fun ht => by
        have h1 := HTW.out g ht
        have h2 := HO2.out.at_block g hg
        simp at h2
        omega
      obtain ⟨ad, x, rfl, hx, hadl, hcx⟩ := Ls.node_at (ownP_ls hown) (i := j) (by rw [nbs_len]; exact hlt)
      rw [nbs_at hkj] at hx
      cases hx
      have HKJ := Lib.hid hkj
      have HTK := Lib.hid (HK.out.all k (List.mem_of_getElem? hkj)).1
      clear hown hkj
      gi_wp2_with fail
      refine CallsIn.mono (callsIn_wide.2 (ends_any (HTK.out.at_.keep (HBR.out.block _ HTK.out.lt)))) ?_
      rintro r w3 ⟨rfl, nq, rfl⟩
      have hbq : Below wr.heap.size wr (wr.drewN nq) := below_drewN (Below.refl _ _) _
      have HL3 := Lib.hid (HL.out.next (Stp.of_below hbq HL.out.st.lt) (HJ.out _ _ _ _ HL.out.j (.of_below hbq)))
      have HSt3 := Lib.hid (HSt.out.below_ hbq)
      have HBR3 := Lib.hid (HBR.out.trans (hbq.mono HBR.out.size))
      have HZ : Hid ((wr.drewN nq).heap.size = wr.heap.size) := Lib.hid rfl
      have q3 := HSt3.out.cell HBK.out (fun ht => (HT.out _ ht).2 (.inr (.inr rfl)))
      obtain ⟨w4, hw4⟩ : ∃ w4, wr.drewN nq = w4 := ⟨_, rfl⟩
      rw [hw4] at HL3 HSt3 HBR3 HZ q3 ⊢
      clear hbq hw4 hcx
      have hle := less_eq k.N.hi key
      by_cases hd : kl k.N.hi key
      · rw [decide_eq_true hd] at hle
        have HE : Hid ((ks.take (j + 1)).flatMap (Fk key f) = (ks.take j).flatMap (Fk key f)) := Lib.hid (by rw [flatMap_take_succ HKJ.out, Fk, if_pos hd, List.append_nil])
        gi_wp2_with fail
        exact ⟨⟨j + 1, T1, Ds, _, _, _, _, _, _, _, _, _, _, _, _, _, _, _, _, _, _, _, _, by omega, by go_num, Lib.hid (by rw [HE.out]; exact HL3.out), rfl⟩, by simp [intOf]; omega⟩
      · have HE : Hid (Fk key f k = f k) := Lib.hid (by rw [Fk, if_neg hd])
        rw [decide_eq_false hd] at hle
        gi_wp2_with fail
        refine CallsIn.mono (callsIn_wide.2 (leaves_made w4 _ key)) ?_
        rintro r w5 ⟨rfl, rfl⟩
        gi_wp2_with fail
        have hb5 := boxed2_below w4 (pn k.b) key
        have HS5 : Hid ((boxed2 w4 (pn k.b) key).heap.size = w4.heap.size + 2) := Lib.hid (boxed2_size _ _ _)
        have HBn := Lib.hid (boxed2_n w4 (pn k.b) key)
        have HBk := Lib.hid (boxed2_k w4 (pn k.b) key)
        have HL5 := Lib.hid (HL3.out.next (Stp.of_below hb5 HL3.out.st.lt) (HJ.out _ _ _ _ HL3.out.j (.of_below hb5)))
        have HSt5 := Lib.hid (HSt3.out.below_ hb5)
        have HBR5 := Lib.hid (HBR3.out.trans (hb5.mono HBR3.out.size))
        change Code.wpIn _ _ _ _ _ _ (boxed2 w4 (pn k.b) key)
        obtain ⟨w5, hw5⟩ : ∃ w5, boxed2 w4 (pn k.b) key = w5 := ⟨_, rfl⟩
        rw [hw5] at HS5 HBn HBk HL5 HSt5 HBR5 ⊢
        have HTl : Hid (∀ i, T1 i → i < w4.heap.size) := Lib.hid HL3.out.st.lt
        have HNo : Hid (∀ i, i < w2.heap.size → ¬ T i → ¬ T1 i) := Lib.hid fun i hi ht h1 => ht (HL.out.st.own i hi h1)
        clear HL3 HSt3 HBR3 q3 hb5 hw5 hle
        have HSI : Hid (W.heap.size < w2.heap.size ∧ w2.heap.size ≤ w4.heap.size ∧ w0.heap.size ≤ W.heap.size) := Lib.hid ⟨(Array.getElem?_eq_some_iff.1 HY2.out).1, by rw [HZ.out]; exact HL.out.st.fx.size, HB.out.size⟩
        have hsi := HSI.out
        have hs5 := HS5.out
        refine wpIn_range (gf := 59) (lb := #[pb w4.heap.size, pb (w4.heap.size + 1)]) rfl (enters_of Try.func59 (by kernel_rfl) rfl) (encs := encO) (fun _ => rfl)
          (fun W' hb' => HF.out k (List.mem_of_getElem? HKJ.out) W' _ _ (HBR5.out.trans (hb'.mono HBR5.out.size)) (cell_row ((hb'.block _ (by rw [HS5.out]; omega)).trans HBn.out) 0 _ rfl) (cell_row ((hb'.block _ (by rw [HS5.out]; omega)).trans HBk.out) 0 _ rfl))
          (T := T1) (fun i hi => ⟨HL5.out.st.lt i hi, fun hK => ?hK1⟩) (fun i hi => ?hK2)
          (fun pre T' W' => J ((ks.take j).flatMap (Fk key f) ++ pre) T' W') (fun c pre T' W' => c = .ret ∧ Jx ((ks.take j).flatMap (Fk key f) ++ pre) T' W')
          ?hI (fun c => ?hIx) ?h0 ?round ?done ?stop
        case hK1 =>
          have h1 := HTl.out i hi
          rcases hK with hK | rfl | rfl
          · rcases Nat.lt_or_ge i W.heap.size with h3 | h3
            · exact (HT.out i (HSt5.out.own i h3 hi)).2 (.inl hK)
            · omega
          · omega
          · omega
        case hK2 =>
          rcases hi with h1 | rfl | rfl <;> omega
        case hI => exact fun s T A B j q => HJ.out _ _ _ _ j (q.sub (by omega) fun _ h => h)
        case hIx => exact fun s T A B j q => ⟨j.1, HJx.out _ _ _ _ j.2 (q.sub (by omega) fun _ h => h)⟩
        case h0 => rw [List.append_nil]; exact HL5.out.j
        case round =>
          rintro i pre x T' W' hpre hj hst hnl hl hrl C hC
          obtain ⟨px, hpx⟩ : ∃ px, encO x = #[px] := ⟨_, rfl⟩
          have HPX := Lib.hid hpx
          rw [hpx]
          have HC := Lib.hid hC
          have HJr := Lib.hid hj
          have HSr := Lib.hid hst
          have HNl := Lib.hid hnl
          have HLi := Lib.hid hl
          have HPr := Lib.hid hpre
          clear hpx hC hj hst hnl hl hpre hrl hsi hs5
          gi_wp2_with fail
          refine HC.out _ _ (Below.refl _ _) fun W'' hB => ?_
          have hby := hB.cell (cell_row (HSr.out.block (HL5.out.st.block HY2.out fun h => Nat.lt_irrefl _ (HTW.out _ h)) (HNo.out _ HSI.out.1 fun h => Nat.lt_irrefl _ (HTW.out _ h))) 0 _ rfl) (by have h1 := HLi.out; have h2 := HS5.out; have h3 := HSI.out; show W.heap.size ≠ i; omega)
          obtain ⟨fn, tmps, assign, body, hy, hR⟩ := HY.out ((ks.take j).flatMap (Fk key f) ++ pre) x T' W'' (by
            have h1 := flatMap_prefix (f := Fk key f) HKJ.out
            rw [HE.out] at h1
            rw [List.append_assoc]
            exact ((List.prefix_append_right_inj _).2 HPr.out).trans h1) (HJ.out _ _ _ _ HJr.out (hB.qt (by have h1 := HLi.out; have h2 := HS5.out; have h3 := HSI.out; omega) HNl.out))
          rw [HPX.out] at hy
          gi_wp2_with fail
          refine hR.mono ?_
          rintro e W3 ⟨T3, hst3, ⟨rfl, hj3⟩ | ⟨rfl, hj3⟩⟩
          · have HS3 := Lib.hid hst3
            rw [List.append_assoc] at hj3
            have HJ3 := Lib.hid hj3
            clear hst3 hj3 hy hby
            gi_wp2_with fail
            exact ⟨T3, HS3.out, HJ3.out⟩
          · have HS3 := Lib.hid hst3
            rw [List.append_assoc] at hj3
            have HJ3 := Lib.hid hj3
            clear hst3 hj3 hy hby
            gi_wp2_with fail
            exact ⟨T3, HS3.out, rfl, HJ3.out⟩
        case done =>
          intro D T' W' hj hst hD hTD hh
          have HL6 : Hid (LoopAt J w2 T ((ks.take (j + 1)).flatMap (Fk key f)) T' (D :: Ds) W') := Lib.hid ((HL5.out.next hst (by rw [flatMap_take_succ HKJ.out, HE.out]; exact hj)).mark hD (fun E hE => by have := HL.out.lt E hE; have := HZ.out; omega) (by omega) hTD hh)
          clear hj hst hD hTD hh hsi hs5
          gi_wp2_with fail
          exact ⟨⟨j + 1, T', D :: Ds, _, _, _, _, _, _, _, _, _, _, _, _, _, _, _, _, _, _, _, _, by omega, by go_num, HL6, rfl⟩, by simp [intOf]; omega⟩
        case stop =>
          rintro D c pre T' W' hne hpre ⟨rfl, hj⟩ hst hD hTD hh
          have HS6 := Lib.hid (HSt5.out.trans hst)
          have HJ6 := Lib.hid hj
          have HM : Hid ((D :: Ds).Nodup ∧ ∀ E ∈ (D :: Ds), W.heap.size ≤ E ∧ ¬ T' E ∧ W'.heap[E]? = some (.deferred (some []))) := Lib.hid ⟨List.nodup_cons.2 ⟨fun hm => by have := HL.out.lt D hm; have := HZ.out; omega, HL.out.nd⟩, fun E hE => by
            rcases List.mem_cons.1 hE with rfl | hE
            · exact ⟨by omega, hTD, hh⟩
            · obtain ⟨a, b, c⟩ := HL5.out.ds E hE
              have hl := (Array.getElem?_eq_some_iff.1 c).1
              exact ⟨by omega, fun h => b (hst.own E hl h), (hst.same E hl b).trans c⟩⟩
          have HPre := Lib.hid hpre
          have HNe := Lib.hid hne
          clear hj hst hD hTD hh hsi hs5 hpre hne
          gi_wp2_with fail
          refine leaves_marks (D :: Ds) W' HM.out.1 (fun E hE => (HM.out.2 E hE).2.2) fun w' hs => ⟨_, results_none rfl _ _ _, ⟨_, rfl⟩, T', ?_, .inr ⟨_, ?_, ?_, HJx.out _ _ _ _ HJ6.out (shut_qt hs fun E hE => ⟨(HM.out.2 E hE).1, (HM.out.2 E hE).2.1⟩)⟩⟩
          · exact HS6.out.qt (shut_qt hs fun E hE => ⟨(HM.out.2 E hE).1, (HM.out.2 E hE).2.1⟩) (Nat.le_refl _)
          · intro h
            exact HNe.out (List.append_eq_nil_iff.1 h).2
          · have h1 := flatMap_prefix (f := Fk key f) HKJ.out
            rw [HE.out] at h1
            exact ((List.prefix_append_right_inj _).2 HPre.out).trans h1
    · have he : j = ks.length := by omega
      subst he
      have HJe := Lib.hid HL.out.j
      rw [List.take_length] at HJe
      gi_wp2_with fail
      refine leaves_marks Ds wr HL.out.nd (fun E hE => (HL.out.ds E hE).2.2) fun w' hs => ?_
      have hq := shut_qt (n := W.heap.size) (T := T1) hs fun E hE => ⟨by have := (HL.out.ds E hE).1; have := HSW.out; omega, (HL.out.ds E hE).2.1⟩
      exact ⟨_, results_none rfl _ _ _, ⟨_, rfl⟩, T1, HSt.out.qt hq (Nat.le_refl _), .inl (HJ.out _ _ _ _ HJe.out hq)⟩

/-- What a node without kids answers to Kids. -/
def NoKids (w0 : World) (x : OS) : Prop := ∀ W, Below w0.heap.size w0 W → Calls Try.prog 60 #[ptr (x.map (·.b))] W fun e w' => ∃ A c, e = .returned (.slice A 0 c) ∧ Below W.heap.size W w'

set_option maxHeartbeats 4000000 in
set_option maxRecDepth 100000 in
theorem leaves_one {w0 : World} {x : OS} (hk : NoKids w0 x) {W : World} {bn bk : Nat} (hb : Below w0.heap.size w0 W) (hbn : W.cell? ⟨bn, 0, none⟩ = some (ptr (x.map (·.b)))) :
    Gives Try.prog 59 #[pb bn, pb bk] encO [x] (Kf w0.heap.size bn bk) W := by
  intro l J Jx T hT hJ hJx hY h0
  obtain ⟨px, hpx⟩ : ∃ px, (x.map (·.b)).map (fun b => (⟨b, 0, none⟩ : Addr)) = px := ⟨_, rfl⟩
  have hpv : ptr (x.map (·.b)) = .pointer px := by rw [← hpx]; rfl
  have HPX : Hid (encO x = #[.pointer px]) := Lib.hid (by rw [← hpv]; rfl)
  rw [hpv] at hbn
  have HT := Lib.hid hT
  have HJ := Lib.hid hJ
  have HJx := Lib.hid hJx
  have HY := Lib.hid hY
  have H0 := Lib.hid h0
  have HK := Lib.hid hk
  have HB := Lib.hid hb
  have HPV := Lib.hid hpv
  clear hT hJ hJx hY h0 hk hb hpx hpv
  refine callsIn_of_wp_marks Try.func59 rfl trivial ?_ rfl
  simp only [Try.ntmps59, List.size_toArray, List.length_cons, List.length_nil, Nat.reduceAdd, Nat.reduceSub, Array.replicate_succ, Array.replicate_zero, List.push_toArray, List.append_toArray, List.nil_append, List.cons_append]
  have hb1 : Below W.heap.size W (W.alloc (.cells #[.func (.yield l) #[] #[]] 94)) := (Below.refl _ _).alloc (Nat.le_refl _) _
  have HY1 : Hid ((W.alloc (.cells #[.func (.yield l) #[] #[]] 94)).heap[W.heap.size]? = some (.cells #[.func (.yield l) #[] #[]] 94 (0, 0))) := Lib.hid (heap_alloc_new W _)
  have q1 : (W.alloc (.cells #[.func (.yield l) #[] #[]] 94)).cell? ⟨bn, 0, none⟩ = some (.pointer px) := (hb1.cell (p := ⟨bn, 0, none⟩) (cell_lt hbn)).trans hbn
  have HBN := Lib.hid hbn
  have HB1 := Lib.hid hb1
  clear hb1 hbn
  gi_wp2_with fail
  refine CallsIn.mono (callsIn_wide.2 (by have := HK.out _ (HB.out.trans (HB1.out.mono HB.out.size)); rw [HPV.out] at this; exact this)) ?_
  rintro r w2 ⟨A2, c2, rfl, hb2⟩
  have HB2 := Lib.hid (bthen HB1.out hb2)
  have hby : w2.cell? ⟨W.heap.size, 0, none⟩ = some (.func (.yield l) #[] #[]) := cell_row ((hb2.block _ (Nat.lt_of_lt_of_le (Nat.lt_succ_self _) (by simp))).trans HY1.out) 0 _ rfl
  have q2 : w2.cell? ⟨bn, 0, none⟩ = some (.pointer px) := (HB2.out.cell (p := ⟨bn, 0, none⟩) (cell_lt HBN.out)).trans HBN.out
  obtain ⟨fn, tmps, assign, body, hy, hR⟩ := HY.out [] x T w2 (List.prefix_refl _) (HJ.out _ _ _ _ H0.out (.of_below HB2.out))
  rw [HPX.out] at hy
  clear hb2
  gi_wp2_with fail
  refine hR.mono ?_
  rintro e W3 ⟨T3, hst3, ⟨rfl, hj3⟩ | ⟨rfl, hj3⟩⟩
  · have HS3 := Lib.hid ((Stp.of_below HB2.out fun k hk => (HT.out k hk).1).trans hst3)
    have HJ3 := Lib.hid hj3
    clear hst3 hj3 hy hby
    gi_wp2_with fail
    exact ⟨_, results_none rfl _ _ _, ⟨_, rfl⟩, T3, HS3.out, .inl HJ3.out⟩
  · have HS3 := Lib.hid ((Stp.of_below HB2.out fun k hk => (HT.out k hk).1).trans hst3)
    have HJ3 := Lib.hid hj3
    clear hst3 hj3 hy hby
    gi_wp2_with fail
    exact ⟨_, results_none rfl _ _ _, ⟨_, rfl⟩, T3, HS3.out, .inr ⟨_, by simp, List.prefix_refl _, HJ3.out⟩⟩

/-- From a key on. -/
def ge (key : ByteArray) (e : Ent) : Bool := decide (¬ kl e.k key)
/-- Up to a key. -/
def le (key : ByteArray) (e : Ent) : Bool := decide (¬ kl key e.k)
theorem Tr.le_hi {w : World} {h : Nat} {s : ST} (t : Tr w h s) {e : Ent} (he : e ∈ s.l) : ¬ kl s.N.hi e.k := by
  obtain ⟨r, x, hl, hx⟩ := t.last
  have hs := t.sorted
  rw [hl] at he hs
  rw [hx]
  rcases List.mem_append.1 he with he | he
  · exact kl_asymm ((List.pairwise_append.1 hs).2.2 e he x (by simp))
  · rw [List.mem_singleton.1 he]
    exact kl_irrefl _
theorem flatO_flatMap (ks : List ST) (F : ST → List OS) : flatO (ks.flatMap F) = ks.flatMap fun k => flatO (F k) := by
  unfold flatO
  rw [List.flatMap_assoc]
theorem flat_sub {ks : List ST} {G : ST → List Ent} (h : ∀ k ∈ ks, (G k).Sublist k.l) : (ks.flatMap G).Sublist (flat ks) := by
  induction ks with
  | nil => exact List.Sublist.slnil
  | cons k ks ih => exact (h k (List.mem_cons_self ..)).append (ih fun x hx => h x (List.mem_cons_of_mem _ hx))
theorem flat_filter {ks : List ST} {G : ST → List Ent} {p : Ent → Bool} (h : ∀ k ∈ ks, (G k).filter p = k.l.filter p) : (ks.flatMap G).filter p = (flat ks).filter p := by
  induction ks with
  | nil => rfl
  | cons k ks ih =>
    rw [List.flatMap_cons, show flat (k :: ks) = k.l ++ flat ks from rfl, List.filter_append, List.filter_append, h k (List.mem_cons_self ..), ih fun x hx => h x (List.mem_cons_of_mem _ hx)]
theorem ex_fun {α β : Type} {l : List α} {P : α → List β → Prop} (h : ∀ x ∈ l, ∃ y, P x y) : ∃ f : α → List β, ∀ x ∈ l, P x (f x) := by
  classical
  exact ⟨fun x => if hx : ∃ y, P x y then Classical.choose hx else [], fun x hx => by show P x (if hx : ∃ y, P x y then Classical.choose hx else []); rw [dif_pos (h x hx)]; exact Classical.choose_spec (h x hx)⟩
/-- What of the kids' leaves is the branch's. -/
theorem lvs_branch {w0 : World} {p : Ent → Bool} {ks : List ST} {F : ST → List OS} {l : List Ent} (hl : l = flat ks) (h : ∀ k ∈ ks, Lvs w0 p k.l (F k)) : Lvs w0 p l (ks.flatMap F) := by
  subst hl
  refine ⟨fun s hs => ?_, ?_, ?_⟩
  · obtain ⟨k, hk, hs⟩ := List.mem_flatMap.1 hs
    exact (h k hk).leaf s hs
  · rw [flatO_flatMap]
    exact flat_sub fun k hk => (h k hk).sub
  · rw [flatO_flatMap]
    exact flat_filter fun k hk => (h k hk).filt
theorem lvs_none {w0 : World} {p : Ent → Bool} {l : List Ent} (h : ∀ e ∈ l, p e = false) : Lvs w0 p l [] :=
  ⟨fun s hs => (by cases hs), List.nil_sublist _, by rw [filter_none h]; rfl⟩
theorem lvs_one {w0 : World} {p : Ent → Bool} {s : ST} (h : Tr w0 0 s) : Lvs w0 p s.l [some s] :=
  ⟨fun x hx => by rw [List.mem_singleton] at hx; cases hx; exact h, by simp [flatO, leafL], by simp [flatO, leafL]⟩
theorem noKids_leaf {w0 : World} {s : ST} (h : Tr w0 0 s) : NoKids w0 (some s) := fun W hb => by
  refine (kids_any (h.at_.below hb) (Ls.nil (f := pcP) _ _) (by rw [h.2.1.kn]; rfl) (by rw [h.2.1.kn]; omega)).mono ?_
  rintro e w' ⟨v, rfl, ho, hb'⟩
  obtain ⟨A, c, rfl, _, _⟩ := ho.form
  exact ⟨A, c, rfl, hb'⟩
theorem noKids_none (w0 : World) : NoKids w0 none := fun W hb => by
  refine (kids_nil W).mono ?_
  rintro e w' ⟨rfl, rfl⟩
  exact ⟨none, 0, rfl, Below.refl _ _⟩

theorem leaves_tr {w0 : World} (key : ByteArray) : ∀ (h : Nat) (s : ST), Tr w0 h s → ∃ ls, Lvs w0 (ge key) s.l ls ∧ ∀ W bn bk, Below w0.heap.size w0 W → W.cell? ⟨bn, 0, none⟩ = some (pn s.b) → W.cell? ⟨bk, 0, none⟩ = some (.string key) →
    Gives Try.prog 59 #[pb bn, pb bk] encO ls (Kf w0.heap.size bn bk) W
  | 0, s, t => ⟨[some s], lvs_one t, fun W bn bk hb hn _ => leaves_one (noKids_leaf t) hb hn⟩
  | h + 1, s, t => by
    obtain ⟨ks, hk⟩ := t.kids
    obtain ⟨f, hf⟩ := ex_fun fun k hm => leaves_tr key h k (hk.all k hm).1
    refine ⟨ks.flatMap (Fk key f), lvs_branch hk.l fun k hm => ?_, fun W bn bk hb hn hbk => leaves_branch t.at_ hk key f hb hn hbk fun k hm => (hf k hm).2⟩
    unfold Fk
    by_cases hd : kl k.N.hi key
    · rw [if_pos hd]
      exact lvs_none fun e he => by
        have := (hk.all k hm).1.le_hi he
        simp only [ge, decide_eq_false_iff_not, Decidable.not_not]
        exact le_kl_trans this hd
    · rw [if_neg hd]
      exact (hf k hm).1
/-- The pointer to a tree, or nil. -/
theorem leaves_any {w0 : World} {T : TO} (ht : TreeIs w0 T) (key : ByteArray) : ∃ ls, Lvs w0 (ge key) (tl T) ls ∧ ∀ W bn bk, Below w0.heap.size w0 W → W.cell? ⟨bn, 0, none⟩ = some (tb T) → W.cell? ⟨bk, 0, none⟩ = some (.string key) →
    Gives Try.prog 59 #[pb bn, pb bk] encO ls (Kf w0.heap.size bn bk) W := by
  cases T with
  | none => exact ⟨[none], ⟨fun s hs => by simp at hs, by simp [flatO, leafL], by simp [flatO, leafL, tl]⟩, fun W bn bk hb hn _ => leaves_one (noKids_none w0) hb hn⟩
  | some x => exact leaves_tr key x.1 x.2 (ht x rfl)

def encE (e : Ent) : Array Value := #[.string e.k, .string e.v]
theorem Own.keep {w w' : World} {base : Nat} {v : Value} {l : List Ent} (h : Own w base v l) (hb : ∀ g, v.ownBlock = some g → g < w.heap.size → w'.heap[g]? = w.heap[g]?) : Own w' base v l := by
  refine ⟨h.1, ?_⟩
  rcases h.2 with hv | ⟨g, cap, cur, h1, h2, h3, h4⟩
  · exact .inl hv
  · refine .inr ⟨g, cap, cur, h1, h2, (hb g ?_ (Array.getElem?_eq_some_iff.1 h3).1).trans h3, h4⟩
    rw [h1]
    rfl
theorem own_es {w : World} {base n c : Nat} {A : Option Addr} {l : List Ent} (h : Own w base (.slice A n c) l) : Es w A l := by
  obtain ⟨A', c', e, _, hl⟩ := h.form
  cases e
  exact hl
/-- What a leaf, or nil, answers to Entries. -/
theorem ents_os {w0 : World} {x : OS} (hx : ∀ s, x = some s → Tr w0 0 s) {W : World} (hb : Below w0.heap.size w0 W) :
    Calls Try.prog 42 #[ptr (x.map (·.b))] W fun e w' => ∃ v, e = .returned v ∧ Own w' W.heap.size v (leafL x) ∧ Below W.heap.size W w' := by
  cases x with
  | none =>
    refine (entries_nil W).mono ?_
    rintro e w' ⟨rfl, rfl⟩
    exact ⟨_, rfl, Own.nil_ _ _, Below.refl _ _⟩
  | some s =>
    have h := hx s rfl
    have := okLeaf_len h.2.2.2.1
    exact entries_any (h.at_.below hb) (h.2.2.1.below hb) h.2.1.en.symm (by rw [h.2.1.en]; omega)
theorem leafL_len {w0 : World} {x : OS} (hx : ∀ s, x = some s → Tr w0 0 s) : (leafL x).length ≤ 4 := by
  cases x with
  | none => exact Nat.zero_le _
  | some s =>
    have := okLeaf_len (hx s rfl).2.2.2.1
    show s.l.length ≤ 4
    omega
theorem filter_take_yes {l : List Ent} {p : Ent → Bool} {m : Nat} {e : Ent} (h : l[m]? = some e) (hp : p e = true) : (l.take (m + 1)).filter p = (l.take m).filter p ++ [e] := by
  obtain ⟨hi, rfl⟩ := List.getElem?_eq_some_iff.1 h
  rw [List.take_succ_eq_append_getElem hi, List.filter_append]
  simp [hp]
theorem filter_take_no {l : List Ent} {p : Ent → Bool} {m : Nat} {e : Ent} (h : l[m]? = some e) (hp : p e = false) : (l.take (m + 1)).filter p = (l.take m).filter p := by
  obtain ⟨hi, rfl⟩ := List.getElem?_eq_some_iff.1 h
  rw [List.take_succ_eq_append_getElem hi, List.filter_append]
  simp [hp]
theorem flatO_snoc (pre : List OS) (x : OS) : flatO (pre ++ [x]) = flatO pre ++ leafL x := by simp [flatO]
/-- What has been yielded is the beginning of what is to be. -/
theorem yield_prefix {ls pre : List OS} {x : OS} {p : Ent → Bool} (h : pre ++ [x] <+: ls) {m : Nat} : (flatO pre).filter p ++ ((leafL x).take m).filter p <+: (flatO ls).filter p := by
  obtain ⟨r, rfl⟩ := h
  refine ⟨((leafL x).drop m).filter p ++ (flatO r).filter p, ?_⟩
  have e : flatO (pre ++ [x] ++ r) = flatO pre ++ (leafL x ++ flatO r) := by simp [flatO]
  rw [e, List.filter_append, List.filter_append, List.append_assoc, ← List.append_assoc (((leafL x).take m).filter p), ← List.filter_append, List.take_append_drop]
/-- Half-way through a leaf. -/
structure InLeaf (J : List Ent → BS → World → Prop) (w6 : World) (T' : BS) (pre : List Ent) (T1 : BS) (wr : World) : Prop where
  st : Stp T' w6 T1 wr
  j : J pre T1 wr

set_option maxHeartbeats 4000000 in
set_option maxRecDepth 100000 in
theorem from_gives {w0 : World} {T0 : TO} (ht : TreeIs w0 T0) (key : ByteArray) {W : World} {bn bk : Nat} (hb : Below w0.heap.size w0 W) (hbn : W.cell? ⟨bn, 0, none⟩ = some (tb T0)) (hbk : W.cell? ⟨bk, 0, none⟩ = some (.string key)) :
    Gives Try.prog 40 #[pb bn, pb bk] encE ((tl T0).filter (ge key)) (Kf w0.heap.size bn bk) W := by
  obtain ⟨ls, hl, hg⟩ := leaves_any ht key
  rw [← hl.filt]
  intro l J Jx T hT hJ hJx hY h0
  obtain ⟨pt, hpt⟩ : ∃ pt, tb T0 = .pointer pt := ⟨_, rfl⟩
  rw [hpt] at hbn hg
  have HT := Lib.hid hT
  have HJ := Lib.hid hJ
  have HJx := Lib.hid hJx
  have HY := Lib.hid hY
  have H0 := Lib.hid h0
  have HB := Lib.hid hb
  have HL := Lib.hid hl
  have HG := Lib.hid hg
  clear hT hJ hJx hY h0 hb hl hg hpt
  refine callsIn_of_wp_marks Try.func40 rfl trivial ?_ rfl
  simp only [Try.ntmps40, List.size_toArray, List.length_cons, List.length_nil, Nat.reduceAdd, Nat.reduceSub, Array.replicate_succ, Array.replicate_zero, List.push_toArray, List.append_toArray, List.nil_append, List.cons_append]
  obtain ⟨w1, hw1⟩ : ∃ w1, W.alloc (.cells #[.func (.yield l) #[] #[]] 74) = w1 := ⟨_, rfl⟩
  have hb1 : Below W.heap.size W w1 := by rw [← hw1]; exact (Below.refl _ _).alloc (Nat.le_refl _) _
  have hy1 : w1.heap[W.heap.size]? = some (.cells #[.func (.yield l) #[] #[]] 74 (0, 0)) := by rw [← hw1]; exact heap_alloc_new W _
  have hsz1 : w1.heap.size = W.heap.size + 1 := by rw [← hw1]; simp
  have q1 := (hb1.cell (p := ⟨bn, 0, none⟩) (cell_lt hbn)).trans hbn
  have q2 := (hb1.cell (p := ⟨bk, 0, none⟩) (cell_lt hbk)).trans hbk
  rw [← hw1] at q1 q2
  have HBK := Lib.hid hbk
  have HW1 := Lib.hid hw1
  have HB1 := Lib.hid hb1
  have HY1 := Lib.hid hy1
  have HS1 := Lib.hid hsz1
  clear hb1 hy1 hsz1 hbn hbk hw1
  gi_wp2_with fail
  rw [HW1.out]
  refine CallsIn.mono (callsIn_wide.2 (leaves_made w1 _ key)) ?_
  rintro r w2 ⟨rfl, rfl⟩
  have hb2 := boxed2_below w1 (.pointer pt) key
  have HBn := Lib.hid (boxed2_n w1 (.pointer pt) key)
  have HBk := Lib.hid (boxed2_k w1 (.pointer pt) key)
  have HS2 := Lib.hid (boxed2_size w1 (.pointer pt) key)
  obtain ⟨w2, hw2⟩ : ∃ w2, boxed2 w1 (.pointer pt) key = w2 := ⟨_, rfl⟩
  rw [hw2] at hb2 HBn HBk HS2 ⊢
  have HB2 := Lib.hid (bthen HB1.out hb2)
  have HY2 := Lib.hid ((hb2.block _ (by rw [HS1.out]; omega)).trans HY1.out)
  have HTW : Hid (∀ k, T k → k < W.heap.size) := Lib.hid fun k hk => (HT.out k hk).1
  have HST2 := Lib.hid (Stp.of_below HB2.out HTW.out)
  have HSZ : Hid (w2.heap.size = W.heap.size + 3) := Lib.hid (by rw [HS2.out, HS1.out])
  clear hb2 hw2 q1 q2
  gi_wp2_with fail
  have hs1 := HS1.out
  have hsz := HSZ.out
  have hb0 := HB.out.size
  refine wpIn_range (gf := 59) (lb := #[pb w1.heap.size, pb (w1.heap.size + 1)]) rfl (enters_of Try.func59 (by kernel_rfl) rfl) (encs := encO) (fun _ => rfl)
    (fun W' hb' => HG.out W' _ _ ((HB.out.trans (HB2.out.mono HB.out.size)).trans (hb'.mono (by omega))) (cell_row ((hb'.block _ (by omega)).trans HBn.out) 0 _ rfl) (cell_row ((hb'.block _ (by omega)).trans HBk.out) 0 _ rfl))
    (T := T) (fun i hi => ⟨by have := HTW.out i hi; omega, fun hK => ?hK1⟩) (fun i hi => ?hK2)
    (fun pre T' W' => J ((flatO pre).filter (ge key)) T' W') (fun c pre T' W' => c = .ret ∧ ∃ q, q ≠ [] ∧ q <+: (flatO ls).filter (ge key) ∧ Jx q T' W')
    ?hI (fun c => ?hIx) ?h0 ?round ?done ?stop
  case hK1 =>
    have h1 := HTW.out i hi
    rcases hK with hK | rfl | rfl
    · exact (HT.out i hi).2 (.inl hK)
    · omega
    · omega
  case hK2 => rcases hi with h1 | rfl | rfl <;> omega
  case hI => exact fun s T A B j q => HJ.out _ _ _ _ j (q.sub (by omega) fun _ h => h)
  case hIx => exact fun s T A B ⟨j1, q1, j2, j3, j4⟩ q => ⟨j1, q1, j2, j3, HJx.out _ _ _ _ j4 (q.sub (by omega) fun _ h => h)⟩
  case h0 => exact HJ.out _ _ _ _ H0.out (.of_below HB2.out)
  case round =>
    rintro i pre x T' W' hpre hj hst hnl hl hrl C hC
    obtain ⟨px, hpx⟩ : ∃ px, (x.map (·.b)).map (fun b => (⟨b, 0, none⟩ : Addr)) = px := ⟨_, rfl⟩
    have hpv : ptr (x.map (·.b)) = .pointer px := by rw [← hpx]; rfl
    rw [show encO x = #[.pointer px] by rw [← hpv]; rfl]
    have HPV := Lib.hid hpv
    have HC := Lib.hid hC
    have HJr := Lib.hid hj
    have HSr := Lib.hid (HST2.out.trans hst)
    have HS2r := Lib.hid hst
    have HNl := Lib.hid hnl
    have HLi : Hid (W.heap.size + 3 ≤ i) := Lib.hid (by omega)
    have HPr := Lib.hid hpre
    have HLF : Hid (∀ s, x = some s → Tr w0 0 s) := Lib.hid fun s hs => HL.out.leaf s (hpre.subset (by rw [hs]; simp))
    clear hpx hpv hC hj hst hnl hl hpre hrl hs1 hsz hb0
    gi_wp2_with fail
    refine HC.out _ _ (Below.refl _ _) fun W'' hB => ?_
    have HN0 : Hid (∀ k, T' k → w0.heap.size ≤ k) := Lib.hid fun k hk => by
      rcases Nat.lt_or_ge k W.heap.size with h1 | h1
      · exact Nat.le_of_not_lt fun h => (HT.out k (HSr.out.own k h1 hk)).2 (.inl h)
      · have := HB.out.size; omega
    have HBW : Hid (Below w0.heap.size w0 W'') := Lib.hid ((HB.out.trans (HSr.out.below HB.out.size fun k hk => Nat.le_of_not_lt fun h => (HT.out k hk).2 (.inl h))).trans (hB.below (by have := HLi.out; have := HB.out.size; omega)))
    have hby := hB.cell (cell_row (HS2r.out.block HY2.out (fun h => Nat.lt_irrefl _ (HTW.out _ h))) 0 _ rfl) (by have h1 := HLi.out; show W.heap.size ≠ i; omega)
    have hbk := hB.cell (HSr.out.cell HBK.out fun h => (HT.out _ h).2 (.inr (.inr rfl))) (by have h1 := HLi.out; have h2 := cell_lt HBK.out; show bk ≠ i; simp only at h2; omega)
    have HNt : Hid (¬ T' W.heap.size ∧ ¬ T' bk) := Lib.hid ⟨fun h => Nat.lt_irrefl _ (HTW.out _ (HS2r.out.own _ (by have := HSZ.out; omega) h)), fun h => (HT.out _ (HSr.out.own _ (cell_lt HBK.out) h)).2 (.inr (.inr rfl))⟩
    have HTl : Hid (∀ k, T' k → k < W''.heap.size) := Lib.hid fun k hk => by rw [hB.size]; exact HS2r.out.lt k hk
    have HJ2 := Lib.hid (HJ.out _ _ _ _ HJr.out (hB.qt (n := W.heap.size) (by have h1 := HLi.out; omega) HNl.out))
    have HWs : Hid (W.heap.size ≤ W''.heap.size) := Lib.hid (by rw [hB.size]; exact HSr.out.fx.size)
    have HBY := Lib.hid hby
    have HBK2 := Lib.hid hbk
    clear hB hby hbk HS2r HSr HJr
    gi_wp2_with fail
    refine CallsIn.inRound i (CallsIn.mono (callsIn_wide.2 (by have := ents_os HLF.out HBW.out; rw [HPV.out] at this; exact this)) ?_)
    rintro r w6 ⟨v6, rfl, ho6, hb6⟩
    obtain ⟨A6, c6, rfl, hc6, _⟩ := ho6.form
    have HO6 := Lib.hid ho6
    have HB6 := Lib.hid hb6
    have h4 := leafL_len HLF.out
    obtain ⟨n, hn⟩ : ∃ n, (leafL x).length = n := ⟨_, rfl⟩
    rw [hn] at HO6 hc6 h4 ⊢
    have Hn := Lib.hid hn
    clear ho6 hb6 hn
    gi_wp2_with fail
    gi_loopw [14] (fun s14 wr => ∃ (m : Nat) (T1 : BS), m ≤ n ∧ s14 = .int .i64 (m : Int) ∧ Hid (InLeaf J w6 T' ((flatO pre).filter (ge key) ++ ((leafL x).take m).filter (ge key)) T1 wr)) (fun s14 _ => n - (intOf s14).toNat)
    case atStart => exact ⟨0, T', Nat.zero_le _, rfl, Lib.hid ⟨.refl fun k hk => Nat.lt_of_lt_of_le (HTl.out k hk) HB6.out.size, by
      rw [List.take_zero, List.filter_nil, List.append_nil]
      exact HJ.out _ _ _ _ HJ2.out (.of_below HB6.out)⟩⟩
    case round =>
      obtain ⟨m, T1, hm, rfl, HI⟩ := hrel
      by_cases hlt : m < n
      · have hown := HO6.out.keep fun g hg hlt => HI.out.st.same g hlt fun ht => by
          have h1 := HTl.out g ht
          have h2 := HO6.out.at_block g hg
          omega
        obtain ⟨ad, e, rfl, he, hadl, h1, h2⟩ := (own_es hown).at_ (i := m) (by rw [Hn.out]; exact hlt)
        have hby := HI.out.st.cell ((HB6.out.cell (p := ⟨W.heap.size, 0, none⟩) (cell_lt HBY.out)).trans HBY.out) HNt.out.1
        have hbk := HI.out.st.cell ((HB6.out.cell (p := ⟨bk, 0, none⟩) (cell_lt HBK2.out)).trans HBK2.out) HNt.out.2
        have hba : Below wr.heap.size wr (wr.alloc (.cells #[.string e.k, .string e.v] 39)) := (Below.refl _ _).alloc (Nat.le_refl _) _
        have q1 := (hba.cell (p := ⟨bk, 0, none⟩) (cell_lt hbk)).trans hbk
        have q2 := (hba.cell (p := ⟨W.heap.size, 0, none⟩) (cell_lt hby)).trans hby
        have HE := Lib.hid he
        have HBa := Lib.hid hba
        clear hown he hba hby hbk
        have hle := less_eq e.k key
        by_cases hd : kl e.k key
        · have HF : Hid (((leafL x).take (m + 1)).filter (ge key) = ((leafL x).take m).filter (ge key)) := Lib.hid (filter_take_no HE.out (by simp [ge, hd]))
          rw [decide_eq_true hd] at hle
          gi_wp2_with fail
          exact ⟨⟨m + 1, T1, by omega, by go_num, Lib.hid ⟨HI.out.st.below_ HBa.out, by rw [HF.out]; exact HJ.out _ _ _ _ HI.out.j (.of_below HBa.out)⟩⟩, by simp [intOf]; omega⟩
        · have HF : Hid (((leafL x).take (m + 1)).filter (ge key) = ((leafL x).take m).filter (ge key) ++ [e]) := Lib.hid (filter_take_yes HE.out (by simp [ge, hd]))
          have HPx : Hid ((flatO pre).filter (ge key) ++ ((leafL x).take m).filter (ge key) ++ [e] <+: (flatO ls).filter (ge key)) := Lib.hid (by
            rw [List.append_assoc, ← HF.out]
            exact yield_prefix HPr.out)
          rw [decide_eq_false hd] at hle
          obtain ⟨fn, tmps, assign, body, hy, hR⟩ := HY.out _ e T1 _ HPx.out (HJ.out _ _ _ _ HI.out.j (.of_below HBa.out))
          simp only [encE] at hy
          have HRR := Lib.hid hR
          clear hR
          gi_wp2_with fail
          refine HRR.out.mono ?_
          rintro r W3 ⟨T3, hst3, ⟨rfl, hj3⟩ | ⟨rfl, hj3⟩⟩
          · have HI3 : Hid (InLeaf J w6 T' ((flatO pre).filter (ge key) ++ ((leafL x).take (m + 1)).filter (ge key)) T3 W3) := Lib.hid ⟨(HI.out.st.below_ HBa.out).trans hst3, by rw [HF.out, ← List.append_assoc]; exact hj3⟩
            clear hst3 hj3 hy q1 q2 HRR
            gi_wp2_with fail
            exact ⟨⟨m + 1, T3, by omega, by go_num, HI3⟩, by simp [intOf]; omega⟩
          · have HS3 := Lib.hid (((Stp.of_below HB6.out HTl.out).trans (HI.out.st.below_ HBa.out)).trans hst3)
            have HJ3 := Lib.hid hj3
            clear hst3 hj3 hy q1 q2 HRR
            gi_wp2_with fail
            exact ⟨T3, HS3.out, rfl, _, by simp, HPx.out, HJ3.out⟩
      · have he : m = n := by omega
        subst he
        have HS3 := Lib.hid ((Stp.of_below HB6.out HTl.out).trans HI.out.st)
        have HJ3 : Hid (J ((flatO (pre ++ [x])).filter (ge key)) T1 wr) := Lib.hid (by
          have := HI.out.j
          rw [List.take_of_length_le (by rw [Hn.out]; exact Nat.le_refl _)] at this
          rw [flatO_snoc, List.filter_append]
          exact this)
        gi_wp2_with fail
        exact ⟨T1, HS3.out, HJ3.out⟩
  case done =>
    intro D T' W' hj hst hD hTD hh
    have HS3 := Lib.hid (HST2.out.trans hst)
    have HJ3 := Lib.hid hj
    have HD : Hid (∀ E ∈ [D], W.heap.size ≤ E ∧ ¬ T' E) := Lib.hid fun E hE => by rw [List.mem_singleton] at hE; subst hE; exact ⟨by omega, hTD⟩
    have HH : Hid (∀ E ∈ [D], W'.heap[E]? = some (.deferred (some []))) := Lib.hid fun E hE => by rw [List.mem_singleton] at hE; subst hE; exact hh
    clear hj hst hD hTD hh hs1 hsz hb0
    gi_wp2_with fail
    refine leaves_marks [D] W' (by simp) HH.out fun w' hs => ?_
    have hq := shut_qt hs HD.out
    exact ⟨_, results_none rfl _ _ _, ⟨_, rfl⟩, T', HS3.out.qt hq (Nat.le_refl _), .inl (HJ.out _ _ _ _ HJ3.out hq)⟩
  case stop =>
    rintro D c pre T' W' hne hpre ⟨rfl, q, hq1, hq2, hj⟩ hst hD hTD hh
    have HS3 := Lib.hid (HST2.out.trans hst)
    have HJ3 := Lib.hid hj
    have HD : Hid (∀ E ∈ [D], W.heap.size ≤ E ∧ ¬ T' E) := Lib.hid fun E hE => by rw [List.mem_singleton] at hE; subst hE; exact ⟨by omega, hTD⟩
    have HH : Hid (∀ E ∈ [D], W'.heap[E]? = some (.deferred (some []))) := Lib.hid fun E hE => by rw [List.mem_singleton] at hE; subst hE; exact hh
    have HQ := Lib.hid (And.intro hq1 hq2)
    clear hj hst hD hTD hh hs1 hsz hb0 hne hpre hq1 hq2
    gi_wp2_with fail
    refine leaves_marks [D] W' (by simp) HH.out fun w' hs => ?_
    have hq := shut_qt hs HD.out
    exact ⟨_, results_none rfl _ _ _, ⟨_, rfl⟩, T', HS3.out.qt hq (Nat.le_refl _), .inr ⟨q, HQ.out.1, HQ.out.2, HJx.out _ _ _ _ HJ3.out hq⟩⟩

end Go.Proofs.Ytkooaechcbopnaa
