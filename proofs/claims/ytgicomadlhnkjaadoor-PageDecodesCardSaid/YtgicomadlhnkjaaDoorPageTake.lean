/-
  The contract of page.takeCell: what a reader takes as a cell; what it is where a cell's bytes lie ahead of the reader; conditions: the Reader lies in memory as Rdr says.
-/
import Derived.Test.YtgicomadlhnkjaaDoorPageMade
import Derived.Test.YtgicomadlhnkjaaDoorFixText
namespace Go.Proofs.YtgicomadlhnkjaaDoor
open Go.RowKit Go.Sort
set_option linter.unusedVariables false

theorem gb_refl (w : World) (r : Option Nat) : w.grownBy w r := World.grownBy.refl w r
theorem gb_trans {a b c : World} {g : Nat} (h : a.grownBy b (some g)) (k : b.grownBy c (some g)) : a.grownBy c (some g) :=
  ⟨k.os.trans h.os, k.tape.trans h.tape, k.output.trans h.output, Nat.le_trans h.size k.size, fun i hi hne => (k.block i (Nat.lt_of_lt_of_le hi h.size) hne).trans (h.block i hi hne)⟩
theorem gb_alloc {a w : World} {r : Option Nat} (h : a.grownBy w r) (x : Obj) : a.grownBy (w.alloc x) r :=
  ⟨h.os, h.tape, h.output, Nat.le_trans h.size (by simp), fun i hi hne => (Below.heap_alloc w x i (Nat.lt_of_lt_of_le hi h.size)).trans (h.block i hi hne)⟩
theorem gb_set {a w : World} {r : Option Nat} (h : a.grownBy w r) {p : Addr} (hp : a.heap.size ≤ p.block) (u : Value) : a.grownBy (w.setCell p u) r :=
  ⟨h.os, h.tape, h.output, by simpa [World.setCell] using h.size, fun i hi hne => (Below.heap_setCell w p u i (by omega)).trans (h.block i hi hne)⟩
theorem gb_below {a b c : World} {r : Option Nat} (h : a.grownBy b r) (k : Below b.heap.size b c) : a.grownBy c r :=
  ⟨k.os.trans h.os, k.tape.trans h.tape, k.output.trans h.output, Nat.le_trans h.size k.size, fun i hi hne => (k.block i (Nat.lt_of_lt_of_le hi h.size)).trans (h.block i hi hne)⟩

/-- What a reader can have taken. -/
structure SmC (c : PC) : Prop where
  k : c.k.size ≤ 65535
  v : c.v.size ≤ 65535
  sz : 0 ≤ c.sz ∧ c.sz < 65536
  st : 0 ≤ c.st ∧ c.st < 65536
structure SmK (c : PK) : Prop where
  k : c.k.size ≤ 65535
  pg : 0 ≤ c.pg ∧ c.pg < 65536
theorem SmC.bd {c : PC} (h : SmC c) : BdC c := ⟨by have := h.k; omega, by have := h.v; omega, ⟨by have := h.sz.1; omega, by have := h.sz.2; omega⟩, ⟨by have := h.st.1; omega, by have := h.st.2; omega⟩⟩
theorem SmK.bd {c : PK} (h : SmK c) : BdK c := ⟨by have := h.k; omega, ⟨by have := h.pg.1; omega, by have := h.pg.2; omega⟩⟩

theorem nextB_small (l : List UInt8) (p e size : Int) : (nextB l p e size).length ≤ l.length := by
  unfold nextB
  split
  · rw [List.length_take, List.length_drop]
    omega
  · simp
theorem txtS_small (l : List UInt8) (p e most : Int) : (txtS l p e most).length ≤ l.length := by
  unfold txtS
  split
  · simp
  · split
    · simp
    · exact nextB_small _ _ _ _
theorem num16 (l : List UInt8) (p e : Int) : num (nextB l p e 2) < 65536 := by
  have := num_lt2 _ (nextB_len2 l p e)
  omega
theorem num8 (l : List UInt8) (p e : Int) : num (nextB l p e 1) < 256 := by
  have h : (nextB l p e 1).length ≤ 1 := by
    unfold nextB
    split
    · rw [List.length_take]
      exact Nat.min_le_left _ _
    · simp
  have := num_lt (nextB l p e 1)
  rcases Nat.le_one_iff_eq_zero_or_eq_one.1 h with h | h <;> rw [h] at this <;> simp at this <;> omega
theorem Rdr.later {w w' : World} {g h : Nat} {l : List UInt8} {p e : Int} (r : Rdr w g h l p e) (hb : ∀ i, i < w.heap.size → w'.heap[i]? = w.heap[i]?) : Rdr w' g h l p e :=
  ⟨(hb g r.lt.1).trans r.1, (hb h r.lt.2).trans r.2.1, r.2.2.1, r.2.2.2⟩

/-- What follows the key in a cell's bytes. -/
def tailL (c : PC) : List UInt8 := if c.sz = 0 then 0 :: textL c.v else 1 :: (be16 c.sz ++ be16 c.st)
theorem text_str {l rest : List UInt8} {p e most : Int} {s : ByteArray} (hm : s.size ≤ most) (hs : s.size < 65536) (h : Ahead l p e (textL s ++ rest)) : (⟨(txtS l p e most).toArray⟩ : ByteArray) = s ∧ Ahead l (txtP l p e most) (txtE l p e most) rest := by
  obtain ⟨h1, h2⟩ := text_of hm hs h
  refine ⟨?_, h2⟩
  rw [h1]

/-- What takeCell answers. -/
def CellPost (w : World) (g d : Nat) (l : List UInt8) (p e : Int) (x : Ending) (w' : World) : Prop :=
  ∃ (c : PC) (p' e' : Int), x = .returned (cellV c) ∧ Rdr w' g d l p' e' ∧ w.grownBy w' (some g) ∧ SmC c ∧
    (∀ c0 rest, okKey c0.k → okBody c0 → Ahead l p e (cellL c0 ++ rest) → c = c0 ∧ Ahead l p' e' rest)

set_option maxHeartbeats 1000000 in
set_option maxRecDepth 100000 in
theorem takeCell_any (w : World) (g d : Nat) (l : List UInt8) (p e : Int) (r : Rdr w g d l p e) (hl : l.length ≤ 60000) :
    Calls Tryd.prog 49 #[.pointer (some ⟨g, 0, none⟩)] w (CellPost w g d l p e) := by
  have hb0 : ∀ i, i < w.heap.size → (w.alloc (.cells #[.string ByteArray.empty, .string ByteArray.empty, .int .i64 0, .int .i64 0] 57)).heap[i]? = w.heap[i]? := fun i hi => Below.heap_alloc w _ i hi
  have r0 := r.later hb0
  have hz0 := heap_alloc_new w (.cells #[.string ByteArray.empty, .string ByteArray.empty, .int .i64 0, .int .i64 0] 57)
  have g0 : w.grownBy (w.alloc (.cells #[.string ByteArray.empty, .string ByteArray.empty, .int .i64 0, .int .i64 0] 57)) (some g) := gb_alloc (gb_refl w _) _
  have hgw := r.lt.1
  have hdw := r.lt.2
  go_enter Tryd.func49, Tryd.ntmps49
  go_wp2_with fail
  refine (text_any _ g d l p e 24 r0 (by omega)).mono ?_
  rintro x w1 ⟨rfl, r1, g1⟩
  obtain ⟨k, hk⟩ : ∃ k : ByteArray, k = ⟨(txtS l p e 24).toArray⟩ := ⟨_, rfl⟩
  rw [← hk]
  have hks : k.size ≤ 60000 := by
    rw [hk]
    have := txtS_small l p e 24
    show (txtS l p e 24).toArray.size ≤ _
    simp
    omega
  have HT1 : Hid (∀ c0 rest, okKey c0.k → Ahead l p e (cellL c0 ++ rest) → k = c0.k ∧ Ahead l (txtP l p e 24) (txtE l p e 24) (tailL c0 ++ rest)) := fun c0 rest ho ha => by
    unfold cellL at ha
    rw [List.append_assoc] at ha
    obtain ⟨h1, h2⟩ := text_str (most := 24) (s := c0.k) (by have := ho.2; omega) (by have := ho.2; omega) ha
    exact ⟨hk.trans h1, h2⟩
  have hz1 : w1.heap[w.heap.size]? = some (.cells #[.string ByteArray.empty, .string ByteArray.empty, .int .i64 0, .int .i64 0] 57 (0, 0)) := (g1.block _ (by simp) (fun e => by have := Option.some.inj e; omega)).trans hz0
  have g01 := gb_trans g0 g1
  have hs1 : w.heap.size < w1.heap.size := by have := g1.size; simp at this; omega
  generalize txtP l p e 24 = p1 at *
  generalize txtE l p e 24 = e1 at *
  clear hk r0 hz0 g0 g1 hb0 r
  obtain ⟨W2, hW2⟩ : ∃ W2, W2 = w1.alloc (.cells #[.string k, .string ⟨#[]⟩, .int .i64 0, .int .i64 0] 57) := ⟨_, rfl⟩
  have hb2 : Below w1.heap.size w1 W2 := by rw [hW2]; exact (Below.refl _ _).alloc (Nat.le_refl _) _
  have r2 : Rdr W2 g d l p1 e1 := r1.later fun i hi => hb2.block i hi
  have h20 : W2.heap[w.heap.size]? = some (.cells #[.string ByteArray.empty, .string ByteArray.empty, .int .i64 0, .int .i64 0] 57 (0, 0)) := (hb2.block _ hs1).trans hz1
  have h21 : W2.heap[w1.heap.size]? = some (.cells #[.string k, .string ⟨#[]⟩, .int .i64 0, .int .i64 0] 57 (0, 0)) := by rw [hW2]; exact heap_alloc_new w1 _
  have g2 := gb_below g01 hb2
  have hs2 : w1.heap.size < W2.heap.size := by rw [hW2]; simp
  have HW2 := Lib.hid hW2
  clear hW2 r1 hz1 g01 hb2
  go_wp2_with fail
  rw [← HW2.out]
  refine (take8_any W2 g d l p1 e1 r2 (by omega)).mono ?_
  rintro x w3 ⟨rfl, r3, g3⟩
  obtain ⟨t, ht⟩ : ∃ t : Nat, t = num (nextB l p1 e1 1) := ⟨_, rfl⟩
  rw [← ht]
  have htl : t < 256 := by rw [ht]; exact num8 _ _ _
  have HT3 : Hid (∀ c0 rest, Ahead l p1 e1 (tailL c0 ++ rest) → (c0.sz = 0 ∧ t = 0 ∧ Ahead l (nextP l p1 e1 1) (nextE l p1 e1 1) (textL c0.v ++ rest)) ∨ (c0.sz ≠ 0 ∧ t = 1 ∧ Ahead l (nextP l p1 e1 1) (nextE l p1 e1 1) (be16 c0.sz ++ (be16 c0.st ++ rest)))) := fun c0 rest ha => by
    unfold tailL at ha
    by_cases hc : c0.sz = 0
    · rw [if_pos hc, List.cons_append] at ha
      obtain ⟨h1, h2⟩ := take1_of ha
      refine .inl ⟨hc, ?_, h2⟩
      rw [← ht] at h1
      simpa using h1
    · rw [if_neg hc, List.cons_append, List.append_assoc] at ha
      obtain ⟨h1, h2⟩ := take1_of ha
      refine .inr ⟨hc, ?_, h2⟩
      rw [← ht] at h1
      have : ((1 : UInt8).toNat : Int) = 1 := rfl
      omega
  have h30 := (g3.block _ (by omega) (fun e => by have := Option.some.inj e; omega)).trans h20
  have h31 := (g3.block _ hs2 (fun e => by have := Option.some.inj e; omega)).trans h21
  have g03 := gb_trans g2 g3
  have hs3 : w1.heap.size < w3.heap.size := by have := g3.size; omega
  generalize nextP l p1 e1 1 = p3 at *
  generalize nextE l p1 e1 1 = e3 at *
  clear ht h20 h21 g2 g3 r2
  by_cases t0 : t = 0
  · subst t0
    go_wp2_with fail
    refine (text_any w3 g d l p3 e3 24 r3 (by omega)).mono ?_
    rintro x w4 ⟨rfl, r4, g4⟩
    obtain ⟨v, hv⟩ : ∃ v : ByteArray, v = ⟨(txtS l p3 e3 24).toArray⟩ := ⟨_, rfl⟩
    rw [← hv]
    have hvs : v.size ≤ 60000 := by
      rw [hv]
      have := txtS_small l p3 e3 24
      show (txtS l p3 e3 24).toArray.size ≤ _
      simp
      omega
    have HT4 : Hid (∀ (s : ByteArray) rest, s.size ≤ 24 → Ahead l p3 e3 (textL s ++ rest) → v = s ∧ Ahead l (txtP l p3 e3 24) (txtE l p3 e3 24) rest) := fun s rest hs ha => by
      obtain ⟨h1, h2⟩ := text_str (most := 24) (s := s) (by omega) (by omega) ha
      exact ⟨hv.trans h1, h2⟩
    have h40 := (g4.block _ (by omega) (fun e => by have := Option.some.inj e; omega)).trans h30
    have h41 := (g4.block _ hs3 (fun e => by have := Option.some.inj e; omega)).trans h31
    have g04 := gb_trans g03 g4
    generalize txtP l p3 e3 24 = p4 at *
    generalize txtE l p3 e3 24 = e4 at *
    have hc0 := cell_at h41 0 (.string k) rfl
    have hc1 := cell_at h41 1 (.string ⟨#[]⟩) rfl
    have hc2 := cell_at h41 2 (.int .i64 0) rfl
    have hc3 := cell_at h41 3 (.int .i64 0) rfl
    have hcf1 := free_at h41 1
    have hcf2 := free_at h41 2
    have hcf3 := free_at h41 3
    have hd0 := cell_at h40 0 (.string ByteArray.empty) rfl
    have hd1 := cell_at h40 1 (.string ByteArray.empty) rfl
    have hd2 := cell_at h40 2 (.int .i64 0) rfl
    have hd3 := cell_at h40 3 (.int .i64 0) rfl
    have hf0 := free_at h40 0
    have hf1 := free_at h40 1
    have hf2 := free_at h40 2
    have hf3 := free_at h40 3
    have hne1 : w.heap.size ≠ w1.heap.size := by omega
    have hne2 : w1.heap.size ≠ w.heap.size := by omega
    obtain ⟨w5, hw5⟩ : ∃ w5, w5 = w4.setCell ⟨w1.heap.size, 1, none⟩ (.string v) := ⟨_, rfl⟩
    have HB0 : Hid (w5.heap[w.heap.size]? = some (.cells #[.string ByteArray.empty, .string ByteArray.empty, .int .i64 0, .int .i64 0] 57 (0, 0))) := by rw [hw5]; exact (Below.heap_setCell _ _ _ _ (by simp only; omega)).trans h40
    have HRD : Hid (Rdr w5 g d l p4 e4) := by rw [hw5]; exact ⟨(Below.heap_setCell _ _ _ _ (by simp only; omega)).trans r4.1, (Below.heap_setCell _ _ _ _ (by simp only; omega)).trans r4.2.1, r4.2.2.1, r4.2.2.2⟩
    have HGB : Hid (w.grownBy w5 (some g)) := by rw [hw5]; exact gb_set g04 (by simp only; omega) _
    have HW5 := Lib.hid hw5
    clear hv h40 h41 g04 g4 h30 h31 g03 r3 r4 hw5
    go_wp2
    rw [← HW5.out]
    obtain ⟨w9, hw9⟩ : ∃ w9, w9 = ((((w5.setCell ⟨w.heap.size, 0, none⟩ (.string k)).setCell ⟨w.heap.size, 1, none⟩ (.string v)).setCell ⟨w.heap.size, 2, none⟩ (.int .i64 0)).setCell ⟨w.heap.size, 3, none⟩ (.int .i64 0)) := ⟨_, rfl⟩
    rw [← hw9]
    have hblk : w9.heap[w.heap.size]? = some (.cells #[.string k, .string v, .int .i64 0, .int .i64 0] 57 (0, 0)) := by
      rw [hw9]
      exact blk_set (blk_set (blk_set (blk_set HB0.out 0 _) 1 _) 2 _) 3 _
    have hoth : ∀ i, i ≠ w.heap.size → w9.heap[i]? = w5.heap[i]? := fun i hi => by
      rw [hw9, Below.heap_setCell _ _ _ _ hi, Below.heap_setCell _ _ _ _ hi, Below.heap_setCell _ _ _ _ hi, Below.heap_setCell _ _ _ _ hi]
    have hgb9 : w.grownBy w9 (some g) := by
      rw [hw9]
      exact gb_set (gb_set (gb_set (gb_set HGB.out (Nat.le_refl _) _) (Nat.le_refl _) _) (Nat.le_refl _) _) (Nat.le_refl _) _
    have hrd9 : Rdr w9 g d l _ _ := ⟨(hoth g (by omega)).trans HRD.out.1, (hoth d (by omega)).trans HRD.out.2.1, HRD.out.2.2.1, HRD.out.2.2.2⟩
    refine bodyPost_ret (v := .agg #[.string k, .string v, .int .i64 0, .int .i64 0]) ?_ rfl ⟨⟨k, v, 0, 0⟩, _, _, rfl, hrd9, hgb9, ⟨by simp only; omega, by simp only; omega, by simp only; omega, by simp only; omega⟩, fun c0 rest ho hb ha => by
      obtain ⟨h1, h2⟩ := HT1.out c0 rest ho ha
      rcases HT3.out c0 rest h2 with ⟨h3, _, h4⟩ | ⟨_, h3, _⟩
      · rcases hb with ⟨b1, b2, b3⟩ | ⟨b1, b2, b3, b4⟩
        · obtain ⟨h5, h6⟩ := HT4.out c0.v rest b3 h4
          refine ⟨?_, h6⟩
          cases c0
          simp only at h1 h5 b1 b2
          rw [h1, h5, b1, b2]
        · omega
      · omega⟩
    have k0 := cell_at hblk 0 (.string k) rfl
    have k1 := cell_at hblk 1 (.string v) rfl
    have k2 := cell_at hblk 2 (.int .i64 0) rfl
    have k3 := cell_at hblk 3 (.int .i64 0) rfl
    simp [results, Tryd.results49, go_sem, k0, k1, k2, k3]
  by_cases t1 : t = 1
  · subst t1
    go_wp2_with fail
    refine (take16_any w3 g d l p3 e3 r3 (by omega)).mono ?_
    rintro x w4 ⟨rfl, r4, g4⟩
    obtain ⟨z, hz⟩ : ∃ z : Nat, z = num (nextB l p3 e3 2) := ⟨_, rfl⟩
    rw [← hz]
    have hzl : z < 65536 := by rw [hz]; exact num16 _ _ _
    have HT4 : Hid (∀ x rest, 0 ≤ x → x < 65536 → Ahead l p3 e3 (be16 x ++ rest) → (z : Int) = x ∧ Ahead l (nextP l p3 e3 2) (nextE l p3 e3 2) rest) := fun x rest h0 h1 ha => by
      rw [hz]
      exact take2_of h0 h1 ha
    have h40 := (g4.block _ (by omega) (fun e => by have := Option.some.inj e; omega)).trans h30
    have h41 := (g4.block _ hs3 (fun e => by have := Option.some.inj e; omega)).trans h31
    have g04 := gb_trans g03 g4
    have hs4 : w1.heap.size < w4.heap.size := by have := g4.size; omega
    generalize nextP l p3 e3 2 = p4 at *
    generalize nextE l p3 e3 2 = e4 at *
    clear hz h30 h31 g03 g4 r3
    go_wp2_with fail
    refine (take16_any w4 g d l p4 e4 r4 (by omega)).mono ?_
    rintro x w6 ⟨rfl, r6, g6⟩
    obtain ⟨y, hy⟩ : ∃ y : Nat, y = num (nextB l p4 e4 2) := ⟨_, rfl⟩
    rw [← hy]
    have hyl : y < 65536 := by rw [hy]; exact num16 _ _ _
    have HT6 : Hid (∀ x rest, 0 ≤ x → x < 65536 → Ahead l p4 e4 (be16 x ++ rest) → (y : Int) = x ∧ Ahead l (nextP l p4 e4 2) (nextE l p4 e4 2) rest) := fun x rest h0 h1 ha => by
      rw [hy]
      exact take2_of h0 h1 ha
    have h60 := (g6.block _ (by omega) (fun e => by have := Option.some.inj e; omega)).trans h40
    have h61 := (g6.block _ hs4 (fun e => by have := Option.some.inj e; omega)).trans h41
    have g06 := gb_trans g04 g6
    generalize nextP l p4 e4 2 = p6 at *
    generalize nextE l p4 e4 2 = e6 at *
    clear hy h40 h41 g04 g6 r4
    have hc0 := cell_at h61 0 (.string k) rfl
    have hc1 := cell_at h61 1 (.string ⟨#[]⟩) rfl
    have hc2 := cell_at h61 2 (.int .i64 0) rfl
    have hc3 := cell_at h61 3 (.int .i64 0) rfl
    have hcf1 := free_at h61 1
    have hcf2 := free_at h61 2
    have hcf3 := free_at h61 3
    have hd0 := cell_at h60 0 (.string ByteArray.empty) rfl
    have hd1 := cell_at h60 1 (.string ByteArray.empty) rfl
    have hd2 := cell_at h60 2 (.int .i64 0) rfl
    have hd3 := cell_at h60 3 (.int .i64 0) rfl
    have hf0 := free_at h60 0
    have hf1 := free_at h60 1
    have hf2 := free_at h60 2
    have hf3 := free_at h60 3
    have hne1 : w.heap.size ≠ w1.heap.size := by omega
    have hne2 : w1.heap.size ≠ w.heap.size := by omega
    obtain ⟨w5, hw5⟩ : ∃ w5, w5 = (w6.setCell ⟨w1.heap.size, 2, none⟩ (.int .i64 z)).setCell ⟨w1.heap.size, 3, none⟩ (.int .i64 y) := ⟨_, rfl⟩
    have HB0 : Hid (w5.heap[w.heap.size]? = some (.cells #[.string ByteArray.empty, .string ByteArray.empty, .int .i64 0, .int .i64 0] 57 (0, 0))) := by rw [hw5]; exact (Below.heap_setCell _ _ _ _ (by simp only; omega)).trans ((Below.heap_setCell _ _ _ _ (by simp only; omega)).trans h60)
    have HRD : Hid (Rdr w5 g d l p6 e6) := by rw [hw5]; exact ⟨(Below.heap_setCell _ _ _ _ (by simp only; omega)).trans ((Below.heap_setCell _ _ _ _ (by simp only; omega)).trans r6.1), (Below.heap_setCell _ _ _ _ (by simp only; omega)).trans ((Below.heap_setCell _ _ _ _ (by simp only; omega)).trans r6.2.1), r6.2.2.1, r6.2.2.2⟩
    have HGB : Hid (w.grownBy w5 (some g)) := by rw [hw5]; exact gb_set (gb_set g06 (by simp only; omega) _) (by simp only; omega) _
    have HW5 := Lib.hid hw5
    clear h60 h61 g06 r6 hw5
    go_wp2
    rw [← HW5.out]
    obtain ⟨w9, hw9⟩ : ∃ w9, w9 = ((((w5.setCell ⟨w.heap.size, 0, none⟩ (.string k)).setCell ⟨w.heap.size, 1, none⟩ (.string ⟨#[]⟩)).setCell ⟨w.heap.size, 2, none⟩ (.int .i64 z)).setCell ⟨w.heap.size, 3, none⟩ (.int .i64 y)) := ⟨_, rfl⟩
    rw [← hw9]
    have hblk : w9.heap[w.heap.size]? = some (.cells #[.string k, .string ⟨#[]⟩, .int .i64 z, .int .i64 y] 57 (0, 0)) := by
      rw [hw9]
      exact blk_set (blk_set (blk_set (blk_set HB0.out 0 _) 1 _) 2 _) 3 _
    have hoth : ∀ i, i ≠ w.heap.size → w9.heap[i]? = w5.heap[i]? := fun i hi => by
      rw [hw9, Below.heap_setCell _ _ _ _ hi, Below.heap_setCell _ _ _ _ hi, Below.heap_setCell _ _ _ _ hi, Below.heap_setCell _ _ _ _ hi]
    have hgb9 : w.grownBy w9 (some g) := by
      rw [hw9]
      exact gb_set (gb_set (gb_set (gb_set HGB.out (Nat.le_refl _) _) (Nat.le_refl _) _) (Nat.le_refl _) _) (Nat.le_refl _) _
    have hrd9 : Rdr w9 g d l _ _ := ⟨(hoth g (by omega)).trans HRD.out.1, (hoth d (by omega)).trans HRD.out.2.1, HRD.out.2.2.1, HRD.out.2.2.2⟩
    refine bodyPost_ret (v := .agg #[.string k, .string ⟨#[]⟩, .int .i64 z, .int .i64 y]) ?_ rfl ⟨⟨k, ⟨#[]⟩, z, y⟩, _, _, rfl, hrd9, hgb9, ⟨by simp only; omega, Nat.zero_le _, by simp only; omega, by simp only; omega⟩, fun c0 rest ho hb ha => by
      obtain ⟨h1, h2⟩ := HT1.out c0 rest ho ha
      rcases HT3.out c0 rest h2 with ⟨_, h3, _⟩ | ⟨h3, _, h4⟩
      · omega
      · rcases hb with ⟨b1, b2, b3⟩ | ⟨b1, b2, b3, b4⟩
        · omega
        · obtain ⟨h5, h6⟩ := HT4.out c0.sz _ (by omega) (by omega) h4
          obtain ⟨h7, h8⟩ := HT6.out c0.st _ (okNum_lt b4).1 (okNum_lt b4).2 h6
          refine ⟨?_, h8⟩
          have hv0 := ba_zero b1
          cases c0
          simp only at h1 h5 h7 hv0
          rw [h1, h5, h7, hv0]
          rfl⟩
    have k0 := cell_at hblk 0 (.string k) rfl
    have k1 := cell_at hblk 1 (.string ⟨#[]⟩) rfl
    have k2 := cell_at hblk 2 (.int .i64 z) rfl
    have k3 := cell_at hblk 3 (.int .i64 y) rfl
    simp [results, Tryd.results49, go_sem, k0, k1, k2, k3]
  have hc0 := cell_at h31 0 (.string k) rfl
  have hc1 := cell_at h31 1 (.string ⟨#[]⟩) rfl
  have hc2 := cell_at h31 2 (.int .i64 0) rfl
  have hc3 := cell_at h31 3 (.int .i64 0) rfl
  have hcf1 := free_at h31 1
  have hcf2 := free_at h31 2
  have hcf3 := free_at h31 3
  have hd0 := cell_at h30 0 (.string ByteArray.empty) rfl
  have hd1 := cell_at h30 1 (.string ByteArray.empty) rfl
  have hd2 := cell_at h30 2 (.int .i64 0) rfl
  have hd3 := cell_at h30 3 (.int .i64 0) rfl
  have hf0 := free_at h30 0
  have hf1 := free_at h30 1
  have hf2 := free_at h30 2
  have hf3 := free_at h30 3
  have hne1 : w.heap.size ≠ w1.heap.size := by omega
  have hne2 : w1.heap.size ≠ w.heap.size := by omega
  obtain ⟨w5, hw5⟩ : ∃ w5, w5 = w3 := ⟨_, rfl⟩
  have HB0 : Hid (w5.heap[w.heap.size]? = some (.cells #[.string ByteArray.empty, .string ByteArray.empty, .int .i64 0, .int .i64 0] 57 (0, 0))) := by rw [hw5]; exact h30
  have HRD : Hid (Rdr w5 g d l p3 e3) := by rw [hw5]; exact r3
  have HGB : Hid (w.grownBy w5 (some g)) := by rw [hw5]; exact g03
  have HW5 := Lib.hid hw5
  clear h30 h31 g03 r3 hw5
  go_wp2
  rw [← HW5.out]
  obtain ⟨w9, hw9⟩ : ∃ w9, w9 = ((((w5.setCell ⟨w.heap.size, 0, none⟩ (.string k)).setCell ⟨w.heap.size, 1, none⟩ (.string ⟨#[]⟩)).setCell ⟨w.heap.size, 2, none⟩ (.int .i64 0)).setCell ⟨w.heap.size, 3, none⟩ (.int .i64 0)) := ⟨_, rfl⟩
  rw [← hw9]
  have hblk : w9.heap[w.heap.size]? = some (.cells #[.string k, .string ⟨#[]⟩, .int .i64 0, .int .i64 0] 57 (0, 0)) := by
    rw [hw9]
    exact blk_set (blk_set (blk_set (blk_set HB0.out 0 _) 1 _) 2 _) 3 _
  have hoth : ∀ i, i ≠ w.heap.size → w9.heap[i]? = w5.heap[i]? := fun i hi => by
    rw [hw9, Below.heap_setCell _ _ _ _ hi, Below.heap_setCell _ _ _ _ hi, Below.heap_setCell _ _ _ _ hi, Below.heap_setCell _ _ _ _ hi]
  have hgb9 : w.grownBy w9 (some g) := by
    rw [hw9]
    exact gb_set (gb_set (gb_set (gb_set HGB.out (Nat.le_refl _) _) (Nat.le_refl _) _) (Nat.le_refl _) _) (Nat.le_refl _) _
  have hrd9 : Rdr w9 g d l _ _ := ⟨(hoth g (by omega)).trans HRD.out.1, (hoth d (by omega)).trans HRD.out.2.1, HRD.out.2.2.1, HRD.out.2.2.2⟩
  refine bodyPost_ret (v := .agg #[.string k, .string ⟨#[]⟩, .int .i64 0, .int .i64 0]) ?_ rfl ⟨⟨k, ⟨#[]⟩, 0, 0⟩, _, _, rfl, hrd9, hgb9, ⟨by simp only; omega, Nat.zero_le _, by simp only; omega, by simp only; omega⟩, fun c0 rest ho hb ha => by
    obtain ⟨h1, h2⟩ := HT1.out c0 rest ho ha
    rcases HT3.out c0 rest h2 with ⟨_, h3, _⟩ | ⟨_, h3, _⟩
    · exact absurd h3 t0
    · exact absurd h3 t1⟩
  have k0 := cell_at hblk 0 (.string k) rfl
  have k1 := cell_at hblk 1 (.string ⟨#[]⟩) rfl
  have k2 := cell_at hblk 2 (.int .i64 0) rfl
  have k3 := cell_at hblk 3 (.int .i64 0) rfl
  simp [results, Tryd.results49, go_sem, k0, k1, k2, k3]

end Go.Proofs.YtgicomadlhnkjaaDoor
