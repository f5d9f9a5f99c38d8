/-
  The contract of meta.take: the epoch and the root that a reader takes; conditions: the Reader lies in memory as Rdr says, and stands at the beginning.
-/
import Derived.Test.YtcgmaiadipiegaaDoorMetaEncode
namespace Go.Proofs.YtcgmaiadipiegaaDoor
open Go.RowKit Go.Sort
set_option linter.unusedVariables false

theorem gb_refl (w : World) (r : Option Nat) : w.grownBy w r := World.grownBy.refl w r
theorem gb_trans {a b c : World} {g : Nat} (h : a.grownBy b (some g)) (k : b.grownBy c (some g)) : a.grownBy c (some g) :=
  ⟨k.os.trans h.os, k.tape.trans h.tape, k.output.trans h.output, Nat.le_trans h.size k.size, fun i hi hne => (k.block i (Nat.lt_of_lt_of_le hi h.size) hne).trans (h.block i hi hne)⟩
theorem gb_alloc {a w : World} {r : Option Nat} (h : a.grownBy w r) (x : Obj) : a.grownBy (w.alloc x) r :=
  ⟨h.os, h.tape, h.output, Nat.le_trans h.size (by simp), fun i hi hne => (Below.heap_alloc w x i (Nat.lt_of_lt_of_le hi h.size)).trans (h.block i hi hne)⟩
theorem gb_set {a w : World} {r : Option Nat} (h : a.grownBy w r) {p : Addr} (hp : a.heap.size ≤ p.block) (u : Value) : a.grownBy (w.setCell p u) r :=
  ⟨h.os, h.tape, h.output, by simpa [World.setCell] using h.size, fun i hi hne => (Below.heap_setCell w p u i (by omega)).trans (h.block i hi hne)⟩
theorem gb_below {a b c : World} {r : Option Nat} (h : a.grownBy b r) (k : Below b.heap.size b c) : a.grownBy c r :=
  ⟨k.os.trans h.os, k.tape.trans h.tape, k.output.trans h.output, Nat.le_trans h.size k.size, fun i hi hne => (k.block i (Nat.lt_of_lt_of_le hi h.size)).trans (h.block i hi hne)⟩
theorem gb_iter {a w : World} {r : Option Nat} (h : a.grownBy w r) {k : Nat} (hk : a.heap.size ≤ k) (s : ByteArray) (q : Nat) : a.grownBy (w.iterAt k s q) r :=
  ⟨h.os, h.tape, h.output, by rw [Lib.iterAt_size]; exact h.size, fun i hi hne => (Lib.iterAt_other w k i s q (by omega)).trans (h.block i hi hne)⟩
theorem cell_at {w : World} {g : Nat} {cs : Array Value} {t : TypeId} (h : w.heap[g]? = some (.cells cs t (0, 0))) (j : Nat) (u : Value) (hu : cs[j]? = some u) : w.cell? ⟨g, j, none⟩ = some u := (cell_of_block h j).trans hu
theorem free_at {w : World} {g : Nat} {cs : Array Value} {t : TypeId} (h : w.heap[g]? = some (.cells cs t (0, 0))) (j : Nat) : w.frozen? ⟨g, j, none⟩ = false := by simp [World.frozen?, h]
theorem Rdr.later {w w' : World} {g h : Nat} {l : List UInt8} {p e : Int} (r : Rdr w g h l p e) (hb : ∀ i, i < w.heap.size → w'.heap[i]? = w.heap[i]?) : Rdr w' g h l p e :=
  ⟨(hb g r.lt.1).trans r.1, (hb h r.lt.2).trans r.2.1, r.2.2.1, r.2.2.2⟩
theorem Rdr.iterAt {w : World} {g h k : Nat} {l : List UInt8} {p e : Int} {s : ByteArray} (r : Rdr w g h l p e) (hg : g ≠ k) (hh : h ≠ k) (q : Nat) : Rdr (w.iterAt k s q) g h l p e :=
  ⟨(Lib.iterAt_other w k g s q hg).trans r.1, (Lib.iterAt_other w k h s q hh).trans r.2.1, r.2.2.1, r.2.2.2⟩
/-- A box of two cells, stored into. -/
theorem set_two {w : World} {b : Nat} {t : TypeId} {u0 v0 : Value} (h : w.heap[b]? = some (.cells #[u0, v0] t (0, 0))) (u v : Value) :
    ((w.setCell ⟨b, 0, none⟩ u).setCell ⟨b, 1, none⟩ v).heap[b]? = some (.cells #[u, v] t (0, 0)) := blk_set (blk_set h 0 u) 1 v

def MTakePost (w : World) (g : Nat) (l : List UInt8) (e : Ending) (w' : World) : Prop := e = .returned (metaV (takeM l)) ∧ w.grownBy w' (some g)

set_option maxRecDepth 100000 in
set_option maxHeartbeats 1000000 in
theorem mtTake_any (w : World) (g d : Nat) (l : List UInt8) (r : Rdr w g d l 0 0) (hl : l.length ≤ 100000000000) :
    Calls Tryd.prog 32 #[.pointer (some ⟨g, 0, none⟩)] w (MTakePost w g l) := by
  obtain ⟨W, hW⟩ : ∃ W, W = w.alloc (.cells #[.int .i64 0, .int .i64 0] 29) := ⟨_, rfl⟩
  have r0 : Rdr W g d l 0 0 := r.later fun i hi => by rw [hW]; exact Below.heap_alloc w _ i hi
  have hz0 : W.heap[w.heap.size]? = some (.cells #[.int .i64 0, .int .i64 0] 29 (0, 0)) := by rw [hW]; exact heap_alloc_new w _
  have g0 : w.grownBy W (some g) := by rw [hW]; exact gb_alloc (gb_refl w _) _
  have hgw := r.lt.1
  have hdw := r.lt.2
  have hs0 : w.heap.size < W.heap.size := lt_of_block hz0
  have HW := Lib.hid hW
  clear hW r
  go_enter Tryd.func32, Tryd.ntmps32
  go_wp2_with fail
  rw [← HW.out]
  refine (take32_any W g d l 0 0 r0 (by omega)).mono ?_
  rintro x w1 ⟨rfl, r1, g1⟩
  obtain ⟨q0, hq0⟩ : ∃ q0, q0 = (nextP l 0 0 4, nextE l 0 0 4) := ⟨_, rfl⟩
  obtain ⟨x, hx⟩ : ∃ x : Nat, x = num (nextB l 0 0 4) := ⟨_, rfl⟩
  rw [← hx]
  have hr1 : Rdr w1 g d l q0.1 q0.2 := by rw [hq0]; exact r1
  have hz1 := (g1.block _ hs0 (fun e => by have := Option.some.inj e; omega)).trans hz0
  have g01 := gb_trans g0 g1
  have hs1 : w.heap.size < w1.heap.size := lt_of_block hz1
  have HR1 := Lib.hid hr1
  have HX := Lib.hid hx
  have HQ0 := Lib.hid hq0
  have HZ1 := Lib.hid hz1
  clear r0 hz0 g0 g1 r1 hr1 hx hq0 hz1 HW hs0
  go_wp2
  go_loopw [10] (fun _ wr => ∃ k, k ≤ 7 ∧ wr.heap[w1.heap.size]? = some (.stringIter wordB k) ∧ Rdr wr g d l (skip l k q0).1 (skip l k q0).2 ∧ w.grownBy wr (some g) ∧ wr.heap[w.heap.size]? = some (.cells #[.int .i64 0, .int .i64 0] 29 (0, 0))) (fun _ wr => 7 - wr.iterPos w1.heap.size)
  case atStart => exact ⟨0, Nat.zero_le _, World.iter_heap w1 _ 0, HR1.out.later fun i hi => Below.heap_alloc w1 _ i hi, gb_alloc g01 _, (Below.heap_alloc w1 _ _ hs1).trans HZ1.out⟩
  case round =>
    obtain ⟨k, hk, hit, hr, hgb, hz⟩ := hrel
    have hpos0 := iterPos_of hit
    by_cases hlt : k < 7
    · obtain ⟨b, hb, hb128, htk⟩ := word_at k hlt
      have hnx : ∀ ty, (Instr.next (.pointer (some ⟨w1.heap.size, 0, none⟩)) true ty).run Tryd.prog wr = .ok (.tuple #[.bool true, .int .i64 k, .int .i32 (b.toNat : Int)]) (wr.iterAt w1.heap.size wordB (k + 1)) := fun ty => by
        have := Lib.run_next_ascii_at (P := Tryd.prog) wr w1.heap.size wordB k ty hit hlt (by rw [hb]; exact hb128)
        rwa [hb] at this
      have hit2 := Lib.iterAt_heap wr w1.heap.size wordB k (k + 1) hit
      have hr2 := hr.iterAt (k := w1.heap.size) (s := wordB) (by omega) (by omega) (k + 1)
      have hgb2 := gb_iter hgb (k := w1.heap.size) (by omega) wordB (k + 1)
      have hz2 := (Lib.iterAt_other wr w1.heap.size w.heap.size wordB (k + 1) (by omega)).trans hz
      have hsk := skip_succ l k q0
      obtain ⟨W2, hW2⟩ : ∃ W2, W2 = wr.iterAt w1.heap.size wordB (k + 1) := ⟨_, rfl⟩
      rw [← hW2] at hnx hit2 hr2 hgb2 hz2
      obtain ⟨p1, hp1⟩ : ∃ p1, p1 = (skip l k q0).1 := ⟨_, rfl⟩
      obtain ⟨e1, he1⟩ : ∃ e1, e1 = (skip l k q0).2 := ⟨_, rfl⟩
      rw [← hp1, ← he1] at hr2 hsk
      have hs2 : w1.heap.size < W2.heap.size := lt_of_block hit2
      have HSK := Lib.hid hsk
      have HIT := Lib.hid hit2
      have HZ2 := Lib.hid hz2
      clear hW2 hit hr hgb hz hb hb128 htk hsk hp1 he1 hit2 hz2
      go_wp2_with fail
      refine (take8_any W2 g d l p1 e1 hr2 (by omega)).mono ?_
      rintro x' w3 ⟨rfl, r3, g3⟩
      have HI3 : Hid (w3.heap[w1.heap.size]? = some (.stringIter wordB (k + 1))) := (g3.block _ hs2 (fun e => by have := Option.some.inj e; omega)).trans HIT.out
      have HZ3 : Hid (w3.heap[w.heap.size]? = some (.cells #[.int .i64 0, .int .i64 0] 29 (0, 0))) := (g3.block _ (by omega) (fun e => by have := Option.some.inj e; omega)).trans HZ2.out
      have HG3 := Lib.hid (gb_trans hgb2 g3)
      have HR3 : Hid (Rdr w3 g d l (skip l (k + 1) q0).1 (skip l (k + 1) q0).2) := by
        show Rdr _ _ _ _ _ _
        rw [HSK.out]
        exact r3
      clear g3 hgb2 r3 HSK HIT HZ2
      go_wp2
      go_roundw
      case rel => exact ⟨k + 1, by omega, HI3.out, HR3.out, HG3.out, HZ3.out⟩
      case measure => rw [iterPos_of HI3.out, hpos0]; omega
    · have hk7 : k = 7 := by omega
      subst hk7
      have hnx : ∀ ty, (Instr.next (.pointer (some ⟨w1.heap.size, 0, none⟩)) true ty).run Tryd.prog wr = .ok (.tuple #[.bool false]) wr := fun ty => Lib.run_next_end_at (P := Tryd.prog) wr w1.heap.size wordB 7 ty hit (by decide)
      have hy0 : (takeM l) = ⟨x, num (nextB l (skip l 7 q0).1 (skip l 7 q0).2 2)⟩ := by
        rw [HX.out, HQ0.out]
        rfl
      obtain ⟨p1, hp1⟩ : ∃ p1, p1 = (skip l 7 q0).1 := ⟨_, rfl⟩
      obtain ⟨e1, he1⟩ : ∃ e1, e1 = (skip l 7 q0).2 := ⟨_, rfl⟩
      rw [← hp1, ← he1] at hr hy0
      have HY := Lib.hid hy0
      have HZ := Lib.hid hz
      have hsr : w.heap.size < wr.heap.size := lt_of_block hz
      clear hit hp1 he1 hy0 hpos0 hz
      go_wp2_with fail
      refine (take16_any wr g d l p1 e1 hr (by omega)).mono ?_
      rintro x' w3 ⟨rfl, r3, g3⟩
      obtain ⟨y, hy⟩ : ∃ y : Nat, y = num (nextB l p1 e1 2) := ⟨_, rfl⟩
      rw [← hy]
      have hz3 : w3.heap[w.heap.size]? = some (.cells #[.int .i64 0, .int .i64 0] 29 (0, 0)) := (g3.block _ hsr (fun e => by have := Option.some.inj e; omega)).trans HZ.out
      have HT : Hid (takeM l = ⟨x, y⟩) := by rw [hy]; exact HY.out
      have HG3 := Lib.hid (gb_trans hgb g3)
      have hd0 := cell_at hz3 0 (.int .i64 0) rfl
      have hd1 := cell_at hz3 1 (.int .i64 0) rfl
      have hf0 := free_at hz3 0
      have hf1 := free_at hz3 1
      have HB := Lib.hid (set_two hz3 (.int .i64 x) (.int .i64 y))
      have HG : Hid (w.grownBy ((w3.setCell ⟨w.heap.size, 0, none⟩ (.int .i64 x)).setCell ⟨w.heap.size, 1, none⟩ (.int .i64 y)) (some g)) := gb_set (gb_set HG3.out (Nat.le_refl _) _) (Nat.le_refl _) _
      clear g3 hgb r3 HY HZ hz3 hy hr
      go_wp2
      refine bodyPost_ret (v := .agg #[.int .i64 x, .int .i64 y]) ?_ rfl ⟨?_, HG.out⟩
      · have k0 := cell_at HB.out 0 (.int .i64 x) rfl
        have k1 := cell_at HB.out 1 (.int .i64 y) rfl
        simp [results, Tryd.results32, go_sem, k0, k1]
      · rw [HT.out]
        rfl

end Go.Proofs.YtcgmaiadipiegaaDoor
