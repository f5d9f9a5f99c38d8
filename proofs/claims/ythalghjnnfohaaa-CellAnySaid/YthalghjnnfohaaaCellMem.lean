/-
  A memory of words as it lies in memory: its box, its words; which blocks a call may turn; make of words; conditions stand at each.
-/
import Derived.Test.YthalghjnnfohaaaRooms
import Derived.Test.YthalghjnnfohaaaDrawnC
import Derived.Test.YthalghjnnfohaaaLs
namespace Go.Proofs.Ythalghjnnfohaaa
open Go.RowKit Go.Sort
set_option linter.unusedVariables false

/-- Only blocks of F have turned; there may be new ones. -/
structure Keep (F : Nat → Prop) (w w' : World) : Prop where
  os : w'.os = w.os
  tape : w'.tape = w.tape
  output : w'.output = w.output
  size : w.heap.size ≤ w'.heap.size
  block : ∀ k, k < w.heap.size → ¬ F k → w'.heap[k]? = w.heap[k]?
theorem Keep.of_below {F : Nat → Prop} {w w' : World} (h : Below w.heap.size w w') : Keep F w w' := ⟨h.os, h.tape, h.output, h.size, fun k hk _ => h.block k hk⟩
theorem Keep.refl (F : Nat → Prop) (w : World) : Keep F w w := .of_below (Below.refl _ _)
theorem Keep.trans {F : Nat → Prop} {a b c : World} (h : Keep F a b) (k : Keep F b c) : Keep F a c :=
  ⟨k.os.trans h.os, k.tape.trans h.tape, k.output.trans h.output, Nat.le_trans h.size k.size, fun i hi hn => (k.block i (Nat.lt_of_lt_of_le hi h.size) hn).trans (h.block i hi hn)⟩
theorem Keep.mono {F G : Nat → Prop} {a b : World} (h : Keep F a b) (hs : ∀ i, i < a.heap.size → F i → G i) : Keep G a b := ⟨h.os, h.tape, h.output, h.size, fun i hi hn => h.block i hi fun hf => hn (hs i hi hf)⟩
theorem Keep.below {F : Nat → Prop} {B : Nat} {a b : World} (h : Keep F a b) (hB : B ≤ a.heap.size) (hF : ∀ i, F i → B ≤ i) : Below B a b := ⟨h.os, h.tape, h.output, h.size, fun i hi => h.block i (by omega) fun hf => by have := hF i hf; omega⟩
/-- With a base: all below it stays. -/
theorem Keep.base {B : Nat} {a w w' : World} (h : Below B a w) (hB : B ≤ w.heap.size) (hk : Keep (fun i => B ≤ i) w w') : Below B a w' := h.trans (hk.below hB fun _ h => h)
theorem Keep.set {F : Nat → Prop} {a b : World} (h : Keep F a b) {p : Addr} (hp : F p.block ∨ a.heap.size ≤ p.block) (u : Value) : Keep F a (b.setCell p u) :=
  ⟨h.os, h.tape, h.output, by simpa [World.setCell] using h.size, fun i hi hn => (Below.heap_setCell b p u i (by
    rintro rfl
    rcases hp with hp | hp
    · exact hn hp
    · omega)).trans (h.block i hi hn)⟩
theorem Keep.drewN {F : Nat → Prop} {a b : World} (h : Keep F a b) (n : Nat) : Keep F a (b.drewN n) := ⟨h.os, h.tape, h.output, h.size, h.block⟩
theorem cell_at {w : World} {g : Nat} {cs : Array Value} {t : TypeId} (h : w.heap[g]? = some (.cells cs t (0, 0))) (j : Nat) (u : Value) (hu : cs[j]? = some u) : w.cell? ⟨g, j, none⟩ = some u := (cell_of_block h j).trans hu
theorem free_at {w : World} {g : Nat} {cs : Array Value} {t : TypeId} (h : w.heap[g]? = some (.cells cs t (0, 0))) (j : Nat) : w.frozen? ⟨g, j, none⟩ = false := by simp [World.frozen?, h]

/-- A memory: its box in block b, its words in block g, so many steps and changes. T: the struct's type, E: the words'. -/
structure Mem (T E : TypeId) (w : World) (b g : Nat) (l : List Value) (s c : Nat) : Prop where
  box : w.heap[b]? = some (.cells #[.slice (some ⟨g, 0, none⟩) l.length l.length, .int .i64 (s : Int), .int .i64 (c : Int)] T (0, 0))
  row : w.heap[g]? = some (.cells l.toArray E (0, 0))
  len : l.length ≤ 65536
  bg : b ≠ g
/-- Its blocks. -/
def Of (b g : Nat) (i : Nat) : Prop := i = b ∨ i = g
section
variable {T E : TypeId} {w w' : World} {b g : Nat} {l : List Value} {s c : Nat}
theorem Mem.lt (h : Mem T E w b g l s c) : ∀ i, Of b g i → i < w.heap.size := by
  rintro i (rfl | rfl)
  · exact lt_of_block h.box
  · exact lt_of_block h.row
theorem Mem.keep (h : Mem T E w b g l s c) {F : Nat → Prop} (hk : Keep F w w') (hd : ∀ i, F i → ¬ Of b g i) : Mem T E w' b g l s c :=
  ⟨(hk.block b (h.lt b (.inl rfl)) fun hf => hd b hf (.inl rfl)).trans h.box, (hk.block g (h.lt g (.inr rfl)) fun hf => hd g hf (.inr rfl)).trans h.row, h.len, h.bg⟩
theorem Mem.below (h : Mem T E w b g l s c) (hb : Below w.heap.size w w') : Mem T E w' b g l s c := h.keep (F := fun _ => False) (.of_below hb) fun _ hf => hf.elim
/-- One step more. -/
theorem Mem.step (h : Mem T E w b g l s c) : Mem T E (w.setCell ⟨b, 1, none⟩ (.int .i64 ((s + 1 : Nat) : Int))) b g l (s + 1) c :=
  ⟨(blk_set h.box 1 _).trans (by simp), (Below.heap_setCell w _ _ g (fun e => h.bg e.symm)).trans h.row, h.len, h.bg⟩
/-- One change more. -/
theorem Mem.change (h : Mem T E w b g l s c) : Mem T E (w.setCell ⟨b, 2, none⟩ (.int .i64 ((c + 1 : Nat) : Int))) b g l s (c + 1) :=
  ⟨(blk_set h.box 2 _).trans (by simp), (Below.heap_setCell w _ _ g (fun e => h.bg e.symm)).trans h.row, h.len, h.bg⟩
/-- Another word. -/
theorem Mem.word (h : Mem T E w b g l s c) (k : Nat) (u : Value) : Mem T E (w.setCell ⟨g, k, none⟩ u) b g (l.set k u) s c :=
  ⟨by rw [List.length_set]; exact (Below.heap_setCell w _ _ b h.bg).trans h.box, (blk_set h.row k u).trans (by simp), by rw [List.length_set]; exact h.len, h.bg⟩
theorem Mem.c0 (h : Mem T E w b g l s c) : w.cell? ⟨b, 0, none⟩ = some (.slice (some ⟨g, 0, none⟩) l.length l.length) := cell_at h.box 0 _ rfl
theorem Mem.c1 (h : Mem T E w b g l s c) : w.cell? ⟨b, 1, none⟩ = some (.int .i64 (s : Int)) := cell_at h.box 1 _ rfl
theorem Mem.c2 (h : Mem T E w b g l s c) : w.cell? ⟨b, 2, none⟩ = some (.int .i64 (c : Int)) := cell_at h.box 2 _ rfl
theorem Mem.cw (h : Mem T E w b g l s c) {k : Nat} {u : Value} (hu : l[k]? = some u) : w.cell? ⟨g, k, none⟩ = some u := cell_at h.row k u (by simpa using hu)
end

/-- There is no word i: a nil memory, or one of fewer words. -/
def NoWord (w : World) (p : Value) (i : Int) : Prop := p = .pointer none ∨ ∃ b A n c, p = .pointer (some ⟨b, 0, none⟩) ∧ w.cell? ⟨b, 0, none⟩ = some (.slice A n c) ∧ ¬ (0 ≤ i ∧ i < (n : Int))
theorem Mem.no {T E : TypeId} {w : World} {b g : Nat} {l : List Value} {s c : Nat} (h : Mem T E w b g l s c) {i : Int} (hi : ¬ (0 ≤ i ∧ i < (l.length : Int))) : NoWord w (.pointer (some ⟨b, 0, none⟩)) i := .inr ⟨b, _, _, _, rfl, h.c0, hi⟩

/-- How many words New makes. -/
def wordsN (x : Int) : Nat := (min (max x 0) 65536).toNat
theorem wordsN_le (x : Int) : wordsN x ≤ 65536 := by unfold wordsN; omega

theorem intInfo : (Try.prog.info? 3).map (fun i => (i.zero, i.size, i.bytes)) = some (some (.int .i64 0), 1, 8) := by kernel_rfl
theorem strInfo : (Try.prog.info? 9).map (fun i => (i.zero, i.size, i.bytes)) = some (some (.string ByteArray.empty), 1, 16) := by kernel_rfl
/-- make([]int, n). -/
theorem run_make_ints (n : Nat) (hb : n ≤ 65536) (w : World) :
    (Instr.makeSlice 42 (.int .i64 (n : Int)) (.int .i64 (n : Int))).run Try.prog w = .ok (.slice (some ⟨w.heap.size, 0, none⟩) n n) (w.alloc (.cells (List.replicate n (.int .i64 0)).toArray 3)) := by
  obtain ⟨i0, hi0, hz0, hz1, hz2⟩ := info_parts intInfo
  have hr := run_make (P := Try.prog) w 42 3 i0 _ Try.underlying42 hi0 hz0 .i64 .i64 (n : Int) (n : Int) (by omega) (by omega) (by rw [hz2]; omega) (by omega)
  rw [hz1] at hr
  rw [← made_list]
  simpa [Value.cells] using hr
/-- make([]string, n). -/
theorem run_make_strs (n : Nat) (hb : n ≤ 65536) (w : World) :
    (Instr.makeSlice 60 (.int .i64 (n : Int)) (.int .i64 (n : Int))).run Try.prog w = .ok (.slice (some ⟨w.heap.size, 0, none⟩) n n) (w.alloc (.cells (List.replicate n (.string ByteArray.empty)).toArray 9)) := by
  obtain ⟨i0, hi0, hz0, hz1, hz2⟩ := info_parts strInfo
  have hr := run_make (P := Try.prog) w 60 9 i0 _ Try.underlying60 hi0 hz0 .i64 .i64 (n : Int) (n : Int) (by omega) (by omega) (by rw [hz2]; omega) (by omega)
  rw [hz1] at hr
  rw [← made_list]
  simpa [Value.cells] using hr

/-- A row, then its box. -/
theorem mem_new (T E : TypeId) (w : World) (l : List Value) (hl : l.length ≤ 65536) (n : Nat) (hn : l.length = n) :
    Mem T E ((w.alloc (.cells l.toArray E)).alloc (.cells #[.slice (some ⟨w.heap.size, 0, none⟩) n n, .int .i64 0, .int .i64 0] T)) (w.heap.size + 1) w.heap.size l 0 0 := by
  subst hn
  refine ⟨?_, ?_, hl, by omega⟩
  · have := heap_alloc_new (w.alloc (.cells l.toArray E)) (.cells #[.slice (some ⟨w.heap.size, 0, none⟩) l.length l.length, .int .i64 0, .int .i64 0] T (0, 0))
    rwa [show (w.alloc (.cells l.toArray E)).heap.size = w.heap.size + 1 by simp] at this
  · rw [Below.heap_alloc _ _ _ (by simp)]
    exact heap_alloc_new w _

end Go.Proofs.Ythalghjnnfohaaa
