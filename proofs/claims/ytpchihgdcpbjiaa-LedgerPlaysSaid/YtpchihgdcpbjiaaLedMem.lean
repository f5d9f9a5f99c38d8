/-
  A ledger in memory: its box of one number and three arrays of marks; which blocks a call may turn; conditions stand at each.
-/
import Derived.Test.YtpchihgdcpbjiaaLedPure
import Derived.Test.YtpchihgdcpbjiaaRooms
import Derived.Test.YtpchihgdcpbjiaaDrawnC
import Derived.Test.YtpchihgdcpbjiaaLs
import Derived.Deep.MidRow
import Derived.Deep.WholeRow
namespace Go.Proofs.Ytpchihgdcpbjiaa
open Go.RowKit Go.Sort
set_option linter.unusedVariables false

/-- Only blocks of F have turned; there may be new ones. -/
structure Keep (F : Nat → Prop) (w w' : World) : Prop where
  os : w'.os = w.os
  tape : w'.tape = w.tape
  output : w'.output = w.output
  size : w.heap.size ≤ w'.heap.size
  block : ∀ k, k < w.heap.size → ¬ F k → w'.heap[k]? = w.heap[k]?
theorem Keep.of_below {F : Nat → Prop} {w w' : World} (h : Below w.heap.size w w') : Keep F w w' := ⟨h.os, h.tape, h.output, h.size, fun k hk _ => h.block k hk⟩
theorem Keep.refl (F : Nat → Prop) (w : World) : Keep F w w := .of_below (Below.refl _ _)
theorem Keep.trans {F : Nat → Prop} {a b c : World} (h : Keep F a b) (k : Keep F b c) : Keep F a c :=
  ⟨k.os.trans h.os, k.tape.trans h.tape, k.output.trans h.output, Nat.le_trans h.size k.size, fun i hi hn => (k.block i (Nat.lt_of_lt_of_le hi h.size) hn).trans (h.block i hi hn)⟩
theorem Keep.mono {F G : Nat → Prop} {a b : World} (h : Keep F a b) (hs : ∀ i, i < a.heap.size → F i → G i) : Keep G a b := ⟨h.os, h.tape, h.output, h.size, fun i hi hn => h.block i hi fun hf => hn (hs i hi hf)⟩
theorem Keep.below {F : Nat → Prop} {B : Nat} {a b : World} (h : Keep F a b) (hB : B ≤ a.heap.size) (hF : ∀ i, F i → B ≤ i) : Below B a b := ⟨h.os, h.tape, h.output, h.size, fun i hi => h.block i (by omega) fun hf => by have := hF i hf; omega⟩
/-- With a base: all below it stays. -/
theorem Keep.base {B : Nat} {a w w' : World} (h : Below B a w) (hB : B ≤ w.heap.size) (hk : Keep (fun i => B ≤ i) w w') : Below B a w' := h.trans (hk.below hB fun _ h => h)
theorem Keep.set {F : Nat → Prop} {a b : World} (h : Keep F a b) {p : Addr} (hp : F p.block ∨ a.heap.size ≤ p.block) (u : Value) : Keep F a (b.setCell p u) :=
  ⟨h.os, h.tape, h.output, by simpa [World.setCell] using h.size, fun i hi hn => (Below.heap_setCell b p u i (by
    rintro rfl
    rcases hp with hp | hp
    · exact hn hp
    · omega)).trans (h.block i hi hn)⟩
theorem Keep.drewN {F : Nat → Prop} {a b : World} (h : Keep F a b) (n : Nat) : Keep F a (b.drewN n) := ⟨h.os, h.tape, h.output, h.size, h.block⟩
theorem Keep.cell {F : Nat → Prop} {w w' : World} (h : Keep F w w') {p : Addr} {u : Value} (hp : p.block < w.heap.size) (hn : ¬ F p.block) (hu : w.cell? p = some u) : w'.cell? p = some u := (World.cell?_of_block (w := w) (h.block _ hp hn)).trans hu
theorem cell_at {w : World} {g : Nat} {cs : Array Value} {t : TypeId} (h : w.heap[g]? = some (.cells cs t (0, 0))) (j : Nat) (u : Value) (hu : cs[j]? = some u) : w.cell? ⟨g, j, none⟩ = some u := (cell_of_block h j).trans hu
theorem free_at {w : World} {g : Nat} {cs : Array Value} {t : TypeId} (h : w.heap[g]? = some (.cells cs t (0, 0))) (j : Nat) : w.frozen? ⟨g, j, none⟩ = false := by simp [World.frozen?, h]

/-- Marks as cells. -/
def bl (f : Nat → Bool) : List Value := (List.range 512).map fun i => .bool (f i)
theorem bl_len (f : Nat → Bool) : (bl f).length = 512 := by simp [bl]
theorem bl_at (f : Nat → Bool) {i : Nat} (h : i < 512) : (bl f)[i]? = some (.bool (f i)) := by simp [bl, h]
theorem bl_one (f : Nat → Bool) : ∀ u ∈ bl f, u.oneCell' = true := by
  intro u hu
  simp only [bl, List.mem_map] at hu
  obtain ⟨i, _, rfl⟩ := hu
  rfl
theorem bl_mark (f : Nat → Bool) {k : Nat} (hk : k < 512) : (bl f).set k (.bool true) = bl (mark1 f k) := by
  apply List.ext_getElem?
  intro i
  by_cases hi : i < 512
  · rw [bl_at _ hi]
    by_cases h : k = i
    · subst h
      rw [List.getElem?_set_self (by rw [bl_len]; exact hk)]
      simp [mark1]
    · rw [List.getElem?_set_ne h, bl_at _ hi]
      have h' : ¬ i = k := fun e => h e.symm
      simp [mark1, h']
  · rw [List.getElem?_eq_none (by rw [List.length_set, bl_len]; omega), List.getElem?_eq_none (by rw [bl_len]; omega)]
/-- Marks as an array. -/
def ba (f : Nat → Bool) : Array Value := (bl f).toArray

theorem minfo : (Try.prog.info? 48).map (·.size) = some 512 := by kernel_rfl
theorem minfo_bl (f : Nat → Bool) : (Try.prog.info? 48).map (·.size) = some (bl f).length := by rw [bl_len]; exact minfo
theorem ba_list (f : Nat → Bool) : (ba f).toList = bl f := List.toList_toArray
theorem ba_size (f : Nat → Bool) : (ba f).size = 512 := by unfold ba; rw [List.size_toArray, bl_len]
theorem minfo_arr (f : Nat → Bool) : (Try.prog.info? 48).map (·.size) = some (ba f).size := by rw [ba_size]; exact minfo
theorem mund : ∃ d, Try.prog.underlying 48 = some d ∧ d.isRow = true := ⟨_, Try.underlying48, rfl⟩

/-- The box's cells. -/
structure Box (cs : Array Value) (n : Nat) (o v t : Nat → Bool) : Prop where
  size : cs.size = 1537
  num : cs[0]? = some (.int .i64 (n : Int))
  older : ∀ i, i < 512 → cs[1 + i]? = some (.bool (o i))
  newer : ∀ i, i < 512 → cs[513 + i]? = some (.bool (v i))
  taken : ∀ i, i < 512 → cs[1025 + i]? = some (.bool (t i))
/-- A ledger of n pages: what the older and the newer tree hold, what is taken. -/
structure Led (w : World) (b n : Nat) (o v t : Nat → Bool) : Prop where
  box : ∃ cs, w.heap[b]? = some (.cells cs 50 (0, 0)) ∧ Box cs n o v t
  small : n ≤ 512
section
variable {w w' : World} {b n : Nat} {o v t : Nat → Bool}
theorem Led.lt (h : Led w b n o v t) : b < w.heap.size := by
  obtain ⟨cs, hb, _⟩ := h.box
  exact lt_of_block hb
theorem Led.block (h : Led w b n o v t) (hb : w'.heap[b]? = w.heap[b]?) : Led w' b n o v t := by
  obtain ⟨cs, h1, h2⟩ := h.box
  exact ⟨⟨cs, hb.trans h1, h2⟩, h.small⟩
theorem Led.keep (h : Led w b n o v t) {F : Nat → Prop} (hk : Keep F w w') (hd : ¬ F b) : Led w' b n o v t := h.block (hk.block b h.lt hd)
theorem Led.below (h : Led w b n o v t) (hb : Below w.heap.size w w') : Led w' b n o v t := h.block (hb.block b h.lt)
theorem Led.drewN (h : Led w b n o v t) (m : Nat) : Led (w.drewN m) b n o v t := h.block rfl
theorem Led.c0 (h : Led w b n o v t) : w.cell? ⟨b, 0, none⟩ = some (.int .i64 (n : Int)) := by
  obtain ⟨cs, h1, h2⟩ := h.box
  exact cell_at h1 0 _ h2.num
theorem Led.co (h : Led w b n o v t) {i : Nat} (hi : i < 512) : w.cell? ⟨b, 1 + i, none⟩ = some (.bool (o i)) := by
  obtain ⟨cs, h1, h2⟩ := h.box
  exact cell_at h1 _ _ (h2.older i hi)
theorem Led.cv (h : Led w b n o v t) {i : Nat} (hi : i < 512) : w.cell? ⟨b, 513 + i, none⟩ = some (.bool (v i)) := by
  obtain ⟨cs, h1, h2⟩ := h.box
  exact cell_at h1 _ _ (h2.newer i hi)
theorem Led.ct (h : Led w b n o v t) {i : Nat} (hi : i < 512) : w.cell? ⟨b, 1025 + i, none⟩ = some (.bool (t i)) := by
  obtain ⟨cs, h1, h2⟩ := h.box
  exact cell_at h1 _ _ (h2.taken i hi)
theorem Led.free (h : Led w b n o v t) (i : Nat) : w.frozen? ⟨b, i, none⟩ = false := by
  obtain ⟨cs, h1, h2⟩ := h.box
  exact free_at h1 i
theorem Led.congr {o' v' t' : Nat → Bool} (h : Led w b n o v t) (h1 : ∀ i, i < 512 → o i = o' i) (h2 : ∀ i, i < 512 → v i = v' i) (h3 : ∀ i, i < 512 → t i = t' i) : Led w b n o' v' t' := by
  obtain ⟨cs, h0, hc⟩ := h.box
  exact ⟨⟨cs, h0, hc.size, hc.num, fun i hi => by rw [← h1 i hi]; exact hc.older i hi, fun i hi => by rw [← h2 i hi]; exact hc.newer i hi, fun i hi => by rw [← h3 i hi]; exact hc.taken i hi⟩, h.small⟩
/-- One page more is taken. -/
theorem Led.take (h : Led w b n o v t) {k : Nat} (hk : k < 512) : Led (w.setCell ⟨b, 1025 + k, none⟩ (.bool true)) b n o v (mark1 t k) := by
  obtain ⟨cs, h0, hc⟩ := h.box
  refine ⟨⟨_, blk_set h0 (1025 + k) _, by rw [Array.size_setIfInBounds]; exact hc.size, ?_, fun i hi => ?_, fun i hi => ?_, fun i hi => ?_⟩, h.small⟩
  · rw [Array.getElem?_setIfInBounds_ne (by omega)]
    exact hc.num
  · rw [Array.getElem?_setIfInBounds_ne (by omega)]
    exact hc.older i hi
  · rw [Array.getElem?_setIfInBounds_ne (by omega)]
    exact hc.newer i hi
  · by_cases hik : i = k
    · subst hik
      rw [Array.getElem?_setIfInBounds_self_of_lt (by rw [hc.size]; omega)]
      simp [mark1]
    · rw [Array.getElem?_setIfInBounds_ne (by omega), hc.taken i hi]
      simp [mark1, hik]
/-- A whole array of marks is laid at o. -/
theorem Led.there (h : Led w b n o v t) {q : Nat} (hq : q ≤ 1025) (f : Nat → Bool) : w.there b q (ba f).size := fun j hj => by
  rw [ba_size] at hj
  obtain ⟨cs, h0, hc⟩ := h.box
  refine ⟨?_, free_at h0 _⟩
  rw [cell_of_block h0, Array.getElem?_eq_getElem (by rw [hc.size]; omega)]
  rfl
end

theorem heap_setCells (b : Nat) : ∀ (vs : List Value) (o : Nat) (w : World) (i : Nat), i ≠ b → (w.setCells b o vs).heap[i]? = w.heap[i]?
  | [], _, _, _, _ => rfl
  | v :: r, o, w, i, h => by
    rw [World.setCells, heap_setCells b r (o + 1) _ i h]
    exact Below.heap_setCell _ _ _ _ h
theorem setCells_same (b : Nat) : ∀ (vs : List Value) (o : Nat) (w : World), (w.setCells b o vs).os = w.os ∧ (w.setCells b o vs).tape = w.tape ∧ (w.setCells b o vs).output = w.output ∧ (w.setCells b o vs).heap.size = w.heap.size
  | [], _, _ => ⟨rfl, rfl, rfl, rfl⟩
  | v :: r, o, w => by
    rw [World.setCells]
    obtain ⟨h1, h2, h3, h4⟩ := setCells_same b r (o + 1) (w.setCell ⟨b, o, none⟩ v)
    exact ⟨h1, h2, h3, h4.trans (by simp [World.setCell])⟩
theorem setCells_block (b : Nat) (t : TypeId) : ∀ (vs : List Value) (o : Nat) (w : World) (cs : Array Value), w.heap[b]? = some (.cells cs t (0, 0)) → ∃ ds, (w.setCells b o vs).heap[b]? = some (.cells ds t (0, 0)) ∧ ds.size = cs.size ∧ ∀ j, ds[j]? = if o ≤ j ∧ j < o + vs.length ∧ j < cs.size then vs[j - o]? else cs[j]?
  | [], o, w, cs, h => ⟨cs, h, rfl, fun j => by rw [if_neg (by simp; omega)]⟩
  | v :: r, o, w, cs, h => by
    rw [World.setCells]
    obtain ⟨ds, h1, h2, h3⟩ := setCells_block b t r (o + 1) (w.setCell ⟨b, o, none⟩ v) _ (blk_set h o v)
    rw [Array.size_setIfInBounds] at h2
    refine ⟨ds, h1, h2, fun j => ?_⟩
    rw [h3 j, Array.size_setIfInBounds]
    by_cases hj : o + 1 ≤ j ∧ j < o + 1 + r.length ∧ j < cs.size
    · rw [if_pos hj, if_pos (by rw [List.length_cons]; omega), show j - o = (j - (o + 1)) + 1 by omega, List.getElem?_cons_succ]
    · rw [if_neg hj]
      by_cases hjo : j = o
      · subst hjo
        by_cases hs : j < cs.size
        · rw [Array.getElem?_setIfInBounds_self_of_lt hs, if_pos (by rw [List.length_cons]; omega), Nat.sub_self, List.getElem?_cons_zero]
        · rw [if_neg (by omega), Array.getElem?_eq_none (by rw [Array.size_setIfInBounds]; omega), Array.getElem?_eq_none (by omega)]
      · rw [Array.getElem?_setIfInBounds_ne (Ne.symm hjo), if_neg (by rw [List.length_cons]; omega)]
theorem Keep.cells {F : Nat → Prop} {a w : World} (h : Keep F a w) {b o : Nat} {vs : List Value} (hb : F b ∨ a.heap.size ≤ b) : Keep F a (w.setCells b o vs) := by
  obtain ⟨h1, h2, h3, h4⟩ := setCells_same b vs o w
  refine ⟨h1.trans h.os, h2.trans h.tape, h3.trans h.output, by rw [h4]; exact h.size, fun i hi hn => (heap_setCells b vs o w i ?_).trans (h.block i hi hn)⟩
  rintro rfl
  rcases hb with hb | hb
  · exact hn hb
  · omega
section
variable {w w' : World} {b n : Nat} {o v t : Nat → Bool}
theorem Led.lay (h : Led w b n o v t) {q : Nat} (f : Nat → Bool) (hq : q = 1 ∨ q = 513 ∨ q = 1025) : Led (w.setCells b q (ba f).toList) b n (if q = 1 then f else o) (if q = 513 then f else v) (if q = 1025 then f else t) := by
  obtain ⟨cs, h0, hc⟩ := h.box
  obtain ⟨ds, h1, h2, h3⟩ := setCells_block b _ (ba f).toList q w cs h0
  rw [ba_list] at h1 h3 ⊢
  rw [bl_len] at h3
  have hsz := hc.size
  rw [hsz] at h3
  have inn : ∀ i, i < 512 → ds[q + i]? = some (.bool (f i)) := fun i hi => by
    rw [h3, if_pos (by omega), Nat.add_sub_cancel_left, bl_at f hi]
  have out : ∀ j, (j < q ∨ q + 512 ≤ j) → ds[j]? = cs[j]? := fun j hj => by rw [h3, if_neg (by omega)]
  refine ⟨⟨ds, h1, by rw [h2, hsz], by rw [out 0 (by omega)]; exact hc.num, fun i hi => ?_, fun i hi => ?_, fun i hi => ?_⟩, h.small⟩
  · by_cases hq1 : q = 1
    · subst hq1
      simpa using inn i hi
    · rw [if_neg hq1, out _ (by omega)]
      exact hc.older i hi
  · by_cases hq1 : q = 513
    · subst hq1
      simpa using inn i hi
    · rw [if_neg hq1, out _ (by omega)]
      exact hc.newer i hi
  · by_cases hq1 : q = 1025
    · subst hq1
      simpa using inn i hi
    · rw [if_neg hq1, out _ (by omega)]
      exact hc.taken i hi
theorem Led.lay1 (h : Led w b n o v t) (f : Nat → Bool) : Led (w.setCells b 1 (ba f).toList) b n f v t := by simpa using h.lay (q := 1) f (.inl rfl)
theorem Led.lay2 (h : Led w b n o v t) (f : Nat → Bool) : Led (w.setCells b 513 (ba f).toList) b n o f t := by simpa using h.lay (q := 513) f (.inr (.inl rfl))
theorem Led.lay3 (h : Led w b n o v t) (f : Nat → Bool) : Led (w.setCells b 1025 (ba f).toList) b n o v f := by simpa using h.lay (q := 1025) f (.inr (.inr rfl))
/-- The array at q, whole. -/
theorem Led.range (h : Led w b n o v t) {q : Nat} {f : Nat → Bool} (hf : ∀ i, i < 512 → w.cell? ⟨b, q + i, none⟩ = some (.bool (f i))) : w.rangeAt b q (bl f) := fun j u hu => by
  have hj : j < 512 := by
    have := (List.getElem?_eq_some_iff.1 hu).1
    rwa [bl_len] at this
  rw [bl_at f hj] at hu
  cases hu
  exact hf j hj
end
/-- The load and the store of an array, as the walk asks them. -/
theorem run_load_marks {w : World} {b q : Nat} {f : Nat → Bool} (h : w.rangeAt b q (bl f)) : (loadCellsFrom ⟨b, q, none⟩ 0 512 #[]).run Try.prog w = .ok (ba f) w := by
  have := run_loadCells_list (P := Try.prog) w ⟨b, q, none⟩ (bl f) (fun j v hv => by rw [Addr.add_mid]; exact h j v hv)
  rw [bl_len] at this
  exact this
theorem run_store_marks {w : World} {b q : Nat} (f : Nat → Bool) (h : w.there b q (ba f).size) : (storeCells ⟨b, q, none⟩ (ba f).toList).run Try.prog w = .ok () (w.setCells b q (ba f).toList) := by
  have := run_storeCells_cells (P := Try.prog) b q (ba f).toList 0 w (fun j hj => by simpa using (h j (by simpa using hj)).1) (fun j hj => by simpa using (h j (by simpa using hj)).2)
    (fun v hv => by rw [ba_list] at hv; exact bl_one f v hv)
  simpa using this

end Go.Proofs.Ytpchihgdcpbjiaa
