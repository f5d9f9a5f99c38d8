/-
  Words for memory that any package may use: bytes as cells, a slice of bytes that can be read, make, a row of the call's own, conversions between strings and bytes; conditions stand at each.
-/
import Derived.Test.YthalghjnnfohaaaRows
import Derived.WalkKit
import Derived.WalkSpells
import Derived.WalkLawsBesides
import Derived.Lib.Hide
import Derived.Laws.CopyOwn
import Derived.Laws.IdiomStrings
import Derived.Deep.DeepAppendRoom
import Derived.Deep.QuietTactic
import Derived.BigQuiet
import Derived.OwnWalk
import Derived.Room.AppendFits
import Derived.Test.YthalghjnnfohaaaDrawn
namespace Go.Proofs.Ythalghjnnfohaaa
open Go.RowKit Go.Sort
set_option linter.unusedVariables false

/-- What was there stays, over two steps. -/
theorem bthen {a b c : World} (h : Below a.heap.size a b) (k : Below b.heap.size b c) : Below a.heap.size a c := h.trans (k.mono h.size)

/-- A byte as a cell. -/
def u8 (b : UInt8) : Value := .int .u8 (b.toNat : Int)
/-- Bytes as cells. -/
def bcells (l : List UInt8) : List Value := l.map u8
theorem bcells_length (l : List UInt8) : (bcells l).length = l.length := by simp [bcells]
theorem bcells_append (l m : List UInt8) : bcells (l ++ m) = bcells l ++ bcells m := by simp [bcells]
theorem bcells_one (l : List UInt8) : ∀ u ∈ bcells l, u.oneCell' = true := by
  intro u hu
  simp only [bcells, List.mem_map] at hu
  obtain ⟨b, _, rfl⟩ := hu
  rfl

/-- The slice at A reads as the bytes l. -/
def Rd (w : World) (A : Option Addr) (l : List UInt8) : Prop :=
  0 < l.length → ∃ ad, A = some ad ∧ ad.block < w.heap.size ∧ ∀ j u, (bcells l)[j]? = some u → w.cell? (ad.add j) = some u

theorem block_of_add (a : Addr) (n : Nat) : (a.add n).block = a.block := by unfold Addr.add; split <;> rfl

theorem Rd.nil (w : World) (A : Option Addr) : Rd w A [] := fun h => absurd h (by simp)
theorem Rd.below {w w' : World} {A : Option Addr} {l : List UInt8} (h : Rd w A l) (hb : Below w.heap.size w w') : Rd w' A l := fun h0 => by
  obtain ⟨ad, e, hlt, hc⟩ := h h0
  exact ⟨ad, e, Nat.lt_of_lt_of_le hlt hb.size, fun j u hu => (hb.cell (by rw [block_of_add]; exact hlt)).trans (hc j u hu)⟩

theorem u8info : (Try.prog.info? 5).map (fun i => (i.zero, i.size, i.bytes)) = some (some (.int .u8 0), 1, 1) := by kernel_rfl

/-- make([]byte, n, c). -/
theorem run_make_bytes (n c : Nat) (hnc : n ≤ c) (hb : c ≤ 281474976710656) (w : World) :
    (Instr.makeSlice 49 (.int .i64 (n : Int)) (.int .i64 (c : Int))).run Try.prog w =
      .ok (.slice (some ⟨w.heap.size, 0, none⟩) n c) (w.alloc (.cells (madeCells #[.int .u8 0] c) 5)) := by
  obtain ⟨i0, hi0, hz0, hz1, hz2⟩ := info_parts u8info
  have hr := run_make (P := Try.prog) w 49 5 i0 _ Try.underlying49 hi0 hz0 .i64 .i64 (n : Int) (c : Int) (by omega) (by omega) (by rw [hz2]; omega) (by omega)
  rw [hz1] at hr
  simpa [Value.cells] using hr

theorem made_list (z : Value) (c : Nat) : madeCells #[z] c = (List.replicate c z).toArray := by
  apply Array.ext
  · simp [size_madeCells]
  · intro i h1 h2
    simp [madeCells, Nat.mod_one]

theorem take_splice (cur : List Value) (cs : List Value) : (splice cur 0 cs).take cs.length = cs := by
  simp [splice]

/-- The lowest byte of a number. -/
def b8 (x : Int) : UInt8 := UInt8.ofNat (x % 256).toNat
theorem u8_b8 (x : Int) : u8 (b8 x) = .int .u8 (x % 256) := by
  unfold u8 b8
  congr 1
  have h1 := Int.emod_nonneg x (show (256 : Int) ≠ 0 by omega)
  have h2 := Int.emod_lt_of_pos x (show (0 : Int) < 256 by omega)
  rw [UInt8.toNat_ofNat']
  omega
theorem new_row (w : World) (cs : Array Value) (t : TypeId) : ∀ j u, cs.toList[j]? = some u → (w.alloc (.cells cs t)).cell? ((⟨w.heap.size, 0, none⟩ : Addr).add j) = some u := by
  intro j u hu
  have e : ((⟨w.heap.size, 0, none⟩ : Addr).add j) = ⟨w.heap.size, j, none⟩ := by unfold Addr.add; split <;> simp_all
  rw [e, World.cell?_alloc_mark]
  simpa using hu

theorem strCells_bcells (t : ByteArray) : Lib.strCells t = bcells t.data.toList := rfl
theorem cell_of_block {w : World} {g : Nat} {cs : Array Value} {t : TypeId} {m : Nat × Nat} (h : w.heap[g]? = some (.cells cs t m)) (i : Nat) : w.cell? ⟨g, i, none⟩ = cs[i]? := cell_of_row w g i cs t m h

theorem own_whole {w : World} {base n : Nat} {g : Nat} {xs : List Value} {e : TypeId} (h : w.ownsRow base e 1 (.slice (some ⟨g, 0, none⟩) n n) n xs) : w.heap[g]? = some (.cells xs.toArray e (0, 0)) := by
  rcases h.2 with ⟨hv, _⟩ | ⟨g', cap, cur, hv, _, hh, _, _, hs, ht⟩
  · cases hv
  · cases hv
    have : cur.toList = xs := by
      rw [← ht, List.take_of_length_le]
      simp [hs]
    rw [hh, ← this]

theorem blk_set {w : World} {g : Nat} {t : TypeId} {cs : Array Value} (h : w.heap[g]? = some (.cells cs t (0, 0))) (i : Nat) (u : Value) : (w.setCell ⟨g, i, none⟩ u).heap[g]? = some (.cells (cs.setIfInBounds i u) t (0, 0)) := by
  simp [World.setCell, Array.getElem?_modify, h]
theorem only_drewN {a w : World} {row : Option Nat} (h : a.grownBy w row) (n : Nat) : a.grownBy (w.drewN n) row := ⟨h.os, h.tape, h.output, h.size, h.block⟩
theorem only_setCell {a w : World} {g : Nat} (h : a.grownBy w (some g)) {p : Addr} (hp : p.block = g) (u : Value) : a.grownBy (w.setCell p u) (some g) :=
  ⟨h.os, h.tape, h.output, by simpa [World.setCell] using h.size, fun i hi hne => (Below.heap_setCell w p u i (by
    rintro rfl
    exact hne (by rw [hp]))).trans (h.block i hi hne)⟩

theorem rd_block {w : World} {h : Nat} {l : List UInt8} (hh : w.heap[h]? = some (.cells (bcells l).toArray 5 (0, 0))) (q m : Nat) :
    Rd w (some ⟨h, q, none⟩) ((l.drop q).take m) := fun _ => ⟨_, rfl, lt_of_block hh, fun j u hu => by
  have e : ((⟨h, q, none⟩ : Addr).add j) = ⟨h, q + j, none⟩ := by unfold Addr.add; split <;> simp_all
  rw [e, cell_of_block hh]
  have hj : j < m := by
    rcases Nat.lt_or_ge j m with hj | hj
    · exact hj
    · rw [List.getElem?_eq_none (by rw [bcells_length, List.length_take]; omega)] at hu
      cases hu
  simp only [bcells, List.map_take, List.map_drop] at hu
  rw [List.getElem?_take_of_lt hj, List.getElem?_drop] at hu
  simpa [bcells] using hu⟩

/-- string(b) of a row of the call's own, now and later. -/
theorem conv_own {w : World} {base g n c : Nat} {l : List UInt8} (h : w.ownsRow base 5 1 (.slice (some ⟨g, 0, none⟩) n c) n (bcells l)) (w' : World) (hb : w'.heap[g]? = w.heap[g]?) :
    (convert 49 9 (.slice (some ⟨g, 0, none⟩) n c)).run Try.prog w' = .ok (.string ⟨l.toArray⟩) w' := by
  have hn : l.length = n := by have := h.1; rw [bcells_length] at this; omega
  subst hn
  refine run_convert_bytes_back (P := Try.prog) w' 49 9 5 ⟨g, 0, none⟩ c l Try.underlying49 Try.underlying5 Try.underlying9 (fun j hj => ?_)
  have e : ((⟨g, 0, none⟩ : Addr).add j) = ⟨g, j, none⟩ := by unfold Addr.add; split <;> simp_all
  rw [World.cell?_of_block (w := w) (by rw [block_of_add]; exact hb), e]
  have hc := h.cells (g := g) rfl j (u8 l[j]) (by simp [bcells, hj])
  rw [e] at hc
  exact hc

theorem own_lt {w : World} {base g n c : Nat} {xs : List Value} {e : TypeId} (h : w.ownsRow base e 1 (.slice (some ⟨g, 0, none⟩) n c) n xs) : g < w.heap.size := (h.lt g rfl).2

theorem conv_later {w : World} {base g n c : Nat} {l : List UInt8} (h : w.ownsRow base 5 1 (.slice (some ⟨g, 0, none⟩) n c) n (bcells l)) (d : Nat) (os : Array Obj) :
    (convert 49 9 (.slice (some ⟨g, 0, none⟩) n c)).run Try.prog (grow (redrawn w d) os) = .ok (.string ⟨l.toArray⟩) (grow (redrawn w d) os) :=
  conv_own h _ ((below_regrown w d os).block g (own_lt h))

/-- []byte(s), in whatever world. -/
theorem bytes_of (s : ByteArray) : ∃ (C : World → Nat) (F : World → World),
    (∀ w : World, (convert 9 49 (.string s)).run Try.prog w = .ok (.slice (some ⟨w.heap.size, 0, none⟩) s.size (C w)) (F w)) ∧
    ∀ w : World, Rd (F w) (some ⟨w.heap.size, 0, none⟩) s.data.toList ∧ s.size ≤ C w ∧ Below w.heap.size w (F w) := by
  refine ⟨_, _, fun w => run_bytes_of_string w 9 49 5 s Try.underlying9 Try.underlying49 Try.underlying5, fun w => ⟨fun _ => ⟨_, rfl, by simp, fun j u hu => ?_⟩, grownCap_ge _ _ _ _, ?_⟩⟩
  · have e : ((⟨w.heap.size, 0, none⟩ : Addr).add j) = ⟨w.heap.size, j, none⟩ := by unfold Addr.add; split <;> simp_all
    rw [e]
    have h := World.cell?_alloc_mark w.drew (bytesRow s (grownCap w s.size 0 5)) 5 ((bytesRow s (grownCap w s.size 0 5)).size, (bytesRow s (grownCap w s.size 0 5)).size + 1) j
    refine Eq.trans h ?_
    have hj : j < s.data.size := by
      have := (List.getElem?_eq_some_iff.1 hu).1
      simpa [bcells] using this
    unfold bytesRow
    rw [Array.getElem?_append_left (by simpa using hj)]
    simpa [bcells, u8] using hu
  · exact (Below.refl _ _).drew.alloc (Nat.le_refl _) _

/-- string(b) of what can be read. -/
theorem conv_rd {w : World} {A : Option Addr} {n c : Nat} {l : List UInt8} (h : Rd w A l) (hn : l.length = n) :
    (convert 49 9 (.slice A n c)).run Try.prog w = .ok (.string ⟨l.toArray⟩) w := by
  subst hn
  cases A with
  | none =>
    have : l = [] := by
      rcases Nat.eq_zero_or_pos l.length with h0 | h0
      · exact List.eq_nil_of_length_eq_zero h0
      · obtain ⟨ad, e, _⟩ := h h0
        cases e
    subst this
    exact run_convert_bytes_nil w 49 5 Try.underlying49 Try.underlying5 _ c 9 Try.underlying9
  | some ad =>
    refine run_convert_bytes_back (P := Try.prog) w 49 9 5 ad c l Try.underlying49 Try.underlying5 Try.underlying9 (fun j hj => ?_)
    obtain ⟨ad', e, _, hc⟩ := h (by omega)
    cases e
    exact hc j (u8 l[j]) (by simp [bcells, hj])

/-- string(b) of bytes that are a string's. -/
theorem conv_str {w : World} {A : Option Addr} {c : Nat} {b : ByteArray} (h : Rd w A b.data.toList) : (convert 49 9 (.slice A b.size c)).run Try.prog w = .ok (.string b) w := by
  have := conv_rd (c := c) (n := b.size) h rfl
  simpa using this
theorem str_eq (s : ByteArray) : s = ⟨s.data.toList.toArray⟩ := by cases s; simp

end Go.Proofs.Ythalghjnnfohaaa
