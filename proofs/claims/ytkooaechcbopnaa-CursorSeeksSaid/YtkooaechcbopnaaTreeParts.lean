/-
  The contracts of package tree's small functions of parts: partsOf, ofLeaf, enough, join; conditions stand at each.
-/
import Derived.Test.YtkooaechcbopnaaTreeMem
import Derived.Test.YtkooaechcbopnaaNodeHelp
import Derived.Test.YtkooaechcbopnaaDrawnC

namespace Go.Proofs.Ytkooaechcbopnaa
open Go.RowKit Go.Sort
set_option linter.unusedVariables false

theorem cell_at {w : World} {g : Nat} {cs : Array Value} {t : TypeId} (h : w.heap[g]? = some (.cells cs t (0, 0))) (j : Nat) (u : Value) (hu : cs[j]? = some u) : w.cell? ⟨g, j, none⟩ = some u := (cell_of_row w g j _ _ _ h).trans hu
theorem free_at {w : World} {g : Nat} {cs : Array Value} {t : TypeId} (h : w.heap[g]? = some (.cells cs t (0, 0))) (j : Nat) : w.frozen? ⟨g, j, none⟩ = false := by simp [World.frozen?, h]
/-- A box of two cells, stored into. -/
theorem set_two {w : World} {b : Nat} {t : TypeId} {u0 v0 : Value} (h : w.heap[b]? = some (.cells #[u0, v0] t (0, 0))) (u v : Value) :
    ((w.setCell ⟨b, 0, none⟩ u).setCell ⟨b, 1, none⟩ v).heap[b]? = some (.cells #[u, v] t (0, 0)) := blk_set (blk_set h 0 u) 1 v
abbrev World.two (w : World) (g : Nat) (u v : Value) : World := (w.setCell ⟨g, 0, none⟩ u).setCell ⟨g, 1, none⟩ v
theorem two_other (w : World) (g : Nat) (u v : Value) (i : Nat) (hi : i ≠ g) : (World.two w g u v).heap[i]? = w.heap[i]? := by
  rw [World.two, Below.heap_setCell _ _ _ _ hi, Below.heap_setCell _ _ _ _ hi]
theorem two_size (w : World) (g : Nat) (u v : Value) : (World.two w g u v).heap.size = w.heap.size := by simp [World.two, World.setCell]
theorem two_below {B : Nat} {a w : World} (h : Below B a w) {g : Nat} (hg : B ≤ g) (u v : Value) : Below B a (World.two w g u v) := (h.setCell (p := ⟨g, 0, none⟩) hg u).setCell (p := ⟨g, 1, none⟩) hg v
theorem two_cell (w : World) (g : Nat) (u v : Value) (a : Addr) (ha : a.block ≠ g) : (World.two w g u v).cell? a = w.cell? a := by
  unfold World.cell?
  rw [two_other w g u v _ ha]
theorem Es.two {w : World} {A : Option Addr} {l : List Ent} (h : Es w A l) {g : Nat} (hA : ∀ ad, A = some ad → ad.block ≠ g) (u v : Value) : Es (World.two w g u v) A l := fun h0 => by
  obtain ⟨ad, e, hlt, hc⟩ := h h0
  exact ⟨ad, e, by rw [two_size]; exact hlt, fun j x hx => (two_cell w g u v _ (by rw [block_of_add]; exact hA ad e)).trans (hc j x hx)⟩
theorem Ls.two {α : Type} {f : α → List Value} {w : World} {A : Option Addr} {l : List α} (h : Ls f w A l) {g : Nat} (hA : ∀ ad, A = some ad → ad.block ≠ g) (u v : Value) : Ls f (World.two w g u v) A l := fun h0 => by
  obtain ⟨ad, e, hlt, hc⟩ := h h0
  exact ⟨ad, e, by rw [two_size]; exact hlt, fun j x hx => (two_cell w g u v _ (by rw [block_of_add]; exact hA ad e)).trans (hc j x hx)⟩
theorem below_two {w : World} {B g : Nat} {a : World} (h : Below B a w) (hg : B ≤ g) : ∀ u v, Below B a (World.two w g u v) := fun u v => two_below h hg u v

set_option maxHeartbeats 1000000 in
set_option maxRecDepth 100000 in
theorem partsOf_pt {w : World} {b : Nat} {N : NR} (hN : NodeAt w b N) {l : List Ent} {p : List (Option Nat)} (he : Es w N.ea l) (hl : l.length = N.en) (hp : Ls pcP w N.ka p) (hpl : p.length = N.kn) (h1 : N.en ≤ 1000) (h2 : N.kn ≤ 1000) :
    Calls Try.prog 48 #[pn b] w fun e w' => ∃ v, e = .returned v ∧ Pt w' v l p ∧ Below w.heap.size w w' := by
  have HN := Lib.hid hN
  have HE := Lib.hid he
  have HL := Lib.hid hl
  have HP := Lib.hid hp
  have HPL := Lib.hid hpl
  clear hN he hl hp hpl
  go_enter Try.func48, Try.ntmps48
  go_wp2_with fail
  have hb0 : Below w.heap.size w (w.alloc (.cells #[.slice none 0 0, .slice none 0 0] 65)) := (Below.refl _ _).alloc (Nat.le_refl _) _
  have hsz : (w.alloc (.cells #[.slice none 0 0, .slice none 0 0] 65)).heap.size = w.heap.size + 1 := by simp
  refine (entries_any (HN.out.below hb0) (HE.out.below hb0) HL.out (by omega)).mono ?_
  rintro e w1 ⟨v1, rfl, ho1, hb1⟩
  obtain ⟨A1, c1, rfl, hc1, hes1⟩ := ho1.form
  go_wp2_with fail
  have hb01 := bthen hb0 hb1
  refine (kids_any (HN.out.below hb01) (HP.out.below hb01) HPL.out (by omega)).mono ?_
  rintro e w2 ⟨v2, rfl, ho2, hb2⟩
  obtain ⟨A2, c2, rfl, hc2, hls2⟩ := ho2.form
  have hblk : w2.heap[w.heap.size]? = some (.cells #[.slice none 0 0, .slice none 0 0] 65 (0, 0)) := (hb2.block _ (Nat.lt_of_lt_of_le (by simp) hb1.size)).trans ((hb1.block _ (by simp)).trans (heap_alloc_new w _))
  have HA1 := Lib.hid (show ∀ ad, A1 = some ad → ad.block ≠ w.heap.size from fun ad e => by have := (ho1.addr_ge ad e).1; omega)
  have HA2 := Lib.hid (show ∀ ad, A2 = some ad → ad.block ≠ w.heap.size from fun ad e => by have := (ho2.addr_ge ad e).1; have := hb1.size; omega)
  have HB := Lib.hid (two_below (bthen hb01 hb2) (Nat.le_refl _) (.slice A1 l.length c1) (.slice A2 p.length c2))
  have HE2 := Lib.hid ((hes1.below hb2).two HA1.out (.slice A1 l.length c1) (.slice A2 p.length c2))
  have HL2 := Lib.hid (hls2.two HA2.out (.slice A1 l.length c1) (.slice A2 p.length c2))
  have HT := Lib.hid (set_two hblk (.slice A1 l.length c1) (.slice A2 p.length c2))
  have hd0 := cell_at hblk 0 _ rfl
  have hd1 := cell_at hblk 1 _ rfl
  have hf0 := free_at hblk 0
  have hf1 := free_at hblk 1
  clear ho1 ho2 hb0 hb1 hb2 hb01 hes1 hls2 hblk hsz
  go_wp2
  refine bodyPost_ret (v := .agg #[.slice A1 l.length c1, .slice A2 p.length c2]) ?_ rfl ⟨_, rfl, ⟨A1, c1, A2, c2, rfl, hc1, hc2, HE2.out, HL2.out⟩, HB.out⟩
  have k0 := cell_at HT.out 0 _ rfl
  have k1 := cell_at HT.out 1 _ rfl
  simp [results, Try.results48, go_sem, k0, k1]

set_option maxHeartbeats 1000000 in
set_option maxRecDepth 100000 in
theorem partsOf_nil (w : World) : Calls Try.prog 48 #[.pointer none] w fun e w' => e = .returned (.agg #[.slice none 0 0, .slice none 0 0]) ∧ Below w.heap.size w w' := by
  go_enter Try.func48, Try.ntmps48
  go_wp2_with fail
  have hb0 : Below w.heap.size w (w.alloc (.cells #[.slice none 0 0, .slice none 0 0] 65)) := (Below.refl _ _).alloc (Nat.le_refl _) _
  have hblk : (w.alloc (.cells #[.slice none 0 0, .slice none 0 0] 65)).heap[w.heap.size]? = some (.cells #[.slice none 0 0, .slice none 0 0] 65 (0, 0)) := heap_alloc_new w _
  generalize w.alloc (.cells #[.slice none 0 0, .slice none 0 0] 65) = w0 at *
  refine (entries_nil _).mono ?_
  rintro e w1 ⟨rfl, rfl⟩
  go_wp2_with fail
  refine (kids_nil _).mono ?_
  rintro e w2 ⟨rfl, rfl⟩
  have HB := Lib.hid (two_below hb0 (Nat.le_refl _) (.slice none 0 0) (.slice none 0 0))
  have HT := Lib.hid (set_two hblk (.slice none 0 0) (.slice none 0 0))
  have hd0 := cell_at hblk 0 _ rfl
  have hd1 := cell_at hblk 1 _ rfl
  have hf0 := free_at hblk 0
  have hf1 := free_at hblk 1
  clear hb0 hblk
  go_wp2
  refine bodyPost_ret (v := .agg #[.slice none 0 0, .slice none 0 0]) ?_ rfl ⟨rfl, HB.out⟩
  have k0 := cell_at HT.out 0 _ rfl
  have k1 := cell_at HT.out 1 _ rfl
  simp [results, Try.results48, go_sem, k0, k1]

theorem ofLeaf_any (w : World) (A B : Option Addr) (n c m d : Nat) : Calls Try.prog 49 #[.agg #[.slice A n c, .slice B m d]] w fun e w' => e = .returned (.bool (decide (m = 0))) ∧ Below w.heap.size w w' := by
  have hb0 : Below w.heap.size w (w.alloc (.cells #[.slice A n c, .slice B m d] 65)) := (Below.refl _ _).alloc (Nat.le_refl _) _
  go_enter Try.func49, Try.ntmps49
  go_wp2
  go_ret
  exact ⟨congrArg (fun b => Ending.returned (Value.bool b)) (decide_eq_decide.2 (by omega)), hb0⟩

end Go.Proofs.Ytkooaechcbopnaa
