/-
  The contract of page.Decode: the page of which the bytes are the encoding, or the error's number; conditions: the slice can be read, its length is small, the table of the check lies in memory.
-/
import Derived.Test.YtgicomadlhnkjaaDoorPageTakeP
import Derived.Test.YtgicomadlhnkjaaDoorPageTools
import Derived.Test.YtgicomadlhnkjaaDoorSumRef
namespace Go.Proofs.YtgicomadlhnkjaaDoor
open Go.RowKit Go.Sort
set_option linter.unusedVariables false

/-- What the bytes are: the page and the error's number. -/
def Dec (l : List UInt8) (q : PP) (r : Int) : Prop :=
  (l.length ≠ 256 ∧ q = PP.zero ∧ r = 4) ∨ (l.length = 256 ∧ Crc.isSealed l = false ∧ q = PP.zero ∧ r = 5) ∨
  (l.length = 256 ∧ Crc.isSealed l = true ∧ (∀ p0, okPage p0 → encL p0 ≠ l) ∧ q = PP.zero ∧ r = 3) ∨ (okPage q ∧ encL q = l ∧ r = 0)
theorem dec_ok {l : List UInt8} {p q : PP} {r : Int} (h : Dec l q r) (hp : okPage p) (he : encL p = l) : q = p ∧ r = 0 := by
  have h1 := encL_len hp
  rw [he] at h1
  have h2 : Crc.isSealed l = true := by rw [← he]; exact Crc.sealed_isSealed _
  rcases h with ⟨h, _⟩ | ⟨_, h, _⟩ | ⟨_, _, h, _⟩ | ⟨ho, h, hr⟩
  · exact absurd h1 h
  · rw [h2] at h; cases h
  · exact absurd he (h p hp)
  · exact ⟨encL_inj ho hp (h.trans he.symm), hr⟩
theorem dec_unique {l : List UInt8} {p q : PP} {r s : Int} (h : Dec l p r) (k : Dec l q s) : p = q ∧ r = s := by
  rcases k with ⟨k1, k2, k3⟩ | ⟨k0, k1, k2, k3⟩ | ⟨k0, k1, k, k2, k3⟩ | ⟨k1, k2, k3⟩
  · rcases h with ⟨h1, h2, h3⟩ | ⟨h0, h1, h2, h3⟩ | ⟨h0, h1, h, h2, h3⟩ | ⟨h1, h2, h3⟩
    · exact ⟨h2.trans k2.symm, h3.trans k3.symm⟩
    · exact absurd h0 k1
    · exact absurd h0 k1
    · exact absurd (by rw [← h2]; exact encL_len h1) k1
  · rcases h with ⟨h1, h2, h3⟩ | ⟨h0, h1, h2, h3⟩ | ⟨h0, h1, h, h2, h3⟩ | ⟨h1, h2, h3⟩
    · exact absurd k0 h1
    · exact ⟨h2.trans k2.symm, h3.trans k3.symm⟩
    · rw [h1] at k1; cases k1
    · have : Crc.isSealed l = true := by rw [← h2]; exact Crc.sealed_isSealed _
      rw [this] at k1; cases k1
  · rcases h with ⟨h1, h2, h3⟩ | ⟨h0, h1, h2, h3⟩ | ⟨h0, h1, h, h2, h3⟩ | ⟨h1, h2, h3⟩
    · exact absurd k0 h1
    · rw [h1] at k1; cases k1
    · exact ⟨h2.trans k2.symm, h3.trans k3.symm⟩
    · exact absurd h2 (k p h1)
  · obtain ⟨h1, h2⟩ := dec_ok h k1 k2
    exact ⟨h1, h2.trans k3.symm⟩

/-- What Decode answers. -/
def DecPost (w : World) (l : List UInt8) (e : Ending) (w' : World) : Prop :=
  ∃ (q : PP) (A B : Option Addr) (a b : Nat) (r : Int), e = .returned (.tuple #[pageV q A a B b, .int .i64 r]) ∧ Ls pcC w' A q.cells ∧ Ls pcK w' B q.kids ∧ Below w.heap.size w w' ∧ Bd q ∧ q.cells.length ≤ 255 ∧ q.kids.length ≤ 255 ∧ Dec l q r

theorem bd_zero : Bd PP.zero := ⟨⟨by simp [PP.zero], by simp [PP.zero]⟩, ⟨by simp [PP.zero], by simp [PP.zero]⟩, Nat.zero_le _, Nat.zero_le _, Nat.zero_le _, fun c h => by simp [PP.zero] at h, fun c h => by simp [PP.zero] at h⟩
theorem dec_none {w w' : World} {l : List UInt8} {r : Int} (hb : Below w.heap.size w w') (h : Dec l PP.zero r) :
    DecPost w l (.returned (.tuple #[.agg #[.int .i64 0, .slice none 0 0, .slice none 0 0, .string ⟨#[]⟩, .int .i64 0], .int .i64 r])) w' :=
  ⟨PP.zero, none, none, 0, 0, r, rfl, Ls.nil _ _, Ls.nil _ _, hb, bd_zero, Nat.zero_le _, Nat.zero_le _, h⟩

/-- Writing into the result's box. -/
theorem box_none {w W w' : World} (hW : W = w.alloc (.cells #[.int .i64 0, .slice none 0 0, .slice none 0 0, .string ⟨#[]⟩, .int .i64 0] 35)) (hb : Below W.heap.size W w') (c0 c1 c2 c3 c4 : Value) :
    ((((((w'.setCell ⟨w.heap.size, 0, none⟩ c0).setCell ⟨w.heap.size, 1, none⟩ c1).setCell ⟨w.heap.size, 2, none⟩ c2).setCell ⟨w.heap.size, 3, none⟩ c3).setCell ⟨w.heap.size, 4, none⟩ c4)).heap[w.heap.size]? = some (.cells #[c0, c1, c2, c3, c4] 35 (0, 0)) := by
  have h0 : w'.heap[w.heap.size]? = some (.cells #[.int .i64 0, .slice none 0 0, .slice none 0 0, .string ⟨#[]⟩, .int .i64 0] 35 (0, 0)) := (hb.block _ (by rw [hW]; simp)).trans (by rw [hW]; exact heap_alloc_new w _)
  exact blk_set (blk_set (blk_set (blk_set (blk_set h0 0 _) 1 _) 2 _) 3 _) 4 _
theorem box_below {w w' : World} (hb : Below w.heap.size w w') (c0 c1 c2 c3 c4 : Value) :
    Below w.heap.size w (((((w'.setCell ⟨w.heap.size, 0, none⟩ c0).setCell ⟨w.heap.size, 1, none⟩ c1).setCell ⟨w.heap.size, 2, none⟩ c2).setCell ⟨w.heap.size, 3, none⟩ c3).setCell ⟨w.heap.size, 4, none⟩ c4) :=
  below_set (below_set (below_set (below_set (below_set hb (Nat.le_refl _) _) (Nat.le_refl _) _) (Nat.le_refl _) _) (Nat.le_refl _) _) (Nat.le_refl _) _

set_option maxHeartbeats 4000000 in
set_option maxRecDepth 100000 in
theorem decode_any (A : Option Addr) (n c : Nat) (l : List UInt8) (w : World) (hh : Half w) (hr : Rd w A l) (hn : l.length = n) (hc : n ≤ c) (hb : n ≤ 100000000) :
    Calls Tryd.prog 16 #[.slice A n c] w (DecPost w l) := by
  obtain ⟨W, hW⟩ : ∃ W, W = w.alloc (.cells #[.int .i64 0, .slice none 0 0, .slice none 0 0, .string ⟨#[]⟩, .int .i64 0] 35) := ⟨_, rfl⟩
  have hbW : Below w.heap.size w W := by rw [hW]; exact (Below.refl _ _).alloc (Nat.le_refl _) _
  have hcc : ∀ w', Below W.heap.size W w' → w'.heap[w.heap.size]? = some (.cells #[.int .i64 0, .slice none 0 0, .slice none 0 0, .string ⟨#[]⟩, .int .i64 0] 35 (0, 0)) := fun w' h => (h.block _ (by rw [hW]; simp)).trans (by rw [hW]; exact heap_alloc_new w _)
  have HCC := Lib.hid hcc
  have HW := Lib.hid hW
  have Hn := Lib.hid hn
  have hsW : w.heap.size < W.heap.size := by rw [hW]; simp
  clear hW hcc hn
  by_cases hlen : n = 256
  · subst hlen
    go_enter Tryd.func16, Tryd.ntmps16
    go_wp2_with fail
    rw [← HW.out]
    refine (open_any A 256 c l W (hh.below hbW) (hr.below hbW) Hn.out hc (by omega)).mono ?_
    rintro e w1 (⟨g1, c1, rfl, ⟨_, hsl⟩, ho1, hb1⟩ | ⟨rfl, hns, hb1⟩)
    · have hbw1 := bthen hbW hb1
      have hr1 := Rd.of_own ho1
      have HSL := Lib.hid hsl
      have Hl1 := Lib.hid (own_len ho1)
      clear ho1 hsl
      go_wp2_with fail
      refine (read_any (some ⟨g1, 0, none⟩) (256 - 4) c1 (l.take (256 - 4)) w1 hr1 Hl1.out (by omega)).mono ?_
      rintro e w2 ⟨g, rfl, hrd, hg, hb2⟩
      have hb12 := bthen hb1 hb2
      go_wp2_with fail
      refine (take_page w2 g _ (l.take (256 - 4)) hrd (by rw [Hl1.out]; omega)).mono ?_
      rintro e w3 ⟨q, A3, B3, a3, b3, rfl, hA3, hB3, hg3, hAb', hBb', hbd3, h255, h255', hcl⟩
      have hAb : 0 < q.cells.length → ∀ ad, A3 = some ad → ad.block ≠ w.heap.size := fun h0 ad e => by have := hAb' h0 ad e; have := hb12.size; omega
      have hBb : 0 < q.kids.length → ∀ ad, B3 = some ad → ad.block ≠ w.heap.size := fun h0 ad e => by have := hBb' h0 ad e; have := hb12.size; omega
      have hb13 : Below W.heap.size W w3 := below_only hb12 hg3 hb12.size (by have := hb1.size; omega)
      have HCL := Lib.hid hcl
      have HQ : Hid (∀ p0, okPage p0 → encL p0 = l → q = p0) := fun p0 hp0 he0 => hcl p0 hp0 (by
        have := Crc.sealed_take (bodyL p0)
        rw [bodyL_len hp0] at this
        rw [← he0]
        exact this)
      have henc := encode_any q
      unfold pageV at henc ⊢
      obtain ⟨W5, hW5⟩ : ∃ W5, W5 = w3.alloc (.cells #[.int .i64 q.kind, .slice A3 q.cells.length a3, .slice B3 q.kids.length b3, .string q.piece, .int .i64 q.next] 35) := ⟨_, rfl⟩
      have hb35 : Below w3.heap.size w3 W5 := by rw [hW5]; exact (Below.refl _ _).alloc (Nat.le_refl _) _
      have hpb : ∀ w', Below W5.heap.size W5 w' → w'.cell? ⟨w3.heap.size, 0, none⟩ = some (.int .i64 q.kind) ∧ w'.cell? ⟨w3.heap.size, 1, none⟩ = some (.slice A3 q.cells.length a3) ∧ w'.cell? ⟨w3.heap.size, 2, none⟩ = some (.slice B3 q.kids.length b3) ∧ w'.cell? ⟨w3.heap.size, 3, none⟩ = some (.string q.piece) ∧ w'.cell? ⟨w3.heap.size, 4, none⟩ = some (.int .i64 q.next) := fun w' h => by
        rw [hW5] at h
        exact ⟨box_at h 0 _ rfl, box_at h 1 _ rfl, box_at h 2 _ rfl, box_at h 3 _ rfl, box_at h 4 _ rfl⟩
      have HPB := Lib.hid hpb
      have HW5 := Lib.hid hW5
      have hb15 := bthen hb13 hb35
      have hbw5 := bthen hbW hb15
      clear hW5 hpb hcl
      go_wp2_with fail
      rw [← HW5.out]
      refine (henc A3 B3 a3 b3 W5 (hA3.below hb35) (hB3.below hb35) hbd3 (hh.below hbw5)).mono ?_
      intro e w6 hpost
      by_cases hok : okPage q
      · obtain ⟨v6, rfl, ho6, hb6⟩ := enc_ok hpost hok
        obtain ⟨A6, n6, c6, rfl, hn6, hc6, hr6⟩ := ho6.named
        have Hn6 := Lib.hid hn6
        have hb16 := bthen hb15 hb6
        have hbw6 := bthen hbW hb16
        clear hpost ho6 hn6
        go_wp2_with fail
        refine (equal_any A6 A n6 c6 256 c (encL q) l w6 hr6 Hn6.out (hr.below hbw6) Hn.out).mono ?_
        rintro e w7 ⟨rfl, rfl⟩
        by_cases heq : encL q = l
        · rw [decide_eq_true heq]
          obtain ⟨p0, p1, p2, p3, p4⟩ := HPB.out _ hb6
          have hd0 := cell_at (HCC.out _ hb16) 0 (.int .i64 0) rfl
          have hd1 := cell_at (HCC.out _ hb16) 1 (.slice none 0 0) rfl
          have hd2 := cell_at (HCC.out _ hb16) 2 (.slice none 0 0) rfl
          have hd3 := cell_at (HCC.out _ hb16) 3 (.string ⟨#[]⟩) rfl
          have hd4 := cell_at (HCC.out _ hb16) 4 (.int .i64 0) rfl
          have hf0 := free_at (HCC.out _ hb16) 0
          have hf1 := free_at (HCC.out _ hb16) 1
          have hf2 := free_at (HCC.out _ hb16) 2
          have hf3 := free_at (HCC.out _ hb16) 3
          have hf4 := free_at (HCC.out _ hb16) 4
          have hne1 : w.heap.size ≠ w3.heap.size := by have := hb13.size; omega
          have hne2 : w3.heap.size ≠ w.heap.size := by have := hb13.size; omega
          obtain ⟨w9, hw9⟩ : ∃ w9, w9 = (((((w6.setCell ⟨w.heap.size, 0, none⟩ (.int .i64 q.kind)).setCell ⟨w.heap.size, 1, none⟩ (.slice A3 q.cells.length a3)).setCell ⟨w.heap.size, 2, none⟩ (.slice B3 q.kids.length b3)).setCell ⟨w.heap.size, 3, none⟩ (.string q.piece)).setCell ⟨w.heap.size, 4, none⟩ (.int .i64 q.next)) := ⟨_, rfl⟩
          have HBK : Hid (w9.heap[w.heap.size]? = some (.cells #[.int .i64 q.kind, .slice A3 q.cells.length a3, .slice B3 q.kids.length b3, .string q.piece, .int .i64 q.next] 35 (0, 0))) := by rw [hw9]; exact box_none (w' := w6) HW.out hb16 (.int .i64 q.kind) (.slice A3 q.cells.length a3) (.slice B3 q.kids.length b3) (.string q.piece) (.int .i64 q.next)
          have hoth : ∀ i, i ≠ w.heap.size → w9.heap[i]? = w6.heap[i]? := fun i hi => by
            rw [hw9, Below.heap_setCell _ _ _ _ hi, Below.heap_setCell _ _ _ _ hi, Below.heap_setCell _ _ _ _ hi, Below.heap_setCell _ _ _ _ hi, Below.heap_setCell _ _ _ _ hi]
          have hsz9 : w9.heap.size = w6.heap.size := by rw [hw9]; simp [World.setCell]
          have keepC : ∀ {α : Type} {f : α → List Value} {A : Option Addr} {l : List α}, Ls f w6 A l → (0 < l.length → ∀ ad, A = some ad → ad.block ≠ w.heap.size) → Ls f w9 A l := fun h hne h0 => by
            obtain ⟨ad, e, hlt, hc⟩ := h h0
            refine ⟨ad, e, by omega, fun j u hu => ?_⟩
            have hb := hoth (ad.add j).block (by rw [block_of_add]; exact hne h0 ad e)
            exact (World.cell?_of_block (w := w6) hb).trans (hc j u hu)
          have HPO : Hid (DecPost w l (.returned (.tuple #[.agg #[.int .i64 q.kind, .slice A3 q.cells.length a3, .slice B3 q.kids.length b3, .string q.piece, .int .i64 q.next], .int .i64 0])) w9) :=
            ⟨q, A3, B3, a3, b3, 0, rfl, keepC ((hA3.below hb35).below hb6) hAb, keepC ((hB3.below hb35).below hb6) hBb, by rw [hw9]; exact box_below hbw6 _ _ _ _ _, hbd3, h255, h255', .inr (.inr (.inr ⟨hok, heq, rfl⟩))⟩
          have HW9 := Lib.hid hw9
          clear hw9 hoth hsz9 keepC
          go_wp2
          rw [← HW9.out]
          refine bodyPost_ret (v := .tuple #[.agg #[.int .i64 q.kind, .slice A3 q.cells.length a3, .slice B3 q.kids.length b3, .string q.piece, .int .i64 q.next], .int .i64 0]) ?_ rfl HPO.out
          have k0 := cell_at HBK.out 0 (.int .i64 q.kind) rfl
          have k1 := cell_at HBK.out 1 (.slice A3 q.cells.length a3) rfl
          have k2 := cell_at HBK.out 2 (.slice B3 q.kids.length b3) rfl
          have k3 := cell_at HBK.out 3 (.string q.piece) rfl
          have k4 := cell_at HBK.out 4 (.int .i64 q.next) rfl
          simp [results, Tryd.results16, go_sem, k0, k1, k2, k3, k4]
        · rw [decide_eq_false heq]
          have hd0 := cell_at (HCC.out _ hb16) 0 (.int .i64 0) rfl
          have hd1 := cell_at (HCC.out _ hb16) 1 (.slice none 0 0) rfl
          have hd2 := cell_at (HCC.out _ hb16) 2 (.slice none 0 0) rfl
          have hd3 := cell_at (HCC.out _ hb16) 3 (.string ⟨#[]⟩) rfl
          have hd4 := cell_at (HCC.out _ hb16) 4 (.int .i64 0) rfl
          have hf0 := free_at (HCC.out _ hb16) 0
          have hf1 := free_at (HCC.out _ hb16) 1
          have hf2 := free_at (HCC.out _ hb16) 2
          have hf3 := free_at (HCC.out _ hb16) 3
          have hf4 := free_at (HCC.out _ hb16) 4
          have HPO : Hid (DecPost w l (.returned (.tuple #[.agg #[.int .i64 0, .slice none 0 0, .slice none 0 0, .string ⟨#[]⟩, .int .i64 0], .int .i64 3])) ((((((w6.setCell ⟨w.heap.size, 0, none⟩ (.int .i64 0)).setCell ⟨w.heap.size, 1, none⟩ (.slice none 0 0)).setCell ⟨w.heap.size, 2, none⟩ (.slice none 0 0)).setCell ⟨w.heap.size, 3, none⟩ (.string ⟨#[]⟩)).setCell ⟨w.heap.size, 4, none⟩ (.int .i64 0)))) := dec_none (box_below hbw6 _ _ _ _ _) (.inr (.inr (.inl ⟨Hn.out, HSL.out, fun p0 hp0 he0 => heq (HQ.out p0 hp0 he0 ▸ he0), rfl, rfl⟩)))
          have HBK := Lib.hid (box_none (w' := w6) HW.out hb16 (.int .i64 0) (.slice none 0 0) (.slice none 0 0) (.string ⟨#[]⟩) (.int .i64 0))
          go_wp2
          refine bodyPost_ret (v := .tuple #[.agg #[.int .i64 0, .slice none 0 0, .slice none 0 0, .string ⟨#[]⟩, .int .i64 0], .int .i64 3]) ?_ rfl HPO.out
          have k0 := cell_at HBK.out 0 (.int .i64 0) rfl
          have k1 := cell_at HBK.out 1 (.slice none 0 0) rfl
          have k2 := cell_at HBK.out 2 (.slice none 0 0) rfl
          have k3 := cell_at HBK.out 3 (.string ⟨#[]⟩) rfl
          have k4 := cell_at HBK.out 4 (.int .i64 0) rfl
          simp [results, Tryd.results16, go_sem, k0, k1, k2, k3, k4]
      · obtain ⟨rfl, hb6⟩ := enc_no hpost hok
        have hb16 := bthen hb15 hb6
        have hbw6 := bthen hbW hb16
        clear hpost
        have hd0 := cell_at (HCC.out _ hb16) 0 (.int .i64 0) rfl
        have hd1 := cell_at (HCC.out _ hb16) 1 (.slice none 0 0) rfl
        have hd2 := cell_at (HCC.out _ hb16) 2 (.slice none 0 0) rfl
        have hd3 := cell_at (HCC.out _ hb16) 3 (.string ⟨#[]⟩) rfl
        have hd4 := cell_at (HCC.out _ hb16) 4 (.int .i64 0) rfl
        have hf0 := free_at (HCC.out _ hb16) 0
        have hf1 := free_at (HCC.out _ hb16) 1
        have hf2 := free_at (HCC.out _ hb16) 2
        have hf3 := free_at (HCC.out _ hb16) 3
        have hf4 := free_at (HCC.out _ hb16) 4
        have HPO : Hid (DecPost w l (.returned (.tuple #[.agg #[.int .i64 0, .slice none 0 0, .slice none 0 0, .string ⟨#[]⟩, .int .i64 0], .int .i64 3])) ((((((w6.setCell ⟨w.heap.size, 0, none⟩ (.int .i64 0)).setCell ⟨w.heap.size, 1, none⟩ (.slice none 0 0)).setCell ⟨w.heap.size, 2, none⟩ (.slice none 0 0)).setCell ⟨w.heap.size, 3, none⟩ (.string ⟨#[]⟩)).setCell ⟨w.heap.size, 4, none⟩ (.int .i64 0)))) := dec_none (box_below hbw6 _ _ _ _ _) (.inr (.inr (.inl ⟨Hn.out, HSL.out, fun p0 hp0 he0 => hok (HQ.out p0 hp0 he0 ▸ hp0), rfl, rfl⟩)))
        have HBK := Lib.hid (box_none (w' := w6) HW.out hb16 (.int .i64 0) (.slice none 0 0) (.slice none 0 0) (.string ⟨#[]⟩) (.int .i64 0))
        go_wp2
        refine bodyPost_ret (v := .tuple #[.agg #[.int .i64 0, .slice none 0 0, .slice none 0 0, .string ⟨#[]⟩, .int .i64 0], .int .i64 3]) ?_ rfl HPO.out
        have k0 := cell_at HBK.out 0 (.int .i64 0) rfl
        have k1 := cell_at HBK.out 1 (.slice none 0 0) rfl
        have k2 := cell_at HBK.out 2 (.slice none 0 0) rfl
        have k3 := cell_at HBK.out 3 (.string ⟨#[]⟩) rfl
        have k4 := cell_at HBK.out 4 (.int .i64 0) rfl
        simp [results, Tryd.results16, go_sem, k0, k1, k2, k3, k4]
    · have hbw1 := bthen hbW hb1
      have hns' : Crc.isSealed l = false := by
        rcases hx : Crc.isSealed l with _ | _
        · rfl
        · exact absurd ⟨by omega, hx⟩ hns
      have hd0 := cell_at (HCC.out _ hb1) 0 (.int .i64 0) rfl
      have hd1 := cell_at (HCC.out _ hb1) 1 (.slice none 0 0) rfl
      have hd2 := cell_at (HCC.out _ hb1) 2 (.slice none 0 0) rfl
      have hd3 := cell_at (HCC.out _ hb1) 3 (.string ⟨#[]⟩) rfl
      have hd4 := cell_at (HCC.out _ hb1) 4 (.int .i64 0) rfl
      have hf0 := free_at (HCC.out _ hb1) 0
      have hf1 := free_at (HCC.out _ hb1) 1
      have hf2 := free_at (HCC.out _ hb1) 2
      have hf3 := free_at (HCC.out _ hb1) 3
      have hf4 := free_at (HCC.out _ hb1) 4
      have HPO : Hid (DecPost w l (.returned (.tuple #[.agg #[.int .i64 0, .slice none 0 0, .slice none 0 0, .string ⟨#[]⟩, .int .i64 0], .int .i64 5])) ((((((w1.setCell ⟨w.heap.size, 0, none⟩ (.int .i64 0)).setCell ⟨w.heap.size, 1, none⟩ (.slice none 0 0)).setCell ⟨w.heap.size, 2, none⟩ (.slice none 0 0)).setCell ⟨w.heap.size, 3, none⟩ (.string ⟨#[]⟩)).setCell ⟨w.heap.size, 4, none⟩ (.int .i64 0)))) := dec_none (box_below hbw1 _ _ _ _ _) (.inr (.inl ⟨Hn.out, hns', rfl, rfl⟩))
      have HBK := Lib.hid (box_none (w' := w1) HW.out hb1 (.int .i64 0) (.slice none 0 0) (.slice none 0 0) (.string ⟨#[]⟩) (.int .i64 0))
      go_wp2
      refine bodyPost_ret (v := .tuple #[.agg #[.int .i64 0, .slice none 0 0, .slice none 0 0, .string ⟨#[]⟩, .int .i64 0], .int .i64 5]) ?_ rfl HPO.out
      have k0 := cell_at HBK.out 0 (.int .i64 0) rfl
      have k1 := cell_at HBK.out 1 (.slice none 0 0) rfl
      have k2 := cell_at HBK.out 2 (.slice none 0 0) rfl
      have k3 := cell_at HBK.out 3 (.string ⟨#[]⟩) rfl
      have k4 := cell_at HBK.out 4 (.int .i64 0) rfl
      simp [results, Tryd.results16, go_sem, k0, k1, k2, k3, k4]
  · have hlen' : l.length ≠ 256 := by rw [Hn.out]; exact hlen
    have HPO : Hid (DecPost w l (.returned (.tuple #[.agg #[.int .i64 0, .slice none 0 0, .slice none 0 0, .string ⟨#[]⟩, .int .i64 0], .int .i64 4])) (w.alloc (.cells #[.int .i64 0, .slice none 0 0, .slice none 0 0, .string ⟨#[]⟩, .int .i64 0] 35))) := dec_none (by rw [← HW.out]; exact hbW) (.inl ⟨hlen', rfl, rfl⟩)
    go_enter Tryd.func16, Tryd.ntmps16
    go_wp2
    refine bodyPost_ret (v := .tuple #[.agg #[.int .i64 0, .slice none 0 0, .slice none 0 0, .string ⟨#[]⟩, .int .i64 0], .int .i64 4]) ?_ rfl HPO.out
    simp [results, Tryd.results16, go_sem]

end Go.Proofs.YtgicomadlhnkjaaDoor
