/-
  The contracts of the device's Bytes and Image; conditions stand at each.
-/
import Derived.Test.YthjgcbpanfiacaaDevRead
namespace Go.Proofs.Ythjgcbpanfiacaa
open Go.RowKit Go.Sort
set_option linter.unusedVariables false

/-- What Bytes answers: memory of its own that holds all pages. -/
def BytesPost (w : World) (n : Nat) (s : List UInt8) (e : Ending) (w' : World) : Prop := ∃ g, e = .returned (.slice (some ⟨g, 0, none⟩) (n * 256) (n * 256)) ∧ w.heap.size ≤ g ∧ w'.heap[g]? = some (.cells (bcells s).toArray 5 (0, 0)) ∧ Below w.heap.size w w'

theorem rd_whole {w : World} {g : Nat} {l : List UInt8} (hg : w.heap[g]? = some (.cells (bcells l).toArray 5 (0, 0))) : Rd w (some ⟨g, 0, none⟩) l := by
  have := rd_block hg 0 l.length
  rwa [List.drop_zero, List.take_length] at this

set_option maxHeartbeats 1600000 in
set_option maxRecDepth 100000 in
theorem devBytes_any {w : World} {b n : Nat} {st : List UInt8} {pd : List WR} {F : Nat → Prop} (hd : Dev w b n st pd F) (hfew : pd.length ≤ 1000000) :
    Calls Try.prog 23 #[.pointer (some ⟨b, 0, none⟩)] w (BytesPost w n (allN st pd pd.length)) := by
  obtain ⟨g, v, hat, hF⟩ := hd
  have h0 := cell_at hat.box 0 (.slice (some ⟨g, 0, none⟩) (n * 256) (n * 256)) rfl
  have hsm := hat.small
  have hmake := run_make_bytes (n * 256) (n * 256) (Nat.le_refl _) (by omega) w
  rw [made_list, ← bcells_zero] at hmake
  obtain ⟨w1, hw1⟩ : ∃ w1, w1 = w.alloc (.cells (bcells (List.replicate (n * 256) 0)).toArray 5) := ⟨_, rfl⟩
  rw [← hw1] at hmake
  have hmake2 := hmake
  rw [show ((n * 256 : Nat) : Int) = (n : Int) * 256 by omega] at hmake2
  have hb1 : Below w.heap.size w w1 := by rw [hw1]; exact (Below.refl _ _).alloc (Nat.le_refl _) _
  have hrow1 : w1.heap[w.heap.size]? = some (.cells (bcells (List.replicate (n * 256) 0)).toArray 5 (0, 0)) := by rw [hw1]; exact heap_alloc_new w _
  have hat1 : DevAt w1 b g v n st pd := hat.keep fun i hi => hb1.block i (hF i hi).2
  have hc1 := cell_at hat1.box 0 (.slice (some ⟨g, 0, none⟩) (n * 256) (n * 256)) rfl
  have hlen := hat.len
  obtain ⟨w2, hrun, hrow2, hgr2⟩ := run_copy_mid (g := w.heap.size) (off := 0) (d := n * 256) (c := n * 256) (m := n * 256) (mc := n * 256) 3 hrow1 (rd_whole hat1.row) (by rw [hlen]; exact (Nat.min_self _).symm) (by rw [hlen]; simp)
  rw [splice_full (by rw [hlen]; simp)] at hrow2
  rw [hlen] at hrun
  have hN : ∀ i, (i = b ∨ i = g ∨ v.ownBlock = some i) → i ≠ w.heap.size := fun i hi e => by have := (hF i hi).2; omega
  have hat2 : DevAt w2 b g v n st pd := hat1.keep fun i hi => hgr2.block i (Nat.lt_of_lt_of_le (hF i hi).2 hb1.size) (fun e => hN i hi (by cases e; rfl))
  have hb2 : Below w.heap.size w w2 := below_only hb1 hgr2 hb1.size (Nat.le_refl _)
  have HN := Lib.hid hN
  have HR2 := Lib.hid hrow2
  have HA2 := Lib.hid hat2
  have HB2 := Lib.hid hb2
  have HL := Lib.hid hlen
  have hpost : ∀ w', w'.heap[w.heap.size]? = some (.cells (bcells (allN st pd pd.length)).toArray 5 (0, 0)) → Below w.heap.size w w' → BytesPost w n (allN st pd pd.length) (.returned (.slice (some ⟨w.heap.size, 0, none⟩) (n * 256) (n * 256))) w' := fun w' h1 h2 => ⟨_, rfl, Nat.le_refl _, h1, h2⟩
  have HP := Lib.hid hpost
  clear hw1 hb1 hrow1 hat1 hlen hrow2 hgr2 hN hat2 hb2 hat hF hpost
  go_enter Try.func23, Try.ntmps23
  go_wp2_with fail
  refine (applyAll_any HA2.out HR2.out HL.out (Ne.symm (HN.out b (.inl rfl))) (fun e => HN.out _ (.inr (.inr e)) rfl) hfew).mono ?_
  rintro e w3 ⟨rfl, hrow3, hgr3⟩
  have HR3 := Lib.hid hrow3
  have HG3 := Lib.hid hgr3
  clear hrow3 hgr3
  go_wp2
  go_ret
  exact HP.out _ HR3.out (below_only HB2.out HG3.out HB2.out.size (Nat.le_refl _))
theorem devBytes_nil (w : World) : Calls Try.prog 23 #[.pointer none] w fun e w' => e = .returned (.slice none 0 0) ∧ w' = w := by
  go_enter Try.func23, Try.ntmps23
  go_wp2
  go_ret
  exact ⟨rfl, rfl⟩

/-- How many pages hold so many bytes. -/
def pagesOf (m : Nat) : Nat := (m + 255) / 256

set_option maxHeartbeats 1600000 in
set_option maxRecDepth 100000 in
theorem image_any {w : World} (A : Option Addr) (m c : Nat) (l : List UInt8) (hr : Rd w A l) (hl : l.length = m) (hm : m ≤ 131072) :
    Calls Try.prog 25 #[.slice A m c] w fun e w' =>
      ∃ b, e = .returned (.tuple #[.pointer (some ⟨b, 0, none⟩), .int .i64 0]) ∧ Dev w' b (pagesOf m) (l ++ List.replicate (pagesOf m * 256 - m) 0) [] (fun i => w.heap.size ≤ i) ∧ Below w.heap.size w w' := by
  have hq : pagesOf m ≤ 512 := by unfold pagesOf; omega
  have hq2 : m ≤ pagesOf m * 256 := by unfold pagesOf; omega
  obtain ⟨q, hqe⟩ : ∃ q, q = pagesOf m := ⟨_, rfl⟩
  have hdiv : ((m : Int) + 256 - 1).tdiv 256 = (q : Int) := by rw [Int.tdiv_eq_ediv_of_nonneg (by omega), hqe]; unfold pagesOf; omega
  have hdiv2 : ((m : Int) + 255) / 256 = (q : Int) := by rw [hqe]; unfold pagesOf; omega
  rw [← hqe] at hq hq2 ⊢
  have HL := Lib.hid hl
  have HR := Lib.hid hr
  clear hl hr hqe
  go_enter Try.func25, Try.ntmps25
  go_wp2_with fail
  refine (new_any _ w).mono ?_
  rintro e w1 ⟨b, rfl, hd, hb⟩
  rw [pagesN_of q hq] at hd
  obtain ⟨g, v, hat, hF⟩ := hd
  have h0 := cell_at hat.box 0 (.slice (some ⟨g, 0, none⟩) (q * 256) (q * 256)) rfl
  obtain ⟨w2, hrun, hrow2, hgr2⟩ := run_copy_mid (g := g) (off := 0) (d := q * 256) (c := q * 256) (m := m) (mc := c) 3 hat.row (HR.out.below hb) (by rw [HL.out, show Nat.min m (q * 256) = min m (q * 256) from rfl]; omega) (by rw [HL.out]; simpa using hq2)
  rw [HL.out] at hrun
  have HAT := Lib.hid hat
  have HF := Lib.hid hF
  have HB := Lib.hid hb
  have HR2 := Lib.hid hrow2
  have HG2 := Lib.hid hgr2
  clear hat hF hb hrow2 hgr2
  go_wp2
  go_ret2
  have hgr := HG2.out
  have hb1 : Below w.heap.size w w2 := below_only HB.out hgr HB.out.size ((HF.out g (.inr (.inl rfl))).1)
  refine ⟨b, rfl, ⟨g, v, ⟨(hgr.block b (lt_of_block HAT.out.box) (fun e => HAT.out.bg (by cases e; rfl))).trans HAT.out.box, ?_, HAT.out.own.keep (fun i hi hl => hgr.block i hl (fun e => HAT.out.gv (by cases e; exact hi))), ?_, HAT.out.small, HAT.out.fits, HAT.out.bg, HAT.out.bv, HAT.out.gv⟩, fun i hi => ⟨(HF.out i hi).1, Nat.lt_of_lt_of_le (HF.out i hi).2 hgr.size⟩⟩, hb1⟩
  · rw [HR2.out]
    congr 4
    unfold splice
    rw [List.take_zero, List.nil_append, List.drop_replicate, HL.out, Nat.zero_add]
  · rw [List.length_append, List.length_replicate, HL.out]
    omega

end Go.Proofs.Ythjgcbpanfiacaa
