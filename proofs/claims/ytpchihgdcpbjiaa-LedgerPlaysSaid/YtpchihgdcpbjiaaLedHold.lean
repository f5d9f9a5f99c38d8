/-
  The contracts of the ledger's marked, hold, Commit and Reset, of a ledger and of none; conditions stand at each.
-/
import Derived.Test.YtpchihgdcpbjiaaLedInts
namespace Go.Proofs.Ytpchihgdcpbjiaa
open Go.RowKit Go.Sort
set_option linter.unusedVariables false
set_option linter.unusedSimpArgs false

theorem ba_at (f : Nat → Bool) {i : Nat} (h : i < 512) : (ba f)[i]? = some (.bool (f i)) := by
  unfold ba
  rw [List.getElem?_toArray]
  exact bl_at f h
theorem ba_mark (f : Nat → Bool) {k : Nat} (hk : k < 512) : (ba f).setIfInBounds k (.bool true) = ba (mark1 f k) := by
  rw [← Array.toList_inj, Array.toList_setIfInBounds, ba_list, ba_list, bl_mark f hk]
theorem ba_range {w : World} {g : Nat} {f : Nat → Bool} {t : TypeId} (h : w.heap[g]? = some (.cells (ba f) t (0, 0))) : w.rangeAt g 0 (bl f) := fun j u hu => by
  rw [Nat.zero_add, cell_of_block h]
  unfold ba
  rw [List.getElem?_toArray]
  exact hu
theorem ba_there {w : World} {g : Nat} {f : Nat → Bool} {t : TypeId} (h : w.heap[g]? = some (.cells (ba f) t (0, 0))) (f' : Nat → Bool) : w.there g 0 (ba f').size := fun j hj => by
  rw [ba_size] at hj
  refine ⟨?_, free_at h _⟩
  rw [Nat.zero_add, cell_of_block h, ba_at f hj]
  rfl
theorem ba_over {w : World} {g : Nat} {f : Nat → Bool} {t : TypeId} (h : w.heap[g]? = some (.cells (ba f) t (0, 0))) (f' : Nat → Bool) : (w.setCells g 0 (ba f').toList).heap[g]? = some (.cells (ba f') t (0, 0)) := by
  obtain ⟨ds, h1, h2, h3⟩ := setCells_block g t (ba f').toList 0 w (ba f) h
  have : ds = ba f' := by
    apply Array.ext_getElem?
    intro j
    rw [h3 j, ba_size, ba_list, bl_len]
    by_cases hj : j < 512
    · rw [if_pos (by omega), Nat.sub_zero, bl_at f' hj, ba_at f' hj]
    · rw [if_neg (by omega), Array.getElem?_eq_none (by rw [ba_size]; omega), Array.getElem?_eq_none (by rw [ba_size]; omega)]
  rw [this] at h1
  exact h1

theorem wpl_load_marks {ops : Array Oper} {rest : List Oper} {op : Oper} {a : Act} {w : World} {Q : Exit → Act → World → Prop} (hgd : op.guard = none) (x : Operand) (ho : op.op = .load 48 x)
    (b q : Nat) (hx : a.eval x = .pointer (some ⟨b, q, none⟩)) {f : Nat → Bool} (hc : w.rangeAt b q (bl f)) (h : wpList Try.prog ops Q rest (a.put op.dst (.agg (ba f))) w) : wpList Try.prog ops Q (op :: rest) a w :=
  wpList_load_mid hgd 48 x ho b q hx (bl f) _ hc Try.underlying48 rfl (minfo_bl f) h
theorem wpl_store_marks {ops : Array Oper} {rest : List Oper} {op : Oper} {a : Act} {w : World} {Q : Exit → Act → World → Prop} (hgd : op.guard = none) (x y : Operand) (ho : op.op = .store 48 x y)
    (b q : Nat) (f : Nat → Bool) (hx : a.eval x = .pointer (some ⟨b, q, none⟩)) (hy : a.eval y = .agg (ba f)) (ht : w.there b q (ba f).size) (h : wpList Try.prog ops Q rest (a.put op.dst undef) (w.setCells b q (ba f).toList)) : wpList Try.prog ops Q (op :: rest) a w :=
  wpList_store_mid hgd 48 x y ho b q (ba f) hx hy ht (minfo_arr f) (all_oneCell_toArray (bl_one f)) h

set_option maxRecDepth 100000 in
set_option maxHeartbeats 2000000 in
theorem ldMarked_any {w : World} {b n : Nat} {o v t : Nat → Bool} (hd : Led w b n o v t) {A : Option Addr} {m c : Nat} {l : List Int} (ha : ArgI w A m c l) :
    Calls Try.prog 26 #[.pointer (some ⟨b, 0, none⟩), .slice A m c] w fun e w' => e = .returned (.agg (ba (memB n l))) ∧ Below w.heap.size w w' := by
  have hs := hd.small
  have HD := Lib.hid hd
  obtain ⟨hlen, hcap, hbd, hls, hok⟩ := ha
  have HL := Lib.hid hlen
  have HLS := Lib.hid hls
  clear hd hok hlen hls
  have hz := (zero_of_info mzero).1
  go_enter Try.func26, Try.ntmps26
  go_wp2
  clear hz
  go_loopw [10] (fun i wr => ∃ k : Nat, k ≤ m ∧ i = .int .i64 k ∧ Hid (wr.heap[w.heap.size]? = some (.cells (ba noMark) 48 (0, 0))) ∧ Hid (wr.heap[w.heap.size + 1]? = some (.cells (ba (memB n (l.take k))) 48 (0, 0))) ∧ Hid (Below w.heap.size w wr)) (fun i _ => m - (intOf i).toNat)
  case atStart =>
    refine ⟨0, Nat.zero_le _, rfl, Lib.hid ?_, Lib.hid ?_, Lib.hid ?_⟩
    · rw [Below.heap_alloc _ _ _ (by simp)]
      exact heap_alloc_new w _
    · rw [List.take_zero, memB_nil]
      have := heap_alloc_new (w.alloc (.cells (ba noMark) 48)) (.cells (ba noMark) 48 (0, 0))
      rwa [show (w.alloc (.cells (ba noMark) 48)).heap.size = w.heap.size + 1 by simp] at this
    · exact ((Below.refl _ _).alloc (Nat.le_refl _) _).alloc (by simp) _
  case round =>
    obtain ⟨k, hk, rfl, HG0, HG, HB⟩ := hrel
    by_cases hlt : k < m
    · obtain ⟨ad, x, rfl, hx, hl, hc⟩ := (HLS.out.below HB.out).atI (i := k) (by rw [HL.out]; exact hlt)
      have HX := Lib.hid (show l.take (k + 1) = l.take k ++ [x] by rw [List.take_add_one, hx]; rfl)
      clear hx
      go_wp2_with fail
      refine (ldAlloc_any (HD.out.below HB.out) x).mono ?_
      rintro e w1 ⟨rfl, rfl⟩
      cases hp : okPg n x
      · have HP := Lib.hid hp
        clear hp
        go_wp2
        exact ⟨⟨k + 1, by omega, by go_num, HG0, Lib.hid (by rw [HX.out, memB_snoc_no HP.out]; exact HG.out), HB⟩, by simp [intOf]; omega⟩
      · have hx2 : 2 ≤ x ∧ x < n := by simpa [okPg] using hp
        have HP := Lib.hid hp
        clear hp
        obtain ⟨j, rfl⟩ : ∃ j : Nat, x = j := ⟨x.toNat, by omega⟩
        have hj : (j : Int) < 512 := by omega
        have hc2 := cell_at HG.out j _ (ba_at _ (by omega))
        have hf2 := free_at HG.out j
        go_wp2
        refine ⟨⟨k + 1, by omega, by go_num, Lib.hid ?_, Lib.hid ?_, Lib.hid ?_⟩, by simp [intOf]; omega⟩
        · exact (Below.heap_setCell _ _ _ _ (by show w.heap.size ≠ w.heap.size + 1; omega)).trans HG0.out
        · rw [HX.out, memB_snoc_ok HP.out, Int.toNat_natCast, ← ba_mark _ (by omega)]
          exact blk_set HG.out j _
        · exact HB.out.setCell (by show w.heap.size ≤ w.heap.size + 1; omega) _
    · have he : k = m := by omega
      subst he
      have hr := ba_range HG.out
      rw [show l.take k = l by rw [← HL.out]; exact List.take_length] at hr
      have HR := Lib.hid hr
      have HT := Lib.hid (ba_there HG0.out (memB n l))
      have HE := Lib.hid (show (wr.setCells w.heap.size 0 (ba (memB n l)).toList).heap[w.heap.size]? = some (.cells (ba (memB n l)) 48 (0, 0)) ∧ Below w.heap.size w (wr.setCells w.heap.size 0 (ba (memB n l)).toList) from ⟨ba_over HG0.out _, HB.out.trans (((Keep.refl (fun i => i = w.heap.size) wr).cells (.inl rfl)).below HB.out.size (by omega))⟩)
      clear hr
      go_wp2_with (first | (refine wpl_load_marks rfl (.tmp 5) rfl (w.heap.size + 1) 0 rfl HR.out ?_) | (refine wpl_store_marks rfl (.tmp 4) (.tmp 20) rfl w.heap.size 0 (memB n l) rfl rfl HT.out ?_))
      exact bodyPost_ret (results_cell_row rfl _ _ _ _ _ (0, 0) _ rfl HE.out.1 Try.underlying48 rfl (minfo_arr _)) rfl ⟨rfl, HE.out.2⟩

end Go.Proofs.Ytpchihgdcpbjiaa
