/-
  The contracts of the reference's Bytes, Encode and Decode of layer 6: the encoding as a string, the meta page of a string; conditions: numbers of 64 bits, strings of at most 2^46 bytes.
-/
import Derived.Test.YtcgmaiadipiegaaDoorMetaTake
import Derived.Test.YtcgmaiadipiegaaDoorSumRef
namespace Go.Proofs.YtcgmaiadipiegaaDoor
open Go.RowKit Go.Sort
set_option linter.unusedVariables false
set_option linter.unusedSimpArgs false

theorem ba_list (a b : ByteArray) : (a ++ b).data.toList = a.data.toList ++ b.data.toList := by rw [ByteArray.data_append]; simp
theorem ba_ext {a b : ByteArray} (h : a.data.toList = b.data.toList) : a = b := by
  cases a; cases b
  congr 1
  exact Array.toList_inj.1 h
/-- A number as a string that has these bytes. -/
theorem number4_s (w : World) (n : Int) (hn : I64 n) :
    Calls Tryd.prog 39 #[.int .i64 n, .int .i64 4] w fun e w' => ∃ s : ByteArray, e = .returned (.string s) ∧ s.size = 4 ∧ s.data.toList = be32 n ∧ Below w.heap.size w w' := by
  refine (number_any w n 4 (by omega) (by omega) hn.1 hn.2).mono ?_
  rintro e w' ⟨rfl, hb⟩
  refine ⟨_, rfl, ?_, ?_, hb⟩
  · show (numL n 4).toArray.size = 4
    rw [List.size_toArray, numL_length]
  · show (numL n 4).toArray.toList = be32 n
    rw [numL_4]
theorem number2_s (w : World) (n : Int) (hn : I64 n) :
    Calls Tryd.prog 39 #[.int .i64 n, .int .i64 2] w fun e w' => ∃ s : ByteArray, e = .returned (.string s) ∧ s.size = 2 ∧ s.data.toList = be16 n ∧ Below w.heap.size w w' := by
  refine (number_any w n 2 (by omega) (by omega) hn.1 hn.2).mono ?_
  rintro e w' ⟨rfl, hb⟩
  refine ⟨_, rfl, ?_, ?_, hb⟩
  · show (numL n 2).toArray.size = 2
    rw [List.size_toArray, numL_length]
  · show (numL n 2).toArray.toList = be16 n
    rw [numL_2]
theorem refSeal_s (b : ByteArray) (w : World) (hb : b.size ≤ 140737488351200) :
    Calls Tryd.prog 40 #[.string b] w fun e w' => ∃ s : ByteArray, e = .returned (.string s) ∧ s.size = b.size + 4 ∧ s.data.toList = Crc.sealed b.data.toList ∧ Below w.heap.size w w' := by
  refine (refSeal_any b w hb).mono ?_
  rintro e w' ⟨rfl, hb⟩
  refine ⟨_, rfl, ?_, rfl, hb⟩
  show (Crc.sealed b.data.toList).toArray.size = b.size + 4
  rw [List.size_toArray, Crc.sealed_length]
  rfl

def MBytesPost (w : World) (m : MT) (e : Ending) (w' : World) : Prop := (∃ s : ByteArray, e = .returned (.string s) ∧ s.size = 256 ∧ s.data.toList = encM m) ∧ Below w.heap.size w w'

def strLen : Value → Nat
  | .string s => s.size
  | _ => 0

set_option maxRecDepth 100000 in
set_option maxHeartbeats 1000000 in
theorem mtRefBytes_any (m : MT) (w : World) (hm : MI m) : Calls Tryd.prog 29 #[metaV m] w (MBytesPost w m) := by
  obtain ⟨x, y⟩ := m
  have HX : Hid (I64 x) := Lib.hid hm.1
  have HY : Hid (I64 y) := Lib.hid hm.2
  clear hm
  unfold metaV
  simp only
  obtain ⟨W, hW⟩ : ∃ W, W = (w.alloc (.cells #[.int .i64 x, .int .i64 y] 23)).drew := ⟨_, rfl⟩
  have hbW : Below w.heap.size w W := by rw [hW]; exact ((Below.refl _ _).alloc (Nat.le_refl _) _).drew
  have hz : W.heap[w.heap.size]? = some (.cells #[.int .i64 x, .int .i64 y] 23 (0, 0)) := by rw [hW]; exact heap_alloc_new w _
  have hs : w.heap.size < W.heap.size := lt_of_block hz
  have q0 := cell_later (cell_at hz 0 (.int .i64 x) rfl) hs
  have q1 := cell_later (cell_at hz 1 (.int .i64 y) rfl) hs
  have HZ := Lib.hid hz
  have HW := Lib.hid hW
  clear hW hz
  go_enter Tryd.func29, Tryd.ntmps29
  go_wp2
  refine wp_region_segs [([0, 1, 4, 5], 2), ([3], 6)] [7, 8] (by kernel_rfl) (by kernel_rfl) (by kernel_rfl) (by kernel_rfl) (by intro c a d v w h; cases d <;> exact h) ?_
  rw [← HW.out]
  refine wpSegs_more ?_
  simp only [pick, List.getElem?_cons_zero, List.getElem?_cons_succ]
  repeat (first | go_big_quiet_step (fail) | quiet_step (fail))
  refine wpQuiet_nil ?_
  refine wpOp_heavy rfl (by rfl) (fun K hK => ?_)
  go_simp
  refine (number4_s W x HX.out).mono ?_
  rintro e w1 ⟨s1, rfl, hl1, hs1, hb1⟩
  have H1 := Lib.hid hs1
  have HL1 := Lib.hid hl1
  refine hK _ _ hb1 ?_
  clear hK K hs1 q0 q1
  refine wpSegs_more ?_
  simp only [pick, List.getElem?_cons_zero, List.getElem?_cons_succ]
  repeat (first | go_big_quiet_step (fail) | quiet_step (fail))
  refine wpQuiet_nil ?_
  refine wpOp_heavy rfl (by rfl) (fun K hK => ?_)
  go_simp
  refine (number2_s w1 y HY.out).mono ?_
  rintro e w2 ⟨s2, rfl, hl2, hs2, hb2⟩
  have H2 := Lib.hid hs2
  have HL2 := Lib.hid hl2
  have hb02 : Below W.heap.size W w2 := bthen hb1 hb2
  refine hK _ _ hb2 ?_
  clear hK K hs2 hb1 hb2
  refine wpSegs_last ?_
  simp only [pick, List.getElem?_cons_zero, List.getElem?_cons_succ]
  repeat (first | go_big_quiet_step (fail) | quiet_step (fail))
  refine wpQuiet_nil ?_
  have hz2 := (hb02.block _ hs).trans HZ.out
  have hbw2 := bthen hbW hb02
  have HZ2 := Lib.hid hz2
  clear hb02 hz2 HZ
  go_wp2
  go_loopw [3] (fun v wr => ∃ (s : ByteArray) (k : Nat), v = .string s ∧ k ≤ 235 ∧ s.size = 13 + k ∧ Hid (s.data.toList = contM ⟨x, y⟩ ++ List.replicate k 0) ∧ wr = w2) (fun v _ => 248 - strLen v)
  case atStart =>
    refine ⟨_, 0, rfl, Nat.zero_le _, ?_, ?_, rfl⟩
    · have h1 := HL1.out
      have h2 := HL2.out
      simp [ByteArray.size_append]
      rw [h1, h2]
      rfl
    · show _ = _
      rw [ba_list, ba_list, H1.out, H2.out, List.replicate_zero, List.append_nil]
      rfl
  case round =>
    obtain ⟨s, k, rfl, hk, hsz, HS, rfl⟩ := hrel
    by_cases hlt : k < 235
    · have HS2 : Hid ((s ++ ⟨#[0]⟩).data.toList = contM ⟨x, y⟩ ++ List.replicate (k + 1) 0) := by
        show _ = _
        rw [ba_list, HS.out, List.append_assoc, List.replicate_succ']
      have HZs : Hid ((s ++ ⟨#[0]⟩ : ByteArray).size = 13 + (k + 1)) := by
        show _ = _
        rw [ByteArray.size_append, hsz]
        rfl
      have hs248 : s.size < 248 := by omega
      have HM : Hid (248 - (s ++ ⟨#[0]⟩ : ByteArray).size < 248 - s.size) := by
        show _ < _
        rw [HZs.out]
        omega
      clear HS hsz
      go_wp2
      exact ⟨⟨_, k + 1, rfl, by omega, HZs.out, HS2, trivial⟩, HM.out⟩
    · have hk' : k = 235 := by omega
      subst hk'
      have hs248 : 248 ≤ s.size := by omega
      have hsm : s.size ≤ 140737488351200 := by omega
      have Hsz := Lib.hid hsz
      have HSD : Hid (s.data.toList = bodyM ⟨x, y⟩) := HS
      clear hsz HS
      obtain ⟨U, hU⟩ : ∃ U, U = wr.drew := ⟨_, rfl⟩
      have hzU : U.heap[w.heap.size]? = some (.cells #[.int .i64 x, .int .i64 y] 23 (0, 0)) := by rw [hU]; exact HZ2.out
      have hbU : Below w.heap.size w U := by rw [hU]; exact hbw2.drew
      have hsU : w.heap.size < U.heap.size := lt_of_block hzU
      have q0 := cell_later (cell_at hzU 0 (.int .i64 x) rfl) hsU
      have HU := Lib.hid hU
      clear hU hzU
      go_wp2
      refine wp_region_segs [([0, 2, 3], 1), ([], 4)] [5, 6] (by kernel_rfl) (by kernel_rfl) (by kernel_rfl) (by kernel_rfl) (by intro c a d v w h; cases d <;> exact h) ?_
      rw [← HU.out]
      refine wpSegs_more ?_
      simp only [pick, List.getElem?_cons_zero, List.getElem?_cons_succ]
      repeat (first | go_big_quiet_step (fail) | quiet_step (fail))
      refine wpQuiet_nil ?_
      refine wpOp_heavy rfl (by rfl) (fun K hK => ?_)
      go_simp
      refine (refSeal_s s U hsm).mono ?_
      rintro e w4 ⟨s4, rfl, hl4, hs4, hb4⟩
      have H4 := Lib.hid hs4
      have HL4 := Lib.hid hl4
      refine hK _ _ hb4 ?_
      clear hK K hs4 q0
      refine wpSegs_more ?_
      simp only [pick]
      refine wpQuiet_nil ?_
      refine wpOp_heavy rfl (by rfl) (fun K hK => ?_)
      go_simp
      refine (number4_s w4 x HX.out).mono ?_
      rintro e w5 ⟨s5, rfl, hl5, hs5, hb5⟩
      have H5 := Lib.hid hs5
      have HL5 := Lib.hid hl5
      have hb05 := bthen hbU (bthen hb4 hb5)
      refine hK _ _ hb5 ?_
      clear hK K hs5 hb4 hb5
      refine wpSegs_last ?_
      simp only [pick, List.getElem?_cons_zero, List.getElem?_cons_succ]
      repeat (first | go_big_quiet_step (fail) | quiet_step (fail))
      refine wpQuiet_nil ?_
      go_wp2
      go_ret
      refine ⟨⟨_, rfl, ?_, ?_⟩, hb05⟩
      · rw [ByteArray.size_append, HL4.out, HL5.out, Hsz.out]
      · rw [ba_list, H4.out, H5.out, HSD.out]
        rfl

end Go.Proofs.YtcgmaiadipiegaaDoor
