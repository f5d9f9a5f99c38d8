/-
  Words for memory (bytes as cells, a slice of bytes that can be read), and the contract of fix.withRoom: a copy of the given bytes in a new row with room behind them; conditions: the slice can be read, the room is not negative, the row stays within 2^48 bytes.
-/
import Derived.Test.YtcgmaiadipiegaaDoorRows
import Derived.Test.YtcgmaiadipiegaaDoorBytes
import Derived.WalkKit
import Derived.WalkSpells
import Derived.WalkLawsBesides
import Derived.Lib.Hide
import Derived.Laws.CopyOwn
import Derived.Laws.IdiomStrings
import Derived.Deep.DeepAppendRoom
import Derived.Deep.QuietTactic
import Derived.BigQuiet
import Derived.OwnWalk
namespace Go.Proofs.YtcgmaiadipiegaaDoor
open Go.RowKit

set_option maxHeartbeats 400000 in
/-- fix.withRoom. -/
theorem withRoom_any (A : Option Addr) (n c : Nat) (l : List UInt8) (room : Int) (w : World) (hr : Rd w A l) (hn : l.length = n) (h0 : 0 ≤ room) (hb : (n : Int) + room ≤ 281474976710656) :
    Calls Tryd.prog 37 #[.slice A n c, .int .i64 room] w fun e w' =>
      e = .returned (.slice (some ⟨w.heap.size, 0, none⟩) n (n + room.toNat)) ∧ w'.ownsRow w.heap.size 5 1 (.slice (some ⟨w.heap.size, 0, none⟩) n (n + room.toNat)) n (bcells l) ∧ Below w.heap.size w w' := by
  obtain ⟨r, rfl⟩ := Int.eq_ofNat_of_zero_le h0
  have hmk : ∀ w : World, (Instr.makeSlice 25 (.int .i64 (n : Int)) (.int .i64 ((n : Int) + (r : Int)))).run Tryd.prog w =
      .ok (.slice (some ⟨w.heap.size, 0, none⟩) n (n + r)) (w.alloc (.cells (madeCells #[.int .u8 0] (n + r)) 5)) := by
    intro w
    have := run_make_bytes n (n + r) (by omega) (by omega) w
    rwa [Int.natCast_add] at this
  obtain ⟨Z, hZ⟩ : ∃ Z, Z = List.replicate (n + r) (Value.int .u8 0) := ⟨_, rfl⟩
  rw [made_list, ← hZ] at hmk
  have hZl : Z.length = n + r := by rw [hZ]; simp
  have HZl := Lib.hid hZl
  have Hn := Lib.hid hn
  clear hZl hZ hn
  have H2 : Hid ((bcells l).length = Nat.min n n) := by
    show (bcells l).length = Nat.min n n
    rw [bcells_length, Hn.out]; simp
  have H3 : Hid (0 < (bcells l).length → (some ⟨w.heap.size, 0, none⟩ : Option Addr) = some ⟨w.heap.size, 0, none⟩ ∧ ∃ ad, A = some ad ∧ ∀ j v, (bcells l)[j]? = some v → (w.alloc (.cells Z.toArray 5)).cell? (ad.add j) = some v) := by
    intro hp
    rw [bcells_length] at hp
    obtain ⟨ad, e, hlt, hc⟩ := hr hp
    exact ⟨rfl, ad, e, fun j v hv => (World.cell?_alloc_lt w _ _ (by rw [block_of_add]; exact hlt)).trans (hc j v hv)⟩
  have H4 : Hid (0 + (bcells l).length ≤ Z.length) := by
    show 0 + (bcells l).length ≤ Z.length
    rw [bcells_length, Hn.out, HZl.out]; omega
  rw [Int.toNat_natCast]
  go_enter Tryd.func37, Tryd.ntmps37
  go_wp2_with ((with_reducible refine wpList_copy_splice rfl (.tmp 13) (.tmp 14) 25 25 rfl 5 Tryd.underlying25 (by kernel_rfl) _ _ _ _ _ _ rfl rfl w.heap.size 0 Z 5 (heap_alloc_new w _) (bcells l) H2.out H3.out H4.out (bcells_one l) w.heap.size w ((Below.refl _ _).alloc (Nat.le_refl _) _) (Nat.le_refl _) ?_); intro w2 HG2 hB2)
  go_ret
  refine ⟨rfl, ⟨by rw [bcells_length, Hn.out]; simp, .inr ⟨w.heap.size, n + r, _, rfl, Nat.le_refl _, HG2.out, by omega, by simp only [maxLen]; omega, ?_, ?_⟩⟩, hB2⟩
  · rw [List.size_toArray, length_splice _ _ _ (by rw [bcells_length, Hn.out, HZl.out]; omega), HZl.out]; simp
  · have := take_splice Z (bcells l)
    rw [bcells_length, Hn.out] at this
    simpa using this

end Go.Proofs.YtcgmaiadipiegaaDoor
