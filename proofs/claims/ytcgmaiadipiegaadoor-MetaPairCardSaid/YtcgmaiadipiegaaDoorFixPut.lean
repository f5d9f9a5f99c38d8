/-
  The contracts of fix.Put16, Put32 and PutText: the given bytes with the encoding behind them, in a new row; conditions: the slice can be read, and all bytes together stay within 2^48.
-/
import Derived.Test.YtcgmaiadipiegaaDoorBytes
import Derived.Test.YtcgmaiadipiegaaDoorFixMem
import Derived.Room.AppendFits
namespace Go.Proofs.YtcgmaiadipiegaaDoor
open Go.RowKit
set_option linter.unusedVariables false

/-- A number in two bytes, in four bytes. -/
def be16 (x : Int) : List UInt8 := [b8 (x / 256), b8 x]
def be32 (x : Int) : List UInt8 := [b8 (x / 16777216), b8 (x / 65536), b8 (x / 256), b8 x]
theorem bcells_be16 (x : Int) : bcells (be16 x) = [.int .u8 (x / 256 % 256), .int .u8 (x % 256)] := by simp [bcells, be16, u8_b8]
theorem bcells_be32 (x : Int) : bcells (be32 x) = [.int .u8 (x / 16777216 % 256), .int .u8 (x / 65536 % 256), .int .u8 (x / 256 % 256), .int .u8 (x % 256)] := by simp [bcells, be32, u8_b8]

set_option maxHeartbeats 400000 in
theorem put16_any (A : Option Addr) (n c : Nat) (l : List UInt8) (x : Int) (w : World) (hr : Rd w A l) (hn : l.length = n) (hb : n ≤ 281474976710000) (hx : -9223372036854775808 ≤ x) (hx2 : x ≤ 9223372036854775807) :
    Calls Tryd.prog 36 #[.slice A n c, .int .i64 x] w fun e w' =>
      e = .returned (.slice (some ⟨w.heap.size, 0, none⟩) (n + 2) (n + 2)) ∧ w'.ownsRow w.heap.size 5 1 (.slice (some ⟨w.heap.size, 0, none⟩) (n + 2) (n + 2)) (n + 2) (bcells (l ++ be16 x)) ∧ Below w.heap.size w w' := by
  have Hn := Lib.hid hn
  clear hn
  obtain ⟨i0, hi0, hz0, hz1, hz2⟩ := info_parts u8info
  rw [bcells_append, bcells_be16]
  go_enter Tryd.func36, Tryd.ntmps36
  go_wp2_with (first
    | (go_at_call 37; ((with_reducible refine (withRoom_any A n c l 2 _ hr Hn.out (by omega) (by omega)).mono ?_); rintro e w1 ⟨rfl, hown, hb1⟩))
    | (at_builtin; (refine wpList_append_own_spare _ rfl (.tmp 6) (.tmp 12) _ rfl w.heap.size 5 i0 1 Tryd.underlying25 hi0 hz1 w.heap.size n (n + 2) (bcells l) rfl (World.ownsRow.alloc hown _) ⟨w1.heap.size, 0, none⟩ 2 2 [.int .u8 (x / 256 % 256), .int .u8 (x % 256)] rfl rfl (new_row w1 _ _) (by simp [Value.oneCell']) (Nat.le_refl _) ?_); intro w2 hown2 hg2))
  go_ret
  exact ⟨rfl, hown2, (hb1.alloc hb1.size _).grown hg2 (Nat.le_trans hb1.size (by simp)) (fun k hk => by cases hk; exact Nat.le_refl _)⟩

set_option maxHeartbeats 400000 in
theorem put32_any (A : Option Addr) (n c : Nat) (l : List UInt8) (x : Int) (w : World) (hr : Rd w A l) (hn : l.length = n) (hb : n ≤ 281474976710000) (hx : -9223372036854775808 ≤ x) (hx2 : x ≤ 9223372036854775807) :
    Calls Tryd.prog 27 #[.slice A n c, .int .i64 x] w fun e w' =>
      e = .returned (.slice (some ⟨w.heap.size, 0, none⟩) (n + 4) (n + 4)) ∧ w'.ownsRow w.heap.size 5 1 (.slice (some ⟨w.heap.size, 0, none⟩) (n + 4) (n + 4)) (n + 4) (bcells (l ++ be32 x)) ∧ Below w.heap.size w w' := by
  have Hn := Lib.hid hn
  clear hn
  obtain ⟨i0, hi0, hz0, hz1, hz2⟩ := info_parts u8info
  rw [bcells_append, bcells_be32]
  go_enter Tryd.func27, Tryd.ntmps27
  go_wp2_with (first
    | (go_at_call 37; ((with_reducible refine (withRoom_any A n c l 4 _ hr Hn.out (by omega) (by omega)).mono ?_); rintro e w1 ⟨rfl, hown, hb1⟩))
    | (at_builtin; (refine wpList_append_own_spare _ rfl (.tmp 6) (.tmp 18) _ rfl w.heap.size 5 i0 1 Tryd.underlying25 hi0 hz1 w.heap.size n (n + 4) (bcells l) rfl (World.ownsRow.alloc hown _) ⟨w1.heap.size, 0, none⟩ 4 4 [.int .u8 (x / 16777216 % 256), .int .u8 (x / 65536 % 256), .int .u8 (x / 256 % 256), .int .u8 (x % 256)] rfl rfl (new_row w1 _ _) (by simp [Value.oneCell']) (Nat.le_refl _) ?_); intro w2 hown2 hg2))
  go_ret
  exact ⟨rfl, hown2, (hb1.alloc hb1.size _).grown hg2 (Nat.le_trans hb1.size (by simp)) (fun k hk => by cases hk; exact Nat.le_refl _)⟩


theorem bcells_be16_nat (m : Nat) (h : m ≤ 65535) : bcells (be16 (m : Int)) = [.int .u8 ((m : Int) / 256), .int .u8 ((m : Int) % 256)] := by
  rw [bcells_be16, show (m : Int) / 256 % 256 = (m : Int) / 256 from by omega]

/-- What of a text is put. -/
def textB (t : ByteArray) : ByteArray := if t.size ≤ 65535 then t else t.extract 0 65535
theorem textB_size (t : ByteArray) : (textB t).size ≤ 65535 := by
  unfold textB
  split
  · assumption
  · simp; omega

end Go.Proofs.YtcgmaiadipiegaaDoor
