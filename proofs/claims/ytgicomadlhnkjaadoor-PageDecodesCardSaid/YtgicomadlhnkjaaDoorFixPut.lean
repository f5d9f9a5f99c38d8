/-
  The contracts of fix.Put16, Put32 and PutText: the given bytes with the encoding behind them, in a new row; conditions: the slice can be read, and all bytes together stay within 2^48.
-/
import Derived.Test.YtgicomadlhnkjaaDoorBytes
import Derived.Test.YtgicomadlhnkjaaDoorFixMem
import Derived.Room.AppendFits
namespace Go.Proofs.YtgicomadlhnkjaaDoor
open Go.RowKit
set_option linter.unusedVariables false

/-- A number in two bytes, in four bytes. -/
def be16 (x : Int) : List UInt8 := [b8 (x / 256), b8 x]
def be32 (x : Int) : List UInt8 := [b8 (x / 16777216), b8 (x / 65536), b8 (x / 256), b8 x]
theorem bcells_be16 (x : Int) : bcells (be16 x) = [.int .u8 (x / 256 % 256), .int .u8 (x % 256)] := by simp [bcells, be16, u8_b8]
theorem bcells_be32 (x : Int) : bcells (be32 x) = [.int .u8 (x / 16777216 % 256), .int .u8 (x / 65536 % 256), .int .u8 (x / 256 % 256), .int .u8 (x % 256)] := by simp [bcells, be32, u8_b8]

set_option maxHeartbeats 400000 in
theorem put16_any (A : Option Addr) (n c : Nat) (l : List UInt8) (x : Int) (w : World) (hr : Rd w A l) (hn : l.length = n) (hb : n ≤ 281474976710000) (hx : -9223372036854775808 ≤ x) (hx2 : x ≤ 9223372036854775807) :
    Calls Tryd.prog 37 #[.slice A n c, .int .i64 x] w fun e w' =>
      e = .returned (.slice (some ⟨w.heap.size, 0, none⟩) (n + 2) (n + 2)) ∧ w'.ownsRow w.heap.size 5 1 (.slice (some ⟨w.heap.size, 0, none⟩) (n + 2) (n + 2)) (n + 2) (bcells (l ++ be16 x)) ∧ Below w.heap.size w w' := by
  have Hn := Lib.hid hn
  clear hn
  obtain ⟨i0, hi0, hz0, hz1, hz2⟩ := info_parts u8info
  rw [bcells_append, bcells_be16]
  go_enter Tryd.func37, Tryd.ntmps37
  go_wp2_with (first
    | (go_at_call 52; ((with_reducible refine (withRoom_any A n c l 2 _ hr Hn.out (by omega) (by omega)).mono ?_); rintro e w1 ⟨rfl, hown, hb1⟩))
    | (at_builtin; (refine wpList_append_own_spare _ rfl (.tmp 6) (.tmp 12) _ rfl w.heap.size 5 i0 1 Tryd.underlying28 hi0 hz1 w.heap.size n (n + 2) (bcells l) rfl (World.ownsRow.alloc hown _) ⟨w1.heap.size, 0, none⟩ 2 2 [.int .u8 (x / 256 % 256), .int .u8 (x % 256)] rfl rfl (new_row w1 _ _) (by simp [Value.oneCell']) (Nat.le_refl _) ?_); intro w2 hown2 hg2))
  go_ret
  exact ⟨rfl, hown2, (hb1.alloc hb1.size _).grown hg2 (Nat.le_trans hb1.size (by simp)) (fun k hk => by cases hk; exact Nat.le_refl _)⟩

theorem bcells_be16_nat (m : Nat) (h : m ≤ 65535) : bcells (be16 (m : Int)) = [.int .u8 ((m : Int) / 256), .int .u8 ((m : Int) % 256)] := by
  rw [bcells_be16, show (m : Int) / 256 % 256 = (m : Int) / 256 from by omega]

set_option maxHeartbeats 400000 in
theorem putText_short (A : Option Addr) (n c : Nat) (l : List UInt8) (t : ByteArray) (w : World) (hr : Rd w A l) (hn : l.length = n) (hb : n ≤ 281474976640000) (hs : t.size ≤ 65535) :
    Calls Tryd.prog 38 #[.slice A n c, .string t] w fun e w' =>
      e = .returned (.slice (some ⟨w.heap.size, 0, none⟩) (n + 2 + t.size) (n + (2 + t.size))) ∧ w'.ownsRow w.heap.size 5 1 (.slice (some ⟨w.heap.size, 0, none⟩) (n + 2 + t.size) (n + (2 + t.size))) (n + 2 + t.size) (bcells (l ++ be16 t.size ++ t.data.toList)) ∧ Below w.heap.size w w' := by
  have Hn := Lib.hid hn
  clear hn
  obtain ⟨i0, hi0, hz0, hz1, hz2⟩ := info_parts u8info
  rw [bcells_append, bcells_append, bcells_be16_nat _ hs, ← strCells_bcells]
  go_enter Tryd.func38, Tryd.ntmps38
  go_wp2_with fail
  refine (withRoom_any A n c l (2 + (t.size : Int)) _ hr Hn.out (by omega) (by omega)).mono ?_
  rintro e w1 ⟨rfl, hown0, hb1⟩
  have hown : w1.ownsRow w.heap.size 5 1 (.slice (some ⟨w.heap.size, 0, none⟩) n (n + (2 + t.size))) n (bcells l) := by
    rw [show (2 + (t.size : Int)).toNat = 2 + t.size from by omega] at hown0; exact hown0
  clear hown0
  rw [show (2 + (t.size : Int)).toNat = 2 + t.size from by omega]
  go_wp2_with (first
    | (at_builtin; (refine wpList_append_own_spare _ rfl (.tmp 15) (.tmp 23) _ rfl w.heap.size 5 i0 1 Tryd.underlying28 hi0 hz1 w.heap.size n (n + (2 + t.size)) (bcells l) rfl (World.ownsRow.alloc hown _) ⟨w1.heap.size, 0, none⟩ 2 2 [.int .u8 ((t.size : Int) / 256), .int .u8 ((t.size : Int) % 256)] rfl rfl (new_row w1 _ _) (by simp [Value.oneCell']) (by omega) ?_); intro w2 hown2 hg2)
    | (at_builtin; (refine Lib.wpList_append_fits_string _ rfl (.tmp 25) (.tmp 26) _ _ rfl w.heap.size 5 i0 Tryd.underlying28 Tryd.underlying9 hi0 hz1 (some ⟨w.heap.size, 0, none⟩) (n + 2) (n + (2 + t.size)) _ rfl hown2 t rfl (by omega) (by omega) ?_); intro w3 hown3 hg3))
  go_ret
  refine ⟨rfl, hown3, ((hb1.alloc hb1.size _).grown hg2 (Nat.le_trans hb1.size (by simp)) (fun k hk => by cases hk; exact Nat.le_refl _)).grown hg3 ?_ (fun k hk => by cases hk; exact Nat.le_refl _)⟩
  exact Nat.le_trans hb1.size (Nat.le_trans (by simp) hg2.size)

set_option maxHeartbeats 400000 in
theorem putText_long (A : Option Addr) (n c : Nat) (l : List UInt8) (t : ByteArray) (w : World) (hr : Rd w A l) (hn : l.length = n) (hb : n ≤ 281474976640000) (hs : 65535 < t.size) (hs2 : t.size ≤ 9223372036854775807) :
    Calls Tryd.prog 38 #[.slice A n c, .string t] w fun e w' =>
      e = .returned (.slice (some ⟨w.heap.size, 0, none⟩) (n + 2 + 65535) (n + (2 + 65535))) ∧ w'.ownsRow w.heap.size 5 1 (.slice (some ⟨w.heap.size, 0, none⟩) (n + 2 + 65535) (n + (2 + 65535))) (n + 2 + 65535) (bcells (l ++ be16 65535 ++ (t.extract 0 65535).data.toList)) ∧ Below w.heap.size w w' := by
  have Hn := Lib.hid hn
  clear hn
  obtain ⟨i0, hi0, hz0, hz1, hz2⟩ := info_parts u8info
  have hmin : min 65535 t.size = 65535 := by omega
  have hesz : (t.extract 0 65535).size = 65535 := by simp; omega
  have Hesz := Lib.hid hesz
  clear hesz
  have e16 : bcells (be16 65535) = [.int .u8 255, .int .u8 255] := bcells_be16_nat 65535 (Nat.le_refl _)
  rw [bcells_append, bcells_append, e16, ← strCells_bcells]
  clear e16
  go_enter Tryd.func38, Tryd.ntmps38
  go_wp2_with fail
  refine (withRoom_any A n c l 65537 _ hr Hn.out (by omega) (by omega)).mono ?_
  rintro e w1 ⟨rfl, hown, hb1⟩
  go_wp2_with (first
    | (at_builtin; (refine wpList_append_own_spare _ rfl (.tmp 15) (.tmp 23) _ rfl w.heap.size 5 i0 1 Tryd.underlying28 hi0 hz1 w.heap.size n (n + 65537) (bcells l) rfl (World.ownsRow.alloc hown _) ⟨w1.heap.size, 0, none⟩ 2 2 [.int .u8 255, .int .u8 255] rfl rfl (new_row w1 _ _) (by simp [Value.oneCell']) (by omega) ?_); intro w2 hown2 hg2)
    | (at_builtin; (go_loud (refine Lib.wpList_append_fits_string _ rfl (.tmp 25) (.tmp 26) _ _ rfl w.heap.size 5 i0 Tryd.underlying28 Tryd.underlying9 hi0 hz1 (some ⟨w.heap.size, 0, none⟩) (n + 2) (n + 65537) _ rfl hown2 (t.extract 0 65535) rfl (by omega) (by rw [Hesz.out]; omega) ?_)); rw [Hesz.out]; intro w3 hown3 hg3))
  go_ret
  refine ⟨rfl, hown3, ((hb1.alloc hb1.size _).grown hg2 (Nat.le_trans hb1.size (by simp)) (fun k hk => by cases hk; exact Nat.le_refl _)).grown hg3 ?_ (fun k hk => by cases hk; exact Nat.le_refl _)⟩
  exact Nat.le_trans hb1.size (Nat.le_trans (by simp) hg2.size)

/-- What of a text is put. -/
def textB (t : ByteArray) : ByteArray := if t.size ≤ 65535 then t else t.extract 0 65535
theorem textB_size (t : ByteArray) : (textB t).size ≤ 65535 := by
  unfold textB
  split
  · assumption
  · simp; omega

/-- fix.PutText. -/
theorem putText_any (A : Option Addr) (n c : Nat) (l : List UInt8) (t : ByteArray) (w : World) (hr : Rd w A l) (hn : l.length = n) (hb : n ≤ 281474976640000) (hs : t.size ≤ 9223372036854775807) :
    Calls Tryd.prog 38 #[.slice A n c, .string t] w fun e w' =>
      e = .returned (.slice (some ⟨w.heap.size, 0, none⟩) (n + 2 + (textB t).size) (n + (2 + (textB t).size))) ∧ w'.ownsRow w.heap.size 5 1 (.slice (some ⟨w.heap.size, 0, none⟩) (n + 2 + (textB t).size) (n + (2 + (textB t).size))) (n + 2 + (textB t).size) (bcells (l ++ be16 (textB t).size ++ (textB t).data.toList)) ∧ Below w.heap.size w w' := by
  by_cases h : t.size ≤ 65535
  · have e : textB t = t := if_pos h
    rw [e]
    exact putText_short A n c l t w hr hn hb h
  · have e : textB t = t.extract 0 65535 := if_neg h
    have e2 : (t.extract 0 65535).size = 65535 := by simp; omega
    rw [e, e2]
    exact putText_long A n c l t w hr hn hb (by omega) hs

end Go.Proofs.YtgicomadlhnkjaaDoor
