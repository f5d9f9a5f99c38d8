/-
  Several texts in one: FixMem, FixPut, FixRdr, FixTake, FixRef, FixText, FixRefR. Each says what it proves, and under which conditions.
-/
import Derived.Test.YtelenboncejdaaaGreatDoorK1
import Derived.Test.YtelenboncejdaaaGreatDoorRows
import Derived.WalkKit
import Derived.WalkSpells
import Derived.WalkLawsBesides
import Derived.Lib.Hide
import Derived.Laws.CopyOwn
import Derived.Laws.IdiomStrings
import Derived.Deep.DeepAppendRoom
import Derived.Deep.QuietTactic
import Derived.BigQuiet
import Derived.OwnWalk
import Derived.Room.AppendFits

/-
  Words for memory (bytes as cells, a slice of bytes that can be read), and the contract of fix.withRoom: a copy of the given bytes in a new row with room behind them; conditions: the slice can be read, the room is not negative, the row stays within 2^48 bytes.
-/
namespace Go.Proofs.YtelenboncejdaaaGreatDoor
open Go.RowKit

set_option maxHeartbeats 400000 in
/-- fix.withRoom. -/
theorem withRoom_any (A : Option Addr) (n c : Nat) (l : List UInt8) (room : Int) (w : World) (hr : Rd w A l) (hn : l.length = n) (h0 : 0 ≤ room) (hb : (n : Int) + room ≤ 281474976710656) :
    Calls Tryz.prog 174 #[.slice A n c, .int .i64 room] w fun e w' =>
      e = .returned (.slice (some ⟨w.heap.size, 0, none⟩) n (n + room.toNat)) ∧ w'.ownsRow w.heap.size 5 1 (.slice (some ⟨w.heap.size, 0, none⟩) n (n + room.toNat)) n (bcells l) ∧ Below w.heap.size w w' := by
  obtain ⟨r, rfl⟩ := Int.eq_ofNat_of_zero_le h0
  have hmk : ∀ w : World, (Instr.makeSlice 46 (.int .i64 (n : Int)) (.int .i64 ((n : Int) + (r : Int)))).run Tryz.prog w =
      .ok (.slice (some ⟨w.heap.size, 0, none⟩) n (n + r)) (w.alloc (.cells (madeCells #[.int .u8 0] (n + r)) 5)) := by
    intro w
    have := run_make_bytes n (n + r) (by omega) (by omega) w
    rwa [Int.natCast_add] at this
  obtain ⟨Z, hZ⟩ : ∃ Z, Z = List.replicate (n + r) (Value.int .u8 0) := ⟨_, rfl⟩
  rw [made_list, ← hZ] at hmk
  have hZl : Z.length = n + r := by rw [hZ]; simp
  have HZl := Lib.hid hZl
  have Hn := Lib.hid hn
  clear hZl hZ hn
  have H2 : Hid ((bcells l).length = Nat.min n n) := by
    show (bcells l).length = Nat.min n n
    rw [bcells_length, Hn.out]; simp
  have H3 : Hid (0 < (bcells l).length → (some ⟨w.heap.size, 0, none⟩ : Option Addr) = some ⟨w.heap.size, 0, none⟩ ∧ ∃ ad, A = some ad ∧ ∀ j v, (bcells l)[j]? = some v → (w.alloc (.cells Z.toArray 5)).cell? (ad.add j) = some v) := by
    intro hp
    rw [bcells_length] at hp
    obtain ⟨ad, e, hlt, hc⟩ := hr hp
    exact ⟨rfl, ad, e, fun j v hv => (World.cell?_alloc_lt w _ _ (by rw [block_of_add]; exact hlt)).trans (hc j v hv)⟩
  have H4 : Hid (0 + (bcells l).length ≤ Z.length) := by
    show 0 + (bcells l).length ≤ Z.length
    rw [bcells_length, Hn.out, HZl.out]; omega
  rw [Int.toNat_natCast]
  go_enter Tryz.func174, Tryz.ntmps174
  go_wp2_with ((with_reducible refine wpList_copy_splice rfl (.tmp 13) (.tmp 14) 46 46 rfl 5 Tryz.underlying46 (by kernel_rfl) _ _ _ _ _ _ rfl rfl w.heap.size 0 Z 5 (heap_alloc_new w _) (bcells l) H2.out H3.out H4.out (bcells_one l) w.heap.size w ((Below.refl _ _).alloc (Nat.le_refl _) _) (Nat.le_refl _) ?_); intro w2 HG2 hB2)
  go_ret
  refine ⟨rfl, ⟨by rw [bcells_length, Hn.out]; simp, .inr ⟨w.heap.size, n + r, _, rfl, Nat.le_refl _, HG2.out, by omega, by simp only [maxLen]; omega, ?_, ?_⟩⟩, hB2⟩
  · rw [List.size_toArray, length_splice _ _ _ (by rw [bcells_length, Hn.out, HZl.out]; omega), HZl.out]; simp
  · have := take_splice Z (bcells l)
    rw [bcells_length, Hn.out] at this
    simpa using this

end Go.Proofs.YtelenboncejdaaaGreatDoor

/-
  The contracts of fix.Put16, Put32 and PutText: the given bytes with the encoding behind them, in a new row; conditions: the slice can be read, and all bytes together stay within 2^48.
-/
namespace Go.Proofs.YtelenboncejdaaaGreatDoor
open Go.RowKit
set_option linter.unusedVariables false

/-- A number in two bytes, in four bytes. -/
def be16 (x : Int) : List UInt8 := [b8 (x / 256), b8 x]
def be32 (x : Int) : List UInt8 := [b8 (x / 16777216), b8 (x / 65536), b8 (x / 256), b8 x]
theorem bcells_be16 (x : Int) : bcells (be16 x) = [.int .u8 (x / 256 % 256), .int .u8 (x % 256)] := by simp [bcells, be16, u8_b8]
theorem bcells_be32 (x : Int) : bcells (be32 x) = [.int .u8 (x / 16777216 % 256), .int .u8 (x / 65536 % 256), .int .u8 (x / 256 % 256), .int .u8 (x % 256)] := by simp [bcells, be32, u8_b8]

set_option maxHeartbeats 400000 in
theorem put16_any (A : Option Addr) (n c : Nat) (l : List UInt8) (x : Int) (w : World) (hr : Rd w A l) (hn : l.length = n) (hb : n ≤ 281474976710000) (hx : -9223372036854775808 ≤ x) (hx2 : x ≤ 9223372036854775807) :
    Calls Tryz.prog 152 #[.slice A n c, .int .i64 x] w fun e w' =>
      e = .returned (.slice (some ⟨w.heap.size, 0, none⟩) (n + 2) (n + 2)) ∧ w'.ownsRow w.heap.size 5 1 (.slice (some ⟨w.heap.size, 0, none⟩) (n + 2) (n + 2)) (n + 2) (bcells (l ++ be16 x)) ∧ Below w.heap.size w w' := by
  have Hn := Lib.hid hn
  clear hn
  obtain ⟨i0, hi0, hz0, hz1, hz2⟩ := info_parts u8info
  rw [bcells_append, bcells_be16]
  go_enter Tryz.func152, Tryz.ntmps152
  go_wp2_with (first
    | (go_at_call 174; ((with_reducible refine (withRoom_any A n c l 2 _ hr Hn.out (by omega) (by omega)).mono ?_); rintro e w1 ⟨rfl, hown, hb1⟩))
    | (at_builtin; (refine wpList_append_own_spare _ rfl (.tmp 6) (.tmp 12) _ rfl w.heap.size 5 i0 1 Tryz.underlying46 hi0 hz1 w.heap.size n (n + 2) (bcells l) rfl (World.ownsRow.alloc hown _) ⟨w1.heap.size, 0, none⟩ 2 2 [.int .u8 (x / 256 % 256), .int .u8 (x % 256)] rfl rfl (new_row w1 _ _) (by simp [Value.oneCell']) (Nat.le_refl _) ?_); intro w2 hown2 hg2))
  go_ret
  exact ⟨rfl, hown2, (hb1.alloc hb1.size _).grown hg2 (Nat.le_trans hb1.size (by simp)) (fun k hk => by cases hk; exact Nat.le_refl _)⟩

theorem bcells_be16_nat (m : Nat) (h : m ≤ 65535) : bcells (be16 (m : Int)) = [.int .u8 ((m : Int) / 256), .int .u8 ((m : Int) % 256)] := by
  rw [bcells_be16, show (m : Int) / 256 % 256 = (m : Int) / 256 from by omega]

set_option maxHeartbeats 400000 in
theorem putText_short (A : Option Addr) (n c : Nat) (l : List UInt8) (t : ByteArray) (w : World) (hr : Rd w A l) (hn : l.length = n) (hb : n ≤ 281474976640000) (hs : t.size ≤ 65535) :
    Calls Tryz.prog 153 #[.slice A n c, .string t] w fun e w' =>
      e = .returned (.slice (some ⟨w.heap.size, 0, none⟩) (n + 2 + t.size) (n + (2 + t.size))) ∧ w'.ownsRow w.heap.size 5 1 (.slice (some ⟨w.heap.size, 0, none⟩) (n + 2 + t.size) (n + (2 + t.size))) (n + 2 + t.size) (bcells (l ++ be16 t.size ++ t.data.toList)) ∧ Below w.heap.size w w' := by
  have Hn := Lib.hid hn
  clear hn
  obtain ⟨i0, hi0, hz0, hz1, hz2⟩ := info_parts u8info
  rw [bcells_append, bcells_append, bcells_be16_nat _ hs, ← strCells_bcells]
  go_enter Tryz.func153, Tryz.ntmps153
  go_wp2_with fail
  refine (withRoom_any A n c l (2 + (t.size : Int)) _ hr Hn.out (by omega) (by omega)).mono ?_
  rintro e w1 ⟨rfl, hown0, hb1⟩
  have hown : w1.ownsRow w.heap.size 5 1 (.slice (some ⟨w.heap.size, 0, none⟩) n (n + (2 + t.size))) n (bcells l) := by
    rw [show (2 + (t.size : Int)).toNat = 2 + t.size from by omega] at hown0; exact hown0
  clear hown0
  rw [show (2 + (t.size : Int)).toNat = 2 + t.size from by omega]
  go_wp2_with (first
    | (at_builtin; (refine wpList_append_own_spare _ rfl (.tmp 15) (.tmp 23) _ rfl w.heap.size 5 i0 1 Tryz.underlying46 hi0 hz1 w.heap.size n (n + (2 + t.size)) (bcells l) rfl (World.ownsRow.alloc hown _) ⟨w1.heap.size, 0, none⟩ 2 2 [.int .u8 ((t.size : Int) / 256), .int .u8 ((t.size : Int) % 256)] rfl rfl (new_row w1 _ _) (by simp [Value.oneCell']) (by omega) ?_); intro w2 hown2 hg2)
    | (at_builtin; (refine Lib.wpList_append_fits_string _ rfl (.tmp 25) (.tmp 26) _ _ rfl w.heap.size 5 i0 Tryz.underlying46 Tryz.underlying9 hi0 hz1 (some ⟨w.heap.size, 0, none⟩) (n + 2) (n + (2 + t.size)) _ rfl hown2 t rfl (by omega) (by omega) ?_); intro w3 hown3 hg3))
  go_ret
  refine ⟨rfl, hown3, ((hb1.alloc hb1.size _).grown hg2 (Nat.le_trans hb1.size (by simp)) (fun k hk => by cases hk; exact Nat.le_refl _)).grown hg3 ?_ (fun k hk => by cases hk; exact Nat.le_refl _)⟩
  exact Nat.le_trans hb1.size (Nat.le_trans (by simp) hg2.size)

set_option maxHeartbeats 400000 in
theorem putText_long (A : Option Addr) (n c : Nat) (l : List UInt8) (t : ByteArray) (w : World) (hr : Rd w A l) (hn : l.length = n) (hb : n ≤ 281474976640000) (hs : 65535 < t.size) (hs2 : t.size ≤ 9223372036854775807) :
    Calls Tryz.prog 153 #[.slice A n c, .string t] w fun e w' =>
      e = .returned (.slice (some ⟨w.heap.size, 0, none⟩) (n + 2 + 65535) (n + (2 + 65535))) ∧ w'.ownsRow w.heap.size 5 1 (.slice (some ⟨w.heap.size, 0, none⟩) (n + 2 + 65535) (n + (2 + 65535))) (n + 2 + 65535) (bcells (l ++ be16 65535 ++ (t.extract 0 65535).data.toList)) ∧ Below w.heap.size w w' := by
  have Hn := Lib.hid hn
  clear hn
  obtain ⟨i0, hi0, hz0, hz1, hz2⟩ := info_parts u8info
  have hmin : min 65535 t.size = 65535 := by omega
  have hesz : (t.extract 0 65535).size = 65535 := by simp; omega
  have Hesz := Lib.hid hesz
  clear hesz
  have e16 : bcells (be16 65535) = [.int .u8 255, .int .u8 255] := bcells_be16_nat 65535 (Nat.le_refl _)
  rw [bcells_append, bcells_append, e16, ← strCells_bcells]
  clear e16
  go_enter Tryz.func153, Tryz.ntmps153
  go_wp2_with fail
  refine (withRoom_any A n c l 65537 _ hr Hn.out (by omega) (by omega)).mono ?_
  rintro e w1 ⟨rfl, hown, hb1⟩
  go_wp2_with (first
    | (at_builtin; (refine wpList_append_own_spare _ rfl (.tmp 15) (.tmp 23) _ rfl w.heap.size 5 i0 1 Tryz.underlying46 hi0 hz1 w.heap.size n (n + 65537) (bcells l) rfl (World.ownsRow.alloc hown _) ⟨w1.heap.size, 0, none⟩ 2 2 [.int .u8 255, .int .u8 255] rfl rfl (new_row w1 _ _) (by simp [Value.oneCell']) (by omega) ?_); intro w2 hown2 hg2)
    | (at_builtin; (go_loud (refine Lib.wpList_append_fits_string _ rfl (.tmp 25) (.tmp 26) _ _ rfl w.heap.size 5 i0 Tryz.underlying46 Tryz.underlying9 hi0 hz1 (some ⟨w.heap.size, 0, none⟩) (n + 2) (n + 65537) _ rfl hown2 (t.extract 0 65535) rfl (by omega) (by rw [Hesz.out]; omega) ?_)); rw [Hesz.out]; intro w3 hown3 hg3))
  go_ret
  refine ⟨rfl, hown3, ((hb1.alloc hb1.size _).grown hg2 (Nat.le_trans hb1.size (by simp)) (fun k hk => by cases hk; exact Nat.le_refl _)).grown hg3 ?_ (fun k hk => by cases hk; exact Nat.le_refl _)⟩
  exact Nat.le_trans hb1.size (Nat.le_trans (by simp) hg2.size)

/-- What of a text is put. -/
def textB (t : ByteArray) : ByteArray := if t.size ≤ 65535 then t else t.extract 0 65535
theorem textB_size (t : ByteArray) : (textB t).size ≤ 65535 := by
  unfold textB
  split
  · assumption
  · simp; omega

/-- fix.PutText. -/
theorem putText_any (A : Option Addr) (n c : Nat) (l : List UInt8) (t : ByteArray) (w : World) (hr : Rd w A l) (hn : l.length = n) (hb : n ≤ 281474976640000) (hs : t.size ≤ 9223372036854775807) :
    Calls Tryz.prog 153 #[.slice A n c, .string t] w fun e w' =>
      e = .returned (.slice (some ⟨w.heap.size, 0, none⟩) (n + 2 + (textB t).size) (n + (2 + (textB t).size))) ∧ w'.ownsRow w.heap.size 5 1 (.slice (some ⟨w.heap.size, 0, none⟩) (n + 2 + (textB t).size) (n + (2 + (textB t).size))) (n + 2 + (textB t).size) (bcells (l ++ be16 (textB t).size ++ (textB t).data.toList)) ∧ Below w.heap.size w w' := by
  by_cases h : t.size ≤ 65535
  · have e : textB t = t := if_pos h
    rw [e]
    exact putText_short A n c l t w hr hn hb h
  · have e : textB t = t.extract 0 65535 := if_neg h
    have e2 : (t.extract 0 65535).size = 65535 := by simp; omega
    rw [e, e2]
    exact putText_long A n c l t w hr hn hb (by omega) hs

end Go.Proofs.YtelenboncejdaaaGreatDoor

/-
  The contracts of fix.Read and of the Reader's methods Err, At, next: a Reader is a block of three cells (its bytes, the position, the error); conditions: the Reader lies in memory as Rdr says.
-/
namespace Go.Proofs.YtelenboncejdaaaGreatDoor
open Go.RowKit
set_option linter.unusedVariables false

/-- A Reader in block g over the bytes l, which lie in block h: at position p, with error e. -/
def Rdr (w : World) (g h : Nat) (l : List UInt8) (p e : Int) : Prop :=
  w.heap[g]? = some (.cells #[.slice (some ⟨h, 0, none⟩) l.length l.length, .int .i64 p, .int .i64 e] 279 (0, 0)) ∧
  w.heap[h]? = some (.cells (bcells l).toArray 5 (0, 0)) ∧ 0 ≤ p ∧ p ≤ l.length

theorem Rdr.cells {w : World} {g h : Nat} {l : List UInt8} {p e : Int} (r : Rdr w g h l p e) :
    w.cell? ⟨g, 0, none⟩ = some (.slice (some ⟨h, 0, none⟩) l.length l.length) ∧ w.cell? ⟨g, 1, none⟩ = some (.int .i64 p) ∧ w.cell? ⟨g, 2, none⟩ = some (.int .i64 e) :=
  ⟨(cell_of_block r.1 0).trans rfl, (cell_of_block r.1 1).trans rfl, (cell_of_block r.1 2).trans rfl⟩
theorem Rdr.free {w : World} {g h : Nat} {l : List UInt8} {p e : Int} (r : Rdr w g h l p e) (i : Nat) : w.frozen? ⟨g, i, none⟩ = false := by
  simp [World.frozen?, r.1]
theorem Rdr.ne {w : World} {g h : Nat} {l : List UInt8} {p e : Int} (r : Rdr w g h l p e) : g ≠ h := by
  rintro rfl
  have := r.1.symm.trans r.2.1
  injection this with this
  injection this with _ ht
  exact absurd ht (by decide)
theorem Rdr.lt {w : World} {g h : Nat} {l : List UInt8} {p e : Int} (r : Rdr w g h l p e) : g < w.heap.size ∧ h < w.heap.size :=
  ⟨lt_of_block r.1, lt_of_block r.2.1⟩

set_option maxHeartbeats 400000 in
theorem err_some (w : World) (g h : Nat) (l : List UInt8) (p e : Int) (r : Rdr w g h l p e) :
    Calls Tryz.prog 187 #[.pointer (some ⟨g, 0, none⟩)] w fun x w' => x = .returned (.int .i64 e) ∧ w = w' := by
  have hc := r.cells.2.2
  clear r
  go_enter Tryz.func187, Tryz.ntmps187
  go_wp2
  go_ret
  exact ⟨rfl, rfl⟩

theorem err_nil (w : World) :
    Calls Tryz.prog 187 #[.pointer none] w fun x w' => x = .returned (.int .i64 2) ∧ w = w' := by
  go_enter Tryz.func187, Tryz.ntmps187
  go_wp2
  go_ret
  exact ⟨rfl, rfl⟩

set_option maxHeartbeats 400000 in
theorem read_any (A : Option Addr) (n c : Nat) (l : List UInt8) (w : World) (hr : Rd w A l) (hn : l.length = n) (hb : n ≤ 281474976710656) :
    Calls Tryz.prog 165 #[.slice A n c] w fun e w' =>
      ∃ g, e = .returned (.pointer (some ⟨g, 0, none⟩)) ∧ Rdr w' g w.heap.size l 0 0 ∧ w.heap.size ≤ g ∧ Below w.heap.size w w' := by
  have Hn := Lib.hid hn
  clear hn
  go_enter Tryz.func165, Tryz.ntmps165
  go_wp2_with (go_at_call 174; ((with_reducible refine (withRoom_any A n c l 0 _ hr Hn.out (by omega) (by omega)).mono ?_); rintro e w1 ⟨rfl, hown, hb1⟩))
  go_ret
  refine ⟨w1.heap.size, rfl, ⟨?_, ?_, Int.le_refl _, by omega⟩, hb1.size, hb1.alloc hb1.size _⟩
  · rw [heap_alloc_new, Hn.out]
  · have h1 := own_whole (n := n) (by simpa using hown)
    rw [Below.heap_alloc _ _ _ (lt_of_block h1)]
    exact h1

theorem Rdr.drewN {w : World} {g h : Nat} {l : List UInt8} {p e : Int} (r : Rdr w g h l p e) (n : Nat) : Rdr (w.drewN n) g h l p e := r
theorem Rdr.setP {w : World} {g h : Nat} {l : List UInt8} {p e : Int} (r : Rdr w g h l p e) {q : Int} (h0 : 0 ≤ q) (h1 : q ≤ l.length) : Rdr (w.setCell ⟨g, 1, none⟩ (.int .i64 q)) g h l q e :=
  ⟨(blk_set r.1 1 _).trans rfl, (Below.heap_setCell w _ _ h (Ne.symm r.ne)).trans r.2.1, h0, h1⟩
theorem Rdr.setE {w : World} {g h : Nat} {l : List UInt8} {p e : Int} (r : Rdr w g h l p e) (q : Int) : Rdr (w.setCell ⟨g, 2, none⟩ (.int .i64 q)) g h l p q :=
  ⟨(blk_set r.1 2 _).trans rfl, (Below.heap_setCell w _ _ h (Ne.symm r.ne)).trans r.2.1, r.2.2.1, r.2.2.2⟩
/-- What next leaves: the position, the error, the bytes. -/
def nextP (l : List UInt8) (p e : Int) (size : Int) : Int := if e = 0 ∧ size ≤ l.length - p then p + size else p
def nextE (l : List UInt8) (p e : Int) (size : Int) : Int := if e = 0 then (if size ≤ l.length - p then 0 else 2) else e
def nextB (l : List UInt8) (p e : Int) (size : Int) : List UInt8 := if e = 0 ∧ size ≤ l.length - p then (l.drop p.toNat).take size.toNat else []

/-- What a call of a Reader's method leaves: only the Reader's own block may have turned. -/
def NextPost (w : World) (g h : Nat) (l : List UInt8) (p e size : Int) (x : Ending) (w' : World) : Prop :=
  ∃ A n c, x = .returned (.slice A n c) ∧ (nextB l p e size).length = n ∧ Rd w' A (nextB l p e size) ∧ Rdr w' g h l (nextP l p e size) (nextE l p e size) ∧ w.grownBy w' (some g)

set_option maxHeartbeats 400000 in
theorem next_err (w : World) (g h : Nat) (l : List UInt8) (p e size : Int) (r : Rdr w g h l p e) (he : e ≠ 0) :
    Calls Tryz.prog 188 #[.pointer (some ⟨g, 0, none⟩), .int .i64 size] w (NextPost w g h l p e size) := by
  have hne : (e != 0) = true := by simpa using he
  have R := Lib.hid r
  have HE := Lib.hid he
  clear he r
  go_enter Tryz.func188, Tryz.ntmps188
  go_wp2_with (go_at_call 187; ((with_reducible refine (err_some w g h l p e R.out).mono ?_); rintro x w1 ⟨rfl, rfl⟩))
  go_ret
  refine ⟨none, 0, 0, rfl, ?_, ?_, ?_, World.grownBy.refl _ _⟩
  · simp [nextB, HE.out]
  · simp [nextB, HE.out]; exact Rd.nil _ _
  · simpa [nextP, nextE, HE.out] using R.out

set_option maxHeartbeats 400000 in
theorem next_short (w : World) (g h : Nat) (l : List UInt8) (p size : Int) (r : Rdr w g h l p 0) (hsz : (l.length : Int) - p < size) (hb : l.length ≤ 281474976710656) :
    Calls Tryz.prog 188 #[.pointer (some ⟨g, 0, none⟩), .int .i64 size] w (NextPost w g h l p 0 size) := by
  have R := Lib.hid r
  obtain ⟨hc0, hc1, hc2⟩ := r.cells
  have hf := r.free 2
  have hp0 := r.2.2.1
  have hp1 := r.2.2.2
  clear r
  go_enter Tryz.func188, Tryz.ntmps188
  go_wp2_with (go_at_call 187; ((with_reducible refine (err_some w g h l p 0 R.out).mono ?_); rintro x w1 ⟨rfl, rfl⟩))
  go_quiet (fail)
  go_wp2
  go_ret
  have hn : ¬ (size ≤ (l.length : Int) - p) := by omega
  refine ⟨none, 0, 0, rfl, ?_, ?_, ?_, only_setCell (only_drewN (World.grownBy.refl _ _) nq) rfl _⟩
  · simp [nextB, hn]
  · simp [nextB, hn]; exact Rd.nil _ _
  · have := (R.out.drewN nq).setE 2
    simpa [nextP, nextE, hn] using this

theorem nextB_ok (l : List UInt8) (q m : Nat) (h : (m : Int) ≤ l.length - q) : nextB l q 0 m = (l.drop q).take m := by
  simp [nextB, h]
theorem nextP_ok (l : List UInt8) (q m : Nat) (h : (m : Int) ≤ l.length - q) : nextP l q 0 m = q + m := by
  simp [nextP, h]
theorem nextE_ok (l : List UInt8) (q m : Nat) (h : (m : Int) ≤ l.length - q) : nextE l q 0 m = 0 := by
  simp [nextE, h]

set_option maxHeartbeats 400000 in
theorem next_ok (w : World) (g d : Nat) (l : List UInt8) (q m : Nat) (r : Rdr w g d l q 0) (hsz : (m : Int) ≤ (l.length : Int) - q) (hb : l.length ≤ 281474976710656) :
    Calls Tryz.prog 188 #[.pointer (some ⟨g, 0, none⟩), .int .i64 m] w (NextPost w g d l q 0 m) := by
  have R := Lib.hid r
  obtain ⟨hc0, hc1, hc2⟩ := r.cells
  have hf := r.free 1
  have hp1 := r.2.2.2
  clear r
  go_enter Tryz.func188, Tryz.ntmps188
  go_wp2_with (go_at_call 187; ((with_reducible refine (err_some w g d l q 0 R.out).mono ?_); rintro x w1 ⟨rfl, rfl⟩))
  go_quiet (fail)
  go_wp2
  go_quiet (fail)
  go_wp2
  · go_ret
    have hlq : l.length = q := by assumption
    have hm : m = 0 := by omega
    refine ⟨some ⟨d, 0, none⟩, m, 0, rfl, ?_, ?_, ?_, only_drewN (only_setCell (only_drewN (World.grownBy.refl _ _) _) rfl _) _⟩
    · rw [nextB_ok l q m hsz, hm]; simp
    · rw [nextB_ok l q m hsz, hm]; simp; exact Rd.nil _ _
    · rw [nextP_ok l q m hsz, nextE_ok l q m hsz]; exact ((R.out.drewN _).setP (by omega) (by omega)).drewN _
  · go_ret
    refine ⟨some ⟨d, q, none⟩, _, _, rfl, ?_, ?_, ?_, only_drewN (only_setCell (only_drewN (World.grownBy.refl _ _) _) rfl _) _⟩
    · rw [nextB_ok l q m hsz]; simp; omega
    · rw [nextB_ok l q m hsz]; exact rd_block (((R.out.drewN _).setP (q := (q : Int) + m) (by omega) (by omega)).drewN _).2.1 q m
    · rw [nextP_ok l q m hsz, nextE_ok l q m hsz]; exact ((R.out.drewN _).setP (by omega) (by omega)).drewN _

/-- next, whatever the Reader's state. -/
theorem next_any (w : World) (g d : Nat) (l : List UInt8) (p e size : Int) (r : Rdr w g d l p e) (h0 : 0 ≤ size) (hb : l.length ≤ 281474976710656) :
    Calls Tryz.prog 188 #[.pointer (some ⟨g, 0, none⟩), .int .i64 size] w (NextPost w g d l p e size) := by
  by_cases he : e = 0
  · subst he
    by_cases hs : size ≤ (l.length : Int) - p
    · obtain ⟨q, rfl⟩ := Int.eq_ofNat_of_zero_le r.2.2.1
      obtain ⟨m, rfl⟩ := Int.eq_ofNat_of_zero_le h0
      exact next_ok w g d l q m r hs hb
    · exact next_short w g d l p size r (by omega) hb
  · exact next_err w g d l p e size r he

theorem next_nil (w : World) (size : Int) : Calls Tryz.prog 188 #[.pointer none, .int .i64 size] w fun x w' => x = .returned (.slice none 0 0) ∧ w = w' := by
  go_enter Tryz.func188, Tryz.ntmps188
  go_wp2_with (go_at_call 187; ((with_reducible refine (err_nil w).mono ?_); rintro x w1 ⟨rfl, rfl⟩))
  go_ret
  exact ⟨rfl, rfl⟩

theorem take_nil (w : World) (size : Int) : Calls Tryz.prog 186 #[.pointer none, .int .i64 size] w fun x w' => x = .returned (.int .i64 0) ∧ w = w' := by
  go_enter Tryz.func186, Tryz.ntmps186
  go_wp2_with (go_at_call 188; ((with_reducible refine (next_nil w size).mono ?_); rintro x w1 ⟨rfl, rfl⟩))
  refine wp_loop_rounds 1 ?_
  rw [rounds_succ]
  go_wp2
  go_ret
  exact ⟨rfl, rfl⟩

end Go.Proofs.YtelenboncejdaaaGreatDoor

/-
  The contracts of the Reader's methods take, Take8, Take16, Take32; conditions: the Reader lies in memory as Rdr says.
-/
namespace Go.Proofs.YtelenboncejdaaaGreatDoor
open Go.RowKit
set_option linter.unusedVariables false

/-- The number that bytes say, the highest first. -/
def num (l : List UInt8) : Nat := l.foldl (fun a b => a * 256 + b.toNat) 0
theorem num_snoc (l : List UInt8) (b : UInt8) : num (l ++ [b]) = num l * 256 + b.toNat := by simp [num]
theorem fold_lt : ∀ (l : List UInt8) (a : Nat), l.foldl (fun a b => a * 256 + b.toNat) a < (a + 1) * 256 ^ l.length
  | [], a => by simp
  | b :: l, a => by
    rw [List.foldl_cons, List.length_cons, Nat.pow_succ]
    refine Nat.lt_of_lt_of_le (fold_lt l _) ?_
    have hb : b.toNat < 256 := b.toNat_lt
    have h1 : (a * 256 + b.toNat + 1) * 256 ^ l.length ≤ ((a + 1) * 256) * 256 ^ l.length := Nat.mul_le_mul_right _ (by omega)
    rw [Nat.mul_comm (256 ^ l.length) 256, ← Nat.mul_assoc]
    exact h1
theorem num_lt (l : List UInt8) : num l < 256 ^ l.length := by
  have := fold_lt l 0
  simpa [num] using this
theorem num_lt4 (l : List UInt8) (h : l.length ≤ 4) : num l < 4294967296 :=
  Nat.lt_of_lt_of_le (num_lt l) (by have := Nat.pow_le_pow_right (n := 256) (by omega) h; simpa using this)
theorem num_lt3 (l : List UInt8) (h : l.length ≤ 3) : num l < 16777216 :=
  Nat.lt_of_lt_of_le (num_lt l) (by have := Nat.pow_le_pow_right (n := 256) (by omega) h; simpa using this)

theorem ofInt_i64 (a : Nat) (ha : a < 9223372036854775808) : (BitVec.ofInt 64 (a : Int)).toNat = a := by
  rw [BitVec.ofInt_natCast, BitVec.toNat_ofNat]; exact Nat.mod_eq_of_lt (by omega)
theorem i64_or_nat (a b : Nat) (ha : a < 9223372036854775808) (hb : b < 9223372036854775808) : bits .or .i64 (a : Int) (b : Int) = ((a ||| b : Nat) : Int) := by
  have hx : a ||| b < 2 ^ 63 := Nat.or_lt_two_pow (by omega) (by omega)
  show IntKind.i64.wrap ((BitVec.ofInt 64 (a : Int) ||| BitVec.ofInt 64 (b : Int)).toNat : Int) = _
  rw [BitVec.toNat_or, ofInt_i64 a ha, ofInt_i64 b hb, IntKind.wrap_i64]
  omega
theorem or_byte (m y : Nat) (hm : m < 16777216) (hy : y < 2 ^ 8) : bits .or .i64 ((m : Int) * 256) (y : Int) = ((m * 256 + y : Nat) : Int) := by
  have h1 : ((m : Int) * 256) = ((m * 256 : Nat) : Int) := by omega
  rw [h1, i64_or_nat _ _ (by omega) (by omega)]
  have := Nat.two_pow_add_eq_or_of_lt hy m
  rw [show m * 256 = 2 ^ 8 * m from by omega, ← this]

def TakePost (w : World) (g d : Nat) (l : List UInt8) (p e size : Int) (x : Ending) (w' : World) : Prop :=
  x = .returned (.int .i64 (num (nextB l p e size))) ∧ Rdr w' g d l (nextP l p e size) (nextE l p e size) ∧ w.grownBy w' (some g)

theorem Rd.atO {w : World} {A : Option Addr} {l : List UInt8} (h : Rd w A l) {k : Nat} (hk : k < l.length) : ∃ b o, A = some ⟨b, o, none⟩ ∧ w.cell? ⟨b, o + k, none⟩ = some (.int .u8 (l[k].toNat : Int)) := by
  obtain ⟨⟨b, o, sp⟩, rfl, _, hc⟩ := h (by omega)
  have hk' := hc k (u8 l[k]) (by simp [bcells, hk])
  have hs : sp = none := by
    have h0l : 0 < l.length := by omega
    have h0 := hc 0 (u8 l[0]) (by simp [bcells, List.getElem?_eq_getElem h0l])
    simpa [Addr.add] using World.cell?_spot h0
  subst hs
  refine ⟨b, o, rfl, ?_⟩
  have e : ((⟨b, o, none⟩ : Addr).add k) = ⟨b, o + k, none⟩ := by unfold Addr.add; split <;> simp_all
  rw [e] at hk'
  exact hk'

theorem nextB_len (l : List UInt8) (p e size : Int) (h4 : size ≤ 4) : (nextB l p e size).length ≤ 4 := by
  unfold nextB
  split
  · simp only [List.length_take]; omega
  · simp

theorem take_succ_num (B : List UInt8) (k : Nat) (h : k < B.length) : num (B.take (k + 1)) = num (B.take k) * 256 + B[k].toNat := by
  rw [List.take_succ_eq_append_getElem h, num_snoc]

set_option maxHeartbeats 400000 in
theorem take_any (w : World) (g d : Nat) (l : List UInt8) (p e size : Int) (r : Rdr w g d l p e) (h0 : 0 ≤ size) (h4 : size ≤ 4) (hb : l.length ≤ 281474976710656) :
    Calls Tryz.prog 186 #[.pointer (some ⟨g, 0, none⟩), .int .i64 size] w (TakePost w g d l p e size) := by
  have R := Lib.hid r
  clear r
  have hB4 := nextB_len l p e size h4
  obtain ⟨B, hB⟩ : ∃ B, B = nextB l p e size := ⟨_, rfl⟩
  rw [← hB] at hB4
  have HB := Lib.hid hB
  clear hB
  go_enter Tryz.func186, Tryz.ntmps186
  go_wp2_with (go_at_call 188; ((with_reducible refine (next_any w g d l p e size R.out h0 hb).mono ?_); rintro x w1 ⟨A, n, c, rfl, hlen, hrd, r1, hg1⟩; rw [← HB.out] at hlen hrd; subst hlen; have R1 := Lib.hid r1; clear r1))
  go_loop [5, 12] (fun t i => ∃ k : Nat, k ≤ B.length ∧ i = .int .i64 k ∧ t = .int .i64 (num (B.take k))) (fun _ i => B.length - (intOf i).toNat)
  case atStart => exact ⟨0, Nat.zero_le _, rfl, rfl⟩
  case round =>
    obtain ⟨k, hk, rfl, rfl⟩ := hrel
    by_cases hlt : k < B.length
    · obtain ⟨b, o, rfl, hcell⟩ := hrd.atO hlt
      have hn3 := num_lt3 (B.take k) (by rw [List.length_take]; omega)
      have HS := Lib.hid (take_succ_num B k hlt)
      generalize num (B.take k) = m at *
      have hby := B[k].toNat_lt
      generalize B[k].toNat = y at *
      go_wp2
      refine ⟨⟨k + 1, by omega, by go_num, ?_⟩, by simp [intOf]; omega⟩
      rw [HS.out, or_byte m y hn3 hby]
    · go_wp2
      go_ret
      refine ⟨?_, R1.out, hg1⟩
      rw [← HB.out, List.take_of_length_le (by omega)]
      rfl

theorem take8_any (w : World) (g d : Nat) (l : List UInt8) (p e : Int) (r : Rdr w g d l p e) (hb : l.length ≤ 281474976710656) :
    Calls Tryz.prog 179 #[.pointer (some ⟨g, 0, none⟩)] w (TakePost w g d l p e 1) := by
  go_enter Tryz.func179, Tryz.ntmps179
  go_wp2_with (go_at_call 186; ((with_reducible refine (take_any w g d l p e 1 r (by omega) (by omega) hb).mono ?_); rintro x w1 ⟨rfl, r1, hg1⟩))
  go_ret
  exact ⟨rfl, r1, hg1⟩
theorem take16_any (w : World) (g d : Nat) (l : List UInt8) (p e : Int) (r : Rdr w g d l p e) (hb : l.length ≤ 281474976710656) :
    Calls Tryz.prog 182 #[.pointer (some ⟨g, 0, none⟩)] w (TakePost w g d l p e 2) := by
  go_enter Tryz.func182, Tryz.ntmps182
  go_wp2_with (go_at_call 186; ((with_reducible refine (take_any w g d l p e 2 r (by omega) (by omega) hb).mono ?_); rintro x w1 ⟨rfl, r1, hg1⟩))
  go_ret
  exact ⟨rfl, r1, hg1⟩
theorem take8_nil (w : World) : Calls Tryz.prog 179 #[.pointer none] w fun x w' => x = .returned (.int .i64 0) ∧ w = w' := by
  go_enter Tryz.func179, Tryz.ntmps179
  go_wp2_with (go_at_call 186; ((with_reducible refine (take_nil w _).mono ?_); rintro x w1 ⟨rfl, rfl⟩))
  go_ret
  exact ⟨rfl, rfl⟩
theorem take16_nil (w : World) : Calls Tryz.prog 182 #[.pointer none] w fun x w' => x = .returned (.int .i64 0) ∧ w = w' := by
  go_enter Tryz.func182, Tryz.ntmps182
  go_wp2_with (go_at_call 186; ((with_reducible refine (take_nil w _).mono ?_); rintro x w1 ⟨rfl, rfl⟩))
  go_ret
  exact ⟨rfl, rfl⟩
end Go.Proofs.YtelenboncejdaaaGreatDoor

/-
  The contracts of the document's answers sapwoodref01.Number and Text: the encoding as a string; conditions: Number is asked for at most 4 bytes.
-/
namespace Go.Proofs.YtelenboncejdaaaGreatDoor
open Go.RowKit
set_option linter.unusedVariables false

/-- A mask of the lowest bits on an int: the remainder. -/
theorem i64_mask (z : Int) (k : Nat) (hk : k ≤ 62) (m : Int) (hm : m = ((2 ^ k - 1 : Nat) : Int)) : bits .and .i64 z m = z % ((2 ^ k : Nat) : Int) := by
  subst hm
  have hp : 0 < 2 ^ k := Nat.two_pow_pos k
  have hple : 2 ^ k ≤ 2 ^ 62 := Nat.pow_le_pow_right (by omega) hk
  have hdvd : (2 : Nat) ^ k ∣ 2 ^ 64 := Nat.pow_dvd_pow 2 (by omega)
  show IntKind.i64.wrap ((BitVec.ofInt 64 z &&& BitVec.ofInt 64 ((2 ^ k - 1 : Nat) : Int)).toNat : Int) = _
  rw [BitVec.toNat_and, BitVec.ofInt_natCast, BitVec.toNat_ofNat, BitVec.toNat_ofInt]
  rw [Nat.mod_eq_of_lt (show 2 ^ k - 1 < 2 ^ 64 by omega), Nat.and_two_pow_sub_one_eq_mod]
  have h1 : (((z % ((2 ^ 64 : Nat) : Int)).toNat % 2 ^ k : Nat) : Int) = z % ((2 ^ k : Nat) : Int) := by
    rw [Int.natCast_emod, Int.toNat_of_nonneg (Int.emod_nonneg _ (by decide))]
    exact Int.emod_emod_of_dvd _ (Int.natCast_dvd_natCast.2 hdvd)
  rw [h1, IntKind.wrap_i64]
  have h2 := Int.emod_nonneg z (show ((2 ^ k : Nat) : Int) ≠ 0 by omega)
  have h3 := Int.emod_lt_of_pos z (show (0 : Int) < ((2 ^ k : Nat) : Int) by omega)
  omega
theorem and255 (z : Int) : bits .and .i64 z 255 = z % 256 := i64_mask z 8 (by omega) 255 rfl
theorem and65535 (z : Int) : bits .and .i64 z 65535 = z % 65536 := i64_mask z 16 (by omega) 65535 rfl
theorem and32 (z : Int) : bits .and .i64 z 4294967295 = z % 4294967296 := i64_mask z 32 (by omega) 4294967295 rfl

theorem conv_byte (w : World) (y : Int) : (convert 46 9 (.slice (some ⟨w.heap.size, 0, none⟩) 1 1)).run Tryz.prog (w.alloc (.cells #[.int .u8 (y % 256)] 5)) = .ok (.string ⟨#[b8 y]⟩) (w.alloc (.cells #[.int .u8 (y % 256)] 5)) := by
  have h := run_convert_bytes_back (P := Tryz.prog) (w.alloc (.cells #[.int .u8 (y % 256)] 5)) 46 9 5 ⟨w.heap.size, 0, none⟩ 1 [b8 y] Tryz.underlying46 Tryz.underlying5 Tryz.underlying9 (by
    intro j hj
    have : j = 0 := by simpa using hj
    subst this
    have e := u8_b8 y
    unfold u8 at e
    rw [List.getElem_cons_zero, e]
    exact (World.cell?_alloc_mark _ _ _ _ _).trans rfl)
  exact h

/-- The lowest bytes of a number, as many as told. -/
def numL (n : Int) : Nat → List UInt8
  | 0 => []
  | k + 1 => b8 (n / 256 ^ k) :: numL n k
theorem numL_length (n : Int) : ∀ k, (numL n k).length = k
  | 0 => rfl
  | k + 1 => by simp [numL, numL_length n k]
theorem numL_2 (n : Int) : numL n 2 = be16 n := by simp [numL, be16]
theorem numL_4 (n : Int) : numL n 4 = be32 n := by simp [numL, be32]

theorem div_bd (n c : Int) (hc : 1 ≤ c) (h1 : -9223372036854775808 ≤ n) (h2 : n ≤ 9223372036854775807) : -9223372036854775808 ≤ n / c ∧ n / c ≤ 9223372036854775807 := by
  constructor
  · rw [Int.le_ediv_iff_mul_le (by omega)]
    have : (-9223372036854775808 : Int) * c ≤ -9223372036854775808 * 1 := Int.mul_le_mul_of_nonpos_left (by omega) hc
    omega
  · by_cases h : 0 ≤ n
    · exact Int.le_trans (Int.ediv_le_self c h) h2
    · have : n / c < 0 := Int.ediv_neg_of_neg_of_pos (by omega) (by omega)
      omega

set_option maxHeartbeats 400000 in
theorem number_any (w : World) (n m : Int) (h0 : 0 ≤ m) (h4 : m ≤ 4) (hx : -9223372036854775808 ≤ n) (hx2 : n ≤ 9223372036854775807) :
    Calls Tryz.prog 122 #[.int .i64 n, .int .i64 m] w fun e w' => e = .returned (.string ⟨(numL n m.toNat).toArray⟩) ∧ Below w.heap.size w w' := by
  obtain ⟨k, rfl⟩ := Int.eq_ofNat_of_zero_le h0
  rw [Int.toNat_natCast]
  go_enter Tryz.func122, Tryz.ntmps122
  go_wp2
  go_loopw [0, 5, 6] (fun x s i wr => ∃ j : Nat, ∃ y : Int, ∃ S : List UInt8, j ≤ k ∧ i = .int .i64 j ∧ x = .int .i64 y ∧ y = n / 256 ^ j ∧ s = .string ⟨S.toArray⟩ ∧ S = numL n j ∧ Below w.heap.size w wr) (fun _ _ i _ => k - (intOf i).toNat)
  case atStart => exact ⟨0, n, [], Nat.zero_le _, rfl, rfl, by simp, rfl, rfl, Below.refl _ _⟩
  case round =>
    obtain ⟨j, y, S, hj, rfl, rfl, hy, rfl, hS, hb⟩ := hrel
    have hyb := div_bd n (256 ^ j) (by have := Int.pow_pos (n := 256) (m := j) (by omega); omega) hx hx2
    rw [← hy] at hyb
    have hSl : S.length ≤ 4 := by rw [hS, numL_length]; omega
    have HY := Lib.hid hy
    have HS := Lib.hid hS
    clear hy hS
    by_cases hlt : j < k
    · have ha := and255 y
      have hc := conv_byte wr y
      go_wp2
      refine ⟨⟨j + 1, y / 256, b8 y :: S, by omega, by go_num, rfl, ?_, ?_, ?_, hb.alloc hb.size _⟩, by simp [intOf]; omega⟩
      · rw [HY.out, Int.pow_succ, Int.ediv_ediv_of_nonneg (by have := Int.pow_pos (n := 256) (m := j) (by omega); omega)]
      · rw [show (#[b8 y] : Array UInt8) = [b8 y].toArray from rfl, ByteArray.mk_append_mk]; rfl
      · rw [HS.out, HY.out]; rfl
    · go_wp2
      go_ret
      have : j = k := by omega
      subst this
      rw [HS.out]
      exact ⟨rfl, hb⟩

set_option maxHeartbeats 400000 in
theorem refText_short (w : World) (t : ByteArray) (hs : t.size ≤ 65535) :
    Calls Tryz.prog 123 #[.string t] w fun e w' => e = .returned (.string ⟨(be16 t.size ++ t.data.toList).toArray⟩) ∧ Below w.heap.size w w' := by
  have hbl : (be16 (t.size : Int)).length = 2 := rfl
  have Hbl := Lib.hid hbl
  clear hbl
  go_enter Tryz.func123, Tryz.ntmps123
  go_wp2_with fail
  refine (number_any w (t.size : Int) 2 (by omega) (by omega) (by omega) (by omega)).mono ?_
  rintro e w1 ⟨rfl, hb1⟩
  rw [show numL (t.size : Int) (Int.toNat 2) = be16 t.size from numL_2 _]
  have hlen : (⟨(be16 (t.size : Int)).toArray⟩ : ByteArray).size ≤ 2 := Nat.le_refl _
  generalize hq : (⟨(be16 (t.size : Int)).toArray⟩ : ByteArray) = Q at *
  have HQ := Lib.hid hq
  clear hq
  go_wp2
  go_ret
  refine ⟨?_, hb1⟩
  show Ending.returned (.string (Q ++ t)) = _
  rw [← HQ.out, str_eq t, ByteArray.mk_append_mk]

set_option maxHeartbeats 400000 in
theorem refText_long (w : World) (t : ByteArray) (hs : 65535 < t.size) (hs2 : t.size ≤ 9223372036854775807) :
    Calls Tryz.prog 123 #[.string t] w fun e w' => e = .returned (.string ⟨(be16 65535 ++ (t.extract 0 65535).data.toList).toArray⟩) ∧ Below w.heap.size w w' := by
  have hmin : min 65535 t.size = 65535 := by omega
  go_enter Tryz.func123, Tryz.ntmps123
  go_wp2_with fail
  refine (number_any w 65535 2 (by omega) (by omega) (by omega) (by omega)).mono ?_
  rintro e w1 ⟨rfl, hb1⟩
  rw [show numL 65535 (Int.toNat 2) = be16 65535 from numL_2 _]
  have hlen : (⟨(be16 65535).toArray⟩ : ByteArray).size ≤ 2 := Nat.le_refl _
  generalize hq : (⟨(be16 65535).toArray⟩ : ByteArray) = Q at *
  have HQ := Lib.hid hq
  clear hq
  go_wp2
  go_ret
  refine ⟨?_, hb1⟩
  show Ending.returned (.string (Q ++ t.extract 0 65535)) = _
  rw [← HQ.out]
  generalize t.extract 0 65535 = u
  rw [str_eq u, ByteArray.mk_append_mk]

/-- sapwoodref01.Text. -/
theorem refText_any (w : World) (t : ByteArray) (hs : t.size ≤ 9223372036854775807) :
    Calls Tryz.prog 123 #[.string t] w fun e w' => e = .returned (.string ⟨(be16 (textB t).size ++ (textB t).data.toList).toArray⟩) ∧ Below w.heap.size w w' := by
  by_cases h : t.size ≤ 65535
  · have e : textB t = t := if_pos h
    rw [e]
    exact refText_short w t h
  · have e : textB t = t.extract 0 65535 := if_neg h
    have e2 : (t.extract 0 65535).size = 65535 := by simp; omega
    rw [e, e2]
    exact refText_long w t (by omega) hs

end Go.Proofs.YtelenboncejdaaaGreatDoor

/-
  The contracts of the Reader's methods Text and Zero; conditions: the Reader lies in memory as Rdr says.
-/
namespace Go.Proofs.YtelenboncejdaaaGreatDoor
open Go.RowKit
set_option linter.unusedVariables false

def txtP (l : List UInt8) (p e most : Int) : Int :=
  if nextE l p e 2 ≠ 0 then nextP l p e 2 else if most < num (nextB l p e 2) then nextP l p e 2 else nextP l (nextP l p e 2) 0 (num (nextB l p e 2))
def txtE (l : List UInt8) (p e most : Int) : Int :=
  if nextE l p e 2 ≠ 0 then nextE l p e 2 else if most < num (nextB l p e 2) then 4 else nextE l (nextP l p e 2) 0 (num (nextB l p e 2))
def txtS (l : List UInt8) (p e most : Int) : List UInt8 :=
  if nextE l p e 2 ≠ 0 then [] else if most < num (nextB l p e 2) then [] else nextB l (nextP l p e 2) 0 (num (nextB l p e 2))

def TextPost (w : World) (g d : Nat) (l : List UInt8) (p e most : Int) (x : Ending) (w' : World) : Prop :=
  x = .returned (.string ⟨(txtS l p e most).toArray⟩) ∧ Rdr w' g d l (txtP l p e most) (txtE l p e most) ∧ w.grownBy w' (some g)

theorem nextB_len2 (l : List UInt8) (p e : Int) : (nextB l p e 2).length ≤ 2 := by
  unfold nextB
  split
  · simp only [List.length_take]; omega
  · simp
theorem num_lt2 (l : List UInt8) (h : l.length ≤ 2) : num l ≤ 65535 := by
  have h1 := num_lt l
  have h2 := Nat.pow_le_pow_right (n := 256) (by omega) h
  omega

set_option maxHeartbeats 400000 in
theorem text_any (w : World) (g d : Nat) (l : List UInt8) (p e most : Int) (r : Rdr w g d l p e) (hb : l.length ≤ 281474976710656) :
    Calls Tryz.prog 181 #[.pointer (some ⟨g, 0, none⟩), .int .i64 most] w (TextPost w g d l p e most) := by
  have R := Lib.hid r
  clear r
  have hN := num_lt2 _ (nextB_len2 l p e)
  obtain ⟨N, hNe⟩ : ∃ N, N = num (nextB l p e 2) := ⟨_, rfl⟩
  obtain ⟨p1, hp1⟩ : ∃ q, q = nextP l p e 2 := ⟨_, rfl⟩
  obtain ⟨e1, he1⟩ : ∃ q, q = nextE l p e 2 := ⟨_, rfl⟩
  rw [← hNe] at hN
  have HN := Lib.hid hNe
  have HP := Lib.hid hp1
  have HE := Lib.hid he1
  clear hNe hp1 he1
  by_cases hz : e1 = 0
  · subst hz
    by_cases hm : most < N
    · go_enter Tryz.func181, Tryz.ntmps181
      go_wp2_with fail
      refine (take16_any w g d l p e R.out hb).mono ?_
      rintro x w1 ⟨rfl, r1, hg1⟩
      rw [← HP.out, ← HE.out] at r1
      rw [← HN.out]
      have hf := r1.free 2
      have hc := r1.cells.2.2
      have R1 := Lib.hid r1
      clear r1
      go_wp2_with fail
      refine (err_some w1 g d l p1 0 R1.out).mono ?_
      rintro x w2 ⟨rfl, rfl⟩
      go_wp2
      go_ret
      refine ⟨?_, ?_, ?_⟩
      · simp [txtS, ← HE.out, ← HN.out, hm]
      · have := R1.out.setE 4
        simpa [txtP, txtE, ← HE.out, ← HN.out, ← HP.out, hm] using this
      · exact only_setCell hg1 rfl _
    · go_enter Tryz.func181, Tryz.ntmps181
      go_wp2_with fail
      refine (take16_any w g d l p e R.out hb).mono ?_
      rintro x w1 ⟨rfl, r1, hg1⟩
      rw [← HP.out, ← HE.out] at r1
      rw [← HN.out]
      have R1 := Lib.hid r1
      clear r1
      go_wp2_with fail
      refine (err_some w1 g d l p1 0 R1.out).mono ?_
      rintro x w2 ⟨rfl, rfl⟩
      go_wp2_with fail
      refine (next_any w1 g d l p1 0 N R1.out (by omega) hb).mono ?_
      rintro x w2 ⟨A, n, c, rfl, hlen, hrd, r2, hg2⟩
      have hcv := conv_rd (c := c) hrd hlen
      have Hlen := Lib.hid hlen
      clear hlen
      go_wp2
      go_ret
      have hm' : ¬ (most < (N : Int)) := by omega
      refine ⟨?_, ?_, ?_⟩
      · simp [txtS, ← HE.out, ← HN.out, ← HP.out, hm']
      · simpa [txtP, txtE, ← HE.out, ← HN.out, ← HP.out, hm'] using r2
      · exact hg1.trans hg2
  · have hne : (e1 != 0) = true := by simpa using hz
    have HZ := Lib.hid hz
    clear hz
    go_enter Tryz.func181, Tryz.ntmps181
    go_wp2_with fail
    refine (take16_any w g d l p e R.out hb).mono ?_
    rintro x w1 ⟨rfl, r1, hg1⟩
    rw [← HP.out, ← HE.out] at r1
    rw [← HN.out]
    have R1 := Lib.hid r1
    clear r1
    go_wp2_with fail
    refine (err_some w1 g d l p1 e1 R1.out).mono ?_
    rintro x w2 ⟨rfl, rfl⟩
    go_wp2
    go_ret
    refine ⟨?_, ?_, hg1⟩
    · simp [txtS, ← HE.out, HZ.out]
    · simpa [txtP, txtE, ← HE.out, ← HP.out, HZ.out] using R1.out

/-- Are all bytes from p on 0? -/
def zeros (l : List UInt8) (p : Int) : Bool := (l.drop p.toNat).all (· == 0)
def zeroP (l : List UInt8) (p e : Int) : Int := if e = 0 ∧ zeros l p = true then l.length else p
def zeroE (l : List UInt8) (p e : Int) : Int := if e = 0 then (if zeros l p = true then 0 else 3) else e

def ZeroPost (w : World) (g d : Nat) (l : List UInt8) (p e : Int) (x : Ending) (w' : World) : Prop :=
  x = .returned (.tuple #[]) ∧ Rdr w' g d l (zeroP l p e) (zeroE l p e) ∧ w.grownBy w' (some g)

theorem zeros_step (l : List UInt8) (q k : Nat) (h : q + k < l.length) : (l.drop (q + k)).all (· == 0) = (l[q + k] == 0 && (l.drop (q + (k + 1))).all (· == 0)) := by
  rw [List.drop_eq_getElem_cons h, List.all_cons]; rfl

end Go.Proofs.YtelenboncejdaaaGreatDoor

/-
  The contracts of the document's reader sapwoodref01.Reader (Take, Text, Zero): it answers and moves by the same functions as the program's Reader; conditions: it lies in memory as RefR says.
-/
namespace Go.Proofs.YtelenboncejdaaaGreatDoor
open Go.RowKit
set_option linter.unusedVariables false
set_option linter.unusedSimpArgs false

section
variable {w : World} {g : Nat} {B : ByteArray} {p e : Int}
end

theorem data_len (B : ByteArray) : B.data.toList.length = B.size := rfl

theorem take_get (B : ByteArray) (q m k : Nat) (hk : k < m) (h : q + m ≤ B.size) : num (((B.data.toList.drop q).take m).take (k + 1)) = num (((B.data.toList.drop q).take m).take k) * 256 + (B[q + k]'(by omega)).toNat := by
  have hl : k < ((B.data.toList.drop q).take m).length := by
    simp [data_len]; omega
  rw [take_succ_num _ k hl]
  congr 2
  simp
  rfl

theorem extract_eq (B : ByteArray) (q m : Nat) (h : q + m ≤ B.size) : B.extract q (q + m) = ⟨((B.data.toList.drop q).take m).toArray⟩ := by
  apply ByteArray.ext
  apply Array.toList_inj.1
  rw [ByteArray.data_extract]
  simp

theorem zeros_next (B : ByteArray) (k : Nat) (h : k < B.size) : (B.data.toList.drop k).all (· == 0) = (B[k] == 0 && (B.data.toList.drop (k + 1)).all (· == 0)) := by
  rw [List.drop_eq_getElem_cons (by rw [data_len]; exact h), List.all_cons]; rfl

end Go.Proofs.YtelenboncejdaaaGreatDoor
