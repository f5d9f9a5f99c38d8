/-
  The contracts of the document's answers sapwoodref02.Of, Seal and Open: the check as an int, the sealed bytes as a string, what was sealed; conditions: the string is no longer than 2^47 bytes.
-/
import Derived.Test.YtcgmaiadipiegaaDoorSumSeal
import Derived.Test.YtcgmaiadipiegaaDoorRooms
namespace Go.Proofs.YtcgmaiadipiegaaDoor
open Go.RowKit
set_option linter.unusedVariables false
set_option linter.unusedSimpArgs false

theorem xor64 (a b : BitVec 32) : bits .xor .i64 (a.toNat : Int) (b.toNat : Int) = ((a ^^^ b).toNat : Int) := by
  show IntKind.i64.wrap ((BitVec.ofInt 64 (a.toNat : Int) ^^^ BitVec.ofInt 64 (b.toNat : Int)).toNat : Int) = _
  have h1 := a.isLt
  have h2 := b.isLt
  have h3 := (a ^^^ b).isLt
  rw [BitVec.ofInt_natCast, BitVec.ofInt_natCast, BitVec.toNat_xor, BitVec.toNat_ofNat, BitVec.toNat_ofNat, Nat.mod_eq_of_lt (show a.toNat < 2 ^ 64 by omega), Nat.mod_eq_of_lt (show b.toNat < 2 ^ 64 by omega), ← BitVec.toNat_xor, IntKind.wrap_i64]
  omega
theorem xor64_of {x y : Int} {a b : BitVec 32} (hx : x = a.toNat) (hy : y = b.toNat) : bits .xor .i64 x y = ((a ^^^ b).toNat : Int) := by rw [hx, hy, xor64]

theorem msb_nat (v : BitVec 32) : v.msb = decide (2147483648 ≤ v.toNat) := by
  rw [BitVec.msb_eq_decide]
/-- The shift by one bit, in numbers. -/
theorem st1_low (v : BitVec 32) (h : v.toNat < 2147483648) : ((Crc.st1 v).toNat : Int) = (v.toNat : Int) * 2 := by
  have hm : v.msb = false := by rw [msb_nat]; simpa using h
  unfold Crc.st1
  rw [hm]
  have hl := v.isLt
  simp only [Bool.false_eq_true, if_false, BitVec.xor_zero, BitVec.toNat_shiftLeft, Nat.shiftLeft_eq]
  omega
theorem st1_high (v : BitVec 32) (h : 2147483648 ≤ v.toNat) : bits .xor .i64 ((v.toNat : Int) * 2 - 4294967296) 79764919 = ((Crc.st1 v).toNat : Int) := by
  have hm : v.msb = true := by rw [msb_nat]; simpa using h
  unfold Crc.st1
  rw [hm]
  have hl := v.isLt
  simp only [if_true]
  refine xor64_of ?_ (by decide)
  rw [BitVec.toNat_shiftLeft, Nat.shiftLeft_eq]
  omega

set_option maxHeartbeats 1000000 in
/-- sapwoodref02.Of. -/
theorem refOf_any (b : ByteArray) (w : World) (hb : b.size ≤ 140737488351232) :
    Calls Tryd.prog 45 #[.string b] w fun e w' => e = .returned (.int .i64 ((Crc.crc b.data.toList).toNat : Int)) ∧ w = w' := by
  go_enter Tryd.func45, Tryd.ntmps45
  go_wp2
  go_loop [3, 4] (fun x i => ∃ (k : Nat) (v : BitVec 32), k ≤ b.size ∧ i = .int .i64 k ∧ x = .int .i64 (v.toNat : Int) ∧ Hid (v = Crc.stateOf Crc.ones (b.data.toList.take k))) (fun _ i => b.size - (intOf i).toNat)
  case atStart => exact ⟨0, Crc.ones, Nat.zero_le _, rfl, rfl, rfl⟩
  case round =>
    obtain ⟨k, v, hk, rfl, rfl, HV⟩ := hrel
    by_cases hlt : k < b.size
    · obtain ⟨y, hy⟩ : ∃ y, y = b[k] := ⟨_, rfl⟩
      have hx : bits .xor .i64 (v.toNat : Int) (wrap64 (wrap64 (y.toNat : Int) * 16777216)) = ((v ^^^ Crc.bin y).toNat : Int) := by
        refine xor64_of rfl ?_
        unfold Crc.bin wrap64
        have := y.toNat_lt
        rw [BitVec.toNat_shiftLeft, BitVec.toNat_ofNat, Nat.shiftLeft_eq]
        omega
      have hst : Crc.stateOf Crc.ones (b.data.toList.take (k + 1)) = Crc.st 8 (v ^^^ Crc.bin y) := by
        rw [List.take_succ_eq_append_getElem (show k < b.data.toList.length from hlt), Crc.stateOf_append, ← HV.out, ← Crc.bstep_eq]
        have : b.data.toList[k]'(show k < b.data.toList.length from hlt) = y := by rw [hy]; simp; rfl
        rw [this]
        rfl
      obtain ⟨z, hz⟩ : ∃ z, z = v ^^^ Crc.bin y := ⟨_, rfl⟩
      rw [← hz] at hx hst
      rw [hy] at hx
      have HST := Lib.hid hst
      clear hst hz hy HV
      go_wp2
      clear hx
      go_loop [3, 5] (fun x i => ∃ (m : Nat) (q : BitVec 32), m ≤ 8 ∧ i = .int .i64 m ∧ x = .int .i64 (q.toNat : Int) ∧ Hid (q = Crc.st m z)) (fun _ i => 8 - (intOf i).toNat)
      case atStart => exact ⟨0, z, Nat.zero_le _, rfl, rfl, rfl⟩
      case round =>
        obtain ⟨m, q, hm, rfl, rfl, HQ⟩ := hrel
        have hql := q.isLt
        by_cases hlt2 : m < 8
        · have hst2 : Crc.st (m + 1) z = Crc.st1 q := by rw [HQ.out]; rfl
          have HS2 := Lib.hid hst2
          clear hst2
          by_cases hq : q.toNat < 2147483648
          · have e1 := Lib.hid (st1_low q hq)
            obtain ⟨r, hr⟩ : ∃ r, r = Crc.st1 q := ⟨_, rfl⟩
            rw [← hr] at HS2 e1
            clear hr
            go_wp2
            exact ⟨⟨m + 1, r, by omega, by go_num, by rw [e1.out], HS2.out.symm⟩, by simp [intOf]; omega⟩
          · have e1 := st1_high q (by omega)
            obtain ⟨r, hr⟩ : ∃ r, r = Crc.st1 q := ⟨_, rfl⟩
            rw [← hr] at HS2 e1
            clear hr
            go_wp2
            exact ⟨⟨m + 1, r, by omega, by go_num, rfl, HS2.out.symm⟩, by simp [intOf]; omega⟩
        · have hm8 : m = 8 := by omega
          subst hm8
          go_wp2
          exact ⟨⟨k + 1, q, by omega, by go_num, rfl, HQ.out.trans HST.out.symm⟩, by simp [intOf]; omega⟩
    · have hkn : k = b.size := by omega
      have hst : Crc.crc b.data.toList = ~~~ v := by
        rw [HV.out, List.take_of_length_le (by rw [hkn]; exact Nat.le_refl _)]
        rfl
      have hn : ((~~~ v).toNat : Int) = 4294967295 - (v.toNat : Int) := by
        have := v.isLt
        rw [BitVec.toNat_not]
        omega
      have HST := Lib.hid hst
      have HN := Lib.hid hn
      have hvl := v.isLt
      clear hst hn HV
      go_wp2
      go_ret
      refine ⟨?_, rfl⟩
      rw [HST.out, HN.out]
      rfl

set_option maxHeartbeats 1000000 in
/-- sapwoodref02.Seal. -/
theorem refSeal_any (b : ByteArray) (w : World) (hb : b.size ≤ 140737488351200) :
    Calls Tryd.prog 40 #[.string b] w fun e w' => e = .returned (.string ⟨(Crc.sealed b.data.toList).toArray⟩) ∧ Below w.heap.size w w' := by
  obtain ⟨v, hv⟩ : ∃ v, v = Crc.crc b.data.toList := ⟨_, rfl⟩
  have HV := Lib.hid hv
  have hvl := v.isLt
  clear hv
  have cv := conv_rd (w := w.alloc (.cells #[.int .u8 ((v.toNat : Int) / 16777216), .int .u8 ((v.toNat : Int) / 65536 % 256), .int .u8 ((v.toNat : Int) / 256 % 256), .int .u8 ((v.toNat : Int) % 256)] 5)) (A := some ⟨w.heap.size, 0, none⟩) (n := 4) (c := 4) (l := Crc.be v)
    (fun _ => ⟨_, rfl, by simp, fun j u hu => new_row w _ _ j u (by rw [bcells_be] at hu; exact hu)⟩) rfl
  have hbl := Crc.be_length v
  go_enter Tryd.func40, Tryd.ntmps40
  go_wp2_with fail
  refine (refOf_any b w (by omega)).mono ?_
  rintro e w1 ⟨rfl, rfl⟩
  rw [← HV.out]
  go_wp2
  go_ret
  refine ⟨?_, (Below.refl _ _).alloc (Nat.le_refl _) _⟩
  show Ending.returned (.string (b ++ ⟨(Crc.be v).toArray⟩)) = _
  rw [Crc.sealed, ← HV.out]
  have e : b ++ ⟨(Crc.be v).toArray⟩ = (⟨(b.data.toList ++ Crc.be v).toArray⟩ : ByteArray) := by
    rw [ByteArray.ext_iff, ByteArray.data_append]
    simp
  rw [e]

/-- The string without its last four bytes. -/
theorem cut_str (b : ByteArray) (m : Nat) (hm : b.size = m + 4) : (b.extract 0 m).data.toList = b.data.toList.take m := by simp

theorem sealed_iff (b : ByteArray) (m : Nat) (hm : b.size = m + 4) : Crc.isSealed b.data.toList = decide (Crc.sealed (b.data.toList.take m) = b.data.toList) := by
  unfold Crc.isSealed
  rw [show b.data.toList.length = m + 4 from hm, Nat.add_sub_cancel]

/-- What both answers of Open are. -/
def openS (b : ByteArray) : ByteArray := if 4 ≤ b.size ∧ Crc.isSealed b.data.toList = true then b.extract 0 (b.size - 4) else ByteArray.empty
def openF (b : ByteArray) : Bool := decide (4 ≤ b.size ∧ Crc.isSealed b.data.toList = true)

end Go.Proofs.YtcgmaiadipiegaaDoor
