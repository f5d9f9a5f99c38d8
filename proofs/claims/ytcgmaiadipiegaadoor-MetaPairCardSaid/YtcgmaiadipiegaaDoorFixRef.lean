/-
  The contracts of the document's answers sapwoodref01.Number and Text: the encoding as a string; conditions: Number is asked for at most 4 bytes.
-/
import Derived.Test.YtcgmaiadipiegaaDoorBytes
import Derived.Test.YtcgmaiadipiegaaDoorFixAwake
namespace Go.Proofs.YtcgmaiadipiegaaDoor
open Go.RowKit
set_option linter.unusedVariables false

/-- A mask of the lowest bits on an int: the remainder. -/
theorem i64_mask (z : Int) (k : Nat) (hk : k ≤ 62) (m : Int) (hm : m = ((2 ^ k - 1 : Nat) : Int)) : bits .and .i64 z m = z % ((2 ^ k : Nat) : Int) := by
  subst hm
  have hp : 0 < 2 ^ k := Nat.two_pow_pos k
  have hple : 2 ^ k ≤ 2 ^ 62 := Nat.pow_le_pow_right (by omega) hk
  have hdvd : (2 : Nat) ^ k ∣ 2 ^ 64 := Nat.pow_dvd_pow 2 (by omega)
  show IntKind.i64.wrap ((BitVec.ofInt 64 z &&& BitVec.ofInt 64 ((2 ^ k - 1 : Nat) : Int)).toNat : Int) = _
  rw [BitVec.toNat_and, BitVec.ofInt_natCast, BitVec.toNat_ofNat, BitVec.toNat_ofInt]
  rw [Nat.mod_eq_of_lt (show 2 ^ k - 1 < 2 ^ 64 by omega), Nat.and_two_pow_sub_one_eq_mod]
  have h1 : (((z % ((2 ^ 64 : Nat) : Int)).toNat % 2 ^ k : Nat) : Int) = z % ((2 ^ k : Nat) : Int) := by
    rw [Int.natCast_emod, Int.toNat_of_nonneg (Int.emod_nonneg _ (by decide))]
    exact Int.emod_emod_of_dvd _ (Int.natCast_dvd_natCast.2 hdvd)
  rw [h1, IntKind.wrap_i64]
  have h2 := Int.emod_nonneg z (show ((2 ^ k : Nat) : Int) ≠ 0 by omega)
  have h3 := Int.emod_lt_of_pos z (show (0 : Int) < ((2 ^ k : Nat) : Int) by omega)
  omega
theorem and255 (z : Int) : bits .and .i64 z 255 = z % 256 := i64_mask z 8 (by omega) 255 rfl
theorem and65535 (z : Int) : bits .and .i64 z 65535 = z % 65536 := i64_mask z 16 (by omega) 65535 rfl
theorem and32 (z : Int) : bits .and .i64 z 4294967295 = z % 4294967296 := i64_mask z 32 (by omega) 4294967295 rfl

theorem conv_byte (w : World) (y : Int) : (convert 25 9 (.slice (some ⟨w.heap.size, 0, none⟩) 1 1)).run Tryd.prog (w.alloc (.cells #[.int .u8 (y % 256)] 5)) = .ok (.string ⟨#[b8 y]⟩) (w.alloc (.cells #[.int .u8 (y % 256)] 5)) := by
  have h := run_convert_bytes_back (P := Tryd.prog) (w.alloc (.cells #[.int .u8 (y % 256)] 5)) 25 9 5 ⟨w.heap.size, 0, none⟩ 1 [b8 y] Tryd.underlying25 Tryd.underlying5 Tryd.underlying9 (by
    intro j hj
    have : j = 0 := by simpa using hj
    subst this
    have e := u8_b8 y
    unfold u8 at e
    rw [List.getElem_cons_zero, e]
    exact (World.cell?_alloc_mark _ _ _ _ _).trans rfl)
  exact h

/-- The lowest bytes of a number, as many as told. -/
def numL (n : Int) : Nat → List UInt8
  | 0 => []
  | k + 1 => b8 (n / 256 ^ k) :: numL n k
theorem numL_length (n : Int) : ∀ k, (numL n k).length = k
  | 0 => rfl
  | k + 1 => by simp [numL, numL_length n k]
theorem numL_2 (n : Int) : numL n 2 = be16 n := by simp [numL, be16]
theorem numL_4 (n : Int) : numL n 4 = be32 n := by simp [numL, be32]

theorem div_bd (n c : Int) (hc : 1 ≤ c) (h1 : -9223372036854775808 ≤ n) (h2 : n ≤ 9223372036854775807) : -9223372036854775808 ≤ n / c ∧ n / c ≤ 9223372036854775807 := by
  constructor
  · rw [Int.le_ediv_iff_mul_le (by omega)]
    have : (-9223372036854775808 : Int) * c ≤ -9223372036854775808 * 1 := Int.mul_le_mul_of_nonpos_left (by omega) hc
    omega
  · by_cases h : 0 ≤ n
    · exact Int.le_trans (Int.ediv_le_self c h) h2
    · have : n / c < 0 := Int.ediv_neg_of_neg_of_pos (by omega) (by omega)
      omega

set_option maxHeartbeats 400000 in
theorem number_any (w : World) (n m : Int) (h0 : 0 ≤ m) (h4 : m ≤ 4) (hx : -9223372036854775808 ≤ n) (hx2 : n ≤ 9223372036854775807) :
    Calls Tryd.prog 39 #[.int .i64 n, .int .i64 m] w fun e w' => e = .returned (.string ⟨(numL n m.toNat).toArray⟩) ∧ Below w.heap.size w w' := by
  obtain ⟨k, rfl⟩ := Int.eq_ofNat_of_zero_le h0
  rw [Int.toNat_natCast]
  go_enter Tryd.func39, Tryd.ntmps39
  go_wp2
  go_loopw [0, 5, 6] (fun x s i wr => ∃ j : Nat, ∃ y : Int, ∃ S : List UInt8, j ≤ k ∧ i = .int .i64 j ∧ x = .int .i64 y ∧ y = n / 256 ^ j ∧ s = .string ⟨S.toArray⟩ ∧ S = numL n j ∧ Below w.heap.size w wr) (fun _ _ i _ => k - (intOf i).toNat)
  case atStart => exact ⟨0, n, [], Nat.zero_le _, rfl, rfl, by simp, rfl, rfl, Below.refl _ _⟩
  case round =>
    obtain ⟨j, y, S, hj, rfl, rfl, hy, rfl, hS, hb⟩ := hrel
    have hyb := div_bd n (256 ^ j) (by have := Int.pow_pos (n := 256) (m := j) (by omega); omega) hx hx2
    rw [← hy] at hyb
    have hSl : S.length ≤ 4 := by rw [hS, numL_length]; omega
    have HY := Lib.hid hy
    have HS := Lib.hid hS
    clear hy hS
    by_cases hlt : j < k
    · have ha := and255 y
      have hc := conv_byte wr y
      go_wp2
      refine ⟨⟨j + 1, y / 256, b8 y :: S, by omega, by go_num, rfl, ?_, ?_, ?_, hb.alloc hb.size _⟩, by simp [intOf]; omega⟩
      · rw [HY.out, Int.pow_succ, Int.ediv_ediv_of_nonneg (by have := Int.pow_pos (n := 256) (m := j) (by omega); omega)]
      · rw [show (#[b8 y] : Array UInt8) = [b8 y].toArray from rfl, ByteArray.mk_append_mk]; rfl
      · rw [HS.out, HY.out]; rfl
    · go_wp2
      go_ret
      have : j = k := by omega
      subst this
      rw [HS.out]
      exact ⟨rfl, hb⟩

end Go.Proofs.YtcgmaiadipiegaaDoor
