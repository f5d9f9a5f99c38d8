/-
  The contracts of the Reader's methods take, Take8, Take16, Take32; conditions: the Reader lies in memory as Rdr says.
-/
import Derived.Test.YtcgmaiadipiegaaDoorFixRdr
namespace Go.Proofs.YtcgmaiadipiegaaDoor
open Go.RowKit
set_option linter.unusedVariables false

/-- The number that bytes say, the highest first. -/
def num (l : List UInt8) : Nat := l.foldl (fun a b => a * 256 + b.toNat) 0
theorem num_snoc (l : List UInt8) (b : UInt8) : num (l ++ [b]) = num l * 256 + b.toNat := by simp [num]
theorem fold_lt : ∀ (l : List UInt8) (a : Nat), l.foldl (fun a b => a * 256 + b.toNat) a < (a + 1) * 256 ^ l.length
  | [], a => by simp
  | b :: l, a => by
    rw [List.foldl_cons, List.length_cons, Nat.pow_succ]
    refine Nat.lt_of_lt_of_le (fold_lt l _) ?_
    have hb : b.toNat < 256 := b.toNat_lt
    have h1 : (a * 256 + b.toNat + 1) * 256 ^ l.length ≤ ((a + 1) * 256) * 256 ^ l.length := Nat.mul_le_mul_right _ (by omega)
    rw [Nat.mul_comm (256 ^ l.length) 256, ← Nat.mul_assoc]
    exact h1
theorem num_lt (l : List UInt8) : num l < 256 ^ l.length := by
  have := fold_lt l 0
  simpa [num] using this
theorem num_lt4 (l : List UInt8) (h : l.length ≤ 4) : num l < 4294967296 :=
  Nat.lt_of_lt_of_le (num_lt l) (by have := Nat.pow_le_pow_right (n := 256) (by omega) h; simpa using this)
theorem num_lt3 (l : List UInt8) (h : l.length ≤ 3) : num l < 16777216 :=
  Nat.lt_of_lt_of_le (num_lt l) (by have := Nat.pow_le_pow_right (n := 256) (by omega) h; simpa using this)

theorem ofInt_i64 (a : Nat) (ha : a < 9223372036854775808) : (BitVec.ofInt 64 (a : Int)).toNat = a := by
  rw [BitVec.ofInt_natCast, BitVec.toNat_ofNat]; exact Nat.mod_eq_of_lt (by omega)
theorem i64_or_nat (a b : Nat) (ha : a < 9223372036854775808) (hb : b < 9223372036854775808) : bits .or .i64 (a : Int) (b : Int) = ((a ||| b : Nat) : Int) := by
  have hx : a ||| b < 2 ^ 63 := Nat.or_lt_two_pow (by omega) (by omega)
  show IntKind.i64.wrap ((BitVec.ofInt 64 (a : Int) ||| BitVec.ofInt 64 (b : Int)).toNat : Int) = _
  rw [BitVec.toNat_or, ofInt_i64 a ha, ofInt_i64 b hb, IntKind.wrap_i64]
  omega
theorem or_byte (m y : Nat) (hm : m < 16777216) (hy : y < 2 ^ 8) : bits .or .i64 ((m : Int) * 256) (y : Int) = ((m * 256 + y : Nat) : Int) := by
  have h1 : ((m : Int) * 256) = ((m * 256 : Nat) : Int) := by omega
  rw [h1, i64_or_nat _ _ (by omega) (by omega)]
  have := Nat.two_pow_add_eq_or_of_lt hy m
  rw [show m * 256 = 2 ^ 8 * m from by omega, ← this]

def TakePost (w : World) (g d : Nat) (l : List UInt8) (p e size : Int) (x : Ending) (w' : World) : Prop :=
  x = .returned (.int .i64 (num (nextB l p e size))) ∧ Rdr w' g d l (nextP l p e size) (nextE l p e size) ∧ w.grownBy w' (some g)

theorem Rd.atO {w : World} {A : Option Addr} {l : List UInt8} (h : Rd w A l) {k : Nat} (hk : k < l.length) : ∃ b o, A = some ⟨b, o, none⟩ ∧ w.cell? ⟨b, o + k, none⟩ = some (.int .u8 (l[k].toNat : Int)) := by
  obtain ⟨⟨b, o, sp⟩, rfl, _, hc⟩ := h (by omega)
  have hk' := hc k (u8 l[k]) (by simp [bcells, hk])
  have hs : sp = none := by
    have h0l : 0 < l.length := by omega
    have h0 := hc 0 (u8 l[0]) (by simp [bcells, List.getElem?_eq_getElem h0l])
    simpa [Addr.add] using World.cell?_spot h0
  subst hs
  refine ⟨b, o, rfl, ?_⟩
  have e : ((⟨b, o, none⟩ : Addr).add k) = ⟨b, o + k, none⟩ := by unfold Addr.add; split <;> simp_all
  rw [e] at hk'
  exact hk'

theorem nextB_len (l : List UInt8) (p e size : Int) (h4 : size ≤ 4) : (nextB l p e size).length ≤ 4 := by
  unfold nextB
  split
  · simp only [List.length_take]; omega
  · simp

theorem take_succ_num (B : List UInt8) (k : Nat) (h : k < B.length) : num (B.take (k + 1)) = num (B.take k) * 256 + B[k].toNat := by
  rw [List.take_succ_eq_append_getElem h, num_snoc]

set_option maxHeartbeats 400000 in
theorem take_any (w : World) (g d : Nat) (l : List UInt8) (p e size : Int) (r : Rdr w g d l p e) (h0 : 0 ≤ size) (h4 : size ≤ 4) (hb : l.length ≤ 281474976710656) :
    Calls Tryd.prog 46 #[.pointer (some ⟨g, 0, none⟩), .int .i64 size] w (TakePost w g d l p e size) := by
  have R := Lib.hid r
  clear r
  have hB4 := nextB_len l p e size h4
  obtain ⟨B, hB⟩ : ∃ B, B = nextB l p e size := ⟨_, rfl⟩
  rw [← hB] at hB4
  have HB := Lib.hid hB
  clear hB
  go_enter Tryd.func46, Tryd.ntmps46
  go_wp2_with (go_at_call 47; ((with_reducible refine (next_any w g d l p e size R.out h0 hb).mono ?_); rintro x w1 ⟨A, n, c, rfl, hlen, hrd, r1, hg1⟩; rw [← HB.out] at hlen hrd; subst hlen; have R1 := Lib.hid r1; clear r1))
  go_loop [5, 12] (fun t i => ∃ k : Nat, k ≤ B.length ∧ i = .int .i64 k ∧ t = .int .i64 (num (B.take k))) (fun _ i => B.length - (intOf i).toNat)
  case atStart => exact ⟨0, Nat.zero_le _, rfl, rfl⟩
  case round =>
    obtain ⟨k, hk, rfl, rfl⟩ := hrel
    by_cases hlt : k < B.length
    · obtain ⟨b, o, rfl, hcell⟩ := hrd.atO hlt
      have hn3 := num_lt3 (B.take k) (by rw [List.length_take]; omega)
      have HS := Lib.hid (take_succ_num B k hlt)
      generalize num (B.take k) = m at *
      have hby := B[k].toNat_lt
      generalize B[k].toNat = y at *
      go_wp2
      refine ⟨⟨k + 1, by omega, by go_num, ?_⟩, by simp [intOf]; omega⟩
      rw [HS.out, or_byte m y hn3 hby]
    · go_wp2
      go_ret
      refine ⟨?_, R1.out, hg1⟩
      rw [← HB.out, List.take_of_length_le (by omega)]
      rfl

theorem take8_any (w : World) (g d : Nat) (l : List UInt8) (p e : Int) (r : Rdr w g d l p e) (hb : l.length ≤ 281474976710656) :
    Calls Tryd.prog 42 #[.pointer (some ⟨g, 0, none⟩)] w (TakePost w g d l p e 1) := by
  go_enter Tryd.func42, Tryd.ntmps42
  go_wp2_with (go_at_call 46; ((with_reducible refine (take_any w g d l p e 1 r (by omega) (by omega) hb).mono ?_); rintro x w1 ⟨rfl, r1, hg1⟩))
  go_ret
  exact ⟨rfl, r1, hg1⟩
theorem take16_any (w : World) (g d : Nat) (l : List UInt8) (p e : Int) (r : Rdr w g d l p e) (hb : l.length ≤ 281474976710656) :
    Calls Tryd.prog 43 #[.pointer (some ⟨g, 0, none⟩)] w (TakePost w g d l p e 2) := by
  go_enter Tryd.func43, Tryd.ntmps43
  go_wp2_with (go_at_call 46; ((with_reducible refine (take_any w g d l p e 2 r (by omega) (by omega) hb).mono ?_); rintro x w1 ⟨rfl, r1, hg1⟩))
  go_ret
  exact ⟨rfl, r1, hg1⟩
theorem take32_any (w : World) (g d : Nat) (l : List UInt8) (p e : Int) (r : Rdr w g d l p e) (hb : l.length ≤ 281474976710656) :
    Calls Tryd.prog 41 #[.pointer (some ⟨g, 0, none⟩)] w (TakePost w g d l p e 4) := by
  go_enter Tryd.func41, Tryd.ntmps41
  go_wp2_with (go_at_call 46; ((with_reducible refine (take_any w g d l p e 4 r (by omega) (by omega) hb).mono ?_); rintro x w1 ⟨rfl, r1, hg1⟩))
  go_ret
  exact ⟨rfl, r1, hg1⟩

theorem take8_nil (w : World) : Calls Tryd.prog 42 #[.pointer none] w fun x w' => x = .returned (.int .i64 0) ∧ w = w' := by
  go_enter Tryd.func42, Tryd.ntmps42
  go_wp2_with (go_at_call 46; ((with_reducible refine (take_nil w _).mono ?_); rintro x w1 ⟨rfl, rfl⟩))
  go_ret
  exact ⟨rfl, rfl⟩
theorem take16_nil (w : World) : Calls Tryd.prog 43 #[.pointer none] w fun x w' => x = .returned (.int .i64 0) ∧ w = w' := by
  go_enter Tryd.func43, Tryd.ntmps43
  go_wp2_with (go_at_call 46; ((with_reducible refine (take_nil w _).mono ?_); rintro x w1 ⟨rfl, rfl⟩))
  go_ret
  exact ⟨rfl, rfl⟩
theorem take32_nil (w : World) : Calls Tryd.prog 41 #[.pointer none] w fun x w' => x = .returned (.int .i64 0) ∧ w = w' := by
  go_enter Tryd.func41, Tryd.ntmps41
  go_wp2_with (go_at_call 46; ((with_reducible refine (take_nil w _).mono ?_); rintro x w1 ⟨rfl, rfl⟩))
  go_ret
  exact ⟨rfl, rfl⟩

end Go.Proofs.YtcgmaiadipiegaaDoor
