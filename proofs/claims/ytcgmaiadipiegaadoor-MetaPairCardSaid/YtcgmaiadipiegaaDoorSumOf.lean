/-
  The contracts of sum.shift and sum.Of: the check of the bytes, nothing is changed; conditions: the table of sixteen numbers lies in memory, the slice can be read.
-/
import Derived.Test.YtcgmaiadipiegaaDoorCrc
import Derived.Test.YtcgmaiadipiegaaDoorBytes
namespace Go.Proofs.YtcgmaiadipiegaaDoor
open Go.RowKit
set_option linter.unusedVariables false

/-- The table lies in memory. -/
def Half (w : World) : Prop := 0 < w.heap.size ∧ ∀ i, i < 16 → w.cell? ⟨0, i, none⟩ = some (.int .u32 (Crc.tabL.getD i 0 : Nat))
theorem Half.below {w w' : World} (h : Half w) (hb : Below w.heap.size w w') : Half w' := ⟨Nat.lt_of_lt_of_le h.1 hb.size, fun i hi => (hb.cell h.1).trans (h.2 i hi)⟩

theorem xor32 (a b : BitVec 32) : bits .xor .u32 (a.toNat : Int) (b.toNat : Int) = ((a ^^^ b).toNat : Int) := by
  show IntKind.u32.wrap ((BitVec.ofInt 32 (a.toNat : Int) ^^^ BitVec.ofInt 32 (b.toNat : Int)).toNat : Int) = _
  rw [BitVec.ofInt_natCast, BitVec.ofInt_natCast, BitVec.ofNat_toNat, BitVec.ofNat_toNat, BitVec.setWidth_eq, BitVec.setWidth_eq]
  have := (a ^^^ b).isLt
  rw [IntKind.wrap_u32]
  omega
theorem xor32_of {x y : Int} {a b : BitVec 32} (hx : x = a.toNat) (hy : y = b.toNat) : bits .xor .u32 x y = ((a ^^^ b).toNat : Int) := by rw [hx, hy, xor32]

theorem tab_toNat (i : Nat) (hi : i < 16) : (Crc.tab i).toNat = Crc.tabL.getD i 0 := by
  have : ∀ k : Fin 16, (Crc.tab k.val).toNat = Crc.tabL.getD k.val 0 := by decide +kernel
  exact this ⟨i, hi⟩

set_option maxHeartbeats 400000 in
theorem shift_any (v : BitVec 32) (w : World) (hh : Half w) :
    Calls Tryd.prog 44 #[.int .u32 (v.toNat : Int)] w fun e w' => e = .returned (.int .u32 ((Crc.nib v).toNat : Int)) ∧ w = w' := by
  have hl := v.isLt
  have hq : v.toNat / 268435456 < 16 := by omega
  have hc := hh.2 _ hq
  have hx : bits .xor .u32 ((v.toNat : Int) * 16 % 4294967296) ((Crc.tabL.getD (v.toNat / 268435456) 0 : Nat) : Int) = ((Crc.nib v).toNat : Int) := by
    unfold Crc.nib
    refine xor32_of ?_ ?_
    · rw [BitVec.toNat_shiftLeft, Nat.shiftLeft_eq]; omega
    · rw [show (v >>> 28).toNat = v.toNat / 268435456 by rw [BitVec.toNat_ushiftRight, Nat.shiftRight_eq_div_pow], tab_toNat _ hq]
  generalize Crc.nib v = z at hx ⊢
  generalize Crc.tabL.getD (v.toNat / 268435456) 0 = c at hx hc
  generalize v.toNat = n at *
  clear hh
  go_enter Tryd.func44, Tryd.ntmps44
  go_wp2
  go_ret
  exact ⟨rfl, rfl⟩

theorem Rd.at_ {w : World} {A : Option Addr} {l : List UInt8} (h : Rd w A l) {j : Nat} (hj : j < l.length) : ∃ ad, A = some ad ∧ w.cell? (ad.add j) = some (.int .u8 (l[j].toNat : Int)) := by
  obtain ⟨ad, e, _, hc⟩ := h (by omega)
  exact ⟨ad, e, hc j (u8 l[j]) (by simp [bcells, hj])⟩

set_option maxHeartbeats 1000000 in
/-- sum.Of. -/
theorem of_any (A : Option Addr) (n c : Nat) (l : List UInt8) (w : World) (hh : Half w) (hr : Rd w A l) (hn : l.length = n) (hb : n ≤ 281474976710656) :
    Calls Tryd.prog 38 #[.slice A n c] w fun e w' => e = .returned (.int .u32 ((Crc.crc l).toNat : Int)) ∧ w = w' := by
  have Hn := Lib.hid hn
  clear hn
  go_enter Tryd.func38, Tryd.ntmps38
  go_wp2
  go_loop [3, 8] (fun x i => ∃ (k : Nat) (v : BitVec 32), k ≤ n ∧ i = .int .i64 k ∧ x = .int .u32 (v.toNat : Int) ∧ v = Crc.stateOf Crc.ones (l.take k)) (fun _ i => n - (intOf i).toNat)
  case atStart => exact ⟨0, Crc.ones, Nat.zero_le _, rfl, rfl, rfl⟩
  case round =>
    obtain ⟨k, v, hk, rfl, rfl, hv⟩ := hrel
    have HV := Lib.hid hv
    clear hv
    by_cases hlt : k < n
    · have hin : k < l.length := by rw [Hn.out]; exact hlt
      obtain ⟨ad, rfl, hcell⟩ := hr.at_ hin
      obtain ⟨y, hy⟩ : ∃ y, y = l[k] := ⟨_, rfl⟩
      rw [← hy] at hcell
      have HY := Lib.hid hy
      clear hy
      have hx : bits .xor .u32 (v.toNat : Int) ((y.toNat : Int) % 4294967296 * 16777216 % 4294967296) = ((v ^^^ Crc.bin y).toNat : Int) := by
        refine xor32_of rfl ?_
        unfold Crc.bin
        rw [BitVec.toNat_shiftLeft, BitVec.toNat_ofNat, Nat.shiftLeft_eq]
        omega
      have hst : Crc.stateOf Crc.ones (l.take (k + 1)) = Crc.nib (Crc.nib (v ^^^ Crc.bin y)) := by
        rw [List.take_succ_eq_append_getElem hin, Crc.stateOf_append, ← HV.out, ← HY.out]
        rfl
      have HST := Lib.hid hst
      clear hst
      obtain ⟨z, hz⟩ : ∃ z, z = v ^^^ Crc.bin y := ⟨_, rfl⟩
      rw [← hz] at hx HST
      clear hz
      go_wp2_with fail
      clear hx
      refine (shift_any _ w hh).mono ?_
      rintro e w1 ⟨rfl, rfl⟩
      go_wp2_with fail
      refine (shift_any _ w hh).mono ?_
      rintro e w1 ⟨rfl, rfl⟩
      go_wp2
      exact ⟨⟨k + 1, _, by omega, by go_num, rfl, HST.out.symm⟩, by simp [intOf]; omega⟩
    · have hkn : k = n := by omega
      subst hkn
      have hst : Crc.crc l = ~~~ v := by
        rw [HV.out, List.take_of_length_le (by rw [Hn.out]; exact Nat.le_refl _)]
        rfl
      have HST := Lib.hid hst
      clear hst
      have hx : bits .xor .u32 IntKind.u32.max (v.toNat : Int) = ((~~~ v).toNat : Int) := by
        rw [xor32_of (a := Crc.ones) (b := v) (by decide) rfl, BitVec.xor_comm, ← Crc.not_xor]
      obtain ⟨z, hz⟩ : ∃ z, z = ~~~ v := ⟨_, rfl⟩
      rw [← hz] at hx HST
      clear hz
      go_wp2
      go_ret
      exact ⟨by rw [HST.out]; rfl, rfl⟩

end Go.Proofs.YtcgmaiadipiegaaDoor
