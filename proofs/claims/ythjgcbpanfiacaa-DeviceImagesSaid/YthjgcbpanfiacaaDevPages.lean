/-
  Pages by their lowest bits, which pages a crash leaves alone; conditions stand at each.
-/
import Derived.Test.YthjgcbpanfiacaaDevTools
namespace Go.Proofs.Ythjgcbpanfiacaa
open Go.RowKit Go.Sort Go.ChangeShapes Go.WideShapes
set_option linter.unusedVariables false
set_option linter.unusedSimpArgs false

theorem i64_mask (z : Int) (k : Nat) (hk : k ≤ 62) (m : Int) (hm : m = ((2 ^ k - 1 : Nat) : Int)) : bits .and .i64 z m = z % ((2 ^ k : Nat) : Int) := by
  subst hm
  have hp : 0 < 2 ^ k := Nat.two_pow_pos k
  have hple : 2 ^ k ≤ 2 ^ 62 := Nat.pow_le_pow_right (by omega) hk
  have hdvd : (2 : Nat) ^ k ∣ 2 ^ 64 := Nat.pow_dvd_pow 2 (by omega)
  show IntKind.i64.wrap ((BitVec.ofInt 64 z &&& BitVec.ofInt 64 ((2 ^ k - 1 : Nat) : Int)).toNat : Int) = _
  rw [BitVec.toNat_and, BitVec.ofInt_natCast, BitVec.toNat_ofNat, BitVec.toNat_ofInt]
  rw [Nat.mod_eq_of_lt (show 2 ^ k - 1 < 2 ^ 64 by omega), Nat.and_two_pow_sub_one_eq_mod]
  have h1 : (((z % ((2 ^ 64 : Nat) : Int)).toNat % 2 ^ k : Nat) : Int) = z % ((2 ^ k : Nat) : Int) := by
    rw [Int.natCast_emod, Int.toNat_of_nonneg (Int.emod_nonneg _ (by decide))]
    exact Int.emod_emod_of_dvd _ (Int.natCast_dvd_natCast.2 hdvd)
  rw [h1, IntKind.wrap_i64]
  have h2 := Int.emod_nonneg z (show ((2 ^ k : Nat) : Int) ≠ 0 by omega)
  have h3 := Int.emod_lt_of_pos z (show (0 : Int) < ((2 ^ k : Nat) : Int) by omega)
  omega
/-- A number's lowest three bits. -/
def p7 (x : Int) : Nat := (x % 8).toNat
theorem p7_lt (x : Int) : p7 x < 8 := by unfold p7; omega
theorem and7 (x : Int) : bits .and .i64 x 7 = (p7 x : Int) := by
  rw [i64_mask x 3 (by omega) 7 rfl]
  unfold p7
  omega
theorem b8_nat (x : Int) : ((b8 x).toNat : Int) = x % 256 := by
  have := u8_b8 x
  unfold u8 at this
  injection this

theorem take_splice_far {α : Type} (s : List α) (o : Nat) (c : List α) (k : Nat) (hk : k ≤ o) (ho : o ≤ s.length) : (splice s o c).take k = s.take k := by
  unfold splice
  rw [List.take_append_of_le_length (by rw [List.length_take]; omega), List.take_take, Nat.min_eq_left hk]
/-- What a write leaves of the first bytes. -/
theorem app_take {x : WR} {size n k : Nat} {s : List UInt8} (hs : s.length = n * 256) (hk : k ≤ x.page) (hx : x.page < n) : (app x size s).take (k * 256) = s.take (k * 256) := by
  have h1 : k * 256 ≤ x.page * 256 := Nat.mul_le_mul_right _ hk
  have h2 : x.page * 256 ≤ n * 256 := Nat.mul_le_mul_right _ (Nat.le_of_lt hx)
  exact take_splice_far _ _ _ _ h1 (by rw [hs]; exact h2)
theorem crash_take {keep : Nat} {torn part : Int} {st : List UInt8} {pd : List WR} {n k : Nat} (hs : st.length = n * 256) (hp : ∀ x ∈ pd, x.page < n) (hk : ∀ x ∈ pd, k ≤ x.page) (m : Nat) :
    (crashN keep torn part st pd m).take (k * 256) = st.take (k * 256) := by
  have := foldN_inv (f := fun i x s => if keep / 2 ^ (i % 64) % 2 = 0 then s else app x (sizeOfW torn part i) s) (s := st) (l := pd) (fun s : List UInt8 => s.length = n * 256 ∧ s.take (k * 256) = st.take (k * 256)) ⟨hs, rfl⟩ (fun i x t hx ht => by
    have hm := List.mem_of_getElem? hx
    show (if _ then _ else _ : List UInt8).length = _ ∧ (if _ then _ else _ : List UInt8).take _ = _
    split
    · exact ht
    · exact ⟨app_len ht.1 (hp x hm), (app_take ht.1 (hk x hm) (hp x hm)).trans ht.2⟩) m
  exact this.2

theorem extract_of_take {a b : List UInt8} {k : Nat} (h : a.take k = b.take k) : (⟨a.toArray⟩ : ByteArray).extract 0 k = (⟨b.toArray⟩ : ByteArray).extract 0 k := by
  apply ByteArray.ext
  rw [ByteArray.data_extract, ByteArray.data_extract]
  simp only [List.extract_toArray, List.extract_eq_take_drop, List.drop_zero, Nat.sub_zero, h]
theorem full8 (z : Int) (w : World) : Calls Try.prog 27 #[.int .u8 (z % 256)] w (FullPost w (b8 z)) := by
  have := full_any (b8 z) w
  rwa [b8_nat] at this
theorem DevB.drew {B : Nat} {w : World} {b n : Nat} {st : List UInt8} {pd : List WR} (h : DevB B w b n st pd) : DevB B w.drew b n st pd := ⟨h.1, h.2.drew⟩

end Go.Proofs.Ythjgcbpanfiacaa
