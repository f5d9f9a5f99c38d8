/-
  Several texts in one: Crc, SumOf, SumSeal, SumLaid, Rooms, SumRef. Each says what it proves, and under which conditions.
-/
import Derived.Test.YtelenboncejdaaaGreatDoorK2
import Derived.Test.YtelenboncejdaaaGreatDoorRows
import Derived.ProofKit
import Derived.LaidMore
import Derived.OpenShut
import Derived.ChangeSame
import Derived.ChangeVars
import Derived.JoinedOf
import Derived.LaidLaws
import Derived.LaidHandle
import Derived.Stop.Joined
import Derived.Lib.BufferWrite

/-
  The check as arithmetic: the shift by one bit, by four and by eight, the state behind a list of bytes; it is linear, no state but 0 is shifted to 0, and bits turned within 32 side by side turn the state; no condition.
-/
namespace Go.Proofs.YtelenboncejdaaaGreatDoor.Crc
set_option linter.unusedVariables false
set_option linter.unusedSimpArgs false

def poly : BitVec 32 := 79764919#32
/-- The shift by one bit. -/
def st1 (n : BitVec 32) : BitVec 32 := (n <<< 1) ^^^ (if n.msb then poly else 0#32)
def st (k : Nat) (n : BitVec 32) : BitVec 32 := Nat.repeat st1 k n

theorem st_zero (n : BitVec 32) : st 0 n = n := rfl
theorem st_succ (k : Nat) (n : BitVec 32) : st (k + 1) n = st1 (st k n) := rfl
theorem st_add (a b : Nat) (n : BitVec 32) : st (a + b) n = st a (st b n) := by
  induction a with
  | zero => rw [Nat.zero_add]; rfl
  | succ a ih => rw [Nat.succ_add, st_succ, ih]; rfl

theorem st1_xor (a b : BitVec 32) : st1 (a ^^^ b) = st1 a ^^^ st1 b := by
  unfold st1
  rw [BitVec.shiftLeft_xor_distrib, BitVec.msb_xor]
  have e : (if (a.msb ^^ b.msb) = true then poly else 0#32) = (if a.msb = true then poly else 0#32) ^^^ (if b.msb = true then poly else 0#32) := by
    cases a.msb <;> cases b.msb <;> simp
  rw [e]
  ac_rfl
theorem st_xor (k : Nat) (a b : BitVec 32) : st k (a ^^^ b) = st k a ^^^ st k b := by
  induction k with
  | zero => rfl
  | succ k ih => rw [st_succ, ih, st1_xor]; rfl
theorem st1_0 : st1 0#32 = 0#32 := by decide
theorem st_0 (k : Nat) : st k 0#32 = 0#32 := by
  induction k with
  | zero => rfl
  | succ k ih => rw [st_succ, ih, st1_0]

theorem st1_eq0 (a : BitVec 32) (h : st1 a = 0#32) : a = 0#32 := by
  unfold st1 at h
  cases hm : a.msb with
  | true =>
    rw [hm] at h
    have h0 := congrArg (fun x => BitVec.getLsbD x 0) h
    simp [poly] at h0
  | false =>
    rw [hm] at h
    simp at h
    apply BitVec.eq_of_getLsbD_eq
    intro i hi
    rw [BitVec.getLsbD_zero]
    rcases Nat.lt_or_ge i 31 with h1 | h1
    · have := congrArg (fun x => BitVec.getLsbD x (i + 1)) h
      simp at this
      exact this (by omega)
    · have : i = 31 := by omega
      subst this
      simpa [BitVec.msb_eq_getLsbD_last] using hm
theorem st_eq0 (k : Nat) (a : BitVec 32) (h : st k a = 0#32) : a = 0#32 := by
  induction k with
  | zero => exact h
  | succ k ih => exact ih (st1_eq0 _ h)
theorem xor_eq0 (a b : BitVec 32) (h : a ^^^ b = 0#32) : a = b := by
  have := congrArg (· ^^^ b) h
  simpa [BitVec.xor_assoc] using this
theorem st_inj (k : Nat) (a b : BitVec 32) (h : st k a = st k b) : a = b := by
  apply xor_eq0
  apply st_eq0 k
  rw [st_xor, h, BitVec.xor_self]

/-- The table of sixteen. -/
def tabL : List Nat := [0, 79764919, 159529838, 222504665, 319059676, 398814059, 445009330, 507990021, 638119352, 583659535, 797628118, 726387553, 890018660, 835552979, 1015980042, 944750013]
def tab (i : Nat) : BitVec 32 := BitVec.ofNat 32 (tabL.getD i 0)
/-- The shift by four bits, by the table. -/
def nib (n : BitVec 32) : BitVec 32 := (n <<< 4) ^^^ tab (n >>> 28).toNat

theorem low (k : Nat) (hk : k ≤ 32) (n : BitVec 32) (h : n.toNat < 2 ^ (32 - k)) : st k n = n <<< k := by
  have one : ∀ j, j < k → (n <<< j).msb = false := by
    intro j hj
    rw [BitVec.msb_eq_getLsbD_last, BitVec.getLsbD_shiftLeft]
    have : n.getLsbD (31 - j) = false := by
      rw [BitVec.getLsbD, Nat.testBit_lt_two_pow]
      exact Nat.lt_of_lt_of_le h (Nat.pow_le_pow_right (by omega) (by omega))
    simp [this]
  have hh : ∀ j, j ≤ k → st j n = n <<< j := by
    intro j
    induction j with
    | zero => intro _; simp [st_zero]
    | succ j ih =>
      intro hj
      rw [st_succ, ih (by omega)]
      unfold st1
      rw [one j (by omega)]
      simp [← BitVec.shiftLeft_add]
  exact hh k (Nat.le_refl _)
theorem ofNat_xor_add (a b : Nat) (k : Nat) (ha : a < 2 ^ k) : BitVec.ofNat 32 (b * 2 ^ k) ^^^ BitVec.ofNat 32 a = BitVec.ofNat 32 (b * 2 ^ k + a) := by
  have h : b * 2 ^ k + a = (b * 2 ^ k) ^^^ a := by
    rw [Nat.mul_comm]
    apply Nat.eq_of_testBit_eq
    intro i
    rw [Nat.testBit_xor, Nat.testBit_two_pow_mul_add _ ha, Nat.testBit_two_pow_mul]
    by_cases hi : i < k
    · have : ¬ k ≤ i := by omega
      simp [hi, this]
    · have : k ≤ i := by omega
      have h2 : a.testBit i = false := Nat.testBit_lt_two_pow (Nat.lt_of_lt_of_le ha (Nat.pow_le_pow_right (by omega) this))
      simp [hi, this, h2]
  rw [h]
  apply BitVec.eq_of_getLsbD_eq
  intro i hi
  simp [BitVec.getLsbD_ofNat, hi]

theorem high4 : ∀ k : Fin 16, st 4 (BitVec.ofNat 32 (k.val * 2 ^ 28)) = tab k.val := by decide +kernel

theorem nib_eq (n : BitVec 32) : nib n = st 4 n := by
  have hl := n.isLt
  have e0 : n = BitVec.ofNat 32 (n.toNat / 2 ^ 28 * 2 ^ 28 + n.toNat % 2 ^ 28) := by
    rw [show n.toNat / 2 ^ 28 * 2 ^ 28 + n.toNat % 2 ^ 28 = n.toNat by omega]
    simp
  have h := high4 ⟨n.toNat / 2 ^ 28, by omega⟩
  have h' : st 4 (BitVec.ofNat 32 (n.toNat / 2 ^ 28 * 2 ^ 28)) = tab (n.toNat / 2 ^ 28) := h
  have e1 : st 4 n = tab (n.toNat / 2 ^ 28) ^^^ (BitVec.ofNat 32 (n.toNat % 2 ^ 28) <<< 4) := by
    conv => lhs; rw [e0]
    rw [← ofNat_xor_add _ _ 28 (by omega), st_xor, h', low 4 (by omega) _ (by rw [BitVec.toNat_ofNat]; omega)]
  have e2 : BitVec.ofNat 32 (n.toNat % 2 ^ 28) <<< 4 = n <<< 4 := by
    apply BitVec.eq_of_toNat_eq
    rw [BitVec.toNat_shiftLeft, BitVec.toNat_shiftLeft, BitVec.toNat_ofNat, Nat.shiftLeft_eq, Nat.shiftLeft_eq]
    omega
  have e3 : (n >>> 28).toNat = n.toNat / 2 ^ 28 := by rw [BitVec.toNat_ushiftRight, Nat.shiftRight_eq_div_pow]
  rw [e1, e2]
  unfold nib
  rw [e3, BitVec.xor_comm]

/-- A byte comes in. -/
def bin (x : UInt8) : BitVec 32 := BitVec.ofNat 32 x.toNat <<< 24
def bstep (n : BitVec 32) (x : UInt8) : BitVec 32 := nib (nib (n ^^^ bin x))
theorem bstep_eq (n : BitVec 32) (x : UInt8) : bstep n x = st 8 (n ^^^ bin x) := by
  unfold bstep
  rw [nib_eq, nib_eq, ← st_add]
/-- The state behind bytes. -/
def stateOf (n : BitVec 32) (l : List UInt8) : BitVec 32 := l.foldl bstep n
def ones : BitVec 32 := 4294967295#32
/-- The check. -/
def crc (l : List UInt8) : BitVec 32 := ~~~ (stateOf ones l)

theorem stateOf_append (n : BitVec 32) (l m : List UInt8) : stateOf n (l ++ m) = stateOf (stateOf n l) m := by simp [stateOf]
theorem bin_xor (x y : UInt8) : bin (x ^^^ y) = bin x ^^^ bin y := by
  unfold bin
  rw [← BitVec.shiftLeft_xor_distrib]
  congr 1
  apply BitVec.eq_of_toNat_eq
  rw [BitVec.toNat_xor]
  simp only [BitVec.toNat_ofNat]
  have h1 := x.toNat_lt
  have h2 := y.toNat_lt
  have h3 := (x ^^^ y).toNat_lt
  rw [Nat.mod_eq_of_lt (by omega), Nat.mod_eq_of_lt (by omega), Nat.mod_eq_of_lt (by omega), UInt8.toNat_xor]
theorem x4 (a b c d : BitVec 32) : (a ^^^ b) ^^^ (c ^^^ d) = (a ^^^ c) ^^^ (b ^^^ d) := by ac_rfl
theorem x3 (a b c : BitVec 32) : (a ^^^ b) ^^^ c = (a ^^^ c) ^^^ b := by ac_rfl
theorem bstep_xor (a b : BitVec 32) (x y : UInt8) : bstep (a ^^^ b) (x ^^^ y) = bstep a x ^^^ bstep b y := by
  rw [bstep_eq, bstep_eq, bstep_eq, bin_xor, x4, st_xor]
theorem stateOf_cons (n : BitVec 32) (x : UInt8) (l : List UInt8) : stateOf n (x :: l) = stateOf (bstep n x) l := rfl
theorem stateOf_nil (n : BitVec 32) : stateOf n [] = n := rfl
theorem stateOf_xor : ∀ (l m : List UInt8) (a b : BitVec 32), l.length = m.length → stateOf (a ^^^ b) (List.zipWith (· ^^^ ·) l m) = stateOf a l ^^^ stateOf b m
  | [], [], a, b, _ => rfl
  | x :: l, y :: m, a, b, h => by
    rw [List.zipWith_cons_cons, stateOf_cons, stateOf_cons, stateOf_cons, bstep_xor]
    exact stateOf_xor l m _ _ (by simpa using h)
  | [], _ :: _, _, _, h => by simp at h
  | _ :: _, [], _, _, h => by simp at h

theorem not_xor (a : BitVec 32) : ~~~ a = a ^^^ ones := by
  apply BitVec.eq_of_getLsbD_eq
  intro i hi
  have : ones = BitVec.allOnes 32 := by decide
  rw [this, BitVec.getLsbD_not, BitVec.getLsbD_xor, BitVec.getLsbD_allOnes]
  simp only [hi, decide_true, Bool.true_and, Bool.xor_true]

/-- The check of bytes that are xored. -/
theorem crc_linear (l m : List UInt8) (h : l.length = m.length) :
    crc (List.zipWith (· ^^^ ·) l m) = crc l ^^^ crc m ^^^ crc (List.replicate l.length 0) := by
  have h1 := stateOf_xor l m ones ones h
  have h2 := stateOf_xor (List.zipWith (· ^^^ ·) l m) (List.replicate l.length 0) (ones ^^^ ones) ones (by simp [h])
  have h3 : List.zipWith (· ^^^ ·) (List.zipWith (· ^^^ ·) l m) (List.replicate l.length (0 : UInt8)) = List.zipWith (· ^^^ ·) l m := by
    apply List.ext_getElem
    · simp [h]
    · intro i _ _
      simp
  rw [h3, h1] at h2
  have h4 : ones ^^^ ones ^^^ ones = ones := by decide
  rw [h4] at h2
  unfold crc
  rw [h2]
  simp only [not_xor]
  generalize stateOf ones l = A
  generalize stateOf ones m = B
  generalize stateOf ones (List.replicate l.length 0) = C
  have e : A ^^^ ones ^^^ (B ^^^ ones) ^^^ (C ^^^ ones) = A ^^^ B ^^^ C ^^^ (ones ^^^ ones ^^^ ones) := by ac_rfl
  rw [e, h4]

theorem stateOf_xorL : ∀ (l : List UInt8) (a b : BitVec 32), stateOf (a ^^^ b) l = stateOf a l ^^^ st (8 * l.length) b
  | [], a, b => rfl
  | z :: l, a, b => by
    have h3 : bstep (a ^^^ b) z = bstep a z ^^^ st 8 b := by
      rw [bstep_eq, bstep_eq, x3, st_xor]
    rw [stateOf_cons, stateOf_cons, h3, stateOf_xorL l, ← st_add, List.length_cons, show 8 * (l.length + 1) = 8 * l.length + 8 by omega]

/-- A byte is turned. -/
theorem stateOf_set : ∀ (l : List UInt8) (q : Nat) (y : UInt8) (n : BitVec 32) (h : q < l.length),
    stateOf n (l.set q (l[q] ^^^ y)) = stateOf n l ^^^ st (8 * (l.length - q)) (bin y)
  | x :: l, 0, y, n, h => by
    have h1 : bstep n (x ^^^ y) = bstep n x ^^^ st 8 (bin y) := by
      rw [bstep_eq, bstep_eq, bin_xor, ← BitVec.xor_assoc, st_xor]
    rw [List.set_cons_zero, List.getElem_cons_zero, stateOf_cons, stateOf_cons, h1, stateOf_xorL, ← st_add, List.length_cons, Nat.sub_zero, show 8 * (l.length + 1) = 8 * l.length + 8 by omega]
  | x :: l, q + 1, y, n, h => by
    have h' : q < l.length := by simpa using h
    have := stateOf_set l q y (bstep n x) h'
    rw [List.set_cons_succ, List.getElem_cons_succ, stateOf_cons, stateOf_cons, List.length_cons, show l.length + 1 - (q + 1) = l.length - q by omega]
    exact this
  | [], q, y, n, h => by simp at h

def msb32 : BitVec 32 := 2147483648#32
theorem msb_down : ∀ j : Fin 32, st j.val (msb32 >>> j.val) = msb32 := by decide +kernel
theorem st_msb (m j : Nat) (hj : j < 32) (hm : j ≤ m) : st m (msb32 >>> j) = st (m - j) msb32 := by
  have h := msb_down ⟨j, hj⟩
  have e : m = (m - j) + j := by omega
  conv => lhs; rw [e, st_add]
  rw [show st j (msb32 >>> j) = msb32 from h]
theorem bin_bit : ∀ r : Fin 8, bin (UInt8.ofNat (128 >>> r.val)) = msb32 >>> r.val := by decide +kernel

/-- The highest i bits of t. -/
def top (t : BitVec 32) : Nat → BitVec 32
  | 0 => 0#32
  | i + 1 => top t i ^^^ (if t.getLsbD (31 - i) then msb32 >>> i else 0#32)
theorem msb32_bit (i : Nat) (hi : i < 32) (j : Nat) : (msb32 >>> i).getLsbD j = decide (j = 31 - i) := by
  rw [BitVec.getLsbD_ushiftRight]
  have : msb32 = BitVec.twoPow 32 31 := by decide
  rw [this, BitVec.getLsbD_twoPow]
  simp
  constructor <;> omega
theorem top_bit (t : BitVec 32) : ∀ (i : Nat), i ≤ 32 → ∀ j, j < 32 → (top t i).getLsbD j = (decide (32 - i ≤ j) && t.getLsbD j)
  | 0, _, j, hj => by simp [top]; omega
  | i + 1, hi, j, hj => by
    unfold top
    rw [BitVec.getLsbD_xor, top_bit t i (by omega) j hj]
    by_cases h : t.getLsbD (31 - i) = true
    · rw [if_pos h, msb32_bit i (by omega)]
      by_cases hj2 : j = 31 - i
      · subst hj2
        have a1 : ¬ (32 - i ≤ 31 - i) := by omega
        have a2 : 32 - (i + 1) ≤ 31 - i := by omega
        simp [a1, a2, h]
      · have a1 : decide (32 - i ≤ j) = decide (32 - (i + 1) ≤ j) := by
          apply decide_eq_decide.2; omega
        rw [a1]; simp [hj2]
    · rw [if_neg h]
      by_cases hj2 : j = 31 - i
      · subst hj2
        have h' : t.getLsbD (31 - i) = false := by simpa using h
        simp [h']
      · have a1 : decide (32 - i ≤ j) = decide (32 - (i + 1) ≤ j) := by
          apply decide_eq_decide.2; omega
        rw [a1]; simp
theorem top_all (t : BitVec 32) : top t 32 = t := by
  apply BitVec.eq_of_getLsbD_eq
  intro j hj
  rw [top_bit t 32 (by omega) j hj]
  simp

/-- A bit of the burst is turned. -/
theorem turn_bit (l : List UInt8) (n n' : BitVec 32) (t : BitVec 32) (p k i : Nat) (hi : i < 32) (hp : p = k + i) (hk : k + 32 ≤ 8 * l.length) (h : p / 8 < l.length)
    (hs : stateOf n l = n' ^^^ st (8 * l.length - k) (top t i)) (hb : t.getLsbD (31 - i) = true) :
    stateOf n (l.set (p / 8) (l[p / 8] ^^^ UInt8.ofNat (128 >>> (p % 8)))) = n' ^^^ st (8 * l.length - k) (top t (i + 1)) := by
  rw [stateOf_set, hs, BitVec.xor_assoc]
  refine congrArg (n' ^^^ ·) ?_
  show _ = st (8 * l.length - k) (top t (i + 1))
  rw [show top t (i + 1) = top t i ^^^ (if t.getLsbD (31 - i) then msb32 >>> i else 0#32) from rfl, if_pos hb, st_xor]
  refine congrArg (st (8 * l.length - k) (top t i) ^^^ ·) ?_
  show _ = st (8 * l.length - k) (msb32 >>> i)
  have hr : p % 8 < 8 := Nat.mod_lt _ (by omega)
  have := bin_bit ⟨p % 8, hr⟩
  rw [show bin (UInt8.ofNat (128 >>> (p % 8))) = msb32 >>> (p % 8) from this]
  rw [st_msb _ _ (by omega) (by omega), st_msb _ _ (by omega) (by omega)]
  rw [show 8 * (l.length - p / 8) - p % 8 = 8 * l.length - k - i by omega]
theorem turn_not (l : List UInt8) (n n' : BitVec 32) (t : BitVec 32) (k i : Nat)
    (hs : stateOf n l = n' ^^^ st (8 * l.length - k) (top t i)) (hb : t.getLsbD (31 - i) = false) :
    stateOf n l = n' ^^^ st (8 * l.length - k) (top t (i + 1)) := by
  rw [hs, show top t (i + 1) = top t i ^^^ (if t.getLsbD (31 - i) then msb32 >>> i else 0#32) from rfl, if_neg (by rw [hb]; simp), BitVec.xor_zero]

/-- Four bytes of a number. -/
def be (v : BitVec 32) : List UInt8 := [UInt8.ofNat (v.toNat / 16777216), UInt8.ofNat (v.toNat / 65536), UInt8.ofNat (v.toNat / 256), UInt8.ofNat v.toNat]
theorem be_length (v : BitVec 32) : (be v).length = 4 := rfl

theorem of4 (a b c d : UInt8) : ∃ v, [a, b, c, d] = be v := by
  refine ⟨BitVec.ofNat 32 (a.toNat * 16777216 + b.toNat * 65536 + c.toNat * 256 + d.toNat), ?_⟩
  have h1 := a.toNat_lt
  have h2 := b.toNat_lt
  have h3 := c.toNat_lt
  have h4 := d.toNat_lt
  unfold be
  rw [BitVec.toNat_ofNat, Nat.mod_eq_of_lt (by omega)]
  have q : ∀ (x : UInt8) (n : Nat), n % 256 = x.toNat → x = UInt8.ofNat n := by
    intro x n h
    apply UInt8.toNat_inj.1
    rw [UInt8.toNat_ofNat']
    omega
  rw [← q a _ (by omega), ← q b _ (by omega), ← q c _ (by omega), ← q d _ (by omega)]
theorem be_inj (v v' : BitVec 32) (h : be v = be v') : v = v' := by
  unfold be at h
  simp only [List.cons.injEq, and_true] at h
  obtain ⟨h1, h2, h3, h4⟩ := h
  have g : ∀ a b : Nat, UInt8.ofNat a = UInt8.ofNat b → a % 256 = b % 256 := by
    intro a b e
    have := congrArg UInt8.toNat e
    simpa [UInt8.toNat_ofNat'] using this
  have g1 := g _ _ h1
  have g2 := g _ _ h2
  have g3 := g _ _ h3
  have g4 := g _ _ h4
  have l1 := v.isLt
  have l2 := v'.isLt
  apply BitVec.eq_of_toNat_eq
  omega

/-- Four bytes come in as one number. -/
theorem bin_nat (n : Nat) : bin (UInt8.ofNat n) = BitVec.ofNat 32 (n % 256 * 16777216) := by
  apply BitVec.eq_of_toNat_eq
  unfold bin
  rw [BitVec.toNat_shiftLeft, BitVec.toNat_ofNat, BitVec.toNat_ofNat, UInt8.toNat_ofNat', Nat.shiftLeft_eq]
  omega
theorem in8 (m : BitVec 32) (a b : Nat) (hb : b < 2 ^ 24) : st 8 (m ^^^ BitVec.ofNat 32 (a * 2 ^ 24 + b)) = st 8 (m ^^^ BitVec.ofNat 32 (a * 2 ^ 24)) ^^^ BitVec.ofNat 32 (b * 256) := by
  rw [← ofNat_xor_add _ _ 24 hb, ← BitVec.xor_assoc, st_xor _ _ (BitVec.ofNat 32 b)]
  congr 1
  rw [low 8 (by omega) _ (by rw [BitVec.toNat_ofNat, Nat.mod_eq_of_lt (by omega)]; exact hb)]
  apply BitVec.eq_of_toNat_eq
  rw [BitVec.toNat_shiftLeft, BitVec.toNat_ofNat, BitVec.toNat_ofNat, Nat.shiftLeft_eq]
  omega

set_option maxRecDepth 100000 in
theorem stateOf_be (n v : BitVec 32) : stateOf n (be v) = st 32 (n ^^^ v) := by
  have hv : v = BitVec.ofNat 32 v.toNat := by simp
  have hl := v.isLt
  generalize hN : v.toNat = N at *
  subst hv
  unfold be stateOf
  rw [hN]
  simp only [List.foldl_cons, List.foldl_nil, bstep_eq, bin_nat]
  have e32 : ∀ m : BitVec 32, st 32 m = st 8 (st 8 (st 8 (st 8 m))) := fun m => by rw [← st_add, ← st_add, ← st_add]
  rw [e32]
  have e1 : N = N / 16777216 % 256 * 2 ^ 24 + N % 2 ^ 24 := by omega
  conv => rhs; rw [e1]
  rw [in8 _ _ _ (by omega)]
  have e2 : N % 2 ^ 24 * 256 = N / 65536 % 256 * 2 ^ 24 + N % 65536 * 256 := by omega
  rw [e2, in8 _ _ _ (by omega)]
  have e3 : N % 65536 * 256 * 256 = N / 256 % 256 * 2 ^ 24 + N % 256 * 65536 := by omega
  rw [e3, in8 _ _ _ (by omega)]
  have e4 : N % 256 * 65536 * 256 = N % 256 * 16777216 := by omega
  rw [e4]

/-- Sealed bytes. -/
def sealed (l : List UInt8) : List UInt8 := l ++ be (crc l)
theorem sealed_length (l : List UInt8) : (sealed l).length = l.length + 4 := by simp [sealed, be_length]
def isSealed (l : List UInt8) : Bool := decide (sealed (l.take (l.length - 4)) = l)

/-- Bytes are sealed if the state behind them is one and the same number. -/
theorem isSealed_iff (l : List UInt8) (h : 4 ≤ l.length) : isSealed l = true ↔ stateOf ones l = st 32 ones := by
  unfold isSealed
  rw [decide_eq_true_eq]
  have hd : (l.drop (l.length - 4)).length = 4 := by simp; omega
  obtain ⟨v, hv⟩ : ∃ v, l.drop (l.length - 4) = be v := by
    match hm : l.drop (l.length - 4), hd with
    | [a, b, c, d], _ => exact of4 a b c d
  have hl : l = l.take (l.length - 4) ++ be v := by rw [← hv, List.take_append_drop]
  generalize hi : l.take (l.length - 4) = i at *
  rw [hl, stateOf_append, stateOf_be]
  unfold sealed
  constructor
  · intro e
    have e1 := be_inj _ _ (List.append_cancel_left e)
    have e2 : stateOf ones i ^^^ v = ones := by
      rw [← e1]
      unfold crc
      rw [not_xor, ← BitVec.xor_assoc, BitVec.xor_self, BitVec.zero_xor]
    rw [e2]
  · intro e
    have e1 := st_inj _ _ _ e
    have e2 : crc i = v := by
      unfold crc
      rw [not_xor]
      generalize stateOf ones i = A at e1 ⊢
      rw [← e1, ← BitVec.xor_assoc, BitVec.xor_self, BitVec.zero_xor]
    rw [e2]

theorem sealed_take (l : List UInt8) : (sealed l).take l.length = l := by simp [sealed]
theorem sealed_isSealed (l : List UInt8) : isSealed (sealed l) = true := by
  unfold isSealed
  rw [decide_eq_true_eq, sealed_length]
  have : List.take (l.length + 4 - 4) (sealed l) = l := by
    rw [Nat.add_sub_cancel]
    simp [sealed]
  rw [this]

/-- Turned bits are found. -/
theorem turned (l m : List UInt8) (k : Nat) (t : BitVec 32) (hm : m.length = l.length + 4) (h : stateOf ones m = st 32 ones ^^^ st (8 * m.length - k) (top t 32)) : isSealed m = decide (t = 0#32) := by
  rw [top_all] at h
  apply Bool.eq_iff_iff.2
  rw [isSealed_iff m (by omega), decide_eq_true_eq, h]
  constructor
  · intro e
    apply st_eq0 (8 * m.length - k)
    have := congrArg (st 32 ones ^^^ ·) e
    simpa [← BitVec.xor_assoc] using this
  · rintro rfl
    rw [st_0, BitVec.xor_zero]

end Go.Proofs.YtelenboncejdaaaGreatDoor.Crc

/-
  The contracts of sum.shift and sum.Of: the check of the bytes, nothing is changed; conditions: the table of sixteen numbers lies in memory, the slice can be read.
-/
namespace Go.Proofs.YtelenboncejdaaaGreatDoor
open Go.RowKit
set_option linter.unusedVariables false

/-- The table lies in memory. -/
def Half (w : World) : Prop := 0 < w.heap.size ∧ ∀ i, i < 16 → w.cell? ⟨0, i, none⟩ = some (.int .u32 (Crc.tabL.getD i 0 : Nat))
theorem Half.below {w w' : World} (h : Half w) (hb : Below w.heap.size w w') : Half w' := ⟨Nat.lt_of_lt_of_le h.1 hb.size, fun i hi => (hb.cell h.1).trans (h.2 i hi)⟩

theorem xor32 (a b : BitVec 32) : bits .xor .u32 (a.toNat : Int) (b.toNat : Int) = ((a ^^^ b).toNat : Int) := by
  show IntKind.u32.wrap ((BitVec.ofInt 32 (a.toNat : Int) ^^^ BitVec.ofInt 32 (b.toNat : Int)).toNat : Int) = _
  rw [BitVec.ofInt_natCast, BitVec.ofInt_natCast, BitVec.ofNat_toNat, BitVec.ofNat_toNat, BitVec.setWidth_eq, BitVec.setWidth_eq]
  have := (a ^^^ b).isLt
  rw [IntKind.wrap_u32]
  omega
theorem xor32_of {x y : Int} {a b : BitVec 32} (hx : x = a.toNat) (hy : y = b.toNat) : bits .xor .u32 x y = ((a ^^^ b).toNat : Int) := by rw [hx, hy, xor32]

theorem tab_toNat (i : Nat) (hi : i < 16) : (Crc.tab i).toNat = Crc.tabL.getD i 0 := by
  have : ∀ k : Fin 16, (Crc.tab k.val).toNat = Crc.tabL.getD k.val 0 := by decide +kernel
  exact this ⟨i, hi⟩

set_option maxHeartbeats 400000 in
theorem shift_any (v : BitVec 32) (w : World) (hh : Half w) :
    Calls Tryz.prog 175 #[.int .u32 (v.toNat : Int)] w fun e w' => e = .returned (.int .u32 ((Crc.nib v).toNat : Int)) ∧ w = w' := by
  have hl := v.isLt
  have hq : v.toNat / 268435456 < 16 := by omega
  have hc := hh.2 _ hq
  have hx : bits .xor .u32 ((v.toNat : Int) * 16 % 4294967296) ((Crc.tabL.getD (v.toNat / 268435456) 0 : Nat) : Int) = ((Crc.nib v).toNat : Int) := by
    unfold Crc.nib
    refine xor32_of ?_ ?_
    · rw [BitVec.toNat_shiftLeft, Nat.shiftLeft_eq]; omega
    · rw [show (v >>> 28).toNat = v.toNat / 268435456 by rw [BitVec.toNat_ushiftRight, Nat.shiftRight_eq_div_pow], tab_toNat _ hq]
  generalize Crc.nib v = z at hx ⊢
  generalize Crc.tabL.getD (v.toNat / 268435456) 0 = c at hx hc
  generalize v.toNat = n at *
  clear hh
  go_enter Tryz.func175, Tryz.ntmps175
  go_wp2
  go_ret
  exact ⟨rfl, rfl⟩

theorem Rd.at_ {w : World} {A : Option Addr} {l : List UInt8} (h : Rd w A l) {j : Nat} (hj : j < l.length) : ∃ ad, A = some ad ∧ w.cell? (ad.add j) = some (.int .u8 (l[j].toNat : Int)) := by
  obtain ⟨ad, e, _, hc⟩ := h (by omega)
  exact ⟨ad, e, hc j (u8 l[j]) (by simp [bcells, hj])⟩

set_option maxHeartbeats 1000000 in
/-- sum.Of. -/
theorem of_any (A : Option Addr) (n c : Nat) (l : List UInt8) (w : World) (hh : Half w) (hr : Rd w A l) (hn : l.length = n) (hb : n ≤ 281474976710656) :
    Calls Tryz.prog 154 #[.slice A n c] w fun e w' => e = .returned (.int .u32 ((Crc.crc l).toNat : Int)) ∧ w = w' := by
  have Hn := Lib.hid hn
  clear hn
  go_enter Tryz.func154, Tryz.ntmps154
  go_wp2
  go_loop [3, 8] (fun x i => ∃ (k : Nat) (v : BitVec 32), k ≤ n ∧ i = .int .i64 k ∧ x = .int .u32 (v.toNat : Int) ∧ v = Crc.stateOf Crc.ones (l.take k)) (fun _ i => n - (intOf i).toNat)
  case atStart => exact ⟨0, Crc.ones, Nat.zero_le _, rfl, rfl, rfl⟩
  case round =>
    obtain ⟨k, v, hk, rfl, rfl, hv⟩ := hrel
    have HV := Lib.hid hv
    clear hv
    by_cases hlt : k < n
    · have hin : k < l.length := by rw [Hn.out]; exact hlt
      obtain ⟨ad, rfl, hcell⟩ := hr.at_ hin
      obtain ⟨y, hy⟩ : ∃ y, y = l[k] := ⟨_, rfl⟩
      rw [← hy] at hcell
      have HY := Lib.hid hy
      clear hy
      have hx : bits .xor .u32 (v.toNat : Int) ((y.toNat : Int) % 4294967296 * 16777216 % 4294967296) = ((v ^^^ Crc.bin y).toNat : Int) := by
        refine xor32_of rfl ?_
        unfold Crc.bin
        rw [BitVec.toNat_shiftLeft, BitVec.toNat_ofNat, Nat.shiftLeft_eq]
        omega
      have hst : Crc.stateOf Crc.ones (l.take (k + 1)) = Crc.nib (Crc.nib (v ^^^ Crc.bin y)) := by
        rw [List.take_succ_eq_append_getElem hin, Crc.stateOf_append, ← HV.out, ← HY.out]
        rfl
      have HST := Lib.hid hst
      clear hst
      obtain ⟨z, hz⟩ : ∃ z, z = v ^^^ Crc.bin y := ⟨_, rfl⟩
      rw [← hz] at hx HST
      clear hz
      go_wp2_with fail
      clear hx
      refine (shift_any _ w hh).mono ?_
      rintro e w1 ⟨rfl, rfl⟩
      go_wp2_with fail
      refine (shift_any _ w hh).mono ?_
      rintro e w1 ⟨rfl, rfl⟩
      go_wp2
      exact ⟨⟨k + 1, _, by omega, by go_num, rfl, HST.out.symm⟩, by simp [intOf]; omega⟩
    · have hkn : k = n := by omega
      subst hkn
      have hst : Crc.crc l = ~~~ v := by
        rw [HV.out, List.take_of_length_le (by rw [Hn.out]; exact Nat.le_refl _)]
        rfl
      have HST := Lib.hid hst
      clear hst
      have hx : bits .xor .u32 IntKind.u32.max (v.toNat : Int) = ((~~~ v).toNat : Int) := by
        rw [xor32_of (a := Crc.ones) (b := v) (by decide) rfl, BitVec.xor_comm, ← Crc.not_xor]
      obtain ⟨z, hz⟩ : ∃ z, z = ~~~ v := ⟨_, rfl⟩
      rw [← hz] at hx HST
      clear hz
      go_wp2
      go_ret
      exact ⟨by rw [HST.out]; rfl, rfl⟩

end Go.Proofs.YtelenboncejdaaaGreatDoor

/-
  The contracts of sum.Seal, bytes.Equal, bytes.Clone and sum.Open: sealed bytes in a new row; equality; a copy in a new row; what was sealed, or nothing; conditions: the table lies in memory, the slices can be read, all stays within 2^48 bytes.
-/
namespace Go.Proofs.YtelenboncejdaaaGreatDoor
open Go.RowKit Go.Sort
set_option linter.unusedVariables false

theorem bcells_be (v : BitVec 32) : bcells (Crc.be v) = [.int .u8 ((v.toNat : Int) / 16777216), .int .u8 ((v.toNat : Int) / 65536 % 256), .int .u8 ((v.toNat : Int) / 256 % 256), .int .u8 ((v.toNat : Int) % 256)] := by
  have one : ∀ n : Nat, u8 (UInt8.ofNat n) = .int .u8 ((n : Int) % 256) := by
    intro n
    unfold u8
    rw [UInt8.toNat_ofNat']
    congr 1
  have hl := v.isLt
  have e : (((v.toNat / 16777216 : Nat) : Int) % 256) = (v.toNat : Int) / 16777216 := by omega
  simp only [Crc.be, bcells, List.map_cons, List.map_nil, one, e]
  simp
theorem bcells_sealed (l : List UInt8) : bcells (Crc.sealed l) = bcells l ++ bcells (Crc.be (Crc.crc l)) := by rw [Crc.sealed, bcells_append]

set_option maxHeartbeats 400000 in
/-- sum.Seal. -/
theorem seal_any (A : Option Addr) (n c : Nat) (l : List UInt8) (w : World) (hh : Half w) (hr : Rd w A l) (hn : l.length = n) (hb : n ≤ 281474976710000) :
    Calls Tryz.prog 118 #[.slice A n c] w fun e w' =>
      e = .returned (.slice (some ⟨w.heap.size, 0, none⟩) (n + 4) (n + 4)) ∧ w'.ownsRow w.heap.size 5 1 (.slice (some ⟨w.heap.size, 0, none⟩) (n + 4) (n + 4)) (n + 4) (bcells (Crc.sealed l)) ∧ Below w.heap.size w w' := by
  have hmk : ∀ w : World, (Instr.makeSlice 46 (.int .i64 (n : Int)) (.int .i64 ((n : Int) + 4))).run Tryz.prog w =
      .ok (.slice (some ⟨w.heap.size, 0, none⟩) n (n + 4)) (w.alloc (.cells (madeCells #[.int .u8 0] (n + 4)) 5)) := by
    intro w
    have := run_make_bytes n (n + 4) (by omega) (by omega) w
    rwa [Int.natCast_add] at this
  obtain ⟨Z, hZ⟩ : ∃ Z, Z = List.replicate (n + 4) (Value.int .u8 0) := ⟨_, rfl⟩
  rw [made_list, ← hZ] at hmk
  have hZl : Z.length = n + 4 := by rw [hZ]; simp
  have HZl := Lib.hid hZl
  have Hn := Lib.hid hn
  clear hZl hZ hn
  have H2 : Hid ((bcells l).length = Nat.min n n) := by
    show (bcells l).length = Nat.min n n
    rw [bcells_length, Hn.out]; simp
  have H3 : Hid (0 < (bcells l).length → (some ⟨w.heap.size, 0, none⟩ : Option Addr) = some ⟨w.heap.size, 0, none⟩ ∧ ∃ ad, A = some ad ∧ ∀ j v, (bcells l)[j]? = some v → (w.alloc (.cells Z.toArray 5)).cell? (ad.add j) = some v) := by
    intro hp
    rw [bcells_length] at hp
    obtain ⟨ad, e, hlt, hc⟩ := hr hp
    exact ⟨rfl, ad, e, fun j v hv => (World.cell?_alloc_lt w _ _ (by rw [block_of_add]; exact hlt)).trans (hc j v hv)⟩
  have H4 : Hid (0 + (bcells l).length ≤ Z.length) := by
    show 0 + (bcells l).length ≤ Z.length
    rw [bcells_length, Hn.out, HZl.out]; omega
  obtain ⟨i0, hi0, hz0, hz1, hz2⟩ := info_parts u8info
  rw [bcells_sealed, bcells_be]
  obtain ⟨v, hv⟩ : ∃ v, v = Crc.crc l := ⟨_, rfl⟩
  rw [← hv]
  have HV := Lib.hid hv
  have hvl := v.isLt
  clear hv
  go_enter Tryz.func118, Tryz.ntmps118
  go_wp2_with ((with_reducible refine wpList_copy_splice rfl (.tmp 11) (.tmp 12) 46 46 rfl 5 Tryz.underlying46 (by kernel_rfl) _ _ _ _ _ _ rfl rfl w.heap.size 0 Z 5 (heap_alloc_new w _) (bcells l) H2.out H3.out H4.out (bcells_one l) w.heap.size w ((Below.refl _ _).alloc (Nat.le_refl _) _) (Nat.le_refl _) ?_); intro w2 HG2 hB2)
  have hown : w2.ownsRow w.heap.size 5 1 (.slice (some ⟨w.heap.size, 0, none⟩) n (n + 4)) n (bcells l) := by
    refine ⟨by rw [bcells_length, Hn.out]; simp, .inr ⟨w.heap.size, n + 4, _, rfl, Nat.le_refl _, HG2.out, by omega, by simp only [maxLen]; omega, ?_, ?_⟩⟩
    · rw [List.size_toArray, length_splice _ _ _ (by rw [bcells_length, Hn.out, HZl.out]; omega), HZl.out]; simp
    · have := take_splice Z (bcells l)
      rw [bcells_length, Hn.out] at this
      simpa using this
  refine (of_any A n c l w2 (hh.below hB2) (hr.below hB2) Hn.out (by omega)).mono ?_
  rintro e w3 ⟨rfl, rfl⟩
  rw [← HV.out]
  go_wp2_with (at_builtin; (refine wpList_append_own_spare _ rfl (.tmp 16) (.tmp 28) _ rfl w.heap.size 5 i0 1 Tryz.underlying46 hi0 hz1 w.heap.size n (n + 4) (bcells l) rfl (World.ownsRow.alloc hown _) ⟨w2.heap.size, 0, none⟩ 4 4 [.int .u8 ((v.toNat : Int) / 16777216), .int .u8 ((v.toNat : Int) / 65536 % 256), .int .u8 ((v.toNat : Int) / 256 % 256), .int .u8 ((v.toNat : Int) % 256)] rfl rfl (new_row w2 _ _) (by simp [Value.oneCell']) (Nat.le_refl _) ?_); intro w4 hown4 hg4)
  go_ret
  exact ⟨rfl, hown4, (hB2.alloc hB2.size _).grown hg4 (Nat.le_trans hB2.size (by simp)) (fun k hk => by cases hk; exact Nat.le_refl _)⟩

/-- A row of the call's own can be read. -/
theorem Rd.of_own {w : World} {base n c : Nat} {A : Option Addr} {l : List UInt8} (h : w.ownsRow base 5 1 (.slice A n c) n (bcells l)) : Rd w A l := by
  intro h0
  rcases h.2 with ⟨hv, hx⟩ | ⟨g, cap, cur, hv, _⟩
  · cases hv
    have := h.1
    rw [bcells_length] at this
    omega
  · cases hv
    exact ⟨_, rfl, own_lt h, h.cells rfl⟩
theorem own_mono {w : World} {b b' s n : Nat} {e : TypeId} {v : Value} {xs : List Value} (h : w.ownsRow b e s v n xs) (hb : b' ≤ b) : w.ownsRow b' e s v n xs := by
  refine ⟨h.1, ?_⟩
  rcases h.2 with hv | ⟨g, cap, cur, h1, h2, h3⟩
  · exact .inl hv
  · exact .inr ⟨g, cap, cur, h1, Nat.le_trans hb h2, h3⟩
/-- A row of the call's own stays where only new memory is made. -/
theorem own_below {w w' : World} {b s n : Nat} {e : TypeId} {v : Value} {xs : List Value} (h : w.ownsRow b e s v n xs) (hb : Below w.heap.size w w') : w'.ownsRow b e s v n xs := by
  refine ⟨h.1, ?_⟩
  rcases h.2 with hv | ⟨g, cap, cur, h1, h2, h3, h4⟩
  · exact .inl hv
  · exact .inr ⟨g, cap, cur, h1, h2, (hb.block g (lt_of_block h3)).trans h3, h4⟩
theorem own_len {w : World} {base n c : Nat} {A : Option Addr} {l : List UInt8} (h : w.ownsRow base 5 1 (.slice A n c) n (bcells l)) : l.length = n := by
  have := h.1
  rw [bcells_length] at this
  omega
theorem own_cap {w : World} {base n c : Nat} {A : Option Addr} {xs : List Value} {e : TypeId} (h : w.ownsRow base e 1 (.slice A n c) n xs) : n ≤ c := by
  rcases h.2 with ⟨hv, h0⟩ | ⟨g, cap, cur, hv, _, _, hc, _⟩
  · omega
  · cases hv
    exact hc
/-- string(b) in later worlds. -/
theorem conv_rd_later {w : World} {A : Option Addr} {n c : Nat} {l : List UInt8} (h : Rd w A l) (hn : l.length = n) (d : Nat) (os : Array Obj) :
    (convert 46 9 (.slice A n c)).run Tryz.prog (grow (redrawn w d) os) = .ok (.string ⟨l.toArray⟩) (grow (redrawn w d) os) :=
  conv_rd (h.below (below_regrown w d os)) hn
theorem conv_str_later {w : World} {A : Option Addr} {c : Nat} {b : ByteArray} (h : Rd w A b.data.toList) (d : Nat) (os : Array Obj) :
    (convert 46 9 (.slice A b.size c)).run Tryz.prog (grow (redrawn w d) os) = .ok (.string b) (grow (redrawn w d) os) :=
  conv_str (h.below (below_regrown w d os))
theorem Rd.take {w : World} {A : Option Addr} {l : List UInt8} (h : Rd w A l) (k : Nat) : Rd w A (l.take k) := by
  intro h0
  obtain ⟨ad, e, hlt, hc⟩ := h (by rw [List.length_take] at h0; omega)
  refine ⟨ad, e, hlt, fun j u hu => hc j u ?_⟩
  simp only [bcells, List.map_take] at hu ⊢
  have hj : j < k := by
    have := (List.getElem?_eq_some_iff.1 hu).1
    rw [List.length_take] at this
    omega
  rwa [List.getElem?_take_of_lt hj] at hu

set_option maxHeartbeats 400000 in
/-- bytes.Equal. -/
theorem equal_any (A B : Option Addr) (n c m d : Nat) (l k : List UInt8) (w : World) (hr : Rd w A l) (hn : l.length = n) (hs : Rd w B k) (hm : k.length = m) :
    Calls Tryz.prog 166 #[.slice A n c, .slice B m d] w fun e w' => e = .returned (.bool (decide (l = k))) ∧ w = w' := by
  have c1 := conv_rd (c := c) hr hn
  have c2 := conv_rd (c := d) hs hm
  clear hr hn hs hm
  go_enter Tryz.func166, Tryz.ntmps166
  go_wp2
  go_ret
  refine ⟨?_, rfl⟩
  show Ending.returned (.bool (l == k)) = _
  rw [show (l == k) = decide (l = k) from by by_cases h : l = k <;> simp [h]]

set_option maxHeartbeats 400000 in
/-- bytes.Clone. -/
theorem clone_any (ad : Addr) (n c : Nat) (l : List UInt8) (w : World) (hr : Rd w (some ad) l) (hn : l.length = n) (hb : n ≤ 100000000000) :
    Calls Tryz.prog 178 #[.slice (some ad) n c] w fun e w' =>
      ∃ g c', e = .returned (.slice (some ⟨g, 0, none⟩) n c') ∧ w'.ownsRow w.heap.size 5 1 (.slice (some ⟨g, 0, none⟩) n c') n (bcells l) ∧ Below w.heap.size w w' := by
  have Hn := Lib.hid hn
  clear hn
  obtain ⟨i0, hi0, hz0, hz1, hz2⟩ := info_parts u8info
  have hcells : ∀ j u, (bcells l)[j]? = some u → (w.alloc (.cells #[] 5)).cell? (ad.add j) = some u := by
    intro j u hu
    have hl : 0 < l.length := by
      have := (List.getElem?_eq_some_iff.1 hu).1
      rw [bcells_length] at this
      omega
    obtain ⟨ad', e, hlt, hc⟩ := hr hl
    cases e
    exact (World.cell?_alloc_lt w _ _ (by rw [block_of_add]; exact hlt)).trans (hc j u hu)
  have HC := Lib.hid hcells
  clear hcells
  have hown : (w.alloc (.cells #[] 5)).ownsRow w.heap.size 5 1 (.slice (some ⟨w.heap.size, 0, none⟩) 0 0) 0 [] :=
    ⟨rfl, .inr ⟨w.heap.size, 0, _, rfl, Nat.le_refl _, heap_alloc_new w _, Nat.le_refl _, by simp [maxLen], rfl, rfl⟩⟩
  have he : ∀ w : World, (binOp .eql 46 (.slice (some ad) n c) (.slice none 0 0)).run Tryz.prog w = .ok (.bool false) w := fun _ => by
    set_option maxRecDepth 100000 in rfl
  go_enter Tryz.func178, Tryz.ntmps178
  go_wp2_with (at_builtin; (refine wpList_append_own _ rfl (.tmp 5) (.tmp 6) _ rfl w.heap.size 5 i0 _ 1 1 Tryz.underlying46 hi0 hz0 hz1 hz2 rfl (by omega) _ 0 [] rfl hown ad n c (bcells l) rfl (by rw [bcells_length, Hn.out]; omega) HC.out (bcells_one l) (by simp only [maxLen]; omega) (by omega) (by simp) ?_); intro v' w2 hown2 hg2 hnil2)
  go_ret
  have hb2 : Below w.heap.size w w2 := ((Below.refl _ _).alloc (Nat.le_refl _) _).grown hg2 (by simp) (fun k hk => by cases hk; exact Nat.le_refl _)
  rw [Nat.zero_add, List.nil_append] at hown2
  rcases hown2.2 with ⟨hv, _⟩ | ⟨g, cap, cur, hv, hr⟩
  · exact absurd (hnil2.1 hv).1 (by intro h; cases h)
  · subst hv
    exact ⟨_, _, rfl, hown2, hb2⟩

set_option maxHeartbeats 400000 in
theorem open_short (A : Option Addr) (n c : Nat) (w : World) (hn : n < 4) :
    Calls Tryz.prog 163 #[.slice A n c] w fun e w' => e = .returned (.tuple #[.slice none 0 0, .bool false]) ∧ w = w' := by
  go_enter Tryz.func163, Tryz.ntmps163
  go_wp2
  go_ret2
  exact ⟨rfl, rfl⟩

/-- What sum.Open answers. -/
def OpenPost (w : World) (n : Nat) (l : List UInt8) (e : Ending) (w' : World) : Prop :=
  (∃ g c', e = .returned (.tuple #[.slice (some ⟨g, 0, none⟩) (n - 4) c', .bool true]) ∧ (4 ≤ n ∧ Crc.isSealed l = true) ∧ w'.ownsRow w.heap.size 5 1 (.slice (some ⟨g, 0, none⟩) (n - 4) c') (n - 4) (bcells (l.take (n - 4))) ∧ Below w.heap.size w w') ∨
  (e = .returned (.tuple #[.slice none 0 0, .bool false]) ∧ ¬ (4 ≤ n ∧ Crc.isSealed l = true) ∧ Below w.heap.size w w')

set_option maxHeartbeats 1000000 in
/-- sum.Open. -/
theorem open_any (A : Option Addr) (n c : Nat) (l : List UInt8) (w : World) (hh : Half w) (hr : Rd w A l) (hn : l.length = n) (hc : n ≤ c) (hb : n ≤ 100000000000) :
    Calls Tryz.prog 163 #[.slice A n c] w (OpenPost w n l) := by
  by_cases h4 : n < 4
  · refine (open_short A n c w h4).mono ?_
    rintro e w' ⟨rfl, rfl⟩
    exact .inr ⟨rfl, by omega, Below.refl _ _⟩
  obtain ⟨m, rfl⟩ : ∃ m, n = m + 4 := ⟨n - 4, by omega⟩
  obtain ⟨ad, rfl, _⟩ := hr (by omega)
  have Hn := Lib.hid hn
  have HL : Hid ((l.take m).length = m) := Lib.hid (by rw [List.length_take, hn]; omega)
  clear hn
  have hiff : Crc.isSealed l = decide (Crc.sealed (l.take m) = l) := by
    unfold Crc.isSealed
    rw [Hn.out, Nat.add_sub_cancel]
  have HI := Lib.hid hiff
  clear hiff
  go_enter Tryz.func163, Tryz.ntmps163
  go_wp2_with fail
  refine (seal_any (some ad) m c (l.take m) w hh (hr.take m) HL.out (by omega)).mono ?_
  rintro e w1 ⟨rfl, hown1, hb1⟩
  have hl1 := own_len hown1
  have Hl1 := Lib.hid hl1
  clear hl1
  go_wp2_with fail
  refine (equal_any _ _ _ _ _ _ (Crc.sealed (l.take m)) l w1 (Rd.of_own hown1) Hl1.out (hr.below hb1) Hn.out).mono ?_
  rintro e w2 ⟨rfl, rfl⟩
  rw [← HI.out]
  by_cases hs : Crc.isSealed l = true
  · rw [hs]
    go_wp2_with fail
    refine (clone_any ad m c (l.take m) w1 ((hr.below hb1).take m) HL.out (by omega)).mono ?_
    rintro e w2 ⟨A', c', rfl, hown2, hb2⟩
    go_wp2
    go_ret2
    exact .inl ⟨A', c', rfl, ⟨by omega, hs⟩, own_mono hown2 hb1.size, bthen hb1 hb2⟩
  · have hs' : Crc.isSealed l = false := by simpa using hs
    rw [hs']
    go_wp2
    go_ret2
    exact .inr ⟨rfl, fun h => hs h.2, hb1⟩

end Go.Proofs.YtelenboncejdaaaGreatDoor

/-
  What the rows' list says of memory: the table of sixteen numbers lies in block 0; and the heap that start-up leaves meets it.
-/
namespace Go.Proofs.YtelenboncejdaaaGreatDoor
open Go.ChangeShapes Go.WideShapes Go.ChangeAt Go.RowKit
set_option linter.unusedVariables false

def laidL : List (String × DataW Unit) := [("sapwood/sum.half", Rows.laid_sapwood_sum_half)]
theorem gHalf : Tryz.prog.globalNamed "sapwood/sum.half" = some 0 := by kernel_rfl
theorem tHalf : (Tryz.prog.globals[0]?).map (·.type) = some 282 := by kernel_rfl

theorem half_of_laid {W : World} (h : laidMetH Tryz.prog laidL W) : Half W := by
  rw [MakeChecks.laidMetH_plain _ _ _ (by kernel_rfl)] at h
  obtain ⟨ps, ⟨g0, t0, cs0, f0, p0, q0, hg0, ht0, hv0, hd0, _, _⟩, _, _⟩ := h
  obtain rfl := Option.some.inj (gHalf.symm.trans hg0)
  obtain rfl := Option.some.inj (tHalf.symm.trans ht0)
  have hc : ∀ i, W.cell? ⟨0, i, none⟩ = cs0[i]? := fun i => World.var?_cell hg0 hv0 i
  obtain ⟨xs, m1, rfl, hx1, hlen, hn, hel⟩ := DataW.trod_array Tryz.underlying282 hd0
  have c1 : Tryz.prog.cellsOf 45 = 1 := by kernel_rfl
  rw [c1] at hel
  simp only [Prod.mk.injEq] at hx1
  have hx := hx1.1
  have key : ∀ i, i < 16 → W.cell? ⟨0, i, none⟩ = some (.int .u32 (Crc.tabL.getD i 0 : Nat)) := by
    intro i hi
    have h0 := hel i hi
    have hxi : xs[i]? = some xs[i] := List.getElem?_eq_getElem (by omega)
    rw [hxi] at h0
    obtain ⟨k, e1, e2, _⟩ := DataW.trod_int Tryz.underlying45 h0
    have e3 : (xs.map (·.1))[i]? = some (.lit (.int .u32 k)) := by
      rw [List.getElem?_map, hxi]
      simp [e2]
    have e4 : (xs.map (·.1)) = [.lit (.int .u32 0), .lit (.int .u32 79764919), .lit (.int .u32 159529838), .lit (.int .u32 222504665), .lit (.int .u32 319059676), .lit (.int .u32 398814059), .lit (.int .u32 445009330), .lit (.int .u32 507990021), .lit (.int .u32 638119352), .lit (.int .u32 583659535), .lit (.int .u32 797628118), .lit (.int .u32 726387553), .lit (.int .u32 890018660), .lit (.int .u32 835552979), .lit (.int .u32 1015980042), .lit (.int .u32 944750013)] := by
      have := hx.symm
      unfold Rows.laid_sapwood_sum_half at this
      injection this
    have e5 : k = (Crc.tabL.getD i 0 : Nat) := by
      rw [e4] at e3
      clear e4 hx hx1 h0 hel e1 e2 hc hxi
      match i, hi, e3 with
      | 0, _, e3 | 1, _, e3 | 2, _, e3 | 3, _, e3 | 4, _, e3 | 5, _, e3 | 6, _, e3 | 7, _, e3 | 8, _, e3 | 9, _, e3 | 10, _, e3 | 11, _, e3 | 12, _, e3 | 13, _, e3 | 14, _, e3 | 15, _, e3 =>
        simp at e3
        simp [Crc.tabL, ← e3]
    have e6 : cs0[i]? = some (.int .u32 k) := by
      have : (cs0.toList.drop (i * 1)).take 1 = [.int .u32 k] := e1
      rw [Nat.mul_one] at this
      have h2 : ((cs0.toList.drop i).take 1)[0]? = some (.int .u32 k) := by rw [this]; rfl
      rw [List.getElem?_take_of_lt (by omega), List.getElem?_drop] at h2
      simpa using h2
    rw [hc, e6, e5]
  refine ⟨?_, key⟩
  have h0 := key 0 (by omega)
  rcases Nat.eq_zero_or_pos W.heap.size with hz | hz
  · simp [World.cell?, hz] at h0
  · exact hz

/-- The heap that start-up leaves meets the list. -/
theorem door_met (os : Os) (args : Array Value) : laidMetH Tryz.prog laidL ((World.doorLaid Tryz.prog 14 os).forCall (fun _ _ => 0) ⟨#[], args, []⟩).memory :=
  laidMetH_of_parts3 (fuel := 8) (laidMet_of_run' 8 (by kernel_rfl) (by kernel_rfl)) (by kernel_rfl) (by kernel_rfl)

end Go.Proofs.YtelenboncejdaaaGreatDoor

/-
  A row with room behind what it holds; a row of bytes that may be written; conditions stand at each.
-/
namespace Go.Proofs.YtelenboncejdaaaGreatDoor
open Go.RowKit Go.Sort
set_option linter.unusedVariables false
set_option linter.unusedSimpArgs false

/-- make and copy: a row that begins with the bytes of b, k zeros behind. -/
theorem room_of (b : ByteArray) (k c : Nat) (hc : c = b.size + k) : ∃ (M : World → World),
    (∀ w : World, (Builtin.copy_ #[46, 9] 3 #[.slice (some ⟨w.heap.size, 0, none⟩) b.size c, .string b]).run Tryz.prog (w.alloc (.cells (madeCells #[.int .u8 0] c) 5)) = .ok (goInt b.size) (M w)) ∧
    ∀ w : World, (M w).heap[w.heap.size]? = some (.cells (bcells b.data.toList ++ List.replicate k (Value.int .u8 0)).toArray 5 (0, 0)) ∧ Below w.heap.size w (M w) := by
  refine ⟨_, fun w => Lib.run_copy_row_string (P := Tryz.prog) _ 46 9 3 5 w.heap.size 0 b.size c b (madeCells #[.int .u8 0] c) 5 Tryz.underlying46 (by kernel_rfl) (heap_alloc_new w _) (Nat.le_refl _) (by rw [size_madeCells]; omega), fun w => ⟨?_, ?_⟩⟩
  · refine (setRow_heap _ w.heap.size _ _ 5 _ (heap_alloc_new w _)).trans ?_
    rw [made_list]
    have e : Lib.byteCells b.data.toList = bcells b.data.toList := rfl
    rw [e]
    simp only [List.toList_toArray, List.take_zero, List.nil_append, List.drop_replicate]
    rw [show c - (0 + b.size) = k by omega]
  · exact below_setRow ((Below.refl _ _).alloc (Nat.le_refl _) _) (Nat.le_refl _) _

theorem rd_pre {w : World} {h : Nat} {l : List UInt8} {rest : List Value} (hh : w.heap[h]? = some (.cells (bcells l ++ rest).toArray 5 (0, 0))) : Rd w (some ⟨h, 0, none⟩) l := fun _ => ⟨_, rfl, lt_of_block hh, fun j u hu => by
  have e : ((⟨h, 0, none⟩ : Addr).add j) = ⟨h, j, none⟩ := by unfold Addr.add; split <;> simp_all
  rw [e, cell_of_block hh]
  have hj := (List.getElem?_eq_some_iff.1 hu).1
  rw [List.getElem?_toArray, List.getElem?_append_left hj]
  exact hu⟩

/-- A row of bytes that may be written. -/
def XRow (w : World) (g m : Nat) : Prop := g < w.heap.size ∧ ∀ j, j < m → (∃ v : Int, w.cell? ⟨g, j, none⟩ = some (.int .u8 v)) ∧ w.frozen? ⟨g, j, none⟩ = false
theorem XRow.set {w : World} {g m : Nat} (h : XRow w g m) (k : Nat) (v : Int) : XRow (w.setCell ⟨g, k, none⟩ (.int .u8 v)) g m := by
  refine ⟨by simpa [World.setCell] using h.1, fun j hj => ?_⟩
  obtain ⟨⟨u, hu⟩, hf⟩ := h.2 j hj
  refine ⟨?_, by simpa using hf⟩
  by_cases hjk : j = k
  · subst hjk
    exact ⟨v, World.cell?_setCell_same _ _ _ hu⟩
  · exact ⟨u, (World.cell?_setCell_other _ _ _ _ (fun e => hjk (by injection e with _ e; exact e.symm))).trans hu⟩
theorem XRow.of_own {w : World} {base g n c : Nat} {l : List UInt8} (h : w.ownsRow base 5 1 (.slice (some ⟨g, 0, none⟩) n c) n (bcells l)) : XRow w g n := by
  rcases h.2 with ⟨hv, _⟩ | ⟨g', cap, cur, hv, _, hh, hnc, _, hs, ht⟩
  · cases hv
  · cases hv
    have hln : l.length = n := by have := h.1; rw [bcells_length] at this; omega
    refine ⟨lt_of_block hh, fun j hj => ⟨⟨(l[j]'(by omega)).toNat, ?_⟩, by simp [World.frozen?, hh]⟩⟩
    rw [cell_of_block hh]
    have h2 : cur.toList[j]? = (bcells l)[j]? := by
      rw [← ht, List.getElem?_take_of_lt (by omega)]
    rw [Array.getElem?_toList] at h2
    rw [h2]
    simp [bcells, u8, show j < l.length by omega]
theorem XRow.block {w w' : World} {g m : Nat} (h : XRow w g m) (hb : w'.heap[g]? = w.heap[g]?) (hs : g < w'.heap.size) : XRow w' g m :=
  ⟨hs, fun j hj => ⟨(by obtain ⟨u, hu⟩ := (h.2 j hj).1; exact ⟨u, (World.cell?_of_block (w := w) (a := ⟨g, j, none⟩) hb).trans hu⟩), (World.frozen?_of_block (w := w) (a := ⟨g, j, none⟩) hb).trans (h.2 j hj).2⟩⟩

theorem below_only {B : Nat} {a w w' : World} {g : Nat} (h : Below B a w) (hg : w.grownBy w' (some g)) (hB : B ≤ w.heap.size) (hr : B ≤ g) : Below B a w' :=
  h.grown hg hB (fun k hk => by cases hk; exact hr)
theorem xor8 (x y : UInt8) : bits .xor .u8 (x.toNat : Int) (y.toNat : Int) = ((x ^^^ y).toNat : Int) := by
  show IntKind.u8.wrap ((BitVec.ofInt 8 (x.toNat : Int) ^^^ BitVec.ofInt 8 (y.toNat : Int)).toNat : Int) = _
  rw [BitVec.ofInt_natCast, BitVec.ofInt_natCast, BitVec.toNat_xor, BitVec.toNat_ofNat, BitVec.toNat_ofNat]
  have h1 := x.toNat_lt
  have h2 := y.toNat_lt
  have h3 := (x ^^^ y).toNat_lt
  rw [Nat.mod_eq_of_lt (by omega), Nat.mod_eq_of_lt (by omega), ← UInt8.toNat_xor, IntKind.wrap_u8]
  omega
theorem XRow.below {w w' : World} {g m : Nat} (h : XRow w g m) (hb : Below w.heap.size w w') : XRow w' g m := h.block (hb.block g h.1) (Nat.lt_of_lt_of_le h.1 hb.size)

end Go.Proofs.YtelenboncejdaaaGreatDoor

/-
  The contracts of the document's answers sapwoodref02.Of, Seal and Open: the check as an int, the sealed bytes as a string, what was sealed; conditions: the string is no longer than 2^47 bytes.
-/
namespace Go.Proofs.YtelenboncejdaaaGreatDoor
open Go.RowKit
set_option linter.unusedVariables false
set_option linter.unusedSimpArgs false

theorem xor64 (a b : BitVec 32) : bits .xor .i64 (a.toNat : Int) (b.toNat : Int) = ((a ^^^ b).toNat : Int) := by
  show IntKind.i64.wrap ((BitVec.ofInt 64 (a.toNat : Int) ^^^ BitVec.ofInt 64 (b.toNat : Int)).toNat : Int) = _
  have h1 := a.isLt
  have h2 := b.isLt
  have h3 := (a ^^^ b).isLt
  rw [BitVec.ofInt_natCast, BitVec.ofInt_natCast, BitVec.toNat_xor, BitVec.toNat_ofNat, BitVec.toNat_ofNat, Nat.mod_eq_of_lt (show a.toNat < 2 ^ 64 by omega), Nat.mod_eq_of_lt (show b.toNat < 2 ^ 64 by omega), ← BitVec.toNat_xor, IntKind.wrap_i64]
  omega
theorem xor64_of {x y : Int} {a b : BitVec 32} (hx : x = a.toNat) (hy : y = b.toNat) : bits .xor .i64 x y = ((a ^^^ b).toNat : Int) := by rw [hx, hy, xor64]

theorem msb_nat (v : BitVec 32) : v.msb = decide (2147483648 ≤ v.toNat) := by
  rw [BitVec.msb_eq_decide]
/-- The shift by one bit, in numbers. -/
theorem st1_low (v : BitVec 32) (h : v.toNat < 2147483648) : ((Crc.st1 v).toNat : Int) = (v.toNat : Int) * 2 := by
  have hm : v.msb = false := by rw [msb_nat]; simpa using h
  unfold Crc.st1
  rw [hm]
  have hl := v.isLt
  simp only [Bool.false_eq_true, if_false, BitVec.xor_zero, BitVec.toNat_shiftLeft, Nat.shiftLeft_eq]
  omega
theorem st1_high (v : BitVec 32) (h : 2147483648 ≤ v.toNat) : bits .xor .i64 ((v.toNat : Int) * 2 - 4294967296) 79764919 = ((Crc.st1 v).toNat : Int) := by
  have hm : v.msb = true := by rw [msb_nat]; simpa using h
  unfold Crc.st1
  rw [hm]
  have hl := v.isLt
  simp only [if_true]
  refine xor64_of ?_ (by decide)
  rw [BitVec.toNat_shiftLeft, Nat.shiftLeft_eq]
  omega

set_option maxHeartbeats 1000000 in
/-- sapwoodref02.Of. -/
theorem refOf_any (b : ByteArray) (w : World) (hb : b.size ≤ 140737488351232) :
    Calls Tryz.prog 156 #[.string b] w fun e w' => e = .returned (.int .i64 ((Crc.crc b.data.toList).toNat : Int)) ∧ w = w' := by
  go_enter Tryz.func156, Tryz.ntmps156
  go_wp2
  go_loop [3, 4] (fun x i => ∃ (k : Nat) (v : BitVec 32), k ≤ b.size ∧ i = .int .i64 k ∧ x = .int .i64 (v.toNat : Int) ∧ Hid (v = Crc.stateOf Crc.ones (b.data.toList.take k))) (fun _ i => b.size - (intOf i).toNat)
  case atStart => exact ⟨0, Crc.ones, Nat.zero_le _, rfl, rfl, rfl⟩
  case round =>
    obtain ⟨k, v, hk, rfl, rfl, HV⟩ := hrel
    by_cases hlt : k < b.size
    · obtain ⟨y, hy⟩ : ∃ y, y = b[k] := ⟨_, rfl⟩
      have hx : bits .xor .i64 (v.toNat : Int) (wrap64 (wrap64 (y.toNat : Int) * 16777216)) = ((v ^^^ Crc.bin y).toNat : Int) := by
        refine xor64_of rfl ?_
        unfold Crc.bin wrap64
        have := y.toNat_lt
        rw [BitVec.toNat_shiftLeft, BitVec.toNat_ofNat, Nat.shiftLeft_eq]
        omega
      have hst : Crc.stateOf Crc.ones (b.data.toList.take (k + 1)) = Crc.st 8 (v ^^^ Crc.bin y) := by
        rw [List.take_succ_eq_append_getElem (show k < b.data.toList.length from hlt), Crc.stateOf_append, ← HV.out, ← Crc.bstep_eq]
        have : b.data.toList[k]'(show k < b.data.toList.length from hlt) = y := by rw [hy]; simp; rfl
        rw [this]
        rfl
      obtain ⟨z, hz⟩ : ∃ z, z = v ^^^ Crc.bin y := ⟨_, rfl⟩
      rw [← hz] at hx hst
      rw [hy] at hx
      have HST := Lib.hid hst
      clear hst hz hy HV
      go_wp2
      clear hx
      go_loop [3, 5] (fun x i => ∃ (m : Nat) (q : BitVec 32), m ≤ 8 ∧ i = .int .i64 m ∧ x = .int .i64 (q.toNat : Int) ∧ Hid (q = Crc.st m z)) (fun _ i => 8 - (intOf i).toNat)
      case atStart => exact ⟨0, z, Nat.zero_le _, rfl, rfl, rfl⟩
      case round =>
        obtain ⟨m, q, hm, rfl, rfl, HQ⟩ := hrel
        have hql := q.isLt
        by_cases hlt2 : m < 8
        · have hst2 : Crc.st (m + 1) z = Crc.st1 q := by rw [HQ.out]; rfl
          have HS2 := Lib.hid hst2
          clear hst2
          by_cases hq : q.toNat < 2147483648
          · have e1 := Lib.hid (st1_low q hq)
            obtain ⟨r, hr⟩ : ∃ r, r = Crc.st1 q := ⟨_, rfl⟩
            rw [← hr] at HS2 e1
            clear hr
            go_wp2
            exact ⟨⟨m + 1, r, by omega, by go_num, by rw [e1.out], HS2.out.symm⟩, by simp [intOf]; omega⟩
          · have e1 := st1_high q (by omega)
            obtain ⟨r, hr⟩ : ∃ r, r = Crc.st1 q := ⟨_, rfl⟩
            rw [← hr] at HS2 e1
            clear hr
            go_wp2
            exact ⟨⟨m + 1, r, by omega, by go_num, rfl, HS2.out.symm⟩, by simp [intOf]; omega⟩
        · have hm8 : m = 8 := by omega
          subst hm8
          go_wp2
          exact ⟨⟨k + 1, q, by omega, by go_num, rfl, HQ.out.trans HST.out.symm⟩, by simp [intOf]; omega⟩
    · have hkn : k = b.size := by omega
      have hst : Crc.crc b.data.toList = ~~~ v := by
        rw [HV.out, List.take_of_length_le (by rw [hkn]; exact Nat.le_refl _)]
        rfl
      have hn : ((~~~ v).toNat : Int) = 4294967295 - (v.toNat : Int) := by
        have := v.isLt
        rw [BitVec.toNat_not]
        omega
      have HST := Lib.hid hst
      have HN := Lib.hid hn
      have hvl := v.isLt
      clear hst hn HV
      go_wp2
      go_ret
      refine ⟨?_, rfl⟩
      rw [HST.out, HN.out]
      rfl

set_option maxHeartbeats 1000000 in
/-- sapwoodref02.Seal. -/
theorem refSeal_any (b : ByteArray) (w : World) (hb : b.size ≤ 140737488351200) :
    Calls Tryz.prog 124 #[.string b] w fun e w' => e = .returned (.string ⟨(Crc.sealed b.data.toList).toArray⟩) ∧ Below w.heap.size w w' := by
  obtain ⟨v, hv⟩ : ∃ v, v = Crc.crc b.data.toList := ⟨_, rfl⟩
  have HV := Lib.hid hv
  have hvl := v.isLt
  clear hv
  have cv := conv_rd (w := w.alloc (.cells #[.int .u8 ((v.toNat : Int) / 16777216), .int .u8 ((v.toNat : Int) / 65536 % 256), .int .u8 ((v.toNat : Int) / 256 % 256), .int .u8 ((v.toNat : Int) % 256)] 5)) (A := some ⟨w.heap.size, 0, none⟩) (n := 4) (c := 4) (l := Crc.be v)
    (fun _ => ⟨_, rfl, by simp, fun j u hu => new_row w _ _ j u (by rw [bcells_be] at hu; exact hu)⟩) rfl
  have hbl := Crc.be_length v
  go_enter Tryz.func124, Tryz.ntmps124
  go_wp2_with fail
  refine (refOf_any b w (by omega)).mono ?_
  rintro e w1 ⟨rfl, rfl⟩
  rw [← HV.out]
  go_wp2
  go_ret
  refine ⟨?_, (Below.refl _ _).alloc (Nat.le_refl _) _⟩
  show Ending.returned (.string (b ++ ⟨(Crc.be v).toArray⟩)) = _
  rw [Crc.sealed, ← HV.out]
  have e : b ++ ⟨(Crc.be v).toArray⟩ = (⟨(b.data.toList ++ Crc.be v).toArray⟩ : ByteArray) := by
    rw [ByteArray.ext_iff, ByteArray.data_append]
    simp
  rw [e]

/-- The string without its last four bytes. -/
theorem cut_str (b : ByteArray) (m : Nat) (hm : b.size = m + 4) : (b.extract 0 m).data.toList = b.data.toList.take m := by simp

theorem sealed_iff (b : ByteArray) (m : Nat) (hm : b.size = m + 4) : Crc.isSealed b.data.toList = decide (Crc.sealed (b.data.toList.take m) = b.data.toList) := by
  unfold Crc.isSealed
  rw [show b.data.toList.length = m + 4 from hm, Nat.add_sub_cancel]

/-- What both answers of Open are. -/
def openS (b : ByteArray) : ByteArray := if 4 ≤ b.size ∧ Crc.isSealed b.data.toList = true then b.extract 0 (b.size - 4) else ByteArray.empty
def openF (b : ByteArray) : Bool := decide (4 ≤ b.size ∧ Crc.isSealed b.data.toList = true)

theorem open_str (A : Option Addr) (c : Nat) (b : ByteArray) (w : World) (hh : Half w) (hr : Rd w A b.data.toList) (hc : b.size ≤ c) (hb : b.size ≤ 100000000000) :
    Calls Tryz.prog 163 #[.slice A b.size c] w fun e w' => ∃ A' c', e = .returned (.tuple #[.slice A' (openS b).size c', .bool (openF b)]) ∧ Rd w' A' (openS b).data.toList ∧ Below w.heap.size w w' := by
  refine (open_any A b.size c b.data.toList w hh hr rfl hc hb).mono ?_
  rintro e w' (⟨g, c', rfl, hyes, hown, hb'⟩ | ⟨rfl, hno, hb'⟩)
  · unfold openS openF
    rw [if_pos hyes, decide_eq_true hyes]
    refine ⟨some ⟨g, 0, none⟩, c', ?_, ?_, hb'⟩
    · rw [show (b.extract 0 (b.size - 4)).size = b.size - 4 by simp]
    · rw [cut_str b (b.size - 4) (by omega)]
      exact Rd.of_own hown
  · unfold openS openF
    rw [if_neg hno, decide_eq_false hno]
    exact ⟨none, 0, rfl, Rd.nil _ _, hb'⟩

end Go.Proofs.YtelenboncejdaaaGreatDoor
