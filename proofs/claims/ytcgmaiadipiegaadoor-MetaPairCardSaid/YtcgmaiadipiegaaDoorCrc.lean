/-
  The check as arithmetic: the shift by one bit, by four and by eight, the state behind a list of bytes; it is linear, no state but 0 is shifted to 0, and bits turned within 32 side by side turn the state; no condition.
-/
import Derived.Test.YtcgmaiadipiegaaDoorRows
namespace Go.Proofs.YtcgmaiadipiegaaDoor.Crc
set_option linter.unusedVariables false
set_option linter.unusedSimpArgs false

def poly : BitVec 32 := 79764919#32
/-- The shift by one bit. -/
def st1 (n : BitVec 32) : BitVec 32 := (n <<< 1) ^^^ (if n.msb then poly else 0#32)
def st (k : Nat) (n : BitVec 32) : BitVec 32 := Nat.repeat st1 k n

theorem st_zero (n : BitVec 32) : st 0 n = n := rfl
theorem st_succ (k : Nat) (n : BitVec 32) : st (k + 1) n = st1 (st k n) := rfl
theorem st_add (a b : Nat) (n : BitVec 32) : st (a + b) n = st a (st b n) := by
  induction a with
  | zero => rw [Nat.zero_add]; rfl
  | succ a ih => rw [Nat.succ_add, st_succ, ih]; rfl

theorem st1_xor (a b : BitVec 32) : st1 (a ^^^ b) = st1 a ^^^ st1 b := by
  unfold st1
  rw [BitVec.shiftLeft_xor_distrib, BitVec.msb_xor]
  have e : (if (a.msb ^^ b.msb) = true then poly else 0#32) = (if a.msb = true then poly else 0#32) ^^^ (if b.msb = true then poly else 0#32) := by
    cases a.msb <;> cases b.msb <;> simp
  rw [e]
  ac_rfl
theorem st_xor (k : Nat) (a b : BitVec 32) : st k (a ^^^ b) = st k a ^^^ st k b := by
  induction k with
  | zero => rfl
  | succ k ih => rw [st_succ, ih, st1_xor]; rfl
theorem st1_0 : st1 0#32 = 0#32 := by decide
theorem st_0 (k : Nat) : st k 0#32 = 0#32 := by
  induction k with
  | zero => rfl
  | succ k ih => rw [st_succ, ih, st1_0]

theorem st1_eq0 (a : BitVec 32) (h : st1 a = 0#32) : a = 0#32 := by
  unfold st1 at h
  cases hm : a.msb with
  | true =>
    rw [hm] at h
    have h0 := congrArg (fun x => BitVec.getLsbD x 0) h
    simp [poly] at h0
  | false =>
    rw [hm] at h
    simp at h
    apply BitVec.eq_of_getLsbD_eq
    intro i hi
    rw [BitVec.getLsbD_zero]
    rcases Nat.lt_or_ge i 31 with h1 | h1
    · have := congrArg (fun x => BitVec.getLsbD x (i + 1)) h
      simp at this
      exact this (by omega)
    · have : i = 31 := by omega
      subst this
      simpa [BitVec.msb_eq_getLsbD_last] using hm
theorem st_eq0 (k : Nat) (a : BitVec 32) (h : st k a = 0#32) : a = 0#32 := by
  induction k with
  | zero => exact h
  | succ k ih => exact ih (st1_eq0 _ h)
theorem xor_eq0 (a b : BitVec 32) (h : a ^^^ b = 0#32) : a = b := by
  have := congrArg (· ^^^ b) h
  simpa [BitVec.xor_assoc] using this
theorem st_inj (k : Nat) (a b : BitVec 32) (h : st k a = st k b) : a = b := by
  apply xor_eq0
  apply st_eq0 k
  rw [st_xor, h, BitVec.xor_self]

/-- The table of sixteen. -/
def tabL : List Nat := [0, 79764919, 159529838, 222504665, 319059676, 398814059, 445009330, 507990021, 638119352, 583659535, 797628118, 726387553, 890018660, 835552979, 1015980042, 944750013]
def tab (i : Nat) : BitVec 32 := BitVec.ofNat 32 (tabL.getD i 0)
/-- The shift by four bits, by the table. -/
def nib (n : BitVec 32) : BitVec 32 := (n <<< 4) ^^^ tab (n >>> 28).toNat

theorem low (k : Nat) (hk : k ≤ 32) (n : BitVec 32) (h : n.toNat < 2 ^ (32 - k)) : st k n = n <<< k := by
  have one : ∀ j, j < k → (n <<< j).msb = false := by
    intro j hj
    rw [BitVec.msb_eq_getLsbD_last, BitVec.getLsbD_shiftLeft]
    have : n.getLsbD (31 - j) = false := by
      rw [BitVec.getLsbD, Nat.testBit_lt_two_pow]
      exact Nat.lt_of_lt_of_le h (Nat.pow_le_pow_right (by omega) (by omega))
    simp [this]
  have hh : ∀ j, j ≤ k → st j n = n <<< j := by
    intro j
    induction j with
    | zero => intro _; simp [st_zero]
    | succ j ih =>
      intro hj
      rw [st_succ, ih (by omega)]
      unfold st1
      rw [one j (by omega)]
      simp [← BitVec.shiftLeft_add]
  exact hh k (Nat.le_refl _)
theorem ofNat_xor_add (a b : Nat) (k : Nat) (ha : a < 2 ^ k) : BitVec.ofNat 32 (b * 2 ^ k) ^^^ BitVec.ofNat 32 a = BitVec.ofNat 32 (b * 2 ^ k + a) := by
  have h : b * 2 ^ k + a = (b * 2 ^ k) ^^^ a := by
    rw [Nat.mul_comm]
    apply Nat.eq_of_testBit_eq
    intro i
    rw [Nat.testBit_xor, Nat.testBit_two_pow_mul_add _ ha, Nat.testBit_two_pow_mul]
    by_cases hi : i < k
    · have : ¬ k ≤ i := by omega
      simp [hi, this]
    · have : k ≤ i := by omega
      have h2 : a.testBit i = false := Nat.testBit_lt_two_pow (Nat.lt_of_lt_of_le ha (Nat.pow_le_pow_right (by omega) this))
      simp [hi, this, h2]
  rw [h]
  apply BitVec.eq_of_getLsbD_eq
  intro i hi
  simp [BitVec.getLsbD_ofNat, hi]

theorem high4 : ∀ k : Fin 16, st 4 (BitVec.ofNat 32 (k.val * 2 ^ 28)) = tab k.val := by decide +kernel

theorem nib_eq (n : BitVec 32) : nib n = st 4 n := by
  have hl := n.isLt
  have e0 : n = BitVec.ofNat 32 (n.toNat / 2 ^ 28 * 2 ^ 28 + n.toNat % 2 ^ 28) := by
    rw [show n.toNat / 2 ^ 28 * 2 ^ 28 + n.toNat % 2 ^ 28 = n.toNat by omega]
    simp
  have h := high4 ⟨n.toNat / 2 ^ 28, by omega⟩
  have h' : st 4 (BitVec.ofNat 32 (n.toNat / 2 ^ 28 * 2 ^ 28)) = tab (n.toNat / 2 ^ 28) := h
  have e1 : st 4 n = tab (n.toNat / 2 ^ 28) ^^^ (BitVec.ofNat 32 (n.toNat % 2 ^ 28) <<< 4) := by
    conv => lhs; rw [e0]
    rw [← ofNat_xor_add _ _ 28 (by omega), st_xor, h', low 4 (by omega) _ (by rw [BitVec.toNat_ofNat]; omega)]
  have e2 : BitVec.ofNat 32 (n.toNat % 2 ^ 28) <<< 4 = n <<< 4 := by
    apply BitVec.eq_of_toNat_eq
    rw [BitVec.toNat_shiftLeft, BitVec.toNat_shiftLeft, BitVec.toNat_ofNat, Nat.shiftLeft_eq, Nat.shiftLeft_eq]
    omega
  have e3 : (n >>> 28).toNat = n.toNat / 2 ^ 28 := by rw [BitVec.toNat_ushiftRight, Nat.shiftRight_eq_div_pow]
  rw [e1, e2]
  unfold nib
  rw [e3, BitVec.xor_comm]

/-- A byte comes in. -/
def bin (x : UInt8) : BitVec 32 := BitVec.ofNat 32 x.toNat <<< 24
def bstep (n : BitVec 32) (x : UInt8) : BitVec 32 := nib (nib (n ^^^ bin x))
theorem bstep_eq (n : BitVec 32) (x : UInt8) : bstep n x = st 8 (n ^^^ bin x) := by
  unfold bstep
  rw [nib_eq, nib_eq, ← st_add]
/-- The state behind bytes. -/
def stateOf (n : BitVec 32) (l : List UInt8) : BitVec 32 := l.foldl bstep n
def ones : BitVec 32 := 4294967295#32
/-- The check. -/
def crc (l : List UInt8) : BitVec 32 := ~~~ (stateOf ones l)

theorem stateOf_append (n : BitVec 32) (l m : List UInt8) : stateOf n (l ++ m) = stateOf (stateOf n l) m := by simp [stateOf]
theorem bin_xor (x y : UInt8) : bin (x ^^^ y) = bin x ^^^ bin y := by
  unfold bin
  rw [← BitVec.shiftLeft_xor_distrib]
  congr 1
  apply BitVec.eq_of_toNat_eq
  rw [BitVec.toNat_xor]
  simp only [BitVec.toNat_ofNat]
  have h1 := x.toNat_lt
  have h2 := y.toNat_lt
  have h3 := (x ^^^ y).toNat_lt
  rw [Nat.mod_eq_of_lt (by omega), Nat.mod_eq_of_lt (by omega), Nat.mod_eq_of_lt (by omega), UInt8.toNat_xor]
theorem x4 (a b c d : BitVec 32) : (a ^^^ b) ^^^ (c ^^^ d) = (a ^^^ c) ^^^ (b ^^^ d) := by ac_rfl
theorem x3 (a b c : BitVec 32) : (a ^^^ b) ^^^ c = (a ^^^ c) ^^^ b := by ac_rfl
theorem bstep_xor (a b : BitVec 32) (x y : UInt8) : bstep (a ^^^ b) (x ^^^ y) = bstep a x ^^^ bstep b y := by
  rw [bstep_eq, bstep_eq, bstep_eq, bin_xor, x4, st_xor]
theorem stateOf_cons (n : BitVec 32) (x : UInt8) (l : List UInt8) : stateOf n (x :: l) = stateOf (bstep n x) l := rfl
theorem stateOf_nil (n : BitVec 32) : stateOf n [] = n := rfl
theorem stateOf_xor : ∀ (l m : List UInt8) (a b : BitVec 32), l.length = m.length → stateOf (a ^^^ b) (List.zipWith (· ^^^ ·) l m) = stateOf a l ^^^ stateOf b m
  | [], [], a, b, _ => rfl
  | x :: l, y :: m, a, b, h => by
    rw [List.zipWith_cons_cons, stateOf_cons, stateOf_cons, stateOf_cons, bstep_xor]
    exact stateOf_xor l m _ _ (by simpa using h)
  | [], _ :: _, _, _, h => by simp at h
  | _ :: _, [], _, _, h => by simp at h

theorem not_xor (a : BitVec 32) : ~~~ a = a ^^^ ones := by
  apply BitVec.eq_of_getLsbD_eq
  intro i hi
  have : ones = BitVec.allOnes 32 := by decide
  rw [this, BitVec.getLsbD_not, BitVec.getLsbD_xor, BitVec.getLsbD_allOnes]
  simp only [hi, decide_true, Bool.true_and, Bool.xor_true]

/-- The check of bytes that are xored. -/
theorem crc_linear (l m : List UInt8) (h : l.length = m.length) :
    crc (List.zipWith (· ^^^ ·) l m) = crc l ^^^ crc m ^^^ crc (List.replicate l.length 0) := by
  have h1 := stateOf_xor l m ones ones h
  have h2 := stateOf_xor (List.zipWith (· ^^^ ·) l m) (List.replicate l.length 0) (ones ^^^ ones) ones (by simp [h])
  have h3 : List.zipWith (· ^^^ ·) (List.zipWith (· ^^^ ·) l m) (List.replicate l.length (0 : UInt8)) = List.zipWith (· ^^^ ·) l m := by
    apply List.ext_getElem
    · simp [h]
    · intro i _ _
      simp
  rw [h3, h1] at h2
  have h4 : ones ^^^ ones ^^^ ones = ones := by decide
  rw [h4] at h2
  unfold crc
  rw [h2]
  simp only [not_xor]
  generalize stateOf ones l = A
  generalize stateOf ones m = B
  generalize stateOf ones (List.replicate l.length 0) = C
  have e : A ^^^ ones ^^^ (B ^^^ ones) ^^^ (C ^^^ ones) = A ^^^ B ^^^ C ^^^ (ones ^^^ ones ^^^ ones) := by ac_rfl
  rw [e, h4]

theorem stateOf_xorL : ∀ (l : List UInt8) (a b : BitVec 32), stateOf (a ^^^ b) l = stateOf a l ^^^ st (8 * l.length) b
  | [], a, b => rfl
  | z :: l, a, b => by
    have h3 : bstep (a ^^^ b) z = bstep a z ^^^ st 8 b := by
      rw [bstep_eq, bstep_eq, x3, st_xor]
    rw [stateOf_cons, stateOf_cons, h3, stateOf_xorL l, ← st_add, List.length_cons, show 8 * (l.length + 1) = 8 * l.length + 8 by omega]

/-- A byte is turned. -/
theorem stateOf_set : ∀ (l : List UInt8) (q : Nat) (y : UInt8) (n : BitVec 32) (h : q < l.length),
    stateOf n (l.set q (l[q] ^^^ y)) = stateOf n l ^^^ st (8 * (l.length - q)) (bin y)
  | x :: l, 0, y, n, h => by
    have h1 : bstep n (x ^^^ y) = bstep n x ^^^ st 8 (bin y) := by
      rw [bstep_eq, bstep_eq, bin_xor, ← BitVec.xor_assoc, st_xor]
    rw [List.set_cons_zero, List.getElem_cons_zero, stateOf_cons, stateOf_cons, h1, stateOf_xorL, ← st_add, List.length_cons, Nat.sub_zero, show 8 * (l.length + 1) = 8 * l.length + 8 by omega]
  | x :: l, q + 1, y, n, h => by
    have h' : q < l.length := by simpa using h
    have := stateOf_set l q y (bstep n x) h'
    rw [List.set_cons_succ, List.getElem_cons_succ, stateOf_cons, stateOf_cons, List.length_cons, show l.length + 1 - (q + 1) = l.length - q by omega]
    exact this
  | [], q, y, n, h => by simp at h

def msb32 : BitVec 32 := 2147483648#32
theorem msb_down : ∀ j : Fin 32, st j.val (msb32 >>> j.val) = msb32 := by decide +kernel
theorem st_msb (m j : Nat) (hj : j < 32) (hm : j ≤ m) : st m (msb32 >>> j) = st (m - j) msb32 := by
  have h := msb_down ⟨j, hj⟩
  have e : m = (m - j) + j := by omega
  conv => lhs; rw [e, st_add]
  rw [show st j (msb32 >>> j) = msb32 from h]
theorem bin_bit : ∀ r : Fin 8, bin (UInt8.ofNat (128 >>> r.val)) = msb32 >>> r.val := by decide +kernel

/-- The highest i bits of t. -/
def top (t : BitVec 32) : Nat → BitVec 32
  | 0 => 0#32
  | i + 1 => top t i ^^^ (if t.getLsbD (31 - i) then msb32 >>> i else 0#32)
theorem msb32_bit (i : Nat) (hi : i < 32) (j : Nat) : (msb32 >>> i).getLsbD j = decide (j = 31 - i) := by
  rw [BitVec.getLsbD_ushiftRight]
  have : msb32 = BitVec.twoPow 32 31 := by decide
  rw [this, BitVec.getLsbD_twoPow]
  simp
  constructor <;> omega
theorem top_bit (t : BitVec 32) : ∀ (i : Nat), i ≤ 32 → ∀ j, j < 32 → (top t i).getLsbD j = (decide (32 - i ≤ j) && t.getLsbD j)
  | 0, _, j, hj => by simp [top]; omega
  | i + 1, hi, j, hj => by
    unfold top
    rw [BitVec.getLsbD_xor, top_bit t i (by omega) j hj]
    by_cases h : t.getLsbD (31 - i) = true
    · rw [if_pos h, msb32_bit i (by omega)]
      by_cases hj2 : j = 31 - i
      · subst hj2
        have a1 : ¬ (32 - i ≤ 31 - i) := by omega
        have a2 : 32 - (i + 1) ≤ 31 - i := by omega
        simp [a1, a2, h]
      · have a1 : decide (32 - i ≤ j) = decide (32 - (i + 1) ≤ j) := by
          apply decide_eq_decide.2; omega
        rw [a1]; simp [hj2]
    · rw [if_neg h]
      by_cases hj2 : j = 31 - i
      · subst hj2
        have h' : t.getLsbD (31 - i) = false := by simpa using h
        simp [h']
      · have a1 : decide (32 - i ≤ j) = decide (32 - (i + 1) ≤ j) := by
          apply decide_eq_decide.2; omega
        rw [a1]; simp
theorem top_all (t : BitVec 32) : top t 32 = t := by
  apply BitVec.eq_of_getLsbD_eq
  intro j hj
  rw [top_bit t 32 (by omega) j hj]
  simp

/-- A bit of the burst is turned. -/
theorem turn_bit (l : List UInt8) (n n' : BitVec 32) (t : BitVec 32) (p k i : Nat) (hi : i < 32) (hp : p = k + i) (hk : k + 32 ≤ 8 * l.length) (h : p / 8 < l.length)
    (hs : stateOf n l = n' ^^^ st (8 * l.length - k) (top t i)) (hb : t.getLsbD (31 - i) = true) :
    stateOf n (l.set (p / 8) (l[p / 8] ^^^ UInt8.ofNat (128 >>> (p % 8)))) = n' ^^^ st (8 * l.length - k) (top t (i + 1)) := by
  rw [stateOf_set, hs, BitVec.xor_assoc]
  refine congrArg (n' ^^^ ·) ?_
  show _ = st (8 * l.length - k) (top t (i + 1))
  rw [show top t (i + 1) = top t i ^^^ (if t.getLsbD (31 - i) then msb32 >>> i else 0#32) from rfl, if_pos hb, st_xor]
  refine congrArg (st (8 * l.length - k) (top t i) ^^^ ·) ?_
  show _ = st (8 * l.length - k) (msb32 >>> i)
  have hr : p % 8 < 8 := Nat.mod_lt _ (by omega)
  have := bin_bit ⟨p % 8, hr⟩
  rw [show bin (UInt8.ofNat (128 >>> (p % 8))) = msb32 >>> (p % 8) from this]
  rw [st_msb _ _ (by omega) (by omega), st_msb _ _ (by omega) (by omega)]
  rw [show 8 * (l.length - p / 8) - p % 8 = 8 * l.length - k - i by omega]
theorem turn_not (l : List UInt8) (n n' : BitVec 32) (t : BitVec 32) (k i : Nat)
    (hs : stateOf n l = n' ^^^ st (8 * l.length - k) (top t i)) (hb : t.getLsbD (31 - i) = false) :
    stateOf n l = n' ^^^ st (8 * l.length - k) (top t (i + 1)) := by
  rw [hs, show top t (i + 1) = top t i ^^^ (if t.getLsbD (31 - i) then msb32 >>> i else 0#32) from rfl, if_neg (by rw [hb]; simp), BitVec.xor_zero]

/-- Four bytes of a number. -/
def be (v : BitVec 32) : List UInt8 := [UInt8.ofNat (v.toNat / 16777216), UInt8.ofNat (v.toNat / 65536), UInt8.ofNat (v.toNat / 256), UInt8.ofNat v.toNat]
theorem be_length (v : BitVec 32) : (be v).length = 4 := rfl

theorem of4 (a b c d : UInt8) : ∃ v, [a, b, c, d] = be v := by
  refine ⟨BitVec.ofNat 32 (a.toNat * 16777216 + b.toNat * 65536 + c.toNat * 256 + d.toNat), ?_⟩
  have h1 := a.toNat_lt
  have h2 := b.toNat_lt
  have h3 := c.toNat_lt
  have h4 := d.toNat_lt
  unfold be
  rw [BitVec.toNat_ofNat, Nat.mod_eq_of_lt (by omega)]
  have q : ∀ (x : UInt8) (n : Nat), n % 256 = x.toNat → x = UInt8.ofNat n := by
    intro x n h
    apply UInt8.toNat_inj.1
    rw [UInt8.toNat_ofNat']
    omega
  rw [← q a _ (by omega), ← q b _ (by omega), ← q c _ (by omega), ← q d _ (by omega)]
theorem be_inj (v v' : BitVec 32) (h : be v = be v') : v = v' := by
  unfold be at h
  simp only [List.cons.injEq, and_true] at h
  obtain ⟨h1, h2, h3, h4⟩ := h
  have g : ∀ a b : Nat, UInt8.ofNat a = UInt8.ofNat b → a % 256 = b % 256 := by
    intro a b e
    have := congrArg UInt8.toNat e
    simpa [UInt8.toNat_ofNat'] using this
  have g1 := g _ _ h1
  have g2 := g _ _ h2
  have g3 := g _ _ h3
  have g4 := g _ _ h4
  have l1 := v.isLt
  have l2 := v'.isLt
  apply BitVec.eq_of_toNat_eq
  omega

/-- Four bytes come in as one number. -/
theorem bin_nat (n : Nat) : bin (UInt8.ofNat n) = BitVec.ofNat 32 (n % 256 * 16777216) := by
  apply BitVec.eq_of_toNat_eq
  unfold bin
  rw [BitVec.toNat_shiftLeft, BitVec.toNat_ofNat, BitVec.toNat_ofNat, UInt8.toNat_ofNat', Nat.shiftLeft_eq]
  omega
theorem in8 (m : BitVec 32) (a b : Nat) (hb : b < 2 ^ 24) : st 8 (m ^^^ BitVec.ofNat 32 (a * 2 ^ 24 + b)) = st 8 (m ^^^ BitVec.ofNat 32 (a * 2 ^ 24)) ^^^ BitVec.ofNat 32 (b * 256) := by
  rw [← ofNat_xor_add _ _ 24 hb, ← BitVec.xor_assoc, st_xor _ _ (BitVec.ofNat 32 b)]
  congr 1
  rw [low 8 (by omega) _ (by rw [BitVec.toNat_ofNat, Nat.mod_eq_of_lt (by omega)]; exact hb)]
  apply BitVec.eq_of_toNat_eq
  rw [BitVec.toNat_shiftLeft, BitVec.toNat_ofNat, BitVec.toNat_ofNat, Nat.shiftLeft_eq]
  omega

set_option maxRecDepth 100000 in
theorem stateOf_be (n v : BitVec 32) : stateOf n (be v) = st 32 (n ^^^ v) := by
  have hv : v = BitVec.ofNat 32 v.toNat := by simp
  have hl := v.isLt
  generalize hN : v.toNat = N at *
  subst hv
  unfold be stateOf
  rw [hN]
  simp only [List.foldl_cons, List.foldl_nil, bstep_eq, bin_nat]
  have e32 : ∀ m : BitVec 32, st 32 m = st 8 (st 8 (st 8 (st 8 m))) := fun m => by rw [← st_add, ← st_add, ← st_add]
  rw [e32]
  have e1 : N = N / 16777216 % 256 * 2 ^ 24 + N % 2 ^ 24 := by omega
  conv => rhs; rw [e1]
  rw [in8 _ _ _ (by omega)]
  have e2 : N % 2 ^ 24 * 256 = N / 65536 % 256 * 2 ^ 24 + N % 65536 * 256 := by omega
  rw [e2, in8 _ _ _ (by omega)]
  have e3 : N % 65536 * 256 * 256 = N / 256 % 256 * 2 ^ 24 + N % 256 * 65536 := by omega
  rw [e3, in8 _ _ _ (by omega)]
  have e4 : N % 256 * 65536 * 256 = N % 256 * 16777216 := by omega
  rw [e4]

/-- Sealed bytes. -/
def sealed (l : List UInt8) : List UInt8 := l ++ be (crc l)
theorem sealed_length (l : List UInt8) : (sealed l).length = l.length + 4 := by simp [sealed, be_length]
def isSealed (l : List UInt8) : Bool := decide (sealed (l.take (l.length - 4)) = l)

/-- Bytes are sealed if the state behind them is one and the same number. -/
theorem isSealed_iff (l : List UInt8) (h : 4 ≤ l.length) : isSealed l = true ↔ stateOf ones l = st 32 ones := by
  unfold isSealed
  rw [decide_eq_true_eq]
  have hd : (l.drop (l.length - 4)).length = 4 := by simp; omega
  obtain ⟨v, hv⟩ : ∃ v, l.drop (l.length - 4) = be v := by
    match hm : l.drop (l.length - 4), hd with
    | [a, b, c, d], _ => exact of4 a b c d
  have hl : l = l.take (l.length - 4) ++ be v := by rw [← hv, List.take_append_drop]
  generalize hi : l.take (l.length - 4) = i at *
  rw [hl, stateOf_append, stateOf_be]
  unfold sealed
  constructor
  · intro e
    have e1 := be_inj _ _ (List.append_cancel_left e)
    have e2 : stateOf ones i ^^^ v = ones := by
      rw [← e1]
      unfold crc
      rw [not_xor, ← BitVec.xor_assoc, BitVec.xor_self, BitVec.zero_xor]
    rw [e2]
  · intro e
    have e1 := st_inj _ _ _ e
    have e2 : crc i = v := by
      unfold crc
      rw [not_xor]
      generalize stateOf ones i = A at e1 ⊢
      rw [← e1, ← BitVec.xor_assoc, BitVec.xor_self, BitVec.zero_xor]
    rw [e2]

theorem sealed_take (l : List UInt8) : (sealed l).take l.length = l := by simp [sealed]
theorem sealed_isSealed (l : List UInt8) : isSealed (sealed l) = true := by
  unfold isSealed
  rw [decide_eq_true_eq, sealed_length]
  have : List.take (l.length + 4 - 4) (sealed l) = l := by
    rw [Nat.add_sub_cancel]
    simp [sealed]
  rw [this]

/-- Turned bits are found. -/
theorem turned (l m : List UInt8) (k : Nat) (t : BitVec 32) (hm : m.length = l.length + 4) (h : stateOf ones m = st 32 ones ^^^ st (8 * m.length - k) (top t 32)) : isSealed m = decide (t = 0#32) := by
  rw [top_all] at h
  apply Bool.eq_iff_iff.2
  rw [isSealed_iff m (by omega), decide_eq_true_eq, h]
  constructor
  · intro e
    apply st_eq0 (8 * m.length - k)
    have := congrArg (st 32 ones ^^^ ·) e
    simpa [← BitVec.xor_assoc] using this
  · rintro rfl
    rw [st_0, BitVec.xor_zero]

end Go.Proofs.YtcgmaiadipiegaaDoor.Crc
