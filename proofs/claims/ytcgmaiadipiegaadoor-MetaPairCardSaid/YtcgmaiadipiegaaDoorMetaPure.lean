/-
  Meta pages as plain data: what can be one, its bytes, what a reader takes from bytes, that torn and turned bytes are none; conditions stand at each.
-/
import Derived.Test.YtcgmaiadipiegaaDoorFixRefR
import Derived.Test.YtcgmaiadipiegaaDoorFixRef
import Derived.Test.YtcgmaiadipiegaaDoorCrc
namespace Go.Proofs.YtcgmaiadipiegaaDoor
open Go.RowKit Go.Sort
set_option linter.unusedVariables false

def I64 (x : Int) : Prop := -9223372036854775808 ≤ x ∧ x ≤ 9223372036854775807
/-- What can be a page's number. -/
def okNum (n : Int) : Prop := 2 ≤ n ∧ n ≤ 511
instance (n : Int) : Decidable (okNum n) := by unfold okNum; infer_instance
/-- A meta page. -/
structure MT where
  e : Int
  r : Int
deriving DecidableEq
def okM (m : MT) : Prop := (1 ≤ m.e ∧ m.e ≤ 1073741824) ∧ (m.r = 0 ∨ okNum m.r)
instance (m : MT) : Decidable (okM m) := by unfold okM; infer_instance
def wordL : List UInt8 := [115, 97, 112, 119, 111, 111, 100]
def contM (m : MT) : List UInt8 := be32 m.e ++ wordL ++ be16 m.r
def bodyM (m : MT) : List UInt8 := contM m ++ List.replicate 235 0
def encM (m : MT) : List UInt8 := Crc.sealed (bodyM m) ++ be32 m.e

theorem be32_len (x : Int) : (be32 x).length = 4 := rfl
theorem be16_len (x : Int) : (be16 x).length = 2 := rfl
theorem contM_len (m : MT) : (contM m).length = 13 := rfl
theorem bodyM_len (m : MT) : (bodyM m).length = 248 := by rw [bodyM, List.length_append, contM_len, List.length_replicate]
theorem sealM_len (m : MT) : (Crc.sealed (bodyM m)).length = 252 := by rw [Crc.sealed_length, bodyM_len]
theorem encM_len (m : MT) : (encM m).length = 256 := by rw [encM, List.length_append, sealM_len, be32_len]
theorem okM_e {m : MT} (h : okM m) : 0 ≤ m.e ∧ m.e < 4294967296 := ⟨by have := h.1.1; omega, by have := h.1.2; omega⟩
theorem okM_r {m : MT} (h : okM m) : 0 ≤ m.r ∧ m.r < 65536 := by
  rcases h.2 with h | h
  · omega
  · have := h.1
    have := h.2
    omega

theorem b8_nat (x : Int) : ((b8 x).toNat : Int) = x % 256 := by
  unfold b8
  rw [UInt8.toNat_ofNat']
  omega
theorem be16_inj {x y : Int} (h0 : 0 ≤ x) (h1 : x < 65536) (h2 : 0 ≤ y) (h3 : y < 65536) (h : be16 x = be16 y) : x = y := by
  unfold be16 at h
  simp only [List.cons.injEq, and_true] at h
  have a := congrArg (fun b : UInt8 => (b.toNat : Int)) h.1
  have b := congrArg (fun b : UInt8 => (b.toNat : Int)) h.2
  simp only [b8_nat] at a b
  omega
theorem be32_inj {x y : Int} (h0 : 0 ≤ x) (h1 : x < 4294967296) (h2 : 0 ≤ y) (h3 : y < 4294967296) (h : be32 x = be32 y) : x = y := by
  unfold be32 at h
  simp only [List.cons.injEq, and_true] at h
  obtain ⟨e1, e2, e3, e4⟩ := h
  have a := congrArg (fun b : UInt8 => (b.toNat : Int)) e1
  have b := congrArg (fun b : UInt8 => (b.toNat : Int)) e2
  have c := congrArg (fun b : UInt8 => (b.toNat : Int)) e3
  have d := congrArg (fun b : UInt8 => (b.toNat : Int)) e4
  simp only [b8_nat] at a b c d
  omega

/-- The parts of bytes: the head, the root, the check, the tail. -/
def headB (x : List UInt8) : List UInt8 := x.take 4
def rootB (x : List UInt8) : List UInt8 := (x.take 13).drop 11
def chkB (x : List UInt8) : List UInt8 := (x.take 252).drop 248
def tailB (x : List UInt8) : List UInt8 := x.drop 252
theorem rootB_drop (x : List UInt8) : rootB x = (x.drop 11).take 2 := by unfold rootB; rw [List.take_drop]
theorem chkB_drop (x : List UInt8) : chkB x = (x.drop 248).take 4 := by unfold chkB; rw [List.take_drop]
theorem head_enc (m : MT) : headB (encM m) = be32 m.e := rfl
theorem root_enc (m : MT) : rootB (encM m) = be16 m.r := rfl
theorem chk_enc (m : MT) : chkB (encM m) = Crc.be (Crc.crc (bodyM m)) := by
  unfold chkB encM
  rw [List.take_append_of_le_length (by rw [sealM_len]; omega), List.take_of_length_le (by rw [sealM_len]; omega), Crc.sealed, List.drop_append_of_le_length (by rw [bodyM_len]; omega), List.drop_of_length_le (by rw [bodyM_len]; omega), List.nil_append]
theorem tail_enc (m : MT) : tailB (encM m) = be32 m.e := by
  unfold tailB encM
  rw [List.drop_append_of_le_length (by rw [sealM_len]; omega), List.drop_of_length_le (by rw [sealM_len]; omega), List.nil_append]
theorem head_is {m m' : MT} (h : okM m) (h' : okM m') {x : List UInt8} (e : encM m = x) (hx : headB x = be32 m'.e) : m.e = m'.e := by
  subst e
  rw [head_enc] at hx
  exact be32_inj (okM_e h).1 (okM_e h).2 (okM_e h').1 (okM_e h').2 hx
theorem tail_is {m m' : MT} (h : okM m) (h' : okM m') {x : List UInt8} (e : encM m = x) (hx : tailB x = be32 m'.e) : m.e = m'.e := by
  subst e
  rw [tail_enc] at hx
  exact be32_inj (okM_e h).1 (okM_e h).2 (okM_e h').1 (okM_e h').2 hx
theorem root_is {m m' : MT} (h : okM m) (h' : okM m') {x : List UInt8} (e : encM m = x) (hx : rootB x = be16 m'.r) : m.r = m'.r := by
  subst e
  rw [root_enc] at hx
  exact be16_inj (okM_r h).1 (okM_r h).2 (okM_r h').1 (okM_r h').2 hx
theorem MT.ext_ {m m' : MT} (h : m.e = m'.e) (k : m.r = m'.r) : m = m' := by
  cases m; cases m'
  simp only at h k
  subst h; subst k
  rfl
theorem encM_inj {m m' : MT} (h : okM m) (h' : okM m') (e : encM m = encM m') : m = m' :=
  MT.ext_ (head_is h h' e (head_enc m')) (root_is h h' e (root_enc m'))

/-- The check tells roots apart. -/
theorem stateOf_inj (l : List UInt8) (a b : BitVec 32) (h : Crc.stateOf a l = Crc.stateOf b l) : a = b := by
  have h1 := Crc.stateOf_xorL l b (b ^^^ a)
  rw [← BitVec.xor_assoc, BitVec.xor_self, BitVec.zero_xor, h] at h1
  have h2 : Crc.st (8 * l.length) (b ^^^ a) = 0#32 := by
    have := congrArg (Crc.stateOf b l ^^^ ·) h1
    simp only [← BitVec.xor_assoc, BitVec.xor_self, BitVec.zero_xor] at this
    exact this.symm
  exact (Crc.xor_eq0 _ _ (Crc.st_eq0 _ _ h2)).symm
theorem crc_inj {l k : List UInt8} (h : Crc.crc l = Crc.crc k) : Crc.stateOf Crc.ones l = Crc.stateOf Crc.ones k := by
  unfold Crc.crc at h
  have := congrArg (~~~ ·) h
  simpa using this
theorem bodyM_parts : ∃ Z : List UInt8, ∀ m : MT, bodyM m = (be32 m.e ++ wordL) ++ ([b8 (m.r / 256), b8 m.r, 0, 0] ++ Z) := by
  refine ⟨List.replicate 233 0, fun m => ?_⟩
  unfold bodyM contM be16
  rw [List.append_assoc, List.append_assoc, List.append_assoc, show (235 : Nat) = 233 + 1 + 1 from rfl, List.replicate_succ, List.replicate_succ]
  rfl
theorem chk_is {m m' : MT} (h : okM m) (h' : okM m') (he : m.e = m'.e) (hc : Crc.crc (bodyM m) = Crc.crc (bodyM m')) : m.r = m'.r := by
  have h1 := crc_inj hc
  obtain ⟨Z, hZ⟩ := bodyM_parts
  rw [hZ, hZ, he] at h1
  simp only [Crc.stateOf_append] at h1
  have h2 := stateOf_inj Z _ _ h1
  obtain ⟨v, hv⟩ := Crc.of4 (b8 (m.r / 256)) (b8 m.r) 0 0
  obtain ⟨v', hv'⟩ := Crc.of4 (b8 (m'.r / 256)) (b8 m'.r) 0 0
  rw [hv, hv', Crc.stateOf_be, Crc.stateOf_be] at h2
  have h3 := Crc.st_inj _ _ _ h2
  have h4 : v = v' := by
    generalize Crc.stateOf (Crc.stateOf Crc.ones (be32 m'.e)) wordL = A at h3
    have := congrArg (A ^^^ ·) h3
    simpa [← BitVec.xor_assoc] using this
  rw [h4, ← hv'] at hv
  simp only [List.cons.injEq, and_true] at hv
  exact be16_inj (okM_r h).1 (okM_r h).2 (okM_r h').1 (okM_r h').2 (by unfold be16; rw [hv.1, hv.2])

/-- A beginning of P written over Q. -/
def ovr (P Q : List UInt8) (k : Nat) : List UInt8 := P.take k ++ Q.drop k
theorem ovr_len {P Q : List UInt8} {k : Nat} (hp : P.length = 256) (hq : Q.length = 256) (hk : k ≤ 256) : (ovr P Q k).length = 256 := by
  unfold ovr
  rw [List.length_append, List.length_take, List.length_drop]
  omega
theorem ovr_drop {P Q : List UInt8} {k n : Nat} (hp : P.length = 256) (hk : k ≤ 256) (h : k ≤ n) : (ovr P Q k).drop n = Q.drop n := by
  unfold ovr
  rw [List.drop_append, List.drop_of_length_le (by rw [List.length_take]; omega), List.nil_append, List.drop_drop, List.length_take]
  congr 1
  omega
theorem ovr_take {P Q : List UInt8} {k n : Nat} (hp : P.length = 256) (hk : k ≤ 256) (h : n ≤ k) : (ovr P Q k).take n = P.take n := by
  unfold ovr
  rw [List.take_append_of_le_length (by rw [List.length_take]; omega), List.take_take, Nat.min_eq_left h]
theorem ovr_same {P Q : List UInt8} {k n : Nat} (hp : P.length = 256) (hk : k ≤ 256) (h : P.take n = Q.take n) : (ovr P Q k).take n = P.take n := by
  rcases Nat.le_total n k with hn | hn
  · exact ovr_take hp hk hn
  · unfold ovr
    rw [List.take_append, List.length_take, List.take_of_length_le (by rw [List.length_take]; omega), Nat.min_eq_left (by omega), List.take_drop, show k + (n - k) = n by omega, ← h]
    have : P.take k = (P.take n).take k := by rw [List.take_take, Nat.min_eq_left hn]
    rw [this, List.take_append_drop]

/-- P6.3: torn over a lower epoch. -/
theorem torn {m old new : MT} {k : Nat} (hm : okM m) (ho : okM old) (hn : okM new) (hlt : old.e < new.e) (hk : k ≤ 256) (e : encM m = ovr (encM new) (encM old) k) : m = old ∨ m = new := by
  have hl := encM_len new
  rcases Nat.lt_or_ge k 12 with h1 | h1
  · refine .inl (MT.ext_ (tail_is hm ho e ?_) (root_is hm ho e ?_))
    · unfold tailB
      rw [ovr_drop hl hk (by omega)]
      exact tail_enc old
    · rw [rootB_drop, ovr_drop hl hk (by omega), ← rootB_drop]
      exact root_enc old
  · have hhead : m.e = new.e := head_is hm hn e (by
      unfold headB
      rw [ovr_take hl hk (by omega)]
      exact head_enc new)
    rcases Nat.lt_or_ge k 13 with h2 | h2
    · have : m.e = old.e := tail_is hm ho e (by
        unfold tailB
        rw [ovr_drop hl hk (by omega)]
        exact tail_enc old)
      omega
    · refine .inr (MT.ext_ hhead (root_is hm hn e ?_))
      unfold rootB
      rw [ovr_take hl hk h2]
      exact root_enc new

/-- P6.3, twice. -/
theorem again {m old new ag : MT} {a b : Nat} (hm : okM m) (ho : okM old) (hn : okM new) (hg : okM ag) (hge : ag.e = new.e) (hlt : old.e < new.e) (ha : a ≤ 256) (hb : b ≤ 256)
    (e : encM m = ovr (encM ag) (ovr (encM new) (encM old) a) b) : m = old ∨ m = new ∨ m = ag := by
  have hl := encM_len new
  have hl2 := encM_len ag
  have tailOld : a ≤ 252 → b ≤ 252 → m.e = old.e := fun h1 h2 => tail_is hm ho e (by
    unfold tailB
    rw [ovr_drop hl2 hb h2, ovr_drop hl ha h1]
    exact tail_enc old)
  have headNew : 4 ≤ a ∨ 4 ≤ b → m.e = new.e := fun h => head_is hm hn e (by
    have hq : headB (encM ag) = be32 new.e := by rw [head_enc, hge]
    rcases Nat.lt_or_ge b 4 with h1 | h1
    · have ha4 : 4 ≤ a := by omega
      have : (ovr (encM ag) (ovr (encM new) (encM old) a) b).take 4 = (encM ag).take 4 := ovr_same hl2 hb (by
        rw [ovr_take hl ha ha4]
        exact hq.trans (head_enc new).symm)
      unfold headB at hq ⊢
      rw [this, hq]
    · unfold headB at hq ⊢
      rw [ovr_take hl2 hb h1, hq])
  rcases Nat.lt_or_ge b 13 with hb13 | hb13
  · rcases Nat.lt_or_ge 252 a with ha2 | ha2
    · refine .inr (.inl (MT.ext_ (headNew (.inl (by omega))) ?_))
      refine chk_is hm hn (headNew (.inl (by omega))) (Crc.be_inj _ _ ?_)
      rw [← chk_enc, ← chk_enc, e, chkB_drop, ovr_drop hl2 hb (by omega), ← chkB_drop]
      unfold chkB
      rw [ovr_take hl ha (by omega)]
    · have hto := tailOld ha2 (by omega)
      by_cases h4 : 4 ≤ a ∨ 4 ≤ b
      · have := headNew h4
        omega
      · refine .inl (MT.ext_ hto (root_is hm ho e ?_))
        rw [rootB_drop, ovr_drop hl2 hb (by omega), ovr_drop hl ha (by omega), ← rootB_drop]
        exact root_enc old
  · refine .inr (.inr (MT.ext_ ((headNew (.inr (by omega))).trans hge.symm) (root_is hm hg e ?_)))
    unfold rootB
    rw [ovr_take hl2 hb hb13]
    exact root_enc ag

/-- The state behind an encoding. -/
theorem state_enc (m : MT) : Crc.stateOf Crc.ones (encM m) = Crc.stateOf (Crc.st 32 Crc.ones) (be32 m.e) := by
  unfold encM
  rw [Crc.stateOf_append, (Crc.isSealed_iff _ (by rw [sealM_len]; omega)).1 (Crc.sealed_isSealed _)]
/-- P6.3: turned bits. -/
theorem turnedM {m m' : MT} {X : List UInt8} {k : Nat} {t : BitVec 32} (hm : okM m) (hm' : okM m') (e : encM m' = X) (hs : Crc.stateOf Crc.ones X = Crc.stateOf Crc.ones (encM m) ^^^ Crc.st k (Crc.top t 32))
    (hp : tailB X = tailB (encM m) ∨ X.take 13 = (encM m).take 13) : t = 0#32 := by
  have hsame : Crc.stateOf Crc.ones X = Crc.stateOf Crc.ones (encM m) := by
    rcases hp with hp | hp
    · have h1 : m'.e = m.e := tail_is hm' hm e (hp.trans (tail_enc m))
      rw [← e, state_enc, state_enc, h1]
    · have h1 : m'.e = m.e := head_is hm' hm e (by
        have : headB X = headB (encM m) := by
          have := congrArg (List.take 4) hp
          simpa [List.take_take, headB] using this
        exact this.trans (head_enc m))
      have h2 : m'.r = m.r := root_is hm' hm e (by
        unfold rootB
        rw [hp]
        exact root_enc m)
      rw [← e, MT.ext_ h1 h2]
  rw [hsame, Crc.top_all] at hs
  apply Crc.st_eq0 k
  have := congrArg (Crc.stateOf Crc.ones (encM m) ^^^ ·) hs
  simp only [← BitVec.xor_assoc, BitVec.xor_self, BitVec.zero_xor] at this
  exact this.symm

/-- The reader stands ahead of these bytes, and has no error. -/
def Ahead (l : List UInt8) (p e : Int) (rest : List UInt8) : Prop := e = 0 ∧ 0 ≤ p ∧ p ≤ l.length ∧ l.drop p.toNat = rest
theorem next_of {l bs rest : List UInt8} {p e : Int} {m : Int} (h : Ahead l p e (bs ++ rest)) (hm : m = bs.length) : nextB l p e m = bs ∧ Ahead l (nextP l p e m) (nextE l p e m) rest := by
  obtain ⟨rfl, h0, h1, h⟩ := h
  subst hm
  obtain ⟨q, rfl⟩ := Int.eq_ofNat_of_zero_le h0
  rw [Int.toNat_natCast] at h
  have hl := congrArg List.length h
  rw [List.length_drop, List.length_append] at hl
  have hs : (bs.length : Int) ≤ l.length - q := by omega
  rw [nextB_ok l q bs.length hs, nextP_ok l q bs.length hs, nextE_ok l q bs.length hs, h]
  refine ⟨by simp, rfl, by omega, by omega, ?_⟩
  rw [show ((q : Int) + (bs.length : Int)).toNat = q + bs.length from by omega, ← List.drop_drop, h]
  simp
theorem num_be16 {x : Int} (h0 : 0 ≤ x) (h1 : x < 65536) : (num (be16 x) : Int) = x := by
  have a := b8_nat (x / 256)
  have b := b8_nat x
  simp only [num, be16, List.foldl_cons, List.foldl_nil, Nat.zero_mul, Nat.zero_add, Int.natCast_add, Int.natCast_mul]
  omega
theorem num_be32 {x : Int} (h0 : 0 ≤ x) (h1 : x < 4294967296) : (num (be32 x) : Int) = x := by
  have a := b8_nat (x / 16777216)
  have b := b8_nat (x / 65536)
  have c := b8_nat (x / 256)
  have d := b8_nat x
  simp only [num, be32, List.foldl_cons, List.foldl_nil, Nat.zero_mul, Nat.zero_add, Int.natCast_add, Int.natCast_mul]
  omega
/-- Bytes taken one by one. -/
def skip (l : List UInt8) : Nat → Int × Int → Int × Int
  | 0, q => q
  | n + 1, q => skip l n (nextP l q.1 q.2 1, nextE l q.1 q.2 1)
theorem skip_succ (l : List UInt8) : ∀ (n : Nat) (q : Int × Int), skip l (n + 1) q = (nextP l (skip l n q).1 (skip l n q).2 1, nextE l (skip l n q).1 (skip l n q).2 1)
  | 0, q => rfl
  | n + 1, q => by
    show skip l (n + 1) (nextP l q.1 q.2 1, nextE l q.1 q.2 1) = _
    rw [skip_succ l n]
    rfl
theorem skip_of {l rest : List UInt8} : ∀ {bs : List UInt8} {p e : Int}, Ahead l p e (bs ++ rest) → Ahead l (skip l bs.length (p, e)).1 (skip l bs.length (p, e)).2 rest
  | [], p, e, h => h
  | b :: bs, p, e, h => by
    have h1 := (next_of (bs := [b]) (rest := bs ++ rest) (m := 1) h rfl).2
    exact skip_of (bs := bs) h1
/-- What take takes. -/
def takeM (l : List UInt8) : MT := ⟨num (nextB l 0 0 4), num (nextB l (skip l 7 (nextP l 0 0 4, nextE l 0 0 4)).1 (skip l 7 (nextP l 0 0 4, nextE l 0 0 4)).2 2)⟩
theorem takeM_enc {m : MT} (h : okM m) : takeM (encM m) = m := by
  have h0 : Ahead (encM m) 0 0 (be32 m.e ++ (wordL ++ (be16 m.r ++ (encM m).drop 13))) := ⟨rfl, by omega, by omega, by
    show encM m = _
    have : (encM m).take 13 = be32 m.e ++ (wordL ++ be16 m.r) := rfl
    rw [← List.append_assoc, ← List.append_assoc, List.append_assoc (be32 m.e), ← this, List.take_append_drop]⟩
  obtain ⟨h1, h2⟩ := next_of (m := 4) h0 rfl
  have h3 := skip_of h2
  obtain ⟨h4, _⟩ := next_of (m := 2) h3 rfl
  refine MT.ext_ ?_ ?_
  · show (num (nextB (encM m) 0 0 4) : Int) = m.e
    rw [h1]
    exact num_be32 (okM_e h).1 (okM_e h).2
  · show (num (nextB (encM m) (skip (encM m) wordL.length _).1 (skip (encM m) wordL.length _).2 2) : Int) = m.r
    rw [h4]
    exact num_be16 (okM_r h).1 (okM_r h).2
theorem takeM_64 (l : List UInt8) : (0 ≤ (takeM l).e ∧ (takeM l).e < 4294967296) ∧ 0 ≤ (takeM l).r ∧ (takeM l).r < 4294967296 := by
  have h1 := num_lt4 (nextB l 0 0 4) (nextB_len l 0 0 4 (by omega))
  have h2 := num_lt4 (nextB l (skip l 7 (nextP l 0 0 4, nextE l 0 0 4)).1 (skip l 7 (nextP l 0 0 4, nextE l 0 0 4)).2 2) (nextB_len l _ _ 2 (by omega))
  unfold takeM
  simp only
  omega
/-- What the reference takes: in steps of 4, 4, 2, 1 and 2 bytes. -/
def rS (l : List UInt8) (q : Int × Int) (n : Int) : Int × Int := (nextP l q.1 q.2 n, nextE l q.1 q.2 n)
def r4 (l : List UInt8) : Int × Int := rS l (rS l (rS l (rS l (0, 0) 4) 4) 2) 1
def rtakeM (l : List UInt8) : MT := ⟨num (nextB l 0 0 4), num (nextB l (r4 l).1 (r4 l).2 2)⟩
theorem rtakeM_enc {m : MT} (h : okM m) : rtakeM (encM m) = m ∧ (rS (encM m) (r4 (encM m)) 2).2 = 0 := by
  have h0 : Ahead (encM m) 0 0 (be32 m.e ++ ([115, 97, 112, 119] ++ ([111, 111] ++ ([100] ++ (be16 m.r ++ (encM m).drop 13))))) := ⟨rfl, by omega, by omega, by
    show encM m = _
    have : (encM m).take 13 = be32 m.e ++ (wordL ++ be16 m.r) := rfl
    have e2 : be32 m.e ++ ([115, 97, 112, 119] ++ ([111, 111] ++ ([100] ++ (be16 m.r ++ (encM m).drop 13)))) = be32 m.e ++ (wordL ++ be16 m.r) ++ (encM m).drop 13 := by
      unfold wordL
      simp [List.append_assoc]
    rw [e2, ← this, List.take_append_drop]⟩
  generalize hD : (encM m).drop 13 = D at h0
  clear hD
  generalize encM m = L at h0 ⊢
  obtain ⟨h1, h2⟩ := next_of (m := 4) h0 rfl
  obtain ⟨_, h3⟩ := next_of (m := 4) h2 rfl
  obtain ⟨_, h4⟩ := next_of (m := 2) h3 rfl
  obtain ⟨_, h5⟩ := next_of (m := 1) h4 rfl
  obtain ⟨h6, h7⟩ := next_of (m := 2) h5 rfl
  have h8 : (rS L (r4 L) 2).2 = 0 := by
    simp only [r4, rS]
    exact h7.1
  have h9 : nextB L (r4 L).1 (r4 L).2 2 = be16 m.r := by
    simp only [r4, rS]
    exact h6
  refine ⟨MT.ext_ ?_ ?_, h8⟩
  · show (num (nextB L 0 0 4) : Int) = m.e
    rw [h1]
    exact num_be32 (okM_e h).1 (okM_e h).2
  · show (num (nextB L (r4 L).1 (r4 L).2 2) : Int) = m.r
    rw [h9]
    exact num_be16 (okM_r h).1 (okM_r h).2
theorem rtakeM_64 (l : List UInt8) : (0 ≤ (rtakeM l).e ∧ (rtakeM l).e < 4294967296) ∧ 0 ≤ (rtakeM l).r ∧ (rtakeM l).r < 4294967296 := by
  have h1 := num_lt4 (nextB l 0 0 4) (nextB_len l 0 0 4 (by omega))
  have h2 := num_lt4 (nextB l (r4 l).1 (r4 l).2 2) (nextB_len l _ _ 2 (by omega))
  unfold rtakeM
  simp only
  omega

/-- The meta page whose encoding these bytes are. -/
def decM (l : List UInt8) : Option MT := if okM (takeM l) ∧ encM (takeM l) = l then some (takeM l) else none
theorem decM_iff (l : List UInt8) (m : MT) : decM l = some m ↔ okM m ∧ encM m = l := by
  unfold decM
  constructor
  · intro h
    split at h
    · rename_i h'
      cases h
      exact h'
    · cases h
  · rintro ⟨h, rfl⟩
    rw [takeM_enc h, if_pos ⟨h, rfl⟩]
theorem decM_none (l : List UInt8) : decM l = none ↔ ∀ m, okM m → encM m ≠ l := by
  constructor
  · intro h m hm e
    rw [(decM_iff l m).2 ⟨hm, e⟩] at h
    cases h
  · intro h
    cases hd : decM l with
    | none => rfl
    | some m => exact absurd ((decM_iff l m).1 hd).2 (h m ((decM_iff l m).1 hd).1)
/-- Decode's answers. -/
def decV (l : List UInt8) : MT := (decM l).getD ⟨0, 0⟩
def decE (l : List UInt8) : Int := if (decM l).isSome then 0 else 3
theorem dec_cases (l : List UInt8) : (∃ m, okM m ∧ encM m = l ∧ decM l = some m ∧ decV l = m ∧ decE l = 0) ∨ (decM l = none ∧ decV l = ⟨0, 0⟩ ∧ decE l = 3) := by
  cases h : decM l with
  | none => exact .inr ⟨rfl, by simp [decV, h], by simp [decE, h]⟩
  | some m => exact .inl ⟨m, ((decM_iff l m).1 h).1, ((decM_iff l m).1 h).2, rfl, by simp [decV, h], by simp [decE, h]⟩

end Go.Proofs.YtcgmaiadipiegaaDoor
