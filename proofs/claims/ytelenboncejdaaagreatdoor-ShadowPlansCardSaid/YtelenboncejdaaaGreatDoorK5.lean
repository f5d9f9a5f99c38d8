/-
  Several texts in one: PagePure, PageMem, PageRight, PageEnc, PageEncode, PageMade, PageRefB, PageTools. Each says what it proves, and under which conditions.
-/
import Derived.Test.YtelenboncejdaaaGreatDoorK4

/-
  Pages as plain data: what can be one, its bytes, that unlike pages have unlike bytes, and what a reader takes from such bytes; conditions stand at each.
-/
namespace Go.Proofs.YtelenboncejdaaaGreatDoor
open Go.RowKit Go.Sort
set_option linter.unusedVariables false

/-- A cell of a leaf. -/
structure PC where
  k : ByteArray
  v : ByteArray
  sz : Int
  st : Int
deriving DecidableEq
/-- A kid of a branch. -/
structure PK where
  k : ByteArray
  pg : Int
deriving DecidableEq
/-- A page. -/
structure PP where
  kind : Int
  cells : List PC
  kids : List PK
  piece : ByteArray
  next : Int
deriving DecidableEq

def PP.zero : PP := ⟨0, [], [], ByteArray.empty, 0⟩
def PC.key (c : PC) : Ent := ⟨c.k, ByteArray.empty⟩
def PK.key (c : PK) : Ent := ⟨c.k, ByteArray.empty⟩

def okNum (n : Int) : Prop := 2 ≤ n ∧ n ≤ 511
def okKey (k : ByteArray) : Prop := 1 ≤ k.size ∧ k.size ≤ 24
def okBody (c : PC) : Prop := (c.sz = 0 ∧ c.st = 0 ∧ c.v.size ≤ 24) ∨ (c.v.size = 0 ∧ 25 ≤ c.sz ∧ c.sz ≤ 400 ∧ okNum c.st)
def okKeys (l : List Ent) : Prop := (∀ e ∈ l, okKey e.k) ∧ Sorted l
def okCells (l : List PC) : Prop := l.length ≤ 4 ∧ (∀ c ∈ l, okBody c) ∧ okKeys (l.map PC.key)
def okKids (l : List PK) : Prop := 2 ≤ l.length ∧ l.length ≤ 6 ∧ (∀ c ∈ l, okNum c.pg) ∧ okKeys (l.map PK.key)
def okPiece (s : ByteArray) (n : Int) : Prop := 1 ≤ s.size ∧ s.size ≤ 240 ∧ (n = 0 ∨ okNum n)
def pgLeaf (p : PP) : Prop := p.kids.length = 0 ∧ p.piece.size = 0 ∧ p.next = 0 ∧ okCells p.cells
def okBranch (p : PP) : Prop := p.cells.length = 0 ∧ p.piece.size = 0 ∧ p.next = 0 ∧ okKids p.kids
def okChain (p : PP) : Prop := p.cells.length = 0 ∧ p.kids.length = 0 ∧ okPiece p.piece p.next
def okPage (p : PP) : Prop := (p.kind = 1 ∧ pgLeaf p) ∨ (p.kind = 2 ∧ okBranch p) ∨ (p.kind = 3 ∧ okChain p)
instance (n : Int) : Decidable (okNum n) := inferInstanceAs (Decidable (_ ∧ _))
instance (k : ByteArray) : Decidable (okKey k) := inferInstanceAs (Decidable (_ ∧ _))
instance (c : PC) : Decidable (okBody c) := inferInstanceAs (Decidable ((_ ∧ _ ∧ _) ∨ (_ ∧ _ ∧ _ ∧ _)))
instance (l : List Ent) : Decidable (okKeys l) := inferInstanceAs (Decidable ((∀ e ∈ l, okKey e.k) ∧ Sorted l))
instance (l : List PC) : Decidable (okCells l) := inferInstanceAs (Decidable (_ ∧ (∀ c ∈ l, okBody c) ∧ _))
instance (l : List PK) : Decidable (okKids l) := inferInstanceAs (Decidable (_ ∧ _ ∧ (∀ c ∈ l, okNum c.pg) ∧ _))
instance (s : ByteArray) (n : Int) : Decidable (okPiece s n) := inferInstanceAs (Decidable (_ ∧ _ ∧ (_ ∨ _)))
instance (p : PP) : Decidable (pgLeaf p) := inferInstanceAs (Decidable (_ ∧ _ ∧ _ ∧ _))
instance (p : PP) : Decidable (okBranch p) := inferInstanceAs (Decidable (_ ∧ _ ∧ _ ∧ _))
instance (p : PP) : Decidable (okChain p) := inferInstanceAs (Decidable (_ ∧ _ ∧ _))
instance (p : PP) : Decidable (okPage p) := inferInstanceAs (Decidable ((_ ∧ _) ∨ (_ ∧ _) ∨ (_ ∧ _)))

/-- A string's bytes with its length ahead; a cell's; a kid's; a page's without the zeros; with them; sealed. -/
def textL (s : ByteArray) : List UInt8 := be16 s.size ++ s.data.toList
def cellL (c : PC) : List UInt8 := textL c.k ++ (if c.sz = 0 then 0 :: textL c.v else 1 :: (be16 c.sz ++ be16 c.st))
def kidL (c : PK) : List UInt8 := textL c.k ++ be16 c.pg
def contL (p : PP) : List UInt8 := b8 p.kind :: (if p.kind = 1 then b8 p.cells.length :: p.cells.flatMap cellL else if p.kind = 2 then b8 p.kids.length :: p.kids.flatMap kidL else if p.kind = 3 then textL p.piece ++ be16 p.next else [])
def bodyL (p : PP) : List UInt8 := contL p ++ List.replicate (252 - (contL p).length) 0
def encL (p : PP) : List UInt8 := Crc.sealed (bodyL p)

theorem be16_len (x : Int) : (be16 x).length = 2 := rfl
theorem textL_len (s : ByteArray) : (textL s).length = 2 + s.size := by
  rw [textL, List.length_append, be16_len]
  rfl
theorem cellL_len {c : PC} (hk : okKey c.k) (hb : okBody c) : (cellL c).length ≤ 53 := by
  unfold cellL
  rw [List.length_append, textL_len]
  have := hk.2
  split
  · rw [List.length_cons, textL_len]
    rcases hb with ⟨_, _, h⟩ | ⟨h, h2, _⟩ <;> omega
  · simp only [List.length_cons, List.length_append, be16_len]
    omega
theorem kidL_len {c : PK} (hk : okKey c.k) : (kidL c).length ≤ 28 := by
  unfold kidL
  rw [List.length_append, textL_len, be16_len]
  have := hk.2
  omega
theorem flat_len {α : Type} {f : α → List UInt8} {m : Nat} : ∀ (l : List α), (∀ c ∈ l, (f c).length ≤ m) → (l.flatMap f).length ≤ l.length * m
  | [], _ => by simp
  | c :: l, h => by
    rw [List.flatMap_cons, List.length_append, List.length_cons, Nat.add_mul]
    have h1 := h c (by simp)
    have h2 := flat_len l (fun c hc => h c (by simp [hc]))
    omega
theorem okKeys_cells {l : List PC} (h : okKeys (l.map PC.key)) {c : PC} (hc : c ∈ l) : okKey c.k := h.1 c.key (List.mem_map_of_mem hc)
theorem okKeys_kids {l : List PK} (h : okKeys (l.map PK.key)) {c : PK} (hc : c ∈ l) : okKey c.k := h.1 c.key (List.mem_map_of_mem hc)
theorem contL_len {p : PP} (h : okPage p) : (contL p).length ≤ 252 := by
  unfold contL
  rcases h with ⟨hk, _, _, _, hc⟩ | ⟨hk, _, _, _, hc⟩ | ⟨hk, _, _, hc⟩
  · rw [if_pos hk]
    have := flat_len (f := cellL) (m := 53) p.cells (fun c hm => cellL_len (okKeys_cells hc.2.2 hm) (hc.2.1 c hm))
    have := hc.1
    simp only [List.length_cons]
    omega
  · rw [if_neg (by omega), if_pos hk]
    have := flat_len (f := kidL) (m := 28) p.kids (fun c hm => kidL_len (okKeys_kids hc.2.2.2 hm))
    have := hc.2.1
    simp only [List.length_cons]
    omega
  · rw [if_neg (by omega), if_neg (by omega), if_pos hk, List.length_cons, List.length_append, textL_len, be16_len]
    have := hc.2.1
    omega
theorem bodyL_len {p : PP} (h : okPage p) : (bodyL p).length = 252 := by
  unfold bodyL
  have := contL_len h
  rw [List.length_append, List.length_replicate]
  omega
theorem encL_len {p : PP} (h : okPage p) : (encL p).length = 256 := by
  unfold encL
  rw [Crc.sealed_length, bodyL_len h]

/-! Unlike pages have unlike bytes. -/
theorem b8_inj {x y : Int} (h0 : 0 ≤ x) (h1 : x < 256) (h2 : 0 ≤ y) (h3 : y < 256) (h : b8 x = b8 y) : x = y := by
  have := congrArg UInt8.toNat h
  unfold b8 at this
  rw [UInt8.toNat_ofNat', UInt8.toNat_ofNat'] at this
  omega
theorem b8_nat (x : Int) : ((b8 x).toNat : Int) = x % 256 := by
  unfold b8
  rw [UInt8.toNat_ofNat']
  omega
theorem be16_inj {x y : Int} (h0 : 0 ≤ x) (h1 : x < 65536) (h2 : 0 ≤ y) (h3 : y < 65536) (h : be16 x = be16 y) : x = y := by
  unfold be16 at h
  simp only [List.cons.injEq, and_true] at h
  have a := congrArg (fun b : UInt8 => (b.toNat : Int)) h.1
  have b := congrArg (fun b : UInt8 => (b.toNat : Int)) h.2
  simp only [b8_nat] at a b
  omega
theorem ba_ext {a b : ByteArray} (h : a.data.toList = b.data.toList) : a = b := by
  cases a; cases b
  congr 1
  exact Array.toList_inj.1 h
theorem textL_inj {s t : ByteArray} {r q : List UInt8} (hs : s.size < 65536) (ht : t.size < 65536) (h : textL s ++ r = textL t ++ q) : s = t ∧ r = q := by
  unfold textL at h
  rw [List.append_assoc, List.append_assoc] at h
  obtain ⟨h1, h2⟩ := List.append_inj h (by simp [be16_len])
  have h3 := be16_inj (by omega) (by omega) (by omega) (by omega) h1
  obtain ⟨h4, h5⟩ := List.append_inj h2 (by show s.size = t.size; omega)
  exact ⟨ba_ext h4, h5⟩
theorem be16_app {x y : Int} {r q : List UInt8} (h0 : 0 ≤ x) (h1 : x < 65536) (h2 : 0 ≤ y) (h3 : y < 65536) (h : be16 x ++ r = be16 y ++ q) : x = y ∧ r = q := by
  obtain ⟨a, b⟩ := List.append_inj h (by simp [be16_len])
  exact ⟨be16_inj h0 h1 h2 h3 a, b⟩
theorem ba_zero {a : ByteArray} (h : a.size = 0) : a = ByteArray.empty := ba_ext (by
  have : a.data.toList.length = 0 := h
  rw [List.eq_nil_of_length_eq_zero this]
  rfl)
theorem okNum_lt {n : Int} (h : okNum n) : 0 ≤ n ∧ n < 65536 := ⟨by have := h.1; omega, by have := h.2; omega⟩
theorem okKey_lt {k : ByteArray} (h : okKey k) : k.size < 65536 := by have := h.2; omega
theorem cellL_inj {c d : PC} {r q : List UInt8} (hc : okKey c.k) (hd : okKey d.k) (bc : okBody c) (bd : okBody d) (h : cellL c ++ r = cellL d ++ q) : c = d ∧ r = q := by
  unfold cellL at h
  rw [List.append_assoc, List.append_assoc] at h
  obtain ⟨h1, h2⟩ := textL_inj (okKey_lt hc) (okKey_lt hd) h
  obtain ⟨ck, cv, cz, cs⟩ := c
  obtain ⟨dk, dv, dz, ds⟩ := d
  simp only at h1 h2
  subst h1
  rcases bc with ⟨z1, z2, z3⟩ | ⟨z1, z2, z3, z4⟩ <;> rcases bd with ⟨y1, y2, y3⟩ | ⟨y1, y2, y3, y4⟩ <;> simp only at z1 z2 z3 y1 y2 y3
  · subst z1 z2 y1 y2
    simp only [if_true, List.cons_append, List.cons.injEq, true_and] at h2
    obtain ⟨h3, h4⟩ := textL_inj (by omega) (by omega) h2
    exact ⟨by rw [h3], h4⟩
  · rw [if_pos z1, if_neg (by omega)] at h2
    simp at h2
  · rw [if_neg (by omega), if_pos y1] at h2
    simp at h2
  · rw [if_neg (by omega), if_neg (by omega)] at h2
    simp only [List.cons_append, List.cons.injEq, true_and, List.append_assoc] at h2
    obtain ⟨h3, h4⟩ := be16_app (by omega) (by omega) (by omega) (by omega) h2
    obtain ⟨h5, h6⟩ := be16_app (okNum_lt z4).1 (okNum_lt z4).2 (okNum_lt y4).1 (okNum_lt y4).2 h4
    simp only at h5
    exact ⟨by rw [h3, h5, ba_zero z1, ba_zero y1], h6⟩
theorem kidL_inj {c d : PK} {r q : List UInt8} (hc : okKey c.k) (hd : okKey d.k) (bc : okNum c.pg) (bd : okNum d.pg) (h : kidL c ++ r = kidL d ++ q) : c = d ∧ r = q := by
  unfold kidL at h
  rw [List.append_assoc, List.append_assoc] at h
  obtain ⟨h1, h2⟩ := textL_inj (okKey_lt hc) (okKey_lt hd) h
  obtain ⟨h3, h4⟩ := be16_app (okNum_lt bc).1 (okNum_lt bc).2 (okNum_lt bd).1 (okNum_lt bd).2 h2
  cases c; cases d
  simp only at h1 h3
  exact ⟨by rw [h1, h3], h4⟩
theorem flat_inj {α : Type} {f : α → List UInt8} {ok : α → Prop} (hf : ∀ c d r q, ok c → ok d → f c ++ r = f d ++ q → c = d ∧ r = q) :
    ∀ (l m : List α) (r q : List UInt8), (∀ c ∈ l, ok c) → (∀ c ∈ m, ok c) → l.length = m.length → l.flatMap f ++ r = m.flatMap f ++ q → l = m
  | [], [], _, _, _, _, _, _ => rfl
  | c :: l, d :: m, r, q, hl, hm, hn, h => by
    rw [List.flatMap_cons, List.flatMap_cons, List.append_assoc, List.append_assoc] at h
    obtain ⟨h1, h2⟩ := hf c d _ _ (hl c (by simp)) (hm d (by simp)) h
    rw [h1, flat_inj hf l m r q (fun c hc => hl c (by simp [hc])) (fun c hc => hm c (by simp [hc])) (by simpa using hn) h2]
  | [], _ :: _, _, _, _, _, hn, _ => by simp at hn
  | _ :: _, [], _, _, _, _, hn, _ => by simp at hn
theorem kind_lt {p : PP} (h : okPage p) : 0 ≤ p.kind ∧ p.kind < 256 := by
  rcases h with ⟨h, _⟩ | ⟨h, _⟩ | ⟨h, _⟩ <;> omega
theorem bodyL_inj {p q : PP} (hp : okPage p) (hq : okPage q) (h : bodyL p = bodyL q) : p = q := by
  unfold bodyL contL at h
  simp only [List.cons_append, List.cons.injEq] at h
  obtain ⟨h1, h2⟩ := h
  have hk := b8_inj (kind_lt hp).1 (kind_lt hp).2 (kind_lt hq).1 (kind_lt hq).2 h1
  obtain ⟨pk, pc, pd, pp, pn⟩ := p
  obtain ⟨qk, qc, qd, qp, qn⟩ := q
  simp only at hk
  subst hk
  rcases hp with ⟨k, a1, a2, a3, a4⟩ | ⟨k, a1, a2, a3, a4⟩ | ⟨k, a1, a2, a3⟩ <;> rcases hq with ⟨k', b1, b2, b3, b4⟩ | ⟨k', b1, b2, b3, b4⟩ | ⟨k', b1, b2, b3⟩ <;> simp only at k k' <;> (try omega) <;> subst k
  · simp only [if_true, List.cons_append, List.cons.injEq] at h2
    have hn := b8_inj (by omega) (by have := a4.1; simp only at this; omega) (by omega) (by have := b4.1; simp only at this; omega) h2.1
    have hl := flat_inj (f := cellL) (ok := fun c => okKey c.k ∧ okBody c) (fun c d r q hc hd => cellL_inj hc.1 hd.1 hc.2 hd.2) pc qc _ _ (fun c hm => ⟨okKeys_cells a4.2.2 hm, a4.2.1 c hm⟩) (fun c hm => ⟨okKeys_cells b4.2.2 hm, b4.2.1 c hm⟩) (by omega) h2.2
    simp only at a1 a2 a3 b1 b2 b3
    rw [hl, List.eq_nil_of_length_eq_zero a1, List.eq_nil_of_length_eq_zero b1, ba_zero a2, ba_zero b2, a3, b3]
  · simp only [if_true] at h2
    rw [if_neg (by omega), if_neg (by omega)] at h2
    simp only [List.cons_append, List.cons.injEq] at h2
    have hn := b8_inj (by omega) (by have := a4.2.1; simp only at this; omega) (by omega) (by have := b4.2.1; simp only at this; omega) h2.1
    have hl := flat_inj (f := kidL) (ok := fun c => okKey c.k ∧ okNum c.pg) (fun c d r q hc hd => kidL_inj hc.1 hd.1 hc.2 hd.2) pd qd _ _ (fun c hm => ⟨okKeys_kids a4.2.2.2 hm, a4.2.2.1 c hm⟩) (fun c hm => ⟨okKeys_kids b4.2.2.2 hm, b4.2.2.1 c hm⟩) (by omega) h2.2
    simp only at a1 a2 a3 b1 b2 b3
    rw [hl, List.eq_nil_of_length_eq_zero a1, List.eq_nil_of_length_eq_zero b1, ba_zero a2, ba_zero b2, a3, b3]
  · dsimp only at h2 a3 b3
    rw [if_neg (by omega), if_neg (by omega), if_pos rfl, if_neg (by omega), if_neg (by omega), if_pos rfl, List.append_assoc, List.append_assoc] at h2
    obtain ⟨h3, h4⟩ := textL_inj (by have := a3.2.1; omega) (by have := b3.2.1; omega) h2
    have n1 : 0 ≤ pn ∧ pn < 65536 := by
      rcases a3.2.2 with h | h
      · omega
      · exact okNum_lt h
    have n2 : 0 ≤ qn ∧ qn < 65536 := by
      rcases b3.2.2 with h | h
      · omega
      · exact okNum_lt h
    obtain ⟨h5, _⟩ := be16_app n1.1 n1.2 n2.1 n2.2 h4
    simp only at a1 a2 b1 b2
    rw [h3, h5, List.eq_nil_of_length_eq_zero a1, List.eq_nil_of_length_eq_zero b1, List.eq_nil_of_length_eq_zero a2, List.eq_nil_of_length_eq_zero b2]
theorem encL_inj {p q : PP} (hp : okPage p) (hq : okPage q) (h : encL p = encL q) : p = q := by
  refine bodyL_inj hp hq ?_
  have := congrArg (fun l : List UInt8 => l.take 252) h
  simp only [encL] at this
  rwa [show (252 : Nat) = (bodyL p).length from (bodyL_len hp).symm, Crc.sealed_take, show (bodyL p).length = (bodyL q).length from (bodyL_len hp).trans (bodyL_len hq).symm, Crc.sealed_take] at this

/-! What a reader takes from such bytes. -/
/-- The reader stands ahead of these bytes, and has no error. -/
def Ahead (l : List UInt8) (p e : Int) (rest : List UInt8) : Prop := e = 0 ∧ 0 ≤ p ∧ p ≤ l.length ∧ l.drop p.toNat = rest
theorem next_of {l bs rest : List UInt8} {p e : Int} {m : Int} (h : Ahead l p e (bs ++ rest)) (hm : m = bs.length) : nextB l p e m = bs ∧ Ahead l (nextP l p e m) (nextE l p e m) rest := by
  obtain ⟨rfl, h0, h1, h⟩ := h
  subst hm
  obtain ⟨q, rfl⟩ := Int.eq_ofNat_of_zero_le h0
  rw [Int.toNat_natCast] at h
  have hl := congrArg List.length h
  rw [List.length_drop, List.length_append] at hl
  have hs : (bs.length : Int) ≤ l.length - q := by omega
  rw [nextB_ok l q bs.length hs, nextP_ok l q bs.length hs, nextE_ok l q bs.length hs, h]
  refine ⟨by simp, rfl, by omega, by omega, ?_⟩
  rw [show ((q : Int) + (bs.length : Int)).toNat = q + bs.length from by omega, ← List.drop_drop, h]
  simp
theorem num_one (b : UInt8) : num [b] = b.toNat := by simp [num]
theorem num_be16 {x : Int} (h0 : 0 ≤ x) (h1 : x < 65536) : (num (be16 x) : Int) = x := by
  have a := b8_nat (x / 256)
  have b := b8_nat x
  simp only [num, be16, List.foldl_cons, List.foldl_nil]
  omega
theorem take1_of {l rest : List UInt8} {p e : Int} {b : UInt8} (h : Ahead l p e (b :: rest)) : (num (nextB l p e 1) : Int) = b.toNat ∧ Ahead l (nextP l p e 1) (nextE l p e 1) rest := by
  obtain ⟨h1, h2⟩ := next_of (bs := [b]) (m := 1) h rfl
  rw [h1, num_one]
  exact ⟨rfl, h2⟩
theorem take2_of {l rest : List UInt8} {p e x : Int} (h0 : 0 ≤ x) (h1 : x < 65536) (h : Ahead l p e (be16 x ++ rest)) : (num (nextB l p e 2) : Int) = x ∧ Ahead l (nextP l p e 2) (nextE l p e 2) rest := by
  obtain ⟨h2, h3⟩ := next_of (m := 2) h rfl
  rw [h2, num_be16 h0 h1]
  exact ⟨rfl, h3⟩
theorem text_of {l rest : List UInt8} {p e most : Int} {s : ByteArray} (hm : s.size ≤ most) (hs : s.size < 65536) (h : Ahead l p e (textL s ++ rest)) :
    txtS l p e most = s.data.toList ∧ Ahead l (txtP l p e most) (txtE l p e most) rest := by
  unfold textL at h
  rw [List.append_assoc] at h
  obtain ⟨h1, h2⟩ := take2_of (by omega) (by omega) h
  have h3 := h2.1
  unfold txtS txtP txtE
  simp only [h1, h3]
  rw [if_neg (by omega), if_neg (by omega), if_neg (by omega), if_neg (by omega), if_neg (by omega), if_neg (by omega)]
  rw [h3] at h2
  exact next_of h2 rfl

end Go.Proofs.YtelenboncejdaaaGreatDoor

/-
  Pages in memory: cells and kids as cells of memory, a page by value, what is asked of its numbers and strings; and the contracts of page.isNumber, rightContent, rightKeys, rightPiece and the reference's Number; conditions stand at each.
-/
namespace Go.Proofs.YtelenboncejdaaaGreatDoor
open Go.RowKit Go.Sort
set_option linter.unusedVariables false

/-- A number of 64 bits. -/
def I64 (x : Int) : Prop := -9223372036854775808 ≤ x ∧ x ≤ 9223372036854775807
def pcC (c : PC) : List Value := [.string c.k, .string c.v, .int .i64 c.sz, .int .i64 c.st]
def pcK (c : PK) : List Value := [.string c.k, .int .i64 c.pg]
theorem encC : Enc pcC 4 := ⟨fun _ => rfl, fun x u hu => by
  simp only [pcC, List.mem_cons, List.not_mem_nil, or_false] at hu
  rcases hu with rfl | rfl | rfl | rfl <;> rfl⟩
theorem encK : Enc pcK 2 := ⟨fun _ => rfl, fun x u hu => by
  simp only [pcK, List.mem_cons, List.not_mem_nil, or_false] at hu
  rcases hu with rfl | rfl <;> rfl⟩
/-- What a cell's numbers and strings are at most. -/
structure BdC (c : PC) : Prop where
  k : c.k.size ≤ 140737488351232
  v : c.v.size ≤ 140737488351232
  sz : I64 c.sz
  st : I64 c.st
structure BdK (c : PK) : Prop where
  k : c.k.size ≤ 140737488351232
  pg : I64 c.pg
structure Bd (p : PP) : Prop where
  kind : I64 p.kind
  next : I64 p.next
  piece : p.piece.size ≤ 140737488351232
  cl : p.cells.length ≤ 100000000000
  kl : p.kids.length ≤ 100000000000
  cells : ∀ c ∈ p.cells, BdC c
  kids : ∀ c ∈ p.kids, BdK c

theorem Ls.atC {w : World} {A : Option Addr} {l : List PC} (h : Ls pcC w A l) {i : Nat} (hi : i < l.length) :
    ∃ ad x, A = some ad ∧ l[i]? = some x ∧ ad.block < w.heap.size ∧ w.cell? (ad.add (i * 4)) = some (.string x.k) ∧ w.cell? ⟨(ad.add (i * 4)).block, (ad.add (i * 4)).off + 1, none⟩ = some (.string x.v) ∧
      w.cell? ⟨(ad.add (i * 4)).block, (ad.add (i * 4)).off + 2, none⟩ = some (.int .i64 x.sz) ∧ w.cell? ⟨(ad.add (i * 4)).block, (ad.add (i * 4)).off + 3, none⟩ = some (.int .i64 x.st) := by
  obtain ⟨ad, x, rfl, hx, hlt, hc⟩ := h.at_ encC hi
  exact ⟨ad, x, rfl, hx, hlt, hc 0 _ (by omega) rfl, hc 1 _ (by omega) rfl, hc 2 _ (by omega) rfl, hc 3 _ (by omega) rfl⟩
theorem Ls.atK {w : World} {A : Option Addr} {l : List PK} (h : Ls pcK w A l) {i : Nat} (hi : i < l.length) :
    ∃ ad x, A = some ad ∧ l[i]? = some x ∧ ad.block < w.heap.size ∧ w.cell? (ad.add (i * 2)) = some (.string x.k) ∧ w.cell? ⟨(ad.add (i * 2)).block, (ad.add (i * 2)).off + 1, none⟩ = some (.int .i64 x.pg) := by
  obtain ⟨ad, x, rfl, hx, hlt, hc⟩ := h.at_ encK hi
  exact ⟨ad, x, rfl, hx, hlt, hc 0 _ (by omega) rfl, hc 1 _ (by omega) rfl⟩

def cellV (c : PC) : Value := .agg #[.string c.k, .string c.v, .int .i64 c.sz, .int .i64 c.st]

theorem isNumber_any (n : Int) (w : World) (hn : I64 n) :
    Calls Tryz.prog 173 #[.int .i64 n] w fun e w' => e = .returned (.bool (decide (okNum n))) ∧ w = w' := by
  by_cases h1 : 2 ≤ n
  · by_cases h2 : n < 512
    · rw [show decide (okNum n) = true from decide_eq_true ⟨h1, by omega⟩]
      go_enter Tryz.func173, Tryz.ntmps173
      go_wp2
      go_ret
      exact ⟨rfl, rfl⟩
    · rw [show decide (okNum n) = false from decide_eq_false fun h => by have := h.2; omega]
      go_enter Tryz.func173, Tryz.ntmps173
      go_wp2
      go_ret
      exact ⟨rfl, rfl⟩
  · rw [show decide (okNum n) = false from decide_eq_false fun h => h1 h.1]
    go_enter Tryz.func173, Tryz.ntmps173
    go_wp2
    go_ret
    exact ⟨rfl, rfl⟩

theorem rightPiece_any (s : ByteArray) (n : Int) (w : World) (hs : s.size ≤ 140737488351232) (hn : I64 n) :
    Calls Tryz.prog 150 #[.string s, .int .i64 n] w fun e w' => e = .returned (.bool (decide (okPiece s n))) ∧ w = w' := by
  by_cases h1 : 1 ≤ s.size
  · by_cases h2 : s.size ≤ 240
    · by_cases h3 : n = 0
      · rw [show decide (okPiece s n) = true from decide_eq_true ⟨h1, h2, .inl h3⟩]
        go_enter Tryz.func150, Tryz.ntmps150
        go_wp2
        go_ret
        exact ⟨rfl, rfl⟩
      · rw [show decide (okPiece s n) = decide (okNum n) from decide_eq_decide.2 ⟨fun h => h.2.2.resolve_left h3, fun h => ⟨h1, h2, .inr h⟩⟩]
        go_enter Tryz.func150, Tryz.ntmps150
        go_wp2_with fail
        refine (isNumber_any n w hn).mono ?_
        rintro e w1 ⟨rfl, rfl⟩
        have h4 : (n == 0) = false := by simpa using h3
        go_wp2
        go_ret
        exact ⟨rfl, rfl⟩
    · rw [show decide (okPiece s n) = false from decide_eq_false fun h => h2 h.2.1]
      go_enter Tryz.func150, Tryz.ntmps150
      go_wp2
      go_ret
      exact ⟨rfl, rfl⟩
  · rw [show decide (okPiece s n) = false from decide_eq_false fun h => h1 h.1]
    go_enter Tryz.func150, Tryz.ntmps150
    go_wp2
    go_ret
    exact ⟨rfl, rfl⟩

theorem rightContent_any (c : PC) (w : World) (hc : BdC c) :
    Calls Tryz.prog 171 #[cellV c] w fun e w' => e = .returned (.bool (decide (okBody c))) ∧ Below w.heap.size w w' := by
  obtain ⟨ck, cv, cz, cs⟩ := c
  obtain ⟨b1, b2, b3, b4⟩ := hc
  simp only at b1 b2 b3 b4
  unfold cellV
  simp only
  have he := empty_eq cv
  by_cases h1 : cz = 0 ∧ cs = 0
  · obtain ⟨rfl, rfl⟩ := h1
    rw [show decide (okBody ⟨ck, cv, 0, 0⟩) = decide ((cv.size : Int) ≤ 24) from decide_eq_decide.2 ⟨fun h => by
      rcases h with ⟨_, _, h⟩ | ⟨_, h, _⟩
      · simp only at h; omega
      · simp only at h; omega, fun h => .inl ⟨rfl, rfl, by simp only; omega⟩⟩]
    go_enter Tryz.func171, Tryz.ntmps171
    go_wp2
    go_ret
    exact ⟨rfl, (Below.refl _ _).alloc (Nat.le_refl _) _⟩
  · have hx : okBody ⟨ck, cv, cz, cs⟩ ↔ cv.size = 0 ∧ 25 ≤ cz ∧ cz ≤ 400 ∧ okNum cs := ⟨fun h => by
      rcases h with ⟨h2, h3, _⟩ | h
      · exact absurd ⟨h2, h3⟩ h1
      · exact h, fun h => .inr h⟩
    rw [show decide (okBody ⟨ck, cv, cz, cs⟩) = decide (cv.size = 0 ∧ 25 ≤ cz ∧ cz ≤ 400 ∧ okNum cs) from decide_eq_decide.2 hx]
    clear hx
    have hz : decide (cz = 0) = true → decide (cs = 0) = false := fun h => decide_eq_false fun h2 => h1 ⟨of_decide_eq_true h, h2⟩
    by_cases h2 : cv.size = 0
    · rw [decide_eq_true h2] at he
      by_cases h3 : 24 < cz
      · by_cases h4 : cz ≤ 400
        · rw [show decide (cv.size = 0 ∧ 25 ≤ cz ∧ cz ≤ 400 ∧ okNum cs) = decide (okNum cs) from decide_eq_decide.2 ⟨fun h => h.2.2.2, fun h => ⟨h2, by omega, h4, h⟩⟩]
          go_enter Tryz.func171, Tryz.ntmps171
          go_wp2_with fail
          refine (isNumber_any cs _ b4).mono ?_
          rintro e w1 ⟨rfl, rfl⟩
          go_wp2
          go_ret
          exact ⟨rfl, (Below.refl _ _).alloc (Nat.le_refl _) _⟩
        · rw [show decide (cv.size = 0 ∧ 25 ≤ cz ∧ cz ≤ 400 ∧ okNum cs) = false from decide_eq_false fun h => h4 h.2.2.1]
          go_enter Tryz.func171, Tryz.ntmps171
          go_wp2
          go_ret
          exact ⟨rfl, (Below.refl _ _).alloc (Nat.le_refl _) _⟩
      · rw [show decide (cv.size = 0 ∧ 25 ≤ cz ∧ cz ≤ 400 ∧ okNum cs) = false from decide_eq_false fun h => by omega]
        by_cases h5 : cz = 0
        · have h6 : ¬ cs = 0 := fun h => h1 ⟨h5, h⟩
          go_enter Tryz.func171, Tryz.ntmps171
          go_wp2
          go_ret
          exact ⟨rfl, (Below.refl _ _).alloc (Nat.le_refl _) _⟩
        · go_enter Tryz.func171, Tryz.ntmps171
          go_wp2
          go_ret
          exact ⟨rfl, (Below.refl _ _).alloc (Nat.le_refl _) _⟩
    · rw [decide_eq_false h2] at he
      rw [show decide (cv.size = 0 ∧ 25 ≤ cz ∧ cz ≤ 400 ∧ okNum cs) = false from decide_eq_false fun h => h2 h.1]
      by_cases h5 : cz = 0
      · have h6 : ¬ cs = 0 := fun h => h1 ⟨h5, h⟩
        go_enter Tryz.func171, Tryz.ntmps171
        go_wp2
        go_ret
        exact ⟨rfl, (Below.refl _ _).alloc (Nat.le_refl _) _⟩
      · go_enter Tryz.func171, Tryz.ntmps171
        go_wp2
        go_ret
        exact ⟨rfl, (Below.refl _ _).alloc (Nat.le_refl _) _⟩

theorem keyNo_ok (k : ByteArray) : (keyNo k = 0) ↔ okKey k := by
  unfold keyNo okKey
  split
  · omega
  · split <;> omega

set_option maxHeartbeats 400000 in
theorem rightKeys_any (A : Option Addr) (n c : Nat) (l : List Ent) (w : World) (hr : Es w A l) (hn : l.length = n) (hb : n ≤ 100000000000) (hs : ∀ e ∈ l, e.k.size ≤ 140737488351232) :
    Calls Tryz.prog 172 #[.slice A n c] w fun e w' => e = .returned (.bool (decide (okKeys l))) ∧ Below w.heap.size w w' := by
  have Hn := Lib.hid hn
  have HS := Lib.hid hs
  clear hn hs
  go_enter Tryz.func172, Tryz.ntmps172
  go_wp2
  go_loopw [7] (fun i wr => ∃ k : Nat, k ≤ n ∧ i = .int .i64 k ∧ Below w.heap.size w wr ∧ ∀ j e, j < k → l[j]? = some e → okKey e.k) (fun i _ => n - (intOf i).toNat)
  case atStart => exact ⟨0, Nat.zero_le _, rfl, Below.refl _ _, fun j _ hj => absurd hj (by omega)⟩
  case round =>
    obtain ⟨k, hk, rfl, hbw, hall⟩ := hrel
    have HA := Lib.hid hall
    clear hall
    by_cases hlt : k < n
    · obtain ⟨ad, x, rfl, hx, hl, h1, h2⟩ := (hr.below hbw).at_ (i := k) (by rw [Hn.out]; exact hlt)
      have hxs := HS.out x (List.mem_of_getElem? hx)
      have Hx := Lib.hid hx
      clear hx
      go_wp2_with fail
      refine (key_any x.k _ hxs).mono ?_
      rintro e w1 ⟨rfl, rfl⟩
      have hb1 : Below w.heap.size w (wr.alloc (.cells #[.string x.k, .string x.v] 87)) := hbw.alloc hbw.size _
      by_cases hd : keyNo x.k = 0
      · rw [hd]
        go_wp2
        refine ⟨⟨k + 1, by omega, by go_num, hb1, fun j e hj he => ?_⟩, by simp [intOf]; omega⟩
        rcases Nat.lt_or_ge j k with h | h
        · exact HA.out j e h he
        · have : j = k := by omega
          subst this
          rw [Hx.out] at he
          cases he
          exact (keyNo_ok _).1 hd
      · go_wp2
        go_ret
        rw [show decide (okKeys l) = false from decide_eq_false fun h => hd ((keyNo_ok _).2 (h.1 x (List.mem_of_getElem? Hx.out)))]
        exact ⟨rfl, hb1⟩
    · have he : k = n := by omega
      subst he
      go_wp2_with fail
      refine (rise_any A k c l wr (hr.below hbw) Hn.out hb).mono ?_
      rintro e w1 ⟨rfl, hb1⟩
      go_wp2
      go_ret
      rw [show decide (okKeys l) = decide (Sorted l) from decide_eq_decide.2 ⟨fun h => h.2, fun h => ⟨fun e he => by
        obtain ⟨j, hj⟩ := List.getElem?_of_mem he
        exact HA.out j e (by have := (List.getElem?_eq_some_iff.1 hj).1; rw [Hn.out] at this; exact this) hj, h⟩⟩]
      exact ⟨rfl, bthen hbw hb1⟩

end Go.Proofs.YtelenboncejdaaaGreatDoor

/-
  The contracts of page.rightCells, rightKids and Right: whether a page can be; conditions: its slices can be read, its numbers and strings are as Bd says.
-/
namespace Go.Proofs.YtelenboncejdaaaGreatDoor
open Go.RowKit Go.Sort
set_option linter.unusedVariables false

theorem own_none (W : World) : Own (W.alloc (.cells #[] 87)) W.heap.size (.slice (some ⟨W.heap.size, 0, none⟩) 0 0) [] :=
  ⟨rfl, .inr ⟨W.heap.size, 0, _, rfl, Nat.le_refl _, heap_alloc_new W _, Nat.le_refl _, by simp [maxLen], rfl, rfl⟩⟩
theorem take_snocA {α : Type} {l : List α} {k : Nat} {x : α} (h : l[k]? = some x) : l.take (k + 1) = l.take k ++ [x] := by
  have hk := (List.getElem?_eq_some_iff.1 h).1
  rw [List.take_add_one, h]
  rfl

set_option maxHeartbeats 400000 in
theorem rightCells_any (A : Option Addr) (n c : Nat) (l : List PC) (w : World) (hr : Ls pcC w A l) (hn : l.length = n) (hb : n ≤ 100000000000) (hs : ∀ e ∈ l, BdC e) :
    Calls Tryz.prog 148 #[.slice A n c] w fun e w' => e = .returned (.bool (decide (okCells l))) ∧ Below w.heap.size w w' := by
  have Hn := Lib.hid hn
  have HS := Lib.hid hs
  clear hn hs
  by_cases h4 : 4 < n
  · rw [show decide (okCells l) = false from decide_eq_false fun h => by have := h.1; rw [Hn.out] at this; omega]
    go_enter Tryz.func148, Tryz.ntmps148
    go_wp2
    go_ret
    exact ⟨rfl, Below.refl _ _⟩
  · have h0 := own_none w
    have hb0 : Below w.heap.size w (w.alloc (.cells #[] 87)) := (Below.refl _ _).alloc (Nat.le_refl _) _
    have H0 := Lib.hid h0
    clear h0
    go_enter Tryz.func148, Tryz.ntmps148
    go_wp2
    go_loopw [3, 12] (fun s3 i wr => ∃ k : Nat, k ≤ n ∧ i = .int .i64 k ∧ Own wr w.heap.size s3 ((l.take k).map PC.key) ∧ Below w.heap.size w wr ∧ ∀ j e, j < k → l[j]? = some e → okBody e) (fun _ i _ => n - (intOf i).toNat)
    case atStart => exact ⟨0, Nat.zero_le _, rfl, H0.out, hb0, fun j _ hj => absurd hj (by omega)⟩
    case round =>
      obtain ⟨k, hk, rfl, hown, hbw, hall⟩ := hrel
      have HA := Lib.hid hall
      have HO := Lib.hid hown
      clear hall hown
      by_cases hlt : k < n
      · obtain ⟨ad, x, rfl, hx, hl, c1, c2, c3, c4⟩ := (hr.below hbw).atC (i := k) (by rw [Hn.out]; exact hlt)
        have hxs := HS.out x (List.mem_of_getElem? hx)
        have Hx := Lib.hid hx
        clear hx
        go_wp2_with fail
        have hb1 : Below w.heap.size w (wr.alloc (.cells #[.string x.k, .string x.v, .int .i64 x.sz, .int .i64 x.st] 230)) := hbw.alloc hbw.size _
        have hc0 : (wr.alloc (.cells #[.string x.k, .string x.v, .int .i64 x.sz, .int .i64 x.st] 230)).cell? ⟨wr.heap.size, 0, none⟩ = some (.string x.k) := new_row wr #[.string x.k, .string x.v, .int .i64 x.sz, .int .i64 x.st] 230 0 _ rfl
        have hb01 : Below wr.heap.size wr (wr.alloc (.cells #[.string x.k, .string x.v, .int .i64 x.sz, .int .i64 x.st] 230)) := (Below.refl _ _).alloc (Nat.le_refl _) _
        refine (rightContent_any x _ hxs).mono ?_
        rintro e w1 ⟨rfl, hb2⟩
        have hc1 : w1.cell? ⟨wr.heap.size, 0, none⟩ = some (.string x.k) := (hb2.cell (by simp)).trans hc0
        have hb3 := bthen hb1 hb2
        have HO1 : Hid (Own w1 w.heap.size u3 ((l.take k).map PC.key)) := HO.out.below (bthen hb01 hb2)
        clear hc0 hb1 hb2 c1 c2 c3 c4 hb01
        by_cases hd : okBody x
        · rw [decide_eq_true hd]
          obtain ⟨v', w2, hrun, hown2, hbw2, hsz2⟩ := append_one HO1.out hb3 hb3.size x.key (by rw [List.length_map, List.length_take]; omega)
          have HR := Lib.hid hrun
          have HO2 := Lib.hid hown2
          clear hrun hown2
          go_wp2_with (at_builtin; refine wpList_append_ran rfl (.tmp 19) (.tmp 23) 22 rfl _ _ _ _ rfl rfl HR.out ?_)
          refine ⟨⟨k + 1, by omega, by go_num, ?_, hbw2, fun j e hj he => ?_⟩, by simp [intOf]; omega⟩
          · rw [take_snocA Hx.out, List.map_append]
            exact HO2.out
          · rcases Nat.lt_or_ge j k with h | h
            · exact HA.out j e h he
            · have : j = k := by omega
              subst this
              rw [Hx.out] at he
              cases he
              exact hd
        · rw [decide_eq_false hd]
          go_wp2
          go_ret
          rw [show decide (okCells l) = false from decide_eq_false fun h => hd (h.2.1 x (List.mem_of_getElem? Hx.out))]
          exact ⟨rfl, hb3⟩
      · have he : k = n := by omega
        subst he
        have HO1 : Hid (Own wr w.heap.size u3 (l.map PC.key)) := by
          have := HO.out
          rwa [List.take_of_length_le (by rw [Hn.out]; exact Nat.le_refl _)] at this
        obtain ⟨A', c', rfl, hc', hes⟩ := HO1.out.form
        have hlen : (l.map PC.key).length = k := by rw [List.length_map, Hn.out]
        rw [hlen] at hc' ⊢
        go_wp2_with fail
        refine (rightKeys_any A' k c' (l.map PC.key) wr hes (by rw [List.length_map, Hn.out]) hb (fun e he => ?_)).mono ?_
        · obtain ⟨x, hx, rfl⟩ := List.mem_map.1 he
          exact (HS.out x hx).k
        rintro e w1 ⟨rfl, hb1⟩
        go_wp2
        go_ret
        rw [show decide (okCells l) = decide (okKeys (l.map PC.key)) from decide_eq_decide.2 ⟨fun h => h.2.2, fun h => ⟨by rw [Hn.out]; omega, fun e he => by
          obtain ⟨j, hj⟩ := List.getElem?_of_mem he
          exact HA.out j e (by have := (List.getElem?_eq_some_iff.1 hj).1; rw [Hn.out] at this; exact this) hj, h⟩⟩]
        exact ⟨rfl, bthen hbw hb1⟩

set_option maxHeartbeats 400000 in
theorem rightKids_any (A : Option Addr) (n c : Nat) (l : List PK) (w : World) (hr : Ls pcK w A l) (hn : l.length = n) (hb : n ≤ 100000000000) (hs : ∀ e ∈ l, BdK e) :
    Calls Tryz.prog 149 #[.slice A n c] w fun e w' => e = .returned (.bool (decide (okKids l))) ∧ Below w.heap.size w w' := by
  have Hn := Lib.hid hn
  have HS := Lib.hid hs
  clear hn hs
  by_cases h2 : n < 2
  · rw [show decide (okKids l) = false from decide_eq_false fun h => by have := h.1; rw [Hn.out] at this; omega]
    go_enter Tryz.func149, Tryz.ntmps149
    go_wp2
    go_ret
    exact ⟨rfl, Below.refl _ _⟩
  by_cases h4 : 6 < n
  · rw [show decide (okKids l) = false from decide_eq_false fun h => by have := h.2.1; rw [Hn.out] at this; omega]
    go_enter Tryz.func149, Tryz.ntmps149
    go_wp2
    go_ret
    exact ⟨rfl, Below.refl _ _⟩
  · have h0 := own_none w
    have hb0 : Below w.heap.size w (w.alloc (.cells #[] 87)) := (Below.refl _ _).alloc (Nat.le_refl _) _
    have H0 := Lib.hid h0
    clear h0
    go_enter Tryz.func149, Tryz.ntmps149
    go_wp2
    go_loopw [3, 17] (fun s3 i wr => ∃ k : Nat, k ≤ n ∧ i = .int .i64 k ∧ Own wr w.heap.size s3 ((l.take k).map PK.key) ∧ Below w.heap.size w wr ∧ ∀ j e, j < k → l[j]? = some e → okNum e.pg) (fun _ i _ => n - (intOf i).toNat)
    case atStart => exact ⟨0, Nat.zero_le _, rfl, H0.out, hb0, fun j _ hj => absurd hj (by omega)⟩
    case round =>
      obtain ⟨k, hk, rfl, hown, hbw, hall⟩ := hrel
      have HA := Lib.hid hall
      have HO := Lib.hid hown
      clear hall hown
      by_cases hlt : k < n
      · obtain ⟨ad, x, rfl, hx, hl, c1, c2⟩ := (hr.below hbw).atK (i := k) (by rw [Hn.out]; exact hlt)
        have hxs := HS.out x (List.mem_of_getElem? hx)
        have Hx := Lib.hid hx
        clear hx
        go_wp2_with fail
        have hb1 : Below w.heap.size w (wr.alloc (.cells #[.string x.k, .int .i64 x.pg] 233)) := hbw.alloc hbw.size _
        have hc0 : (wr.alloc (.cells #[.string x.k, .int .i64 x.pg] 233)).cell? ⟨wr.heap.size, 0, none⟩ = some (.string x.k) := new_row wr #[.string x.k, .int .i64 x.pg] 233 0 _ rfl
        have hb01 : Below wr.heap.size wr (wr.alloc (.cells #[.string x.k, .int .i64 x.pg] 233)) := (Below.refl _ _).alloc (Nat.le_refl _) _
        refine (isNumber_any x.pg _ hxs.pg).mono ?_
        rintro e w0 ⟨rfl, rfl⟩
        obtain ⟨w1, hw1⟩ : ∃ w1, w1 = wr.alloc (.cells #[.string x.k, .int .i64 x.pg] 233) := ⟨_, rfl⟩
        rw [← hw1] at hc0 hb1 hb01 ⊢
        have HW := Lib.hid hw1
        clear hw1
        have hb3 := hb1
        have HO1 : Hid (Own w1 w.heap.size u3 ((l.take k).map PK.key)) := HO.out.below hb01
        clear hb1 c1 c2 hb01
        by_cases hd : okNum x.pg
        · rw [decide_eq_true hd]
          obtain ⟨v', w2, hrun, hown2, hbw2, hsz2⟩ := append_one HO1.out hb3 hb3.size x.key (by rw [List.length_map, List.length_take]; omega)
          have HR := Lib.hid hrun
          have HO2 := Lib.hid hown2
          clear hrun hown2
          go_wp2_with (at_builtin; refine wpList_append_ran rfl (.tmp 25) (.tmp 29) 22 rfl _ _ _ _ rfl rfl HR.out ?_)
          refine ⟨⟨k + 1, by omega, by go_num, ?_, hbw2, fun j e hj he => ?_⟩, by simp [intOf]; omega⟩
          · rw [take_snocA Hx.out, List.map_append]
            exact HO2.out
          · rcases Nat.lt_or_ge j k with h | h
            · exact HA.out j e h he
            · have : j = k := by omega
              subst this
              rw [Hx.out] at he
              cases he
              exact hd
        · rw [decide_eq_false hd]
          go_wp2
          go_ret
          rw [show decide (okKids l) = false from decide_eq_false fun h => hd (h.2.2.1 x (List.mem_of_getElem? Hx.out))]
          exact ⟨rfl, hb3⟩
      · have he : k = n := by omega
        subst he
        have HO1 : Hid (Own wr w.heap.size u3 (l.map PK.key)) := by
          have := HO.out
          rwa [List.take_of_length_le (by rw [Hn.out]; exact Nat.le_refl _)] at this
        obtain ⟨A', c', rfl, hc', hes⟩ := HO1.out.form
        have hlen : (l.map PK.key).length = k := by rw [List.length_map, Hn.out]
        rw [hlen] at hc' ⊢
        go_wp2_with fail
        refine (rightKeys_any A' k c' (l.map PK.key) wr hes (by rw [List.length_map, Hn.out]) hb (fun e he => ?_)).mono ?_
        · obtain ⟨x, hx, rfl⟩ := List.mem_map.1 he
          exact (HS.out x hx).k
        rintro e w1 ⟨rfl, hb1⟩
        go_wp2
        go_ret
        rw [show decide (okKids l) = decide (okKeys (l.map PK.key)) from decide_eq_decide.2 ⟨fun h => h.2.2.2, fun h => ⟨by rw [Hn.out]; omega, by rw [Hn.out]; omega, fun e he => by
          obtain ⟨j, hj⟩ := List.getElem?_of_mem he
          exact HA.out j e (by have := (List.getElem?_eq_some_iff.1 hj).1; rw [Hn.out] at this; exact this) hj, h⟩⟩]
        exact ⟨rfl, bthen hbw hb1⟩

def pageV (p : PP) (A : Option Addr) (a : Nat) (B : Option Addr) (b : Nat) : Value := .agg #[.int .i64 p.kind, .slice A p.cells.length a, .slice B p.kids.length b, .string p.piece, .int .i64 p.next]

theorem ok_kind1 {p : PP} (h : okPage p) (hk : p.kind = 1) : pgLeaf p := by
  rcases h with ⟨_, h⟩ | ⟨h, _⟩ | ⟨h, _⟩
  · exact h
  · omega
  · omega
theorem ok_kind2 {p : PP} (h : okPage p) (hk : p.kind = 2) : okBranch p := by
  rcases h with ⟨h, _⟩ | ⟨_, h⟩ | ⟨h, _⟩
  · omega
  · exact h
  · omega
theorem ok_kind3 {p : PP} (h : okPage p) (hk : p.kind = 3) : okChain p := by
  rcases h with ⟨h, _⟩ | ⟨h, _⟩ | ⟨_, h⟩
  · omega
  · omega
  · exact h

set_option maxHeartbeats 1000000 in
theorem right_any (p : PP) (A B : Option Addr) (a b : Nat) (w : World) (hA : Ls pcC w A p.cells) (hB : Ls pcK w B p.kids) (hp : Bd p) :
    Calls Tryz.prog 116 #[pageV p A a B b] w fun e w' => e = .returned (.bool (decide (okPage p))) ∧ Below w.heap.size w w' := by
  obtain ⟨pk, pc, pd, pp, pn⟩ := p
  obtain ⟨b1, b2, b3, b4, b5, b6, b7⟩ := hp
  unfold pageV
  simp only at *
  have he := empty_eq pp
  obtain ⟨n, hn⟩ : ∃ n, n = pc.length := ⟨_, rfl⟩
  obtain ⟨m, hm⟩ : ∃ m, m = pd.length := ⟨_, rfl⟩
  rw [← hn] at b4 ⊢
  rw [← hm] at b5 ⊢
  have Hn := Lib.hid hn
  have Hm := Lib.hid hm
  have H6 := Lib.hid b6
  have H7 := Lib.hid b7
  have hno : True := trivial
  clear hn hm b6 b7
  by_cases k1 : pk = 1
  · subst k1
    by_cases g1 : m = 0
    · by_cases g2 : pp.size = 0
      · rw [decide_eq_true g2] at he
        by_cases g3 : pn = 0
        · rw [show decide (okPage ⟨_, pc, pd, pp, pn⟩) = decide (okCells pc) from decide_eq_decide.2 ⟨fun h => (ok_kind1 h rfl).2.2.2, fun h => .inl ⟨rfl, Hm.out.symm.trans g1, g2, g3, h⟩⟩]
          clear hno
          go_enter Tryz.func116, Tryz.ntmps116
          go_wp2_with fail
          refine (rightCells_any A n a pc _ (hA.below ((Below.refl _ _).alloc (Nat.le_refl _) _)) Hn.out.symm b4 H6.out).mono ?_
          rintro e w1 ⟨rfl, hb1⟩
          go_wp2
          go_ret
          exact ⟨rfl, bthen ((Below.refl _ _).alloc (Nat.le_refl _) _) hb1⟩
        · rw [show decide (okPage ⟨_, pc, pd, pp, pn⟩) = false from decide_eq_false fun h => g3 (ok_kind1 h rfl).2.2.1]
          go_enter Tryz.func116, Tryz.ntmps116
          go_wp2
          go_ret
          exact ⟨rfl, (Below.refl _ _).alloc (Nat.le_refl _) _⟩
      · rw [decide_eq_false g2] at he
        rw [show decide (okPage ⟨_, pc, pd, pp, pn⟩) = false from decide_eq_false fun h => g2 (ok_kind1 h rfl).2.1]
        go_enter Tryz.func116, Tryz.ntmps116
        go_wp2
        go_ret
        exact ⟨rfl, (Below.refl _ _).alloc (Nat.le_refl _) _⟩
    · rw [show decide (okPage ⟨_, pc, pd, pp, pn⟩) = false from decide_eq_false fun h => g1 (Hm.out.trans (ok_kind1 h rfl).1)]
      go_enter Tryz.func116, Tryz.ntmps116
      go_wp2
      go_ret
      exact ⟨rfl, (Below.refl _ _).alloc (Nat.le_refl _) _⟩
  by_cases k2 : pk = 2
  · subst k2
    by_cases g1 : n = 0
    · by_cases g2 : pp.size = 0
      · rw [decide_eq_true g2] at he
        by_cases g3 : pn = 0
        · rw [show decide (okPage ⟨_, pc, pd, pp, pn⟩) = decide (okKids pd) from decide_eq_decide.2 ⟨fun h => (ok_kind2 h rfl).2.2.2, fun h => .inr (.inl ⟨rfl, Hn.out.symm.trans g1, g2, g3, h⟩)⟩]
          clear hno
          go_enter Tryz.func116, Tryz.ntmps116
          go_wp2_with fail
          refine (rightKids_any B m b pd _ (hB.below ((Below.refl _ _).alloc (Nat.le_refl _) _)) Hm.out.symm b5 H7.out).mono ?_
          rintro e w1 ⟨rfl, hb1⟩
          go_wp2
          go_ret
          exact ⟨rfl, bthen ((Below.refl _ _).alloc (Nat.le_refl _) _) hb1⟩
        · rw [show decide (okPage ⟨_, pc, pd, pp, pn⟩) = false from decide_eq_false fun h => g3 (ok_kind2 h rfl).2.2.1]
          go_enter Tryz.func116, Tryz.ntmps116
          go_wp2
          go_ret
          exact ⟨rfl, (Below.refl _ _).alloc (Nat.le_refl _) _⟩
      · rw [decide_eq_false g2] at he
        rw [show decide (okPage ⟨_, pc, pd, pp, pn⟩) = false from decide_eq_false fun h => g2 (ok_kind2 h rfl).2.1]
        go_enter Tryz.func116, Tryz.ntmps116
        go_wp2
        go_ret
        exact ⟨rfl, (Below.refl _ _).alloc (Nat.le_refl _) _⟩
    · rw [show decide (okPage ⟨_, pc, pd, pp, pn⟩) = false from decide_eq_false fun h => g1 (Hn.out.trans (ok_kind2 h rfl).1)]
      go_enter Tryz.func116, Tryz.ntmps116
      go_wp2
      go_ret
      exact ⟨rfl, (Below.refl _ _).alloc (Nat.le_refl _) _⟩
  by_cases k3 : pk = 3
  · subst k3
    by_cases g1 : n = 0
    · by_cases g2 : m = 0
      · rw [show decide (okPage ⟨_, pc, pd, pp, pn⟩) = decide (okPiece pp pn) from decide_eq_decide.2 ⟨fun h => (ok_kind3 h rfl).2.2, fun h => .inr (.inr ⟨rfl, Hn.out.symm.trans g1, Hm.out.symm.trans g2, h⟩)⟩]
        clear hno
        go_enter Tryz.func116, Tryz.ntmps116
        go_wp2_with fail
        refine (rightPiece_any pp pn _ b3 b2).mono ?_
        rintro e w1 ⟨rfl, rfl⟩
        go_wp2
        go_ret
        exact ⟨rfl, (Below.refl _ _).alloc (Nat.le_refl _) _⟩
      · rw [show decide (okPage ⟨_, pc, pd, pp, pn⟩) = false from decide_eq_false fun h => g2 (Hm.out.trans (ok_kind3 h rfl).2.1)]
        go_enter Tryz.func116, Tryz.ntmps116
        go_wp2
        go_ret
        exact ⟨rfl, (Below.refl _ _).alloc (Nat.le_refl _) _⟩
    · rw [show decide (okPage ⟨_, pc, pd, pp, pn⟩) = false from decide_eq_false fun h => g1 (Hn.out.trans (ok_kind3 h rfl).1)]
      go_enter Tryz.func116, Tryz.ntmps116
      go_wp2
      go_ret
      exact ⟨rfl, (Below.refl _ _).alloc (Nat.le_refl _) _⟩
  rw [show decide (okPage ⟨_, pc, pd, pp, pn⟩) = false from decide_eq_false fun h => by rcases h with ⟨h, _⟩ | ⟨h, _⟩ | ⟨h, _⟩ <;> simp only at h <;> omega]
  go_enter Tryz.func116, Tryz.ntmps116
  go_wp2
  go_ret
  exact ⟨rfl, (Below.refl _ _).alloc (Nat.le_refl _) _⟩

end Go.Proofs.YtelenboncejdaaaGreatDoor

/-
  The contracts of page.putCell, content and Encode: a page's bytes in a new row; conditions: the page can be (Encode: any page), its slices can be read, the table of the check lies in memory.
-/
namespace Go.Proofs.YtelenboncejdaaaGreatDoor
open Go.RowKit Go.Sort
set_option linter.unusedVariables false

/-- Bytes in a row of the call's own. -/
def OB (w : World) (base : Nat) (v : Value) (l : List UInt8) : Prop := w.ownsRow base 5 1 v l.length (bcells l)
theorem OB.form {w : World} {base : Nat} {v : Value} {l : List UInt8} (h : OB w base v l) : ∃ A c, v = .slice A l.length c ∧ l.length ≤ c ∧ Rd w A l := by
  rcases h.2 with ⟨rfl, h0⟩ | ⟨g, cap, cur, rfl, hg, hh, hc, _⟩
  · exact ⟨none, 0, by rw [h0], by omega, fun hl => by omega⟩
  · exact ⟨_, _, rfl, hc, fun _ => ⟨_, rfl, lt_of_block hh, h.cells (g := g) rfl⟩⟩
theorem OB.named {w : World} {base : Nat} {v : Value} {l : List UInt8} (h : OB w base v l) : ∃ A n c, v = .slice A n c ∧ l.length = n ∧ n ≤ c ∧ Rd w A l := by
  obtain ⟨A, c, h1, h2, h3⟩ := h.form
  exact ⟨A, _, c, h1, rfl, h2, h3⟩
theorem OB.at_block {w : World} {base : Nat} {v : Value} {l : List UInt8} (h : OB w base v l) : ∀ g, v.ownBlock = some g → base ≤ g := by
  intro g hg
  rcases h.2 with ⟨rfl, h0⟩ | ⟨g', cap, cur, rfl, hb, _⟩
  · simp [Value.ownBlock] at hg
  · have : g' = g := by simpa [Value.ownBlock] using hg
    omega
theorem OB.below {w w' : World} {base : Nat} {v : Value} {l : List UInt8} (h : OB w base v l) (hb : Below w.heap.size w w') : OB w' base v l := own_below h hb
theorem OB.mono {w : World} {b b' : Nat} {v : Value} {l : List UInt8} (h : OB w b v l) (hb : b' ≤ b) : OB w b' v l := own_mono h hb
theorem OB.grow_below {a w w' : World} {base : Nat} {v : Value} {l : List UInt8} (h : OB w base v l) (hb : Below base a w) (hs : base ≤ w.heap.size) (hg : w.grownBy w' v.ownBlock) : Below base a w' :=
  hb.grown hg hs (fun k hk => h.at_block k hk)

theorem enc8 : Enc (fun b : UInt8 => [u8 b]) 1 := ⟨fun _ => rfl, fun x u hu => by
  rw [List.mem_singleton] at hu
  subst hu
  rfl⟩
theorem flat8 (l : List UInt8) : l.flatMap (fun b => [u8 b]) = bcells l := by
  induction l with
  | nil => rfl
  | cons b l ih => rw [List.flatMap_cons, ih]; rfl
/-- append(b, x). -/
theorem append_byte (ty : TypeId) {W : World} {base : Nat} {v : Value} {l : List UInt8} (h : OB W base v l) (hs : base ≤ W.heap.size) (x : UInt8) (y : Value) (hy : y = u8 x) (hl : l.length ≤ 1000000) :
    ∃ v' w', (Builtin.append_ #[46, 46] ty #[v, .slice (some ⟨W.heap.size, 0, none⟩) 1 1]).run Tryz.prog (W.alloc (.cells #[y] 5)) = .ok v' w' ∧ OB w' base v' (l ++ [x]) ∧ (W.alloc (.cells #[y] 5)).grownBy w' v.ownBlock := by
  subst hy
  have h' : OwnL (fun b : UInt8 => [u8 b]) 5 1 W base v l := by unfold OwnL; rw [flat8]; exact h
  obtain ⟨v', w', h1, h2, h3⟩ := run_append_one enc8 46 5 ty (.int .u8 0) 1 ⟨_, Tryz.underlying46, rfl⟩ u8info rfl (by omega) (by omega) (by omega) h' x hl hs
  refine ⟨v', w', h1, ?_, h3⟩
  unfold OwnL at h2
  rwa [flat8] at h2

theorem putText_ob (A : Option Addr) (n c : Nat) (l : List UInt8) (t : ByteArray) (w : World) (hr : Rd w A l) (hn : l.length = n) (hb : n ≤ 1000000) (hs : t.size ≤ 65535) :
    Calls Tryz.prog 153 #[.slice A n c, .string t] w fun e w' => ∃ v, e = .returned v ∧ OB w' w.heap.size v (l ++ textL t) ∧ Below w.heap.size w w' := by
  refine (putText_short A n c l t w hr hn (by omega) hs).mono ?_
  rintro e w' ⟨rfl, ho, hb'⟩
  refine ⟨_, rfl, ?_, hb'⟩
  unfold OB
  rw [show (l ++ textL t).length = n + 2 + t.size by rw [List.length_append, textL_len, hn]; omega, textL, ← List.append_assoc]
  exact ho
theorem put16_ob (A : Option Addr) (n c : Nat) (l : List UInt8) (x : Int) (w : World) (hr : Rd w A l) (hn : l.length = n) (hb : n ≤ 1000000) (hx : I64 x) :
    Calls Tryz.prog 152 #[.slice A n c, .int .i64 x] w fun e w' => ∃ v, e = .returned v ∧ OB w' w.heap.size v (l ++ be16 x) ∧ Below w.heap.size w w' := by
  refine (put16_any A n c l x w hr hn (by omega) hx.1 hx.2).mono ?_
  rintro e w' ⟨rfl, ho, hb'⟩
  refine ⟨_, rfl, ?_, hb'⟩
  unfold OB
  rw [show (l ++ be16 x).length = n + 2 by rw [List.length_append, be16_len, hn]]
  exact ho

theorem but_of_grown {a b : World} {row : Option Nat} (h : a.grownBy b row) : Dc.But row.toList a b :=
  ⟨h.size, fun k hk hn => h.block k hk (fun e => hn (by rw [← e]; simp))⟩

theorem oper_append_ran {o : Oper} {a : Act} {w : World} {K : Act → World → Prop} {Q : Exit → Act → World → Prop} (s x : Operand) (t : TypeId)
    (ho : o.op = .call { callee := .builtin .append, args := #[s, x], argTypes := #[t, t] }) (v u v' : Value) (w' : World) (hs : a.eval s = v) (hx : a.eval x = u)
    (hrun : (Builtin.append_ #[t, t] o.type #[v, u]).run Tryz.prog w = .ok v' w') (h : K (a.put o.dst v') w') : o.wp Tryz.prog a w K Q := by
  unfold Oper.wp execOp
  simp only [ho, resolve, invoke, builtin, Sem.run_bind, Sem.run_pure, Result.andThen_ok, List.map_toArray, List.map_cons, List.map_nil, hs, hx, hrun]
  exact h

theorem i64_num {n : Int} (h : okNum n) : I64 n := ⟨by have := h.1; omega, by have := h.2; omega⟩

set_option maxHeartbeats 1000000 in
theorem putCell_in (A : Option Addr) (n a : Nat) (l : List UInt8) (c : PC) (w : World) (hr : Rd w A l) (hn : l.length = n) (hb : n ≤ 100000) (hk : okKey c.k) (hv : c.v.size ≤ 24) (hz : c.sz = 0) :
    Calls Tryz.prog 151 #[.slice A n a, cellV c] w fun e w' => ∃ v, e = .returned v ∧ OB w' w.heap.size v (l ++ cellL c) ∧ Below w.heap.size w w' := by
  obtain ⟨ck, cv, cz, cs⟩ := c
  simp only at hk hv hz
  subst hz
  unfold cellV
  simp only
  have hk2 := hk.2
  have Hn := Lib.hid hn
  clear hn
  have hbx : Below w.heap.size w (w.alloc (.cells #[.string ck, .string cv, .int .i64 0, .int .i64 cs] 230)) := (Below.refl _ _).alloc (Nat.le_refl _) _
  have hrx := hr.below hbx
  have hc1 : (w.alloc (.cells #[.string ck, .string cv, .int .i64 0, .int .i64 cs] 230)).cell? ⟨w.heap.size, 1, none⟩ = some (.string cv) := new_row w #[.string ck, .string cv, .int .i64 0, .int .i64 cs] 230 1 _ rfl
  have hc2 : (w.alloc (.cells #[.string ck, .string cv, .int .i64 0, .int .i64 cs] 230)).cell? ⟨w.heap.size, 2, none⟩ = some (.int .i64 0) := new_row w #[.string ck, .string cv, .int .i64 0, .int .i64 cs] 230 2 _ rfl
  go_enter Tryz.func151, Tryz.ntmps151
  go_wp2_with fail
  refine (putText_ob A n a l ck _ hrx Hn.out (by omega) (by omega)).mono ?_
  rintro e w1 ⟨v1, rfl, ho1, hb1⟩
  have h11 := (hb1.cell (p := ⟨w.heap.size, 1, none⟩) (by simp)).trans hc1
  have h12 := (hb1.cell (p := ⟨w.heap.size, 2, none⟩) (by simp)).trans hc2
  have hbw := bthen hbx hb1
  have hs1 : w.heap.size < w1.heap.size := by have := hb1.size; simp at this; omega
  have hg1 : ∀ g, v1.ownBlock = some g → w.heap.size < g := fun g hg => by have := ho1.at_block g hg; simp at this; omega
  have HO := Lib.hid (ho1.mono (b' := w.heap.size) (by simp))
  clear hc1 hc2 hb1 hbx hrx ho1
  go_wp2
  obtain ⟨W, hW⟩ : ∃ W, W = w1.drew := ⟨_, rfl⟩
  have HOW : Hid (OB W w.heap.size v1 (l ++ textL ck)) := by rw [hW]; exact HO.out
  have hbW : Below w.heap.size w W := by rw [hW]; exact hbw.drew
  have hsW : w.heap.size < W.heap.size := by rw [hW]; exact hs1
  have hq : ∀ q : Dc.Past v1.ownBlock.toList W, q.val.cell? ⟨w.heap.size, 1, none⟩ = some (.string cv) := fun q =>
    (q.ok.cell (p := ⟨w.heap.size, 1, none⟩) hsW (fun hm => by
      have := hg1 w.heap.size (by simpa using hm)
      omega)).trans (by rw [hW]; exact h11)
  obtain ⟨v', w2, hrun, ho2, hg2⟩ := append_byte 46 HOW.out hbW.size 0 (.int .u8 0) rfl (by rw [List.length_append, textL_len, Hn.out]; omega)
  have HR := Lib.hid hrun
  have HO2 := Lib.hid ho2
  have hbA : Below w.heap.size w (W.alloc (.cells #[.int .u8 0] 5)) := hbW.alloc hbW.size _
  have hbA0 : Below W.heap.size W (W.alloc (.cells #[.int .u8 0] 5)) := (Below.refl _ _).alloc (Nat.le_refl _) _
  have HOA := HOW.out.below hbA0
  have hb2 : Below w.heap.size w w2 := HOA.grow_below hbA hbA.size hg2
  have HWd := Lib.hid hW
  clear hrun ho2 hW HO hbw hs1 h11 h12
  refine Dc.wp_region_segs 6 v1.ownBlock.toList [([0, 3, 4], 1), ([], 2), ([], 5)] [6] (by kernel_rfl) (by kernel_rfl) (by kernel_rfl) (by kernel_rfl) (by kernel_rfl) (by intro c a d v w h; cases d <;> exact h) ?_
  rw [← HWd.out]
  refine Dc.wpSegs_more ?_
  simp only [Dc.pick, List.getElem?_cons_zero, List.getElem?_cons_succ]
  repeat (first | go_big_quiet_step (fail) | quiet_step (fail))
  refine wpQuiet_nil ?_
  refine Dc.wpOp_heavy rfl (by rfl) (fun K hK => ?_)
  go_simp
  refine hK _ _ (fun _ => Dc.But.of_below hbA0) ?_
  clear hK K hq
  refine Dc.wpSegs_more ?_
  simp only [Dc.pick]
  refine wpQuiet_nil ?_
  refine Dc.wpOp_heavy rfl (by rfl) (fun K hK => ?_)
  refine oper_append_ran (.tmp 12) (.tmp 13) 46 rfl _ _ _ _ rfl rfl HR.out ?_
  refine hK _ _ (fun _ => but_of_grown hg2) ?_
  clear hK K
  obtain ⟨A2, n2, c2, rfl, hn2, hc2, hr2⟩ := HO2.out.named
  have hn2' : n2 ≤ 200000 := by
    rw [← hn2, List.length_append, List.length_append, textL_len, Hn.out]
    simp
    omega
  have Hn2 := Lib.hid hn2
  clear hn2
  refine Dc.wpSegs_more ?_
  simp only [Dc.pick]
  refine wpQuiet_nil ?_
  refine Dc.wpOp_heavy rfl (by rfl) (fun K hK => ?_)
  go_simp
  refine (putText_ob A2 n2 c2 _ cv w2 hr2 Hn2.out (by omega) (by omega)).mono ?_
  rintro x w3 ⟨v3, rfl, ho3, hb3⟩
  have HO3 := Lib.hid ho3
  have hbb := bthen hb2 hb3
  refine hK _ _ (fun _ => Dc.But.of_below hb3) ?_
  clear hK K ho3
  refine Dc.wpSegs_last ?_
  simp only [Dc.pick, List.getElem?_cons_zero, List.getElem?_cons_succ]
  repeat (first | go_big_quiet_step (fail) | quiet_step (fail))
  refine wpQuiet_nil ?_
  go_wp2
  go_ret
  refine ⟨_, rfl, ?_, hbb⟩
  have h := HO3.out.mono hb2.size
  rw [List.append_assoc, List.append_assoc] at h
  unfold cellL
  rw [if_pos rfl]
  exact h

set_option maxHeartbeats 1000000 in
theorem putCell_on (A : Option Addr) (n a : Nat) (l : List UInt8) (c : PC) (w : World) (hr : Rd w A l) (hn : l.length = n) (hb : n ≤ 100000) (hk : okKey c.k) (hz0 : c.sz ≠ 0) (hz : 0 ≤ c.sz ∧ c.sz < 65536) (hst : 0 ≤ c.st ∧ c.st < 65536) :
    Calls Tryz.prog 151 #[.slice A n a, cellV c] w fun e w' => ∃ v, e = .returned v ∧ OB w' w.heap.size v (l ++ cellL c) ∧ Below w.heap.size w w' := by
  obtain ⟨ck, cv, cz, cs⟩ := c
  simp only at hk hz0 hz hst
  have hz1 := hz.1
  have hz2 := hz.2
  have hst1 := hst.1
  have hst2 := hst.2
  unfold cellV
  simp only
  have hk2 := hk.2
  have Hn := Lib.hid hn
  clear hn
  have hbx : Below w.heap.size w (w.alloc (.cells #[.string ck, .string cv, .int .i64 cz, .int .i64 cs] 230)) := (Below.refl _ _).alloc (Nat.le_refl _) _
  have hrx := hr.below hbx
  have hc1 : (w.alloc (.cells #[.string ck, .string cv, .int .i64 cz, .int .i64 cs] 230)).cell? ⟨w.heap.size, 3, none⟩ = some (.int .i64 cs) := new_row w #[.string ck, .string cv, .int .i64 cz, .int .i64 cs] 230 3 _ rfl
  have hc2 : (w.alloc (.cells #[.string ck, .string cv, .int .i64 cz, .int .i64 cs] 230)).cell? ⟨w.heap.size, 2, none⟩ = some (.int .i64 cz) := new_row w #[.string ck, .string cv, .int .i64 cz, .int .i64 cs] 230 2 _ rfl
  go_enter Tryz.func151, Tryz.ntmps151
  go_wp2_with fail
  refine (putText_ob A n a l ck _ hrx Hn.out (by omega) (by omega)).mono ?_
  rintro e w1 ⟨v1, rfl, ho1, hb1⟩
  have h11 := (hb1.cell (p := ⟨w.heap.size, 3, none⟩) (by simp)).trans hc1
  have h12 := (hb1.cell (p := ⟨w.heap.size, 2, none⟩) (by simp)).trans hc2
  have hbw := bthen hbx hb1
  have hs1 : w.heap.size < w1.heap.size := by have := hb1.size; simp at this; omega
  have hg1 : ∀ g, v1.ownBlock = some g → w.heap.size < g := fun g hg => by have := ho1.at_block g hg; simp at this; omega
  have HO := Lib.hid (ho1.mono (b' := w.heap.size) (by simp))
  clear hc1 hc2 hb1 hbx hrx ho1
  go_wp2
  obtain ⟨W, hW⟩ : ∃ W, W = w1.drew := ⟨_, rfl⟩
  have HOW : Hid (OB W w.heap.size v1 (l ++ textL ck)) := by rw [hW]; exact HO.out
  have hbW : Below w.heap.size w W := by rw [hW]; exact hbw.drew
  have hsW : w.heap.size < W.heap.size := by rw [hW]; exact hs1
  have hq : ∀ q : Dc.Past v1.ownBlock.toList W, q.val.cell? ⟨w.heap.size, 3, none⟩ = some (.int .i64 cs) := fun q =>
    (q.ok.cell (p := ⟨w.heap.size, 3, none⟩) hsW (fun hm => by
      have := hg1 w.heap.size (by simpa using hm)
      omega)).trans (by rw [hW]; exact h11)
  have hq2 : ∀ q : Dc.Past v1.ownBlock.toList W, q.val.cell? ⟨w.heap.size, 2, none⟩ = some (.int .i64 cz) := fun q =>
    (q.ok.cell (p := ⟨w.heap.size, 2, none⟩) hsW (fun hm => by
      have := hg1 w.heap.size (by simpa using hm)
      omega)).trans (by rw [hW]; exact h12)
  obtain ⟨v', w2, hrun, ho2, hg2⟩ := append_byte 46 HOW.out hbW.size 1 (.int .u8 1) rfl (by rw [List.length_append, textL_len, Hn.out]; omega)
  have HR := Lib.hid hrun
  have HO2 := Lib.hid ho2
  have hbA : Below w.heap.size w (W.alloc (.cells #[.int .u8 1] 5)) := hbW.alloc hbW.size _
  have hbA0 : Below W.heap.size W (W.alloc (.cells #[.int .u8 1] 5)) := (Below.refl _ _).alloc (Nat.le_refl _) _
  have HOA := HOW.out.below hbA0
  have hb2 : Below w.heap.size w w2 := HOA.grow_below hbA hbA.size hg2
  have HWd := Lib.hid hW
  clear hrun ho2 hW HO hbw hs1 h11 h12
  refine Dc.wp_region_segs 9 v1.ownBlock.toList [([0, 3, 4, 6, 7], 1), ([], 2), ([], 5), ([], 8)] [9] (by kernel_rfl) (by kernel_rfl) (by kernel_rfl) (by kernel_rfl) (by kernel_rfl) (by intro c a d v w h; cases d <;> exact h) ?_
  rw [← HWd.out]
  refine Dc.wpSegs_more ?_
  simp only [Dc.pick, List.getElem?_cons_zero, List.getElem?_cons_succ]
  repeat (first | go_big_quiet_step (fail) | quiet_step (fail))
  refine wpQuiet_nil ?_
  refine Dc.wpOp_heavy rfl (by rfl) (fun K hK => ?_)
  go_simp
  refine hK _ _ (fun _ => Dc.But.of_below hbA0) ?_
  clear hK K hq hq2
  refine Dc.wpSegs_more ?_
  simp only [Dc.pick]
  refine wpQuiet_nil ?_
  refine Dc.wpOp_heavy rfl (by rfl) (fun K hK => ?_)
  refine oper_append_ran (.tmp 18) (.tmp 19) 46 rfl _ _ _ _ rfl rfl HR.out ?_
  refine hK _ _ (fun _ => but_of_grown hg2) ?_
  clear hK K
  obtain ⟨A2, n2, c2, rfl, hn2, hc2, hr2⟩ := HO2.out.named
  have hn2' : n2 ≤ 200000 := by
    rw [← hn2, List.length_append, List.length_append, textL_len, Hn.out]
    simp
    omega
  have Hn2 := Lib.hid hn2
  clear hn2
  refine Dc.wpSegs_more ?_
  simp only [Dc.pick]
  refine wpQuiet_nil ?_
  refine Dc.wpOp_heavy rfl (by rfl) (fun K hK => ?_)
  go_simp
  refine (put16_ob A2 n2 c2 _ cz w2 hr2 Hn2.out (by omega) ⟨by omega, by omega⟩).mono ?_
  rintro x w3 ⟨v3, rfl, ho3, hb3⟩
  have HO3 := Lib.hid ho3
  have hbb := bthen hb2 hb3
  refine hK _ _ (fun _ => Dc.But.of_below hb3) ?_
  clear hK K ho3
  obtain ⟨A3, n3, c3, rfl, hn3, hc3, hr3⟩ := HO3.out.named
  have hn3' : n3 ≤ 300000 := by
    rw [← hn3, List.length_append, be16_len, Hn2.out]
    omega
  have Hn3 := Lib.hid hn3
  clear hn3
  refine Dc.wpSegs_more ?_
  simp only [Dc.pick]
  refine wpQuiet_nil ?_
  refine Dc.wpOp_heavy rfl (by rfl) (fun K hK => ?_)
  go_simp
  refine (put16_ob A3 n3 c3 _ cs w3 hr3 Hn3.out (by omega) ⟨by omega, by omega⟩).mono ?_
  rintro x w4 ⟨v4, rfl, ho4, hb4⟩
  have HO4 := Lib.hid ho4
  have hbb4 := bthen hbb hb4
  refine hK _ _ (fun _ => Dc.But.of_below hb4) ?_
  clear hK K ho4
  refine Dc.wpSegs_last ?_
  simp only [Dc.pick, List.getElem?_cons_zero, List.getElem?_cons_succ]
  repeat (first | go_big_quiet_step (fail) | quiet_step (fail))
  refine wpQuiet_nil ?_
  go_wp2
  go_ret
  refine ⟨_, rfl, ?_, hbb4⟩
  have h := HO4.out.mono hbb.size
  rw [List.append_assoc, List.append_assoc, List.append_assoc] at h
  unfold cellL
  rw [if_neg hz0]
  exact h

theorem putCell_any (A : Option Addr) (n a : Nat) (l : List UInt8) (c : PC) (w : World) (hr : Rd w A l) (hn : l.length = n) (hb : n ≤ 100000) (hk : okKey c.k) (hv : okBody c) :
    Calls Tryz.prog 151 #[.slice A n a, cellV c] w fun e w' => ∃ v, e = .returned v ∧ OB w' w.heap.size v (l ++ cellL c) ∧ Below w.heap.size w w' := by
  rcases hv with ⟨h1, h2, h3⟩ | ⟨h1, h2, h3, h4⟩
  · exact putCell_in A n a l c w hr hn hb hk h3 h1
  · exact putCell_on A n a l c w hr hn hb hk (by omega) (by omega) (okNum_lt h4)

theorem ob_one (W : World) (k : UInt8) (y : Value) (hy : y = u8 k) : OB (W.alloc (.cells #[y] 5)) W.heap.size (.slice (some ⟨W.heap.size, 0, none⟩) 1 1) [k] := by
  subst hy
  exact ⟨rfl, .inr ⟨W.heap.size, 1, _, rfl, Nat.le_refl _, heap_alloc_new W _, Nat.le_refl _, by simp [maxLen], rfl, rfl⟩⟩

/-- append([]byte{k}, x), where k's row was made just behind the box. -/
theorem start_row (w : World) (X : Obj) (k x : UInt8) (y z : Value) (hy : y = u8 k) (hz : z = u8 x) :
    ∃ v' w2, (Builtin.append_ #[46, 46] 46 #[.slice (some ⟨w.heap.size + 1, 0, none⟩) 1 1, .slice (some ⟨w.heap.size + 1 + 1, 0, none⟩) 1 1]).run Tryz.prog (((w.alloc X).alloc (.cells #[y] 5)).alloc (.cells #[z] 5)) = .ok v' w2 ∧
      OB w2 w.heap.size v' [k, x] ∧ Below w.heap.size w w2 ∧ Below (w.alloc X).heap.size (w.alloc X) w2 := by
  have hx : Below w.heap.size w (w.alloc X) := (Below.refl _ _).alloc (Nat.le_refl _) _
  have h1 := ob_one (w.alloc X) k y hy
  have hy1 : Below (w.alloc X).heap.size (w.alloc X) ((w.alloc X).alloc (.cells #[y] 5)) := (Below.refl _ _).alloc (Nat.le_refl _) _
  obtain ⟨v', w2, h2, h3, h4⟩ := append_byte 46 h1 (by simp) x z hz (by simp)
  have hz1 : Below (w.alloc X).heap.size (w.alloc X) (((w.alloc X).alloc (.cells #[y] 5)).alloc (.cells #[z] 5)) := hy1.alloc hy1.size _
  have hz2 : Below (w.alloc X).heap.size (w.alloc X) w2 := hz1.grown h4 hz1.size (fun q hq => by
    have : (w.alloc X).heap.size = q := by simpa [Value.ownBlock] using hq
    omega)
  refine ⟨v', w2, ?_, h3.mono hx.size, bthen hx hz2, hz2⟩
  simpa using h2

set_option maxRecDepth 100000 in
set_option maxHeartbeats 1000000 in
theorem content_leaf (p : PP) (A B : Option Addr) (a b : Nat) (w : World) (hA : Ls pcC w A p.cells) (hk : p.kind = 1) (hp : pgLeaf p) :
    Calls Tryz.prog 117 #[pageV p A a B b] w fun e w' => ∃ v, e = .returned v ∧ OB w' w.heap.size v (contL p) ∧ Below w.heap.size w w' := by
  obtain ⟨pk, pc, pd, pp, pn⟩ := p
  obtain ⟨_, _, hpn, hc⟩ := hp
  unfold pageV
  simp only at *
  subst hk hpn
  obtain ⟨n, hn⟩ : ∃ n, n = pc.length := ⟨_, rfl⟩
  obtain ⟨m, hm⟩ : ∃ m, m = pd.length := ⟨_, rfl⟩
  rw [← hn, ← hm]
  have hn4 : n ≤ 4 := by rw [hn]; exact hc.1
  have Hn := Lib.hid hn
  have HC := Lib.hid hc
  clear hn hm hc
  obtain ⟨v0, w0, hrun, ho0, hb0, hbx⟩ := start_row w (.cells #[.int .i64 1, .slice A n a, .slice B m b, .string pp, .int .i64 0] 170) 1 (b8 n) (.int .u8 1) (.int .u8 n) rfl (by rw [u8_b8, Int.emod_eq_of_lt (by omega) (by omega)])
  have HR := Lib.hid hrun
  have HO := Lib.hid ho0
  have hc1 : w0.cell? ⟨w.heap.size, 1, none⟩ = some (.slice A n a) := (hbx.cell (by simp)).trans (new_row w #[.int .i64 1, .slice A n a, .slice B m b, .string pp, .int .i64 0] 170 1 _ rfl)
  have hc0 : w0.cell? ⟨w.heap.size, 0, none⟩ = some (.int .i64 1) := (hbx.cell (by simp)).trans (new_row w #[.int .i64 1, .slice A n a, .slice B m b, .string pp, .int .i64 0] 170 0 _ rfl)
  clear hrun ho0 hbx
  go_enter Tryz.func117, Tryz.ntmps117
  go_wp2_with (at_builtin; refine wpList_append_ran rfl (.tmp 16) (.tmp 21) 46 rfl _ _ _ _ rfl rfl HR.out ?_)
  go_loopw [3, 26] (fun s3 i wr => ∃ k : Nat, k ≤ n ∧ i = .int .i64 k ∧ OB wr w.heap.size s3 (1 :: b8 n :: (pc.take k).flatMap cellL) ∧ Below w.heap.size w wr) (fun _ i _ => n - (intOf i).toNat)
  case atStart => exact ⟨0, Nat.zero_le _, rfl, HO.out, hb0⟩
  case round =>
    obtain ⟨k, hk, rfl, hown, hbw⟩ := hrel
    have HW := Lib.hid hown
    clear hown
    by_cases hlt : k < n
    · obtain ⟨ad, x, rfl, hx, hl, c1, c2, c3, c4⟩ := (hA.below hbw).atC (i := k) (by rw [← Hn.out]; exact hlt)
      have hm := List.mem_of_getElem? hx
      have Hk := Lib.hid (okKeys_cells HC.out.2.2 hm)
      have Hb := Lib.hid (HC.out.2.1 x hm)
      have Hx := Lib.hid hx
      clear hx hm
      obtain ⟨A2, n2, c2', rfl, hn2, hc2, hr2⟩ := HW.out.named
      have hl2 : (1 :: b8 n :: (pc.take k).flatMap cellL).length ≤ 1000 := by
        have := flat_len (f := cellL) (m := 53) (pc.take k) (fun c hc => cellL_len (okKeys_cells HC.out.2.2 (List.mem_of_mem_take hc)) (HC.out.2.1 c (List.mem_of_mem_take hc)))
        rw [List.length_take] at this
        simp only [List.length_cons]
        omega
      rw [hn2] at hl2
      have Hn2 := Lib.hid hn2
      clear hn2
      have hb1 : Below wr.heap.size wr (wr.alloc (.cells #[.string x.k, .string x.v, .int .i64 x.sz, .int .i64 x.st] 230)) := (Below.refl _ _).alloc (Nat.le_refl _) _
      go_wp2_with fail
      refine (putCell_any A2 n2 c2' _ x _ (hr2.below hb1) Hn2.out (by omega) Hk.out Hb.out).mono ?_
      rintro e w3 ⟨v3, rfl, ho3, hb3⟩
      have HO3 := Lib.hid (ho3.mono (b' := w.heap.size) (bthen hbw hb1).size)
      have hbb := bthen (bthen hbw hb1) hb3
      clear ho3 hb3 hb1
      go_wp2
      refine ⟨⟨k + 1, by omega, by go_num, ?_, hbb⟩, by simp [intOf]; omega⟩
      rw [take_snocA Hx.out, List.flatMap_append]
      simpa using HO3.out
    · have he : k = n := by omega
      subst he
      go_wp2
      go_ret
      refine ⟨_, rfl, ?_, hbw⟩
      have h := HW.out
      rw [List.take_of_length_le (by rw [← Hn.out]; exact Nat.le_refl _)] at h
      unfold contL
      rw [if_pos rfl]
      simp only
      rw [← Hn.out]
      exact h

set_option maxRecDepth 100000 in
set_option maxHeartbeats 1000000 in
theorem content_branch (p : PP) (A B : Option Addr) (a b : Nat) (w : World) (hB : Ls pcK w B p.kids) (hk : p.kind = 2) (hp : okBranch p) :
    Calls Tryz.prog 117 #[pageV p A a B b] w fun e w' => ∃ v, e = .returned v ∧ OB w' w.heap.size v (contL p) ∧ Below w.heap.size w w' := by
  obtain ⟨pk, pc, pd, pp, pn⟩ := p
  obtain ⟨_, _, hpn, hc⟩ := hp
  unfold pageV
  simp only at *
  subst hk hpn
  obtain ⟨n, hn⟩ : ∃ n, n = pc.length := ⟨_, rfl⟩
  obtain ⟨m, hm⟩ : ∃ m, m = pd.length := ⟨_, rfl⟩
  rw [← hn, ← hm]
  have hn4 : m ≤ 6 := by rw [hm]; exact hc.2.1
  have Hn := Lib.hid hm
  have HC := Lib.hid hc
  clear hn hm hc
  obtain ⟨v0, w0, hrun, ho0, hb0, hbx⟩ := start_row w (.cells #[.int .i64 2, .slice A n a, .slice B m b, .string pp, .int .i64 0] 170) 2 (b8 m) (.int .u8 2) (.int .u8 m) rfl (by rw [u8_b8, Int.emod_eq_of_lt (by omega) (by omega)])
  have HR := Lib.hid hrun
  have HO := Lib.hid ho0
  have hc1 : w0.cell? ⟨w.heap.size, 2, none⟩ = some (.slice B m b) := (hbx.cell (by simp)).trans (new_row w #[.int .i64 2, .slice A n a, .slice B m b, .string pp, .int .i64 0] 170 2 _ rfl)
  have hc0 : w0.cell? ⟨w.heap.size, 0, none⟩ = some (.int .i64 2) := (hbx.cell (by simp)).trans (new_row w #[.int .i64 2, .slice A n a, .slice B m b, .string pp, .int .i64 0] 170 0 _ rfl)
  clear hrun ho0 hbx
  go_enter Tryz.func117, Tryz.ntmps117
  go_wp2_with (at_builtin; refine wpList_append_ran rfl (.tmp 36) (.tmp 41) 46 rfl _ _ _ _ rfl rfl HR.out ?_)
  go_loopw [3, 46] (fun s3 i wr => ∃ k : Nat, k ≤ m ∧ i = .int .i64 k ∧ OB wr w.heap.size s3 (2 :: b8 m :: (pd.take k).flatMap kidL) ∧ Below w.heap.size w wr) (fun _ i _ => m - (intOf i).toNat)
  case atStart => exact ⟨0, Nat.zero_le _, rfl, HO.out, hb0⟩
  case round =>
    obtain ⟨k, hk, rfl, hown, hbw⟩ := hrel
    have HW := Lib.hid hown
    clear hown
    by_cases hlt : k < m
    · obtain ⟨ad, x, rfl, hx, hl, c1, c2⟩ := (hB.below hbw).atK (i := k) (by rw [← Hn.out]; exact hlt)
      have hm := List.mem_of_getElem? hx
      have hk1 := okKeys_kids HC.out.2.2.2 hm
      have hk2 := hk1.2
      have hnum := HC.out.2.2.1 x hm
      have hi64 := i64_num hnum
      have Hx := Lib.hid hx
      clear hx hm
      obtain ⟨A2, n2, c2', rfl, hn2, hc2, hr2⟩ := HW.out.named
      have hl2 : (2 :: b8 m :: (pd.take k).flatMap kidL).length ≤ 1000 := by
        have := flat_len (f := kidL) (m := 28) (pd.take k) (fun c hc => kidL_len (okKeys_kids HC.out.2.2.2 (List.mem_of_mem_take hc)))
        rw [List.length_take] at this
        simp only [List.length_cons]
        omega
      rw [hn2] at hl2
      have Hn2 := Lib.hid hn2
      clear hn2
      obtain ⟨W, hW⟩ : ∃ W, W = (wr.alloc (.cells #[.string x.k, .int .i64 x.pg] 233)).drew := ⟨_, rfl⟩
      have hb1 : Below wr.heap.size wr W := by rw [hW]; exact ((Below.refl _ _).alloc (Nat.le_refl _) _).drew
      have hsW : wr.heap.size < W.heap.size := by rw [hW]; simp
      have hq1 : ∀ q : Dc.Past [] W, q.val.cell? ⟨wr.heap.size, 0, none⟩ = some (.string x.k) := fun q =>
        (q.ok.cell (p := ⟨wr.heap.size, 0, none⟩) hsW (by simp)).trans (by rw [hW]; exact new_row wr #[.string x.k, .int .i64 x.pg] 233 0 _ rfl)
      have hq2 : ∀ q : Dc.Past [] W, q.val.cell? ⟨wr.heap.size, 1, none⟩ = some (.int .i64 x.pg) := fun q =>
        (q.ok.cell (p := ⟨wr.heap.size, 1, none⟩) hsW (by simp)).trans (by rw [hW]; exact new_row wr #[.string x.k, .int .i64 x.pg] 233 1 _ rfl)
      have HWd := Lib.hid hW
      clear hW
      go_wp2
      refine Dc.wp_region_segs 7 [] [([0, 1, 2, 4, 5], 3), ([], 6)] [7] (by kernel_rfl) (by kernel_rfl) (by kernel_rfl) (by kernel_rfl) (by kernel_rfl) (by intro c a d v w h; cases d <;> exact h) ?_
      rw [← HWd.out]
      refine Dc.wpSegs_more ?_
      simp only [Dc.pick, List.getElem?_cons_zero, List.getElem?_cons_succ]
      repeat (first | go_big_quiet_step (fail) | quiet_step (fail))
      refine wpQuiet_nil ?_
      refine Dc.wpOp_heavy rfl (by rfl) (fun K hK => ?_)
      go_simp
      refine (putText_ob A2 n2 c2' _ x.k W (hr2.below hb1) Hn2.out (by omega) (by omega)).mono ?_
      rintro y w3 ⟨v3, rfl, ho3, hb3⟩
      have HO3 := Lib.hid ho3
      have hbb := bthen hb1 hb3
      refine hK _ _ (fun _ => Dc.But.of_below hb3) ?_
      clear hK K ho3 hq1 hq2
      obtain ⟨A3, n3, c3, rfl, hn3, hc3, hr3⟩ := HO3.out.named
      have hn3' : n3 ≤ 300000 := by
        rw [← hn3, List.length_append, textL_len, Hn2.out]
        omega
      have Hn3 := Lib.hid hn3
      clear hn3
      refine Dc.wpSegs_more ?_
      simp only [Dc.pick]
      refine wpQuiet_nil ?_
      refine Dc.wpOp_heavy rfl (by rfl) (fun K hK => ?_)
      go_simp
      refine (put16_ob A3 n3 c3 _ x.pg w3 hr3 Hn3.out (by omega) hi64).mono ?_
      rintro y w4 ⟨v4, rfl, ho4, hb4⟩
      have HO4 := Lib.hid (ho4.mono (b' := w.heap.size) (bthen hbw hbb).size)
      have hbb4 := bthen (bthen hbw hbb) hb4
      refine hK _ _ (fun _ => Dc.But.of_below hb4) ?_
      clear hK K ho4
      refine Dc.wpSegs_last ?_
      simp only [Dc.pick, List.getElem?_cons_zero, List.getElem?_cons_succ]
      repeat (first | go_big_quiet_step (fail) | quiet_step (fail))
      refine wpQuiet_nil ?_
      go_wp2
      refine ⟨⟨k + 1, by omega, by go_num, ?_, hbb4⟩, by simp [intOf]; omega⟩
      rw [take_snocA Hx.out, List.flatMap_append]
      have h := HO4.out
      have hkd : kidL x = textL x.k ++ be16 x.pg := rfl
      rw [List.flatMap_cons, List.flatMap_nil, List.append_nil, hkd]
      simpa using h
    · have he : k = m := by omega
      subst he
      go_wp2
      go_ret
      refine ⟨_, rfl, ?_, hbw⟩
      have h := HW.out
      rw [List.take_of_length_le (by rw [← Hn.out]; exact Nat.le_refl _)] at h
      unfold contL
      simp only
      rw [if_neg (by omega), if_pos trivial]
      rw [← Hn.out]
      exact h

set_option maxRecDepth 100000 in
set_option maxHeartbeats 1000000 in
theorem content_chain (p : PP) (A B : Option Addr) (a b : Nat) (w : World) (hk : p.kind = 3) (hp : okChain p) :
    Calls Tryz.prog 117 #[pageV p A a B b] w fun e w' => ∃ v, e = .returned v ∧ OB w' w.heap.size v (contL p) ∧ Below w.heap.size w w' := by
  obtain ⟨pk, pc, pd, pp, pn⟩ := p
  obtain ⟨_, _, hc⟩ := hp
  unfold pageV
  simp only at *
  subst hk
  obtain ⟨n, hn⟩ : ∃ n, n = pc.length := ⟨_, rfl⟩
  obtain ⟨m, hm⟩ : ∃ m, m = pd.length := ⟨_, rfl⟩
  rw [← hn, ← hm]
  have hc1 := hc.1
  have hc2 := hc.2.1
  have hi64 : I64 pn := by
    rcases hc.2.2 with h | h
    · rw [h]; exact ⟨by omega, by omega⟩
    · exact i64_num h
  clear hn hm
  have ho := ob_one (w.alloc (.cells #[.int .i64 3, .slice A n a, .slice B m b, .string pp, .int .i64 pn] 170)) 3 (.int .u8 3) rfl
  have hx : Below w.heap.size w (w.alloc (.cells #[.int .i64 3, .slice A n a, .slice B m b, .string pp, .int .i64 pn] 170)) := (Below.refl _ _).alloc (Nat.le_refl _) _
  have hx2 := hx.alloc hx.size (.cells #[.int .u8 3] 5)
  obtain ⟨W, hW⟩ : ∃ W, W = ((w.alloc (.cells #[.int .i64 3, .slice A n a, .slice B m b, .string pp, .int .i64 pn] 170)).alloc (.cells #[.int .u8 3] 5)).drew := ⟨_, rfl⟩
  have hb1 : Below w.heap.size w W := by rw [hW]; exact hx2.drew
  have hsW : w.heap.size < W.heap.size := by rw [hW]; simp; omega
  have hbW : Below (w.alloc (.cells #[.int .i64 3, .slice A n a, .slice B m b, .string pp, .int .i64 pn] 170)).heap.size (w.alloc (.cells #[.int .i64 3, .slice A n a, .slice B m b, .string pp, .int .i64 pn] 170)) W := by rw [hW]; exact ((Below.refl _ _).alloc (Nat.le_refl _) _).drew
  have hr : Rd W (some ⟨w.heap.size + 1, 0, none⟩) [3] := by
    obtain ⟨A', n', c', h1, h2, _, h4⟩ := (show OB W _ _ _ by rw [hW]; exact ho).named
    cases h1
    simpa using h4
  have hq1 : ∀ q : Dc.Past [] W, q.val.cell? ⟨w.heap.size, 3, none⟩ = some (.string pp) := fun q =>
    (q.ok.cell (p := ⟨w.heap.size, 3, none⟩) hsW (by simp)).trans ((hbW.cell (by simp)).trans (new_row w #[.int .i64 3, .slice A n a, .slice B m b, .string pp, .int .i64 pn] 170 3 _ rfl))
  have hq2 : ∀ q : Dc.Past [] W, q.val.cell? ⟨w.heap.size, 4, none⟩ = some (.int .i64 pn) := fun q =>
    (q.ok.cell (p := ⟨w.heap.size, 4, none⟩) hsW (by simp)).trans ((hbW.cell (by simp)).trans (new_row w #[.int .i64 3, .slice A n a, .slice B m b, .string pp, .int .i64 pn] 170 4 _ rfl))
  have HWd := Lib.hid hW
  clear hW ho hx hx2 hbW
  go_enter Tryz.func117, Tryz.ntmps117
  go_wp2
  refine Dc.wp_region_segs 7 [] [([0, 1, 2, 4, 5], 3), ([], 6)] [7] (by kernel_rfl) (by kernel_rfl) (by kernel_rfl) (by kernel_rfl) (by kernel_rfl) (by intro c a d v w h; cases d <;> exact h) ?_
  rw [← HWd.out]
  refine Dc.wpSegs_more ?_
  simp only [Dc.pick, List.getElem?_cons_zero, List.getElem?_cons_succ]
  repeat (first | go_big_quiet_step (fail) | quiet_step (fail))
  refine wpQuiet_nil ?_
  refine Dc.wpOp_heavy rfl (by rfl) (fun K hK => ?_)
  go_simp
  refine (putText_ob _ 1 1 [3] pp W hr rfl (by omega) (by omega)).mono ?_
  rintro y w3 ⟨v3, rfl, ho3, hb3⟩
  have HO3 := Lib.hid ho3
  have hbb := bthen hb1 hb3
  refine hK _ _ (fun _ => Dc.But.of_below hb3) ?_
  clear hK K ho3 hq1 hq2
  obtain ⟨A3, n3, c3, rfl, hn3, hc3, hr3⟩ := HO3.out.named
  have hn3' : n3 ≤ 300000 := by
    rw [← hn3, List.length_append, textL_len]
    simp
    omega
  have Hn3 := Lib.hid hn3
  clear hn3
  refine Dc.wpSegs_more ?_
  simp only [Dc.pick]
  refine wpQuiet_nil ?_
  refine Dc.wpOp_heavy rfl (by rfl) (fun K hK => ?_)
  go_simp
  refine (put16_ob A3 n3 c3 _ pn w3 hr3 Hn3.out (by omega) hi64).mono ?_
  rintro y w4 ⟨v4, rfl, ho4, hb4⟩
  have HO4 := Lib.hid (ho4.mono (b' := w.heap.size) hbb.size)
  have hbb4 := bthen hbb hb4
  refine hK _ _ (fun _ => Dc.But.of_below hb4) ?_
  clear hK K ho4
  refine Dc.wpSegs_last ?_
  simp only [Dc.pick, List.getElem?_cons_zero, List.getElem?_cons_succ]
  repeat (first | go_big_quiet_step (fail) | quiet_step (fail))
  refine wpQuiet_nil ?_
  go_wp2
  go_ret
  refine ⟨_, rfl, ?_, hbb4⟩
  have h := HO4.out
  unfold contL
  simp only
  rw [if_neg (by omega), if_neg (by omega), if_pos trivial]
  rw [List.append_assoc] at h
  exact h

theorem content_any (p : PP) (A B : Option Addr) (a b : Nat) (w : World) (hA : Ls pcC w A p.cells) (hB : Ls pcK w B p.kids) (hp : okPage p) :
    Calls Tryz.prog 117 #[pageV p A a B b] w fun e w' => ∃ v, e = .returned v ∧ OB w' w.heap.size v (contL p) ∧ Below w.heap.size w w' := by
  rcases hp with ⟨h, hp⟩ | ⟨h, hp⟩ | ⟨h, hp⟩
  · exact content_leaf p A B a b w hA h hp
  · exact content_branch p A B a b w hB h hp
  · exact content_chain p A B a b w h hp

end Go.Proofs.YtelenboncejdaaaGreatDoor

/-
  The contract of page.Encode: the page's bytes in a new row, or ErrArg; conditions: its slices can be read, its numbers and strings are as Bd says, the table of the check lies in memory. And the law's helper awake.
-/
namespace Go.Proofs.YtelenboncejdaaaGreatDoor
open Go.RowKit Go.Sort
set_option linter.unusedVariables false

/-- What Encode answers. -/
def EncPost (w : World) (p : PP) (e : Ending) (w' : World) : Prop :=
  ((okPage p ∧ ∃ v, e = .returned (.tuple #[v, .int .i64 0]) ∧ OB w' w.heap.size v (encL p)) ∨ (¬ okPage p ∧ e = .returned (.tuple #[.slice none 0 0, .int .i64 1]))) ∧ Below w.heap.size w w'

theorem splice_zeros (c : List UInt8) (h : c.length ≤ 252) : splice (List.replicate 252 (Value.int .u8 0)) 0 (bcells c) = bcells (c ++ List.replicate (252 - c.length) 0) := by
  unfold splice
  rw [bcells_append, List.take_zero, List.nil_append, bcells_length, Nat.zero_add, List.drop_replicate]
  congr 1
  simp [bcells, u8]

set_option maxRecDepth 100000 in
set_option maxHeartbeats 1000000 in
theorem encode_any (p : PP) (A B : Option Addr) (a b : Nat) (w : World) (hA : Ls pcC w A p.cells) (hB : Ls pcK w B p.kids) (hp : Bd p) (hh : Half w) :
    Calls Tryz.prog 79 #[pageV p A a B b] w (EncPost w p) := by
  have hx : Below w.heap.size w (w.alloc (.cells #[.int .i64 p.kind, .slice A p.cells.length a, .slice B p.kids.length b, .string p.piece, .int .i64 p.next] 170)) := (Below.refl _ _).alloc (Nat.le_refl _) _
  by_cases hok : okPage p
  · obtain ⟨L, hL⟩ : ∃ L : Nat, L = 252 := ⟨_, rfl⟩
    have hmk : ∀ w : World, (Instr.makeSlice 46 (.int .i64 252) (.int .i64 252)).run Tryz.prog w = .ok (.slice (some ⟨w.heap.size, 0, none⟩) L L) (w.alloc (.cells (madeCells #[.int .u8 0] 252) 5)) := fun w => by
      rw [hL]
      exact run_make_bytes 252 252 (by omega) (by omega) w
    have HL := Lib.hid hL
    clear hL
    obtain ⟨Z, hZ⟩ : ∃ Z, Z = List.replicate 252 (Value.int .u8 0) := ⟨_, rfl⟩
    rw [made_list, ← hZ] at hmk
    have hright := right_any p A B a b
    have hcont := content_any p A B a b
    have hlen := contL_len hok
    unfold pageV at *
    generalize p.cells.length = n at *
    generalize p.kids.length = m at *
    generalize hpk : p.kind = pk at *
    generalize hpp : p.piece = pp at *
    generalize hpn : p.next = pn at *
    have HZ := Lib.hid hZ
    clear hZ
    go_enter Tryz.func79, Tryz.ntmps79
    go_wp2_with fail
    refine (hright _ (hA.below hx) (hB.below hx) hp).mono ?_
    rintro e w1 ⟨rfl, hb1⟩
    have hbw := bthen hx hb1
    have c0 := box_at hb1 0 _ rfl
    have c1 := box_at hb1 1 _ rfl
    have c2 := box_at hb1 2 _ rfl
    have c3 := box_at hb1 3 _ rfl
    have c4 := box_at hb1 4 _ rfl
    have hs1 := box_lt hb1
    rw [decide_eq_true hok]
    clear hb1 hx
    have hb2 : Below w1.heap.size w1 (w1.alloc (.cells Z.toArray 5)) := (Below.refl _ _).alloc (Nat.le_refl _) _
    go_wp2_with fail
    refine (hcont _ (hA.below (bthen hbw hb2)) (hB.below (bthen hbw hb2)) hok).mono ?_
    rintro e w3 ⟨v3, rfl, ho3, hb3⟩
    obtain ⟨A3, n3, c3', rfl, hn3, hc3, hr3⟩ := ho3.named
    have hg3 : w3.heap[w1.heap.size]? = some (.cells Z.toArray 5 (0, 0)) := (hb3.block _ (by simp)).trans (heap_alloc_new w1 _)
    have hb4 := bthen hb2 hb3
    have HG3 := Lib.hid hg3
    have hn3' : n3 ≤ 252 := by omega
    have H2 : Hid ((bcells (contL p)).length = Nat.min n3 L) := by
      show (bcells (contL p)).length = Nat.min n3 L
      rw [bcells_length, hn3, HL.out]
      exact (Nat.min_eq_left hn3').symm
    have H3 : Hid (0 < (bcells (contL p)).length → ∃ ad, A3 = some ad ∧ ∀ j v, (bcells (contL p))[j]? = some v → w3.cell? (ad.add j) = some v) := by
      intro h0
      rw [bcells_length] at h0
      obtain ⟨ad, e, _, hc⟩ := hr3 h0
      exact ⟨ad, e, hc⟩
    have H4 : Hid (0 + (bcells (contL p)).length ≤ Z.length) := by
      show 0 + (bcells (contL p)).length ≤ Z.length
      rw [bcells_length, HZ.out, List.length_replicate]
      omega
    have HS : Hid (splice Z 0 (bcells (contL p)) = bcells (bodyL p)) := by
      show splice Z 0 (bcells (contL p)) = bcells (bodyL p)
      rw [HZ.out, splice_zeros _ hlen]
      rfl
    clear hn3 hn3' hg3 ho3 hb2 hb3 hr3 hlen c0 c1 c2 c3 c4 HZ hmk hcont hright
    go_wp2_with ((with_reducible refine wpList_copy_splice rfl (.tmp 9) (.tmp 11) 46 46 rfl 5 Tryz.underlying46 (by kernel_rfl) _ _ _ _ _ _ rfl rfl w1.heap.size 0 Z 5 HG3.out (bcells (contL p)) H2.out (fun h0 => ⟨rfl, H3.out h0⟩) H4.out (bcells_one _) w1.heap.size w1 hb4 (Nat.le_refl _) ?_); intro w5 HG5 hb5)
    have hr5 : Rd w5 (some ⟨w1.heap.size, 0, none⟩) (bodyL p) := by
      have hg := HG5.out
      rw [HS.out] at hg
      have := rd_block hg 0 (bodyL p).length
      simpa using this
    have hbl := bodyL_len hok
    have hhw := (hh.below hbw).below hb5
    have hb05 := bthen hbw hb5
    have HBL : Hid ((bodyL p).length = L) := hbl.trans HL.out.symm
    have hL2 : L ≤ 1000 := by rw [HL.out]; omega
    clear hbl
    refine (seal_any (some ⟨w1.heap.size, 0, none⟩) L L (bodyL p) w5 hhw hr5 HBL.out (by omega)).mono ?_
    rintro e w6 ⟨rfl, ho6, hb6⟩
    have HO6 := Lib.hid ho6
    have hb06 := bthen hb05 hb6
    clear ho6
    go_wp2
    go_ret2
    refine ⟨.inl ⟨hok, _, rfl, ?_⟩, hb06⟩
    unfold OB
    rw [encL_len hok, show (256 : Nat) = L + 4 by rw [HL.out]]
    exact own_mono HO6.out hb05.size
  · have hright := right_any p A B a b
    unfold pageV at *
    generalize p.cells.length = n at *
    generalize p.kids.length = m at *
    generalize hpk : p.kind = pk at *
    generalize hpp : p.piece = pp at *
    generalize hpn : p.next = pn at *
    go_enter Tryz.func79, Tryz.ntmps79
    go_wp2_with fail
    refine (hright _ (hA.below hx) (hB.below hx) hp).mono ?_
    rintro e w1 ⟨rfl, hb1⟩
    have hbw := bthen hx hb1
    rw [decide_eq_false hok]
    clear hb1 hx
    go_wp2
    go_ret2
    exact ⟨.inr ⟨hok, rfl⟩, hbw⟩

theorem ok_empty : okPage ⟨1, [], [], ByteArray.empty, 0⟩ := .inl ⟨rfl, rfl, rfl, rfl, by simp, fun c h => by simp at h, fun e h => by simp at h, by simp [Sorted]⟩
theorem bd_empty : Bd ⟨1, [], [], ByteArray.empty, 0⟩ := ⟨⟨by simp only; omega, by simp only; omega⟩, ⟨by simp only; omega, by simp only; omega⟩, Nat.zero_le _, Nat.zero_le _, Nat.zero_le _, fun c h => by simp at h, fun c h => by simp at h⟩

end Go.Proofs.YtelenboncejdaaaGreatDoor

/-
  The contract of the law's helper made: the same page of the program's type; conditions: its slices can be read, it is small.
-/
namespace Go.Proofs.YtelenboncejdaaaGreatDoor
open Go.RowKit Go.Sort
set_option linter.unusedVariables false

/-- A page by value, that can be read. -/
def PgPost (w : World) (p : PP) (e : Ending) (w' : World) : Prop := ∃ A a B b, e = .returned (pageV p A a B b) ∧ Ls pcC w' A p.cells ∧ Ls pcK w' B p.kids ∧ Below w.heap.size w w'
theorem cell_at {w : World} {g : Nat} {cs : Array Value} {t : TypeId} (h : w.heap[g]? = some (.cells cs t (0, 0))) (j : Nat) (u : Value) (hu : cs[j]? = some u) : w.cell? ⟨g, j, none⟩ = some u := (cell_of_block h j).trans hu
theorem free_at {w : World} {g : Nat} {cs : Array Value} {t : TypeId} (h : w.heap[g]? = some (.cells cs t (0, 0))) (j : Nat) : w.frozen? ⟨g, j, none⟩ = false := by simp [World.frozen?, h]

theorem infoMadeC : (Tryz.prog.info? 230).map (fun i => (i.zero, i.size, i.bytes)) = some (some (.agg #[.string ByteArray.empty, .string ByteArray.empty, .int .i64 0, .int .i64 0]), 4, 48) := by kernel_rfl
theorem infoMadeK : (Tryz.prog.info? 233).map (fun i => (i.zero, i.size, i.bytes)) = some (some (.agg #[.string ByteArray.empty, .int .i64 0]), 2, 24) := by kernel_rfl

/-- The three boxes while made runs. -/
structure MadeAt (w : World) (pk : Int) (pp : ByteArray) (pn : Int) (A B : Option Addr) (n a m b : Nat) (v u : Value) (wr : World) : Prop where
  h0 : wr.heap[w.heap.size]? = some (.cells #[.int .i64 pk, .slice A n a, .slice B m b, .string pp, .int .i64 pn] 142 (0, 0))
  h1 : wr.heap[w.heap.size + 1]? = some (.cells #[.int .i64 0, .slice none 0 0, .slice none 0 0, .string ByteArray.empty, .int .i64 0] 170 (0, 0))
  h2 : wr.heap[w.heap.size + 1 + 1]? = some (.cells #[.int .i64 pk, v, u, .string pp, .int .i64 pn] 170 (0, 0))
  sz : w.heap.size + 3 ≤ wr.heap.size
  bel : Below w.heap.size w wr

theorem made_start (w : World) (pk : Int) (pp : ByteArray) (pn : Int) (A B : Option Addr) (n a m b : Nat) : MadeAt w pk pp pn A B n a m b (.slice none 0 0) (.slice none 0 0)
    (((w.alloc (.cells #[.int .i64 pk, .slice A n a, .slice B m b, .string pp, .int .i64 pn] 142)).alloc (.cells #[.int .i64 0, .slice none 0 0, .slice none 0 0, .string ByteArray.empty, .int .i64 0] 170)).alloc (.cells #[.int .i64 pk, .slice none 0 0, .slice none 0 0, .string pp, .int .i64 pn] 170)) := by
  refine ⟨?_, ?_, ?_, by simp, ?_⟩
  · rw [Below.heap_alloc _ _ _ (by simp; omega), Below.heap_alloc _ _ _ (by simp)]
    exact heap_alloc_new w _
  · rw [Below.heap_alloc _ _ _ (by simp)]
    have := heap_alloc_new (w.alloc (.cells #[.int .i64 pk, .slice A n a, .slice B m b, .string pp, .int .i64 pn] 142)) (.cells #[.int .i64 0, .slice none 0 0, .slice none 0 0, .string ByteArray.empty, .int .i64 0] 170)
    simpa using this
  · have := heap_alloc_new ((w.alloc (.cells #[.int .i64 pk, .slice A n a, .slice B m b, .string pp, .int .i64 pn] 142)).alloc (.cells #[.int .i64 0, .slice none 0 0, .slice none 0 0, .string ByteArray.empty, .int .i64 0] 170)) (.cells #[.int .i64 pk, .slice none 0 0, .slice none 0 0, .string pp, .int .i64 pn] 170)
    simpa using this
  · have h1 : Below w.heap.size w (w.alloc (.cells #[.int .i64 pk, .slice A n a, .slice B m b, .string pp, .int .i64 pn] 142)) := (Below.refl _ _).alloc (Nat.le_refl _) _
    have h2 := h1.alloc h1.size (.cells #[.int .i64 0, .slice none 0 0, .slice none 0 0, .string ByteArray.empty, .int .i64 0] 170)
    exact h2.alloc h2.size _

end Go.Proofs.YtelenboncejdaaaGreatDoor

/-
  The contracts of the document's answers Bytes and Encode: a page's bytes as a string; conditions: the page can be (Encode: any page), its slices can be read, its numbers and strings are as Bd says.
-/
namespace Go.Proofs.YtelenboncejdaaaGreatDoor
open Go.RowKit Go.Sort
set_option linter.unusedVariables false

/-- Bytes as a string. -/
def mk (l : List UInt8) : ByteArray := ⟨l.toArray⟩
theorem mk_add (l m : List UInt8) : mk l ++ mk m = mk (l ++ m) := by
  apply ba_ext
  show (mk l ++ mk m).data.toList = (l ++ m).toArray.toList
  rw [ByteArray.data_append]
  simp [mk]
theorem mk_list (l : List UInt8) : (mk l).data.toList = l := by simp [mk]
theorem mk_size (l : List UInt8) : (mk l).size = l.length := by
  show (mk l).data.size = l.length
  simp [mk]
theorem mk_0 : (⟨#[0]⟩ : ByteArray) = mk [0] := rfl
theorem mk_1 : (⟨#[1]⟩ : ByteArray) = mk [1] := rfl
theorem refText_mk (w : World) (t : ByteArray) (hs : t.size ≤ 65535) :
    Calls Tryz.prog 123 #[.string t] w fun e w' => e = .returned (.string (mk (textL t))) ∧ Below w.heap.size w w' := refText_short w t hs
theorem number1_mk (w : World) (n : Int) (hn : I64 n) :
    Calls Tryz.prog 122 #[.int .i64 n, .int .i64 1] w fun e w' => e = .returned (.string (mk [b8 n])) ∧ Below w.heap.size w w' := by
  refine (number_any w n 1 (by omega) (by omega) hn.1 hn.2).mono ?_
  rintro e w' ⟨rfl, hb⟩
  refine ⟨?_, hb⟩
  simp [numL, mk]
theorem number2_mk (w : World) (n : Int) (hn : I64 n) :
    Calls Tryz.prog 122 #[.int .i64 n, .int .i64 2] w fun e w' => e = .returned (.string (mk (be16 n))) ∧ Below w.heap.size w w' := by
  refine (number_any w n 2 (by omega) (by omega) hn.1 hn.2).mono ?_
  rintro e w' ⟨rfl, hb⟩
  refine ⟨?_, hb⟩
  show Ending.returned (.string ⟨(numL n 2).toArray⟩) = _
  rw [numL_2]
  rfl

set_option maxHeartbeats 4000000 in
set_option maxRecDepth 100000 in
theorem refBytes_leaf (p : PP) (A B : Option Addr) (a b : Nat) (w : World) (hA : Ls pcC w A p.cells) (hbd : Bd p) (hk : p.kind = 1) (hp : pgLeaf p) :
    Calls Tryz.prog 85 #[pageV p A a B b] w fun e w' => e = .returned (.string (mk (encL p))) ∧ Below w.heap.size w w' := by
  have hok : okPage p := .inl ⟨hk, hp⟩
  have hlen := contL_len hok
  obtain ⟨C, hC⟩ : ∃ C, C = contL p := ⟨_, rfl⟩
  have HCB : Hid (bodyL p = C ++ List.replicate (252 - C.length) 0) := by rw [hC]; rfl
  rw [← hC] at hlen
  have hpost : ∀ e w', e = Ending.returned (.string ⟨(Crc.sealed (bodyL p)).toArray⟩) ∧ Below w.heap.size w w' → e = Ending.returned (.string (mk (encL p))) ∧ Below w.heap.size w w' := fun e w' h => h
  refine Calls.mono ?_ (fun e w' h => hpost e w' h)
  clear hpost hok
  generalize bodyL p = Y at *
  obtain ⟨pk, pc, pd, pp, pn⟩ := p
  obtain ⟨_, _, hpn, hc⟩ := hp
  unfold pageV
  simp only at *
  subst hk hpn
  obtain ⟨n, hn⟩ : ∃ n, n = pc.length := ⟨_, rfl⟩
  obtain ⟨m, hm⟩ : ∃ m, m = pd.length := ⟨_, rfl⟩
  rw [← hn, ← hm]
  have hn4 : n ≤ 4 := by rw [hn]; exact hc.1
  have HC : Hid (C = 1 :: b8 n :: pc.flatMap cellL) := by
    show C = 1 :: b8 n :: pc.flatMap cellL
    rw [hC]
    unfold contL
    simp only
    rw [if_pos trivial, ← hn]
    rfl
  have Hn := Lib.hid hn
  have HCC := Lib.hid hc
  have HBD := Lib.hid hbd
  clear hn hm hc hC hbd
  obtain ⟨W, hW⟩ : ∃ W, W = w.alloc (.cells #[.int .i64 1, .slice A n a, .slice B m b, .string pp, .int .i64 0] 142) := ⟨_, rfl⟩
  have hbW : Below w.heap.size w W := by rw [hW]; exact (Below.refl _ _).alloc (Nat.le_refl _) _
  have hcc0 : ∀ w', Below W.heap.size W w' → w'.cell? ⟨w.heap.size, 0, none⟩ = some (.int .i64 1) := fun w' h => by rw [hW] at h; exact box_at h 0 _ rfl
  have hcc1 : ∀ w', Below W.heap.size W w' → w'.cell? ⟨w.heap.size, 1, none⟩ = some (.slice A n a) := fun w' h => by rw [hW] at h; exact box_at h 1 _ rfl
  have HC0 := Lib.hid hcc0
  have HC1 := Lib.hid hcc1
  have HW := Lib.hid hW
  clear hW hcc0 hcc1
  go_enter Tryz.func85, Tryz.ntmps85
  go_wp2_with fail
  rw [← HW.out]
  refine (number1_mk W 1 ⟨by omega, by omega⟩).mono ?_
  rintro e w1 ⟨rfl, hb1⟩
  have c0 := HC0.out _ hb1
  have c1 := HC1.out _ hb1
  go_wp2_with fail
  refine (number1_mk w1 n ⟨by omega, by omega⟩).mono ?_
  rintro e w2 ⟨rfl, hb2⟩
  have hb02 := bthen hb1 hb2
  have c12 := HC1.out _ hb02
  clear c0 c1
  go_wp2
  go_loopw [3, 23] (fun s i wr => ∃ k : Nat, k ≤ n ∧ i = .int .i64 k ∧ s = .string (mk (1 :: b8 n :: (pc.take k).flatMap cellL)) ∧ Below W.heap.size W wr) (fun _ i _ => n - (intOf i).toNat)
  case atStart => exact ⟨0, Nat.zero_le _, rfl, by rw [mk_add]; rfl, hb02⟩
  case round =>
    obtain ⟨k, hk, rfl, rfl, hbw⟩ := hrel
    have c1 := HC1.out _ hbw
    have hbb := bthen hbW hbw
    obtain ⟨L, hL⟩ : ∃ L, L = 1 :: b8 n :: (pc.take k).flatMap cellL := ⟨_, rfl⟩
    rw [← hL]
    have HL := Lib.hid hL
    clear hL
    by_cases hlt : k < n
    · obtain ⟨ad, x, rfl, hx, hl, d0, d1, d2, d3⟩ := (hA.below hbb).atC (i := k) (by rw [← Hn.out]; exact hlt)
      have hmem := List.mem_of_getElem? hx
      have hxk := (okKeys_cells HCC.out.2.2 hmem).2
      have hxb := HCC.out.2.1 x hmem
      have Hx := Lib.hid hx
      clear hx hmem
      have hnext : mk (L ++ cellL x) = mk (1 :: b8 n :: (pc.take (k + 1)).flatMap cellL) := by
        rw [take_snocA Hx.out, List.flatMap_append, HL.out]
        simp
      have HN := Lib.hid hnext
      have sL : (mk L).size ≤ 1000 := by
        have := flat_len (f := cellL) (m := 53) (pc.take k) (fun c hc => cellL_len (okKeys_cells HCC.out.2.2 (List.mem_of_mem_take hc)) (HCC.out.2.1 c (List.mem_of_mem_take hc)))
        rw [List.length_take] at this
        rw [mk_size, HL.out]
        simp only [List.length_cons]
        omega
      have sk : (mk (textL x.k)).size ≤ 100 := by rw [mk_size, textL_len]; omega
      clear hnext
      go_wp2_with fail
      refine (refText_mk _ x.k (by omega)).mono ?_
      rintro e w3 ⟨rfl, hb3⟩
      have e1 := box_at hb3 1 (.string x.v) rfl
      have e2 := box_at hb3 2 (.int .i64 x.sz) rfl
      have e3 := box_at hb3 3 (.int .i64 x.st) rfl
      have hl3 := box_lt hb3
      have hb30 : Below wr.heap.size wr w3 := bthen ((Below.refl _ _).alloc (Nat.le_refl _) _) hb3
      have hbw3 := bthen hbw hb30
      clear hb3 d0 d1 d2 d3
      rcases hxb with ⟨z1, z2, z3⟩ | ⟨z1, z2, z3, z4⟩
      · go_wp2_with fail
        refine (refText_mk _ x.v (by omega)).mono ?_
        rintro e w4 ⟨rfl, hb4⟩
        have hbw4 := bthen hbw3 hb4
        have sv : (mk (textL x.v)).size ≤ 100 := by rw [mk_size, textL_len]; omega
        have hv : mk L ++ mk (textL x.k) ++ mk [0] ++ mk (textL x.v) = mk (1 :: b8 n :: (pc.take (k + 1)).flatMap cellL) := by
          rw [← HN.out, mk_add, mk_add, mk_add]
          unfold cellL
          rw [if_pos z1]
          simp
        have HV := Lib.hid hv
        clear hv
        go_wp2
        refine ⟨⟨k + 1, by omega, by go_num, ?_, hbw4⟩, by simp [intOf]; omega⟩
        rw [mk_0, HV.out]
      · have hst : x.st ≠ 0 := by have := z4.1; omega
        have hz64 : I64 x.sz := ⟨by omega, by omega⟩
        have hs64 := i64_num z4
        have sz2 : (mk (be16 x.sz)).size = 2 := by rw [mk_size, be16_len]
        have st2 : (mk (be16 x.st)).size = 2 := by rw [mk_size, be16_len]
        have hv : mk L ++ mk (textL x.k) ++ mk [1] ++ mk (be16 x.sz) ++ mk (be16 x.st) = mk (1 :: b8 n :: (pc.take (k + 1)).flatMap cellL) := by
          rw [← HN.out, mk_add, mk_add, mk_add, mk_add]
          unfold cellL
          rw [if_neg (by omega)]
          simp
        have HV := Lib.hid hv
        clear hv
        obtain ⟨U, hU⟩ : ∃ U, U = w3.drew := ⟨_, rfl⟩
        have hbU : Below w3.heap.size w3 U := by rw [hU]; exact (Below.refl _ _).drew
        have q2 : ∀ q : Dc.Past [] U, q.val.cell? ⟨wr.heap.size, 2, none⟩ = some (.int .i64 x.sz) := fun q => (q.ok.cell (by rw [hU]; exact hl3) (by simp)).trans (by rw [hU]; exact e2)
        have q3 : ∀ q : Dc.Past [] U, q.val.cell? ⟨wr.heap.size, 3, none⟩ = some (.int .i64 x.st) := fun q => (q.ok.cell (by rw [hU]; exact hl3) (by simp)).trans (by rw [hU]; exact e3)
        have HU := Lib.hid hU
        clear hU
        go_wp2
        refine Dc.wp_region_segs 10 [] [([0, 1, 2, 3, 6, 7], 4), ([5], 8)] [9, 10] (by kernel_rfl) (by kernel_rfl) (by kernel_rfl) (by kernel_rfl) (by kernel_rfl) (by intro c a d v w h; cases d <;> exact h) ?_
        rw [← HU.out]
        refine Dc.wpSegs_more ?_
        simp only [Dc.pick, List.getElem?_cons_zero, List.getElem?_cons_succ]
        repeat (first | go_big_quiet_step (fail) | quiet_step (fail))
        refine wpQuiet_nil ?_
        refine Dc.wpOp_heavy rfl (by rfl) (fun K hK => ?_)
        go_simp
        refine (number2_mk U x.sz hz64).mono ?_
        rintro y w4 ⟨rfl, hb4⟩
        refine hK _ _ (fun _ => Dc.But.of_below hb4) ?_
        clear hK K
        refine Dc.wpSegs_more ?_
        simp only [Dc.pick, List.getElem?_cons_zero, List.getElem?_cons_succ]
        repeat (first | go_big_quiet_step (fail) | quiet_step (fail))
        refine wpQuiet_nil ?_
        refine Dc.wpOp_heavy rfl (by rfl) (fun K hK => ?_)
        go_simp
        refine (number2_mk w4 x.st hs64).mono ?_
        rintro y w5 ⟨rfl, hb5⟩
        refine hK _ _ (fun _ => Dc.But.of_below hb5) ?_
        clear hK K
        have hbw5 := bthen hbw3 (bthen hbU (bthen hb4 hb5))
        refine Dc.wpSegs_last ?_
        simp only [Dc.pick, List.getElem?_cons_zero, List.getElem?_cons_succ]
        repeat (first | go_big_quiet_step (fail) | quiet_step (fail))
        refine wpQuiet_nil ?_
        go_wp2
        refine ⟨⟨k + 1, by omega, by go_num, ?_, hbw5⟩, by simp [intOf]; omega⟩
        rw [mk_1, HV.out]
    · have he : k = n := by omega
      subst he
      have hLC : L = C := by
        rw [HL.out, HC.out, List.take_of_length_le (by rw [← Hn.out]; exact Nat.le_refl _)]
      subst hLC
      clear c1
      go_wp2
      generalize wr = wo at *
      go_loopw [3] (fun s wr => ∃ j : Nat, s = .string (mk (L ++ List.replicate j 0)) ∧ L.length + j ≤ 252 ∧ Below w.heap.size w wr) (fun s _ => 252 - (match s with | .string t => t.size | _ => 0))
      case atStart => exact ⟨0, by rw [List.replicate_zero, List.append_nil], by omega, hbb⟩
      case round =>
        obtain ⟨j, rfl, hj, hbj⟩ := hrel
        have hsz : (mk (L ++ List.replicate j 0)).size = L.length + j := by rw [mk_size, List.length_append, List.length_replicate]
        have hadd : mk (L ++ List.replicate j 0) ++ mk [0] = mk (L ++ List.replicate (j + 1) 0) := by
          rw [mk_add, List.append_assoc, List.replicate_succ']
        generalize hS : mk (L ++ List.replicate j 0) = S at *
        have HS := Lib.hid hS
        have HADD := Lib.hid hadd
        clear hS hadd
        by_cases hlt : L.length + j < 252
        · go_wp2
          refine ⟨⟨j + 1, ?_, by omega, hbj⟩, ?_⟩
          · rw [mk_0, HADD.out]
          · simp only
            rw [mk_0, HADD.out, mk_size, List.length_append, List.length_replicate, hsz]
            omega
        · have hfin : (mk (L ++ List.replicate j 0)).data.toList = Y := by
            rw [mk_list, HCB.out]
            have : j = 252 - L.length := by omega
            rw [this]
          rw [HS.out] at hfin
          have HF := Lib.hid hfin
          clear hfin
          go_wp2_with fail
          refine (refSeal_any S _ (by omega)).mono ?_
          rintro e w9 ⟨rfl, hb9⟩
          rw [HF.out]
          have hb10 := bthen hbj hb9
          go_wp2
          go_ret
          exact ⟨rfl, hb10⟩

set_option maxHeartbeats 4000000 in
set_option maxRecDepth 100000 in
theorem refBytes_branch (p : PP) (A B : Option Addr) (a b : Nat) (w : World) (hB : Ls pcK w B p.kids) (hbd : Bd p) (hk : p.kind = 2) (hp : okBranch p) :
    Calls Tryz.prog 85 #[pageV p A a B b] w fun e w' => e = .returned (.string (mk (encL p))) ∧ Below w.heap.size w w' := by
  have hok : okPage p := .inr (.inl ⟨hk, hp⟩)
  have hlen := contL_len hok
  obtain ⟨C, hC⟩ : ∃ C, C = contL p := ⟨_, rfl⟩
  have HCB : Hid (bodyL p = C ++ List.replicate (252 - C.length) 0) := by rw [hC]; rfl
  rw [← hC] at hlen
  have hpost : ∀ e w', e = Ending.returned (.string ⟨(Crc.sealed (bodyL p)).toArray⟩) ∧ Below w.heap.size w w' → e = Ending.returned (.string (mk (encL p))) ∧ Below w.heap.size w w' := fun e w' h => h
  refine Calls.mono ?_ (fun e w' h => hpost e w' h)
  clear hpost hok
  generalize bodyL p = Y at *
  obtain ⟨pk, pc, pd, pp, pn⟩ := p
  obtain ⟨_, _, hpn, hc⟩ := hp
  unfold pageV
  simp only at *
  subst hk hpn
  obtain ⟨n, hn⟩ : ∃ n, n = pc.length := ⟨_, rfl⟩
  obtain ⟨m, hm⟩ : ∃ m, m = pd.length := ⟨_, rfl⟩
  rw [← hn, ← hm]
  have hn4 : m ≤ 6 := by rw [hm]; exact hc.2.1
  have HC : Hid (C = 2 :: b8 m :: pd.flatMap kidL) := by
    show C = 2 :: b8 m :: pd.flatMap kidL
    rw [hC]
    unfold contL
    simp only
    rw [if_neg (by omega), if_pos trivial, ← hm]
    rfl
  have Hn := Lib.hid hm
  have HCC := Lib.hid hc
  clear hn hm hc hC hbd
  obtain ⟨W, hW⟩ : ∃ W, W = w.alloc (.cells #[.int .i64 2, .slice A n a, .slice B m b, .string pp, .int .i64 0] 142) := ⟨_, rfl⟩
  have hbW : Below w.heap.size w W := by rw [hW]; exact (Below.refl _ _).alloc (Nat.le_refl _) _
  have hsW : w.heap.size < W.heap.size := by rw [hW]; simp
  have hcc0 : ∀ w', Below W.heap.size W w' → w'.cell? ⟨w.heap.size, 0, none⟩ = some (.int .i64 2) := fun w' h => by rw [hW] at h; exact box_at h 0 _ rfl
  have hcc1 : ∀ w', Below W.heap.size W w' → w'.cell? ⟨w.heap.size, 2, none⟩ = some (.slice B m b) := fun w' h => by rw [hW] at h; exact box_at h 2 _ rfl
  have HC0 := Lib.hid hcc0
  have HC1 := Lib.hid hcc1
  have HW := Lib.hid hW
  clear hW hcc0 hcc1
  go_enter Tryz.func85, Tryz.ntmps85
  go_wp2_with fail
  rw [← HW.out]
  refine (number1_mk W 2 ⟨by omega, by omega⟩).mono ?_
  rintro e w1 ⟨rfl, hb1⟩
  have c0 := HC0.out _ hb1
  have c1 := HC1.out _ hb1
  go_wp2_with fail
  refine (number1_mk w1 m ⟨by omega, by omega⟩).mono ?_
  rintro e w2 ⟨rfl, hb2⟩
  have hb02 := bthen hb1 hb2
  have c12 := HC1.out _ hb02
  have s12 : (mk [b8 2]).size = 1 := by rw [mk_size]; rfl
  have s1m : (mk [b8 m]).size = 1 := by rw [mk_size]; rfl
  clear c0 c1
  go_wp2
  go_loopw [3, 67] (fun s i wr => ∃ k : Nat, k ≤ m ∧ i = .int .i64 k ∧ s = .string (mk (2 :: b8 m :: (pd.take k).flatMap kidL)) ∧ Below W.heap.size W wr) (fun _ i _ => m - (intOf i).toNat)
  case atStart => exact ⟨0, Nat.zero_le _, rfl, by rw [mk_add]; rfl, hb02⟩
  case round =>
    obtain ⟨k, hk, rfl, rfl, hbw⟩ := hrel
    have hbb := bthen hbW hbw
    obtain ⟨L, hL⟩ : ∃ L, L = 2 :: b8 m :: (pd.take k).flatMap kidL := ⟨_, rfl⟩
    rw [← hL]
    have HL := Lib.hid hL
    clear hL
    by_cases hlt : k < m
    · obtain ⟨ad, x, rfl, hx, hl, d0, d1⟩ := (hB.below hbb).atK (i := k) (by rw [← Hn.out]; exact hlt)
      have hmem := List.mem_of_getElem? hx
      have hxk := (okKeys_kids HCC.out.2.2.2 hmem).2
      have hs64 := i64_num (HCC.out.2.2.1 x hmem)
      have Hx := Lib.hid hx
      clear hx hmem
      have hv : mk L ++ mk (textL x.k) ++ mk (be16 x.pg) = mk (2 :: b8 m :: (pd.take (k + 1)).flatMap kidL) := by
        rw [take_snocA Hx.out, List.flatMap_append, mk_add, mk_add, HL.out, List.flatMap_cons, List.flatMap_nil, List.append_nil, show kidL x = textL x.k ++ be16 x.pg from rfl]
        simp
      have HV := Lib.hid hv
      clear hv
      have sL : (mk L).size ≤ 1000 := by
        have := flat_len (f := kidL) (m := 28) (pd.take k) (fun c hc => kidL_len (okKeys_kids HCC.out.2.2.2 (List.mem_of_mem_take hc)))
        rw [List.length_take] at this
        rw [mk_size, HL.out]
        simp only [List.length_cons]
        omega
      have sk : (mk (textL x.k)).size ≤ 100 := by rw [mk_size, textL_len]; omega
      have sz2 : (mk (be16 x.pg)).size = 2 := by rw [mk_size, be16_len]
      obtain ⟨U, hU⟩ : ∃ U, U = wr.drew := ⟨_, rfl⟩
      have hbU : Below wr.heap.size wr U := by rw [hU]; exact (Below.refl _ _).drew
      have hlU : w.heap.size < U.heap.size := by have h1 := hbw.size; have h2 := hbU.size; omega
      have hlA : ad.block < U.heap.size := Nat.lt_of_lt_of_le hl hbU.size
      have q0 : ∀ q : Dc.Past [] U, q.val.cell? ⟨w.heap.size, 2, none⟩ = some (.slice (some ad) m b) := fun q => (q.ok.cell (by exact hlU) (by simp)).trans (HC1.out _ (bthen hbw hbU))
      have q1 : ∀ q : Dc.Past [] U, q.val.cell? (ad.add (k * 2)) = some (.string x.k) := fun q => (q.ok.cell (by rw [block_of_add]; exact hlA) (by simp)).trans (by rw [hU]; exact d0)
      have q2 : ∀ q : Dc.Past [] U, q.val.cell? ⟨(ad.add (k * 2)).block, (ad.add (k * 2)).off + 1, none⟩ = some (.int .i64 x.pg) := fun q => (q.ok.cell (by simp only [block_of_add]; exact hlA) (by simp)).trans (by rw [hU]; exact d1)
      have HU := Lib.hid hU
      clear hU d0 d1
      go_wp2
      refine Dc.wp_region_segs 17 [] [([0, 1, 2, 3, 4, 5, 6, 9, 10, 11, 12, 13, 14], 7), ([8], 15)] [16, 17] (by kernel_rfl) (by kernel_rfl) (by kernel_rfl) (by kernel_rfl) (by kernel_rfl) (by intro c a d v w h; cases d <;> exact h) ?_
      rw [← HU.out]
      refine Dc.wpSegs_more ?_
      simp only [Dc.pick, List.getElem?_cons_zero, List.getElem?_cons_succ]
      repeat (first | go_big_quiet_step (fail) | quiet_step (fail))
      refine wpQuiet_nil ?_
      refine Dc.wpOp_heavy rfl (by rfl) (fun K hK => ?_)
      go_simp
      refine (refText_mk U x.k (by omega)).mono ?_
      rintro y w4 ⟨rfl, hb4⟩
      refine hK _ _ (fun _ => Dc.But.of_below hb4) ?_
      clear hK K
      refine Dc.wpSegs_more ?_
      simp only [Dc.pick, List.getElem?_cons_zero, List.getElem?_cons_succ]
      repeat (first | go_big_quiet_step (fail) | quiet_step (fail))
      refine wpQuiet_nil ?_
      refine Dc.wpOp_heavy rfl (by rfl) (fun K hK => ?_)
      go_simp
      refine (number2_mk w4 x.pg hs64).mono ?_
      rintro y w5 ⟨rfl, hb5⟩
      refine hK _ _ (fun _ => Dc.But.of_below hb5) ?_
      clear hK K
      have hbw5 := bthen hbw (bthen hbU (bthen hb4 hb5))
      refine Dc.wpSegs_last ?_
      simp only [Dc.pick, List.getElem?_cons_zero, List.getElem?_cons_succ]
      repeat (first | go_big_quiet_step (fail) | quiet_step (fail))
      refine wpQuiet_nil ?_
      go_wp2
      refine ⟨⟨k + 1, by omega, by go_num, ?_, hbw5⟩, by simp [intOf]; omega⟩
      rw [HV.out]
    · have he : k = m := by omega
      subst he
      have hLC : L = C := by
        rw [HL.out, HC.out, List.take_of_length_le (by rw [← Hn.out]; exact Nat.le_refl _)]
      subst hLC
      go_wp2
      generalize wr = wo at *
      go_loopw [3] (fun s wr => ∃ j : Nat, s = .string (mk (L ++ List.replicate j 0)) ∧ L.length + j ≤ 252 ∧ Below w.heap.size w wr) (fun s _ => 252 - (match s with | .string t => t.size | _ => 0))
      case atStart => exact ⟨0, by rw [List.replicate_zero, List.append_nil], by omega, hbb⟩
      case round =>
        obtain ⟨j, rfl, hj, hbj⟩ := hrel
        have hsz : (mk (L ++ List.replicate j 0)).size = L.length + j := by rw [mk_size, List.length_append, List.length_replicate]
        have hadd : mk (L ++ List.replicate j 0) ++ mk [0] = mk (L ++ List.replicate (j + 1) 0) := by
          rw [mk_add, List.append_assoc, List.replicate_succ']
        generalize hS : mk (L ++ List.replicate j 0) = S at *
        have HS := Lib.hid hS
        have HADD := Lib.hid hadd
        clear hS hadd
        by_cases hlt : L.length + j < 252
        · go_wp2
          refine ⟨⟨j + 1, ?_, by omega, hbj⟩, ?_⟩
          · rw [mk_0, HADD.out]
          · simp only
            rw [mk_0, HADD.out, mk_size, List.length_append, List.length_replicate, hsz]
            omega
        · have hfin : (mk (L ++ List.replicate j 0)).data.toList = Y := by
            rw [mk_list, HCB.out]
            have : j = 252 - L.length := by omega
            rw [this]
          rw [HS.out] at hfin
          have HF := Lib.hid hfin
          clear hfin
          go_wp2_with fail
          refine (refSeal_any S _ (by omega)).mono ?_
          rintro e w9 ⟨rfl, hb9⟩
          rw [HF.out]
          have hb10 := bthen hbj hb9
          go_wp2
          go_ret
          exact ⟨rfl, hb10⟩

set_option maxHeartbeats 4000000 in
set_option maxRecDepth 100000 in
theorem refBytes_chain (p : PP) (A B : Option Addr) (a b : Nat) (w : World)  (hbd : Bd p) (hk : p.kind = 3) (hp : okChain p) :
    Calls Tryz.prog 85 #[pageV p A a B b] w fun e w' => e = .returned (.string (mk (encL p))) ∧ Below w.heap.size w w' := by
  have hok : okPage p := .inr (.inr ⟨hk, hp⟩)
  have hlen := contL_len hok
  obtain ⟨C, hC⟩ : ∃ C, C = contL p := ⟨_, rfl⟩
  have HCB : Hid (bodyL p = C ++ List.replicate (252 - C.length) 0) := by rw [hC]; rfl
  rw [← hC] at hlen
  have hpost : ∀ e w', e = Ending.returned (.string ⟨(Crc.sealed (bodyL p)).toArray⟩) ∧ Below w.heap.size w w' → e = Ending.returned (.string (mk (encL p))) ∧ Below w.heap.size w w' := fun e w' h => h
  refine Calls.mono ?_ (fun e w' h => hpost e w' h)
  clear hpost hok
  generalize bodyL p = Y at *
  obtain ⟨pk, pc, pd, pp, pn⟩ := p
  obtain ⟨_, _, hc⟩ := hp
  unfold pageV
  simp only at *
  subst hk
  obtain ⟨n, hn⟩ : ∃ n, n = pc.length := ⟨_, rfl⟩
  obtain ⟨m, hm⟩ : ∃ m, m = pd.length := ⟨_, rfl⟩
  rw [← hn, ← hm]
  have hsz := hc.2.1
  have hi64 : I64 pn := hbd.next
  have HC : Hid (C = 3 :: (textL pp ++ be16 pn)) := by
    show C = 3 :: (textL pp ++ be16 pn)
    rw [hC]
    unfold contL
    simp only
    rw [if_neg (by omega), if_neg (by omega), if_pos trivial]
    rfl
  clear hn hm hc hC hbd
  obtain ⟨W, hW⟩ : ∃ W, W = w.alloc (.cells #[.int .i64 3, .slice A n a, .slice B m b, .string pp, .int .i64 pn] 142) := ⟨_, rfl⟩
  have hbW : Below w.heap.size w W := by rw [hW]; exact (Below.refl _ _).alloc (Nat.le_refl _) _
  have hsW : w.heap.size < W.heap.size := by rw [hW]; simp
  have hcc0 : ∀ w', Below W.heap.size W w' → w'.cell? ⟨w.heap.size, 0, none⟩ = some (.int .i64 3) := fun w' h => by rw [hW] at h; exact box_at h 0 _ rfl
  have hcc3 : ∀ w', Below W.heap.size W w' → w'.cell? ⟨w.heap.size, 3, none⟩ = some (.string pp) := fun w' h => by rw [hW] at h; exact box_at h 3 _ rfl
  have hcc4 : ∀ w', Below W.heap.size W w' → w'.cell? ⟨w.heap.size, 4, none⟩ = some (.int .i64 pn) := fun w' h => by rw [hW] at h; exact box_at h 4 _ rfl
  have HC0 := Lib.hid hcc0
  have HC3 := Lib.hid hcc3
  have HC4 := Lib.hid hcc4
  have HW := Lib.hid hW
  clear hW hcc0 hcc3 hcc4
  go_enter Tryz.func85, Tryz.ntmps85
  go_wp2_with fail
  rw [← HW.out]
  refine (number1_mk W 3 ⟨by omega, by omega⟩).mono ?_
  rintro e w1 ⟨rfl, hb1⟩
  have c0 := HC0.out _ hb1
  have s12 : (mk [b8 3]).size = 1 := by rw [mk_size]; rfl
  have sk : (mk (textL pp)).size ≤ 1000 := by rw [mk_size, textL_len]; omega
  have sz2 : (mk (be16 pn)).size = 2 := by rw [mk_size, be16_len]
  have hv : mk [b8 3] ++ mk (textL pp) ++ mk (be16 pn) = mk C := by
    rw [mk_add, mk_add, HC.out]
    simp
    rfl
  have HV := Lib.hid hv
  clear hv
  obtain ⟨U, hU⟩ : ∃ U, U = w1.drew := ⟨_, rfl⟩
  have hbU : Below w1.heap.size w1 U := by rw [hU]; exact (Below.refl _ _).drew
  have hlU : w.heap.size < U.heap.size := by have h1 := hb1.size; have h2 := hbU.size; omega
  have q3 : ∀ q : Dc.Past [] U, q.val.cell? ⟨w.heap.size, 3, none⟩ = some (.string pp) := fun q => (q.ok.cell (by exact hlU) (by simp)).trans (HC3.out _ (bthen hb1 hbU))
  have q4 : ∀ q : Dc.Past [] U, q.val.cell? ⟨w.heap.size, 4, none⟩ = some (.int .i64 pn) := fun q => (q.ok.cell (by exact hlU) (by simp)).trans (HC4.out _ (bthen hb1 hbU))
  have HU := Lib.hid hU
  clear hU
  go_wp2
  refine Dc.wp_region_segs 9 [] [([0, 1, 2, 5, 6], 3), ([4], 7)] [8, 9] (by kernel_rfl) (by kernel_rfl) (by kernel_rfl) (by kernel_rfl) (by kernel_rfl) (by intro c a d v w h; cases d <;> exact h) ?_
  rw [← HU.out]
  refine Dc.wpSegs_more ?_
  simp only [Dc.pick, List.getElem?_cons_zero, List.getElem?_cons_succ]
  repeat (first | go_big_quiet_step (fail) | quiet_step (fail))
  refine wpQuiet_nil ?_
  refine Dc.wpOp_heavy rfl (by rfl) (fun K hK => ?_)
  go_simp
  refine (refText_mk U pp (by omega)).mono ?_
  rintro y w4 ⟨rfl, hb4⟩
  refine hK _ _ (fun _ => Dc.But.of_below hb4) ?_
  clear hK K
  refine Dc.wpSegs_more ?_
  simp only [Dc.pick, List.getElem?_cons_zero, List.getElem?_cons_succ]
  repeat (first | go_big_quiet_step (fail) | quiet_step (fail))
  refine wpQuiet_nil ?_
  refine Dc.wpOp_heavy rfl (by rfl) (fun K hK => ?_)
  go_simp
  refine (number2_mk w4 pn hi64).mono ?_
  rintro y w5 ⟨rfl, hb5⟩
  refine hK _ _ (fun _ => Dc.But.of_below hb5) ?_
  clear hK K
  have hbb := bthen hbW (bthen hb1 (bthen hbU (bthen hb4 hb5)))
  refine Dc.wpSegs_last ?_
  simp only [Dc.pick, List.getElem?_cons_zero, List.getElem?_cons_succ]
  repeat (first | go_big_quiet_step (fail) | quiet_step (fail))
  refine wpQuiet_nil ?_
  rw [HV.out]
  go_wp2
  go_loopw [3] (fun s wr => ∃ j : Nat, s = .string (mk (C ++ List.replicate j 0)) ∧ C.length + j ≤ 252 ∧ Below w.heap.size w wr) (fun s _ => 252 - (match s with | .string t => t.size | _ => 0))
  case atStart => exact ⟨0, by rw [List.replicate_zero, List.append_nil], by omega, hbb⟩
  case round =>
    obtain ⟨j, rfl, hj, hbj⟩ := hrel
    have hsz : (mk (C ++ List.replicate j 0)).size = C.length + j := by rw [mk_size, List.length_append, List.length_replicate]
    have hadd : mk (C ++ List.replicate j 0) ++ mk [0] = mk (C ++ List.replicate (j + 1) 0) := by
      rw [mk_add, List.append_assoc, List.replicate_succ']
    generalize hS : mk (C ++ List.replicate j 0) = S at *
    have HS := Lib.hid hS
    have HADD := Lib.hid hadd
    clear hS hadd
    by_cases hlt : C.length + j < 252
    · go_wp2
      refine ⟨⟨j + 1, ?_, by omega, hbj⟩, ?_⟩
      · rw [mk_0, HADD.out]
      · simp only
        rw [mk_0, HADD.out, mk_size, List.length_append, List.length_replicate, hsz]
        omega
    · have hfin : (mk (C ++ List.replicate j 0)).data.toList = Y := by
        rw [mk_list, HCB.out]
        have : j = 252 - C.length := by omega
        rw [this]
      rw [HS.out] at hfin
      have HF := Lib.hid hfin
      clear hfin
      go_wp2_with fail
      refine (refSeal_any S _ (by omega)).mono ?_
      rintro e w9 ⟨rfl, hb9⟩
      rw [HF.out]
      have hb10 := bthen hbj hb9
      go_wp2
      go_ret
      exact ⟨rfl, hb10⟩

theorem refBytes_any (p : PP) (A B : Option Addr) (a b : Nat) (w : World) (hA : Ls pcC w A p.cells) (hB : Ls pcK w B p.kids) (hbd : Bd p) (hp : okPage p) :
    Calls Tryz.prog 85 #[pageV p A a B b] w fun e w' => e = .returned (.string (mk (encL p))) ∧ Below w.heap.size w w' := by
  rcases hp with ⟨h, hp⟩ | ⟨h, hp⟩ | ⟨h, hp⟩
  · exact refBytes_leaf p A B a b w hA hbd h hp
  · exact refBytes_branch p A B a b w hB hbd h hp
  · exact refBytes_chain p A B a b w hbd h hp

/-- The string and the number that the document's Encode answers. -/
def refEncS (p : PP) : ByteArray := if okPage p then mk (encL p) else ByteArray.empty
def refEncN (p : PP) : Int := if okPage p then 0 else 1

end Go.Proofs.YtelenboncejdaaaGreatDoor

/-
  Small steps that the laws of layer 4 share: what Encode answers for a page that can be and for one that can't; bytes in later worlds; conditions stand at each.
-/
namespace Go.Proofs.YtelenboncejdaaaGreatDoor
open Go.RowKit Go.Sort
set_option linter.unusedVariables false

theorem enc_ok {w : World} {p : PP} {e : Ending} {w' : World} (h : EncPost w p e w') (hok : okPage p) : ∃ v, e = .returned (.tuple #[v, .int .i64 0]) ∧ OB w' w.heap.size v (encL p) ∧ Below w.heap.size w w' := by
  obtain ⟨⟨_, v, h1, h2⟩ | ⟨h, _⟩, hb⟩ := h
  · exact ⟨v, h1, h2, hb⟩
  · exact absurd hok h
theorem enc_no {w : World} {p : PP} {e : Ending} {w' : World} (h : EncPost w p e w') (hok : ¬ okPage p) : e = .returned (.tuple #[.slice none 0 0, .int .i64 1]) ∧ Below w.heap.size w w' := by
  obtain ⟨⟨h, _⟩ | ⟨_, h1⟩, hb⟩ := h
  · exact absurd h hok
  · exact ⟨h1, hb⟩
theorem rd_past {U : World} (q : Dc.Past [] U) {A : Option Addr} {l : List UInt8} (h : Rd U A l) : Rd q.val A l := fun h0 => by
  obtain ⟨ad, e, hlt, hc⟩ := h h0
  exact ⟨ad, e, Nat.lt_of_lt_of_le hlt q.ok.1, fun j u hu => (q.ok.cell (by rw [block_of_add]; exact hlt) (by simp)).trans (hc j u hu)⟩

end Go.Proofs.YtelenboncejdaaaGreatDoor
