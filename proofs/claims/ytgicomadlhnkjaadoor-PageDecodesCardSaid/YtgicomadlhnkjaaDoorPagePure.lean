/-
  Pages as plain data: what can be one, its bytes, that unlike pages have unlike bytes, and what a reader takes from such bytes; conditions stand at each.
-/
import Derived.Test.YtgicomadlhnkjaaDoorFixRefR
import Derived.Test.YtgicomadlhnkjaaDoorFixRef
import Derived.Test.YtgicomadlhnkjaaDoorCrc
import Derived.Test.YtgicomadlhnkjaaDoorPairPure
namespace Go.Proofs.YtgicomadlhnkjaaDoor
open Go.RowKit Go.Sort
set_option linter.unusedVariables false

/-- A cell of a leaf. -/
structure PC where
  k : ByteArray
  v : ByteArray
  sz : Int
  st : Int
deriving DecidableEq
/-- A kid of a branch. -/
structure PK where
  k : ByteArray
  pg : Int
deriving DecidableEq
/-- A page. -/
structure PP where
  kind : Int
  cells : List PC
  kids : List PK
  piece : ByteArray
  next : Int
deriving DecidableEq

def PP.zero : PP := ⟨0, [], [], ByteArray.empty, 0⟩
def PC.key (c : PC) : Ent := ⟨c.k, ByteArray.empty⟩
def PK.key (c : PK) : Ent := ⟨c.k, ByteArray.empty⟩

def okNum (n : Int) : Prop := 2 ≤ n ∧ n ≤ 511
def okKey (k : ByteArray) : Prop := 1 ≤ k.size ∧ k.size ≤ 24
def okBody (c : PC) : Prop := (c.sz = 0 ∧ c.st = 0 ∧ c.v.size ≤ 24) ∨ (c.v.size = 0 ∧ 25 ≤ c.sz ∧ c.sz ≤ 400 ∧ okNum c.st)
def okKeys (l : List Ent) : Prop := (∀ e ∈ l, okKey e.k) ∧ Sorted l
def okCells (l : List PC) : Prop := l.length ≤ 4 ∧ (∀ c ∈ l, okBody c) ∧ okKeys (l.map PC.key)
def okKids (l : List PK) : Prop := 2 ≤ l.length ∧ l.length ≤ 6 ∧ (∀ c ∈ l, okNum c.pg) ∧ okKeys (l.map PK.key)
def okPiece (s : ByteArray) (n : Int) : Prop := 1 ≤ s.size ∧ s.size ≤ 240 ∧ (n = 0 ∨ okNum n)
def okLeaf (p : PP) : Prop := p.kids.length = 0 ∧ p.piece.size = 0 ∧ p.next = 0 ∧ okCells p.cells
def okBranch (p : PP) : Prop := p.cells.length = 0 ∧ p.piece.size = 0 ∧ p.next = 0 ∧ okKids p.kids
def okChain (p : PP) : Prop := p.cells.length = 0 ∧ p.kids.length = 0 ∧ okPiece p.piece p.next
def okPage (p : PP) : Prop := (p.kind = 1 ∧ okLeaf p) ∨ (p.kind = 2 ∧ okBranch p) ∨ (p.kind = 3 ∧ okChain p)
instance (n : Int) : Decidable (okNum n) := inferInstanceAs (Decidable (_ ∧ _))
instance (k : ByteArray) : Decidable (okKey k) := inferInstanceAs (Decidable (_ ∧ _))
instance (c : PC) : Decidable (okBody c) := inferInstanceAs (Decidable ((_ ∧ _ ∧ _) ∨ (_ ∧ _ ∧ _ ∧ _)))
instance (l : List Ent) : Decidable (okKeys l) := inferInstanceAs (Decidable ((∀ e ∈ l, okKey e.k) ∧ Sorted l))
instance (l : List PC) : Decidable (okCells l) := inferInstanceAs (Decidable (_ ∧ (∀ c ∈ l, okBody c) ∧ _))
instance (l : List PK) : Decidable (okKids l) := inferInstanceAs (Decidable (_ ∧ _ ∧ (∀ c ∈ l, okNum c.pg) ∧ _))
instance (s : ByteArray) (n : Int) : Decidable (okPiece s n) := inferInstanceAs (Decidable (_ ∧ _ ∧ (_ ∨ _)))
instance (p : PP) : Decidable (okLeaf p) := inferInstanceAs (Decidable (_ ∧ _ ∧ _ ∧ _))
instance (p : PP) : Decidable (okBranch p) := inferInstanceAs (Decidable (_ ∧ _ ∧ _ ∧ _))
instance (p : PP) : Decidable (okChain p) := inferInstanceAs (Decidable (_ ∧ _ ∧ _))
instance (p : PP) : Decidable (okPage p) := inferInstanceAs (Decidable ((_ ∧ _) ∨ (_ ∧ _) ∨ (_ ∧ _)))

/-- A string's bytes with its length ahead; a cell's; a kid's; a page's without the zeros; with them; sealed. -/
def textL (s : ByteArray) : List UInt8 := be16 s.size ++ s.data.toList
def cellL (c : PC) : List UInt8 := textL c.k ++ (if c.sz = 0 then 0 :: textL c.v else 1 :: (be16 c.sz ++ be16 c.st))
def kidL (c : PK) : List UInt8 := textL c.k ++ be16 c.pg
def contL (p : PP) : List UInt8 := b8 p.kind :: (if p.kind = 1 then b8 p.cells.length :: p.cells.flatMap cellL else if p.kind = 2 then b8 p.kids.length :: p.kids.flatMap kidL else if p.kind = 3 then textL p.piece ++ be16 p.next else [])
def bodyL (p : PP) : List UInt8 := contL p ++ List.replicate (252 - (contL p).length) 0
def encL (p : PP) : List UInt8 := Crc.sealed (bodyL p)

theorem be16_len (x : Int) : (be16 x).length = 2 := rfl
theorem textL_len (s : ByteArray) : (textL s).length = 2 + s.size := by
  rw [textL, List.length_append, be16_len]
  rfl
theorem cellL_len {c : PC} (hk : okKey c.k) (hb : okBody c) : (cellL c).length ≤ 53 := by
  unfold cellL
  rw [List.length_append, textL_len]
  have := hk.2
  split
  · rw [List.length_cons, textL_len]
    rcases hb with ⟨_, _, h⟩ | ⟨h, h2, _⟩ <;> omega
  · simp only [List.length_cons, List.length_append, be16_len]
    omega
theorem kidL_len {c : PK} (hk : okKey c.k) : (kidL c).length ≤ 28 := by
  unfold kidL
  rw [List.length_append, textL_len, be16_len]
  have := hk.2
  omega
theorem flat_len {α : Type} {f : α → List UInt8} {m : Nat} : ∀ (l : List α), (∀ c ∈ l, (f c).length ≤ m) → (l.flatMap f).length ≤ l.length * m
  | [], _ => by simp
  | c :: l, h => by
    rw [List.flatMap_cons, List.length_append, List.length_cons, Nat.add_mul]
    have h1 := h c (by simp)
    have h2 := flat_len l (fun c hc => h c (by simp [hc]))
    omega
theorem okKeys_cells {l : List PC} (h : okKeys (l.map PC.key)) {c : PC} (hc : c ∈ l) : okKey c.k := h.1 c.key (List.mem_map_of_mem hc)
theorem okKeys_kids {l : List PK} (h : okKeys (l.map PK.key)) {c : PK} (hc : c ∈ l) : okKey c.k := h.1 c.key (List.mem_map_of_mem hc)
theorem contL_len {p : PP} (h : okPage p) : (contL p).length ≤ 252 := by
  unfold contL
  rcases h with ⟨hk, _, _, _, hc⟩ | ⟨hk, _, _, _, hc⟩ | ⟨hk, _, _, hc⟩
  · rw [if_pos hk]
    have := flat_len (f := cellL) (m := 53) p.cells (fun c hm => cellL_len (okKeys_cells hc.2.2 hm) (hc.2.1 c hm))
    have := hc.1
    simp only [List.length_cons]
    omega
  · rw [if_neg (by omega), if_pos hk]
    have := flat_len (f := kidL) (m := 28) p.kids (fun c hm => kidL_len (okKeys_kids hc.2.2.2 hm))
    have := hc.2.1
    simp only [List.length_cons]
    omega
  · rw [if_neg (by omega), if_neg (by omega), if_pos hk, List.length_cons, List.length_append, textL_len, be16_len]
    have := hc.2.1
    omega
theorem bodyL_len {p : PP} (h : okPage p) : (bodyL p).length = 252 := by
  unfold bodyL
  have := contL_len h
  rw [List.length_append, List.length_replicate]
  omega
theorem encL_len {p : PP} (h : okPage p) : (encL p).length = 256 := by
  unfold encL
  rw [Crc.sealed_length, bodyL_len h]

/-! Unlike pages have unlike bytes. -/
theorem b8_inj {x y : Int} (h0 : 0 ≤ x) (h1 : x < 256) (h2 : 0 ≤ y) (h3 : y < 256) (h : b8 x = b8 y) : x = y := by
  have := congrArg UInt8.toNat h
  unfold b8 at this
  rw [UInt8.toNat_ofNat', UInt8.toNat_ofNat'] at this
  omega
theorem b8_nat (x : Int) : ((b8 x).toNat : Int) = x % 256 := by
  unfold b8
  rw [UInt8.toNat_ofNat']
  omega
theorem be16_inj {x y : Int} (h0 : 0 ≤ x) (h1 : x < 65536) (h2 : 0 ≤ y) (h3 : y < 65536) (h : be16 x = be16 y) : x = y := by
  unfold be16 at h
  simp only [List.cons.injEq, and_true] at h
  have a := congrArg (fun b : UInt8 => (b.toNat : Int)) h.1
  have b := congrArg (fun b : UInt8 => (b.toNat : Int)) h.2
  simp only [b8_nat] at a b
  omega
theorem ba_ext {a b : ByteArray} (h : a.data.toList = b.data.toList) : a = b := by
  cases a; cases b
  congr 1
  exact Array.toList_inj.1 h
theorem textL_inj {s t : ByteArray} {r q : List UInt8} (hs : s.size < 65536) (ht : t.size < 65536) (h : textL s ++ r = textL t ++ q) : s = t ∧ r = q := by
  unfold textL at h
  rw [List.append_assoc, List.append_assoc] at h
  obtain ⟨h1, h2⟩ := List.append_inj h (by simp [be16_len])
  have h3 := be16_inj (by omega) (by omega) (by omega) (by omega) h1
  obtain ⟨h4, h5⟩ := List.append_inj h2 (by show s.size = t.size; omega)
  exact ⟨ba_ext h4, h5⟩
theorem be16_app {x y : Int} {r q : List UInt8} (h0 : 0 ≤ x) (h1 : x < 65536) (h2 : 0 ≤ y) (h3 : y < 65536) (h : be16 x ++ r = be16 y ++ q) : x = y ∧ r = q := by
  obtain ⟨a, b⟩ := List.append_inj h (by simp [be16_len])
  exact ⟨be16_inj h0 h1 h2 h3 a, b⟩
theorem ba_zero {a : ByteArray} (h : a.size = 0) : a = ByteArray.empty := ba_ext (by
  have : a.data.toList.length = 0 := h
  rw [List.eq_nil_of_length_eq_zero this]
  rfl)
theorem okNum_lt {n : Int} (h : okNum n) : 0 ≤ n ∧ n < 65536 := ⟨by have := h.1; omega, by have := h.2; omega⟩
theorem okKey_lt {k : ByteArray} (h : okKey k) : k.size < 65536 := by have := h.2; omega
theorem cellL_inj {c d : PC} {r q : List UInt8} (hc : okKey c.k) (hd : okKey d.k) (bc : okBody c) (bd : okBody d) (h : cellL c ++ r = cellL d ++ q) : c = d ∧ r = q := by
  unfold cellL at h
  rw [List.append_assoc, List.append_assoc] at h
  obtain ⟨h1, h2⟩ := textL_inj (okKey_lt hc) (okKey_lt hd) h
  obtain ⟨ck, cv, cz, cs⟩ := c
  obtain ⟨dk, dv, dz, ds⟩ := d
  simp only at h1 h2
  subst h1
  rcases bc with ⟨z1, z2, z3⟩ | ⟨z1, z2, z3, z4⟩ <;> rcases bd with ⟨y1, y2, y3⟩ | ⟨y1, y2, y3, y4⟩ <;> simp only at z1 z2 z3 y1 y2 y3
  · subst z1 z2 y1 y2
    simp only [if_true, List.cons_append, List.cons.injEq, true_and] at h2
    obtain ⟨h3, h4⟩ := textL_inj (by omega) (by omega) h2
    exact ⟨by rw [h3], h4⟩
  · rw [if_pos z1, if_neg (by omega)] at h2
    simp at h2
  · rw [if_neg (by omega), if_pos y1] at h2
    simp at h2
  · rw [if_neg (by omega), if_neg (by omega)] at h2
    simp only [List.cons_append, List.cons.injEq, true_and, List.append_assoc] at h2
    obtain ⟨h3, h4⟩ := be16_app (by omega) (by omega) (by omega) (by omega) h2
    obtain ⟨h5, h6⟩ := be16_app (okNum_lt z4).1 (okNum_lt z4).2 (okNum_lt y4).1 (okNum_lt y4).2 h4
    simp only at h5
    exact ⟨by rw [h3, h5, ba_zero z1, ba_zero y1], h6⟩
theorem kidL_inj {c d : PK} {r q : List UInt8} (hc : okKey c.k) (hd : okKey d.k) (bc : okNum c.pg) (bd : okNum d.pg) (h : kidL c ++ r = kidL d ++ q) : c = d ∧ r = q := by
  unfold kidL at h
  rw [List.append_assoc, List.append_assoc] at h
  obtain ⟨h1, h2⟩ := textL_inj (okKey_lt hc) (okKey_lt hd) h
  obtain ⟨h3, h4⟩ := be16_app (okNum_lt bc).1 (okNum_lt bc).2 (okNum_lt bd).1 (okNum_lt bd).2 h2
  cases c; cases d
  simp only at h1 h3
  exact ⟨by rw [h1, h3], h4⟩
theorem flat_inj {α : Type} {f : α → List UInt8} {ok : α → Prop} (hf : ∀ c d r q, ok c → ok d → f c ++ r = f d ++ q → c = d ∧ r = q) :
    ∀ (l m : List α) (r q : List UInt8), (∀ c ∈ l, ok c) → (∀ c ∈ m, ok c) → l.length = m.length → l.flatMap f ++ r = m.flatMap f ++ q → l = m
  | [], [], _, _, _, _, _, _ => rfl
  | c :: l, d :: m, r, q, hl, hm, hn, h => by
    rw [List.flatMap_cons, List.flatMap_cons, List.append_assoc, List.append_assoc] at h
    obtain ⟨h1, h2⟩ := hf c d _ _ (hl c (by simp)) (hm d (by simp)) h
    rw [h1, flat_inj hf l m r q (fun c hc => hl c (by simp [hc])) (fun c hc => hm c (by simp [hc])) (by simpa using hn) h2]
  | [], _ :: _, _, _, _, _, hn, _ => by simp at hn
  | _ :: _, [], _, _, _, _, hn, _ => by simp at hn
theorem kind_lt {p : PP} (h : okPage p) : 0 ≤ p.kind ∧ p.kind < 256 := by
  rcases h with ⟨h, _⟩ | ⟨h, _⟩ | ⟨h, _⟩ <;> omega
theorem bodyL_inj {p q : PP} (hp : okPage p) (hq : okPage q) (h : bodyL p = bodyL q) : p = q := by
  unfold bodyL contL at h
  simp only [List.cons_append, List.cons.injEq] at h
  obtain ⟨h1, h2⟩ := h
  have hk := b8_inj (kind_lt hp).1 (kind_lt hp).2 (kind_lt hq).1 (kind_lt hq).2 h1
  obtain ⟨pk, pc, pd, pp, pn⟩ := p
  obtain ⟨qk, qc, qd, qp, qn⟩ := q
  simp only at hk
  subst hk
  rcases hp with ⟨k, a1, a2, a3, a4⟩ | ⟨k, a1, a2, a3, a4⟩ | ⟨k, a1, a2, a3⟩ <;> rcases hq with ⟨k', b1, b2, b3, b4⟩ | ⟨k', b1, b2, b3, b4⟩ | ⟨k', b1, b2, b3⟩ <;> simp only at k k' <;> (try omega) <;> subst k
  · simp only [if_true, List.cons_append, List.cons.injEq] at h2
    have hn := b8_inj (by omega) (by have := a4.1; simp only at this; omega) (by omega) (by have := b4.1; simp only at this; omega) h2.1
    have hl := flat_inj (f := cellL) (ok := fun c => okKey c.k ∧ okBody c) (fun c d r q hc hd => cellL_inj hc.1 hd.1 hc.2 hd.2) pc qc _ _ (fun c hm => ⟨okKeys_cells a4.2.2 hm, a4.2.1 c hm⟩) (fun c hm => ⟨okKeys_cells b4.2.2 hm, b4.2.1 c hm⟩) (by omega) h2.2
    simp only at a1 a2 a3 b1 b2 b3
    rw [hl, List.eq_nil_of_length_eq_zero a1, List.eq_nil_of_length_eq_zero b1, ba_zero a2, ba_zero b2, a3, b3]
  · simp only [if_true] at h2
    rw [if_neg (by omega), if_neg (by omega)] at h2
    simp only [List.cons_append, List.cons.injEq] at h2
    have hn := b8_inj (by omega) (by have := a4.2.1; simp only at this; omega) (by omega) (by have := b4.2.1; simp only at this; omega) h2.1
    have hl := flat_inj (f := kidL) (ok := fun c => okKey c.k ∧ okNum c.pg) (fun c d r q hc hd => kidL_inj hc.1 hd.1 hc.2 hd.2) pd qd _ _ (fun c hm => ⟨okKeys_kids a4.2.2.2 hm, a4.2.2.1 c hm⟩) (fun c hm => ⟨okKeys_kids b4.2.2.2 hm, b4.2.2.1 c hm⟩) (by omega) h2.2
    simp only at a1 a2 a3 b1 b2 b3
    rw [hl, List.eq_nil_of_length_eq_zero a1, List.eq_nil_of_length_eq_zero b1, ba_zero a2, ba_zero b2, a3, b3]
  · dsimp only at h2 a3 b3
    rw [if_neg (by omega), if_neg (by omega), if_pos rfl, if_neg (by omega), if_neg (by omega), if_pos rfl, List.append_assoc, List.append_assoc] at h2
    obtain ⟨h3, h4⟩ := textL_inj (by have := a3.2.1; omega) (by have := b3.2.1; omega) h2
    have n1 : 0 ≤ pn ∧ pn < 65536 := by
      rcases a3.2.2 with h | h
      · omega
      · exact okNum_lt h
    have n2 : 0 ≤ qn ∧ qn < 65536 := by
      rcases b3.2.2 with h | h
      · omega
      · exact okNum_lt h
    obtain ⟨h5, _⟩ := be16_app n1.1 n1.2 n2.1 n2.2 h4
    simp only at a1 a2 b1 b2
    rw [h3, h5, List.eq_nil_of_length_eq_zero a1, List.eq_nil_of_length_eq_zero b1, List.eq_nil_of_length_eq_zero a2, List.eq_nil_of_length_eq_zero b2]
theorem encL_inj {p q : PP} (hp : okPage p) (hq : okPage q) (h : encL p = encL q) : p = q := by
  refine bodyL_inj hp hq ?_
  have := congrArg (fun l : List UInt8 => l.take 252) h
  simp only [encL] at this
  rwa [show (252 : Nat) = (bodyL p).length from (bodyL_len hp).symm, Crc.sealed_take, show (bodyL p).length = (bodyL q).length from (bodyL_len hp).trans (bodyL_len hq).symm, Crc.sealed_take] at this

/-! What a reader takes from such bytes. -/
/-- The reader stands ahead of these bytes, and has no error. -/
def Ahead (l : List UInt8) (p e : Int) (rest : List UInt8) : Prop := e = 0 ∧ 0 ≤ p ∧ p ≤ l.length ∧ l.drop p.toNat = rest
theorem next_of {l bs rest : List UInt8} {p e : Int} {m : Int} (h : Ahead l p e (bs ++ rest)) (hm : m = bs.length) : nextB l p e m = bs ∧ Ahead l (nextP l p e m) (nextE l p e m) rest := by
  obtain ⟨rfl, h0, h1, h⟩ := h
  subst hm
  obtain ⟨q, rfl⟩ := Int.eq_ofNat_of_zero_le h0
  rw [Int.toNat_natCast] at h
  have hl := congrArg List.length h
  rw [List.length_drop, List.length_append] at hl
  have hs : (bs.length : Int) ≤ l.length - q := by omega
  rw [nextB_ok l q bs.length hs, nextP_ok l q bs.length hs, nextE_ok l q bs.length hs, h]
  refine ⟨by simp, rfl, by omega, by omega, ?_⟩
  rw [show ((q : Int) + (bs.length : Int)).toNat = q + bs.length from by omega, ← List.drop_drop, h]
  simp
theorem num_one (b : UInt8) : num [b] = b.toNat := by simp [num]
theorem num_be16 {x : Int} (h0 : 0 ≤ x) (h1 : x < 65536) : (num (be16 x) : Int) = x := by
  have a := b8_nat (x / 256)
  have b := b8_nat x
  simp only [num, be16, List.foldl_cons, List.foldl_nil]
  omega
theorem take1_of {l rest : List UInt8} {p e : Int} {b : UInt8} (h : Ahead l p e (b :: rest)) : (num (nextB l p e 1) : Int) = b.toNat ∧ Ahead l (nextP l p e 1) (nextE l p e 1) rest := by
  obtain ⟨h1, h2⟩ := next_of (bs := [b]) (m := 1) h rfl
  rw [h1, num_one]
  exact ⟨rfl, h2⟩
theorem take2_of {l rest : List UInt8} {p e x : Int} (h0 : 0 ≤ x) (h1 : x < 65536) (h : Ahead l p e (be16 x ++ rest)) : (num (nextB l p e 2) : Int) = x ∧ Ahead l (nextP l p e 2) (nextE l p e 2) rest := by
  obtain ⟨h2, h3⟩ := next_of (m := 2) h rfl
  rw [h2, num_be16 h0 h1]
  exact ⟨rfl, h3⟩
theorem text_of {l rest : List UInt8} {p e most : Int} {s : ByteArray} (hm : s.size ≤ most) (hs : s.size < 65536) (h : Ahead l p e (textL s ++ rest)) :
    txtS l p e most = s.data.toList ∧ Ahead l (txtP l p e most) (txtE l p e most) rest := by
  unfold textL at h
  rw [List.append_assoc] at h
  obtain ⟨h1, h2⟩ := take2_of (by omega) (by omega) h
  have h3 := h2.1
  unfold txtS txtP txtE
  simp only [h1, h3]
  rw [if_neg (by omega), if_neg (by omega), if_neg (by omega), if_neg (by omega), if_neg (by omega), if_neg (by omega)]
  rw [h3] at h2
  exact next_of h2 rfl

end Go.Proofs.YtgicomadlhnkjaaDoor
