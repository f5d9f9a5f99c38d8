/-
  The device as plain data: pending writes, how they are applied, what a page holds; no condition.
-/
import Derived.Test.YthjgcbpanfiacaaBytes
import Derived.Test.YthjgcbpanfiacaaLs
namespace Go.Proofs.Ythjgcbpanfiacaa
open Go.RowKit Go.Sort
set_option linter.unusedVariables false

/-- A pending write. -/
structure WR where
  page : Nat
  bytes : List UInt8
  len : bytes.length = 256
/-- Its cells. -/
def wcells (x : WR) : List Value := .int .i64 (x.page : Int) :: bcells x.bytes
theorem wcells_len (x : WR) : (wcells x).length = 257 := by simp [wcells, bcells_length, x.len]
theorem wenc : Enc wcells 257 := ⟨wcells_len, fun x u hu => by
  simp only [wcells, List.mem_cons] at hu
  rcases hu with rfl | hu
  · rfl
  · exact bcells_one _ u hu⟩

/-- The first k elements, one after the other. -/
def foldN {α σ : Type} (f : Nat → α → σ → σ) (s : σ) (l : List α) : Nat → σ
  | 0 => s
  | k + 1 => match l[k]? with
    | some x => f k x (foldN f s l k)
    | none => foldN f s l k
section
variable {α σ : Type} {f : Nat → α → σ → σ} {s : σ} {l : List α}
theorem foldN_zero : foldN f s l 0 = s := rfl
theorem foldN_succ {k : Nat} {x : α} (h : l[k]? = some x) : foldN f s l (k + 1) = f k x (foldN f s l k) := by simp only [foldN, h]
theorem foldN_inv (I : σ → Prop) (h0 : I s) (hs : ∀ k x t, l[k]? = some x → I t → I (f k x t)) : ∀ k, I (foldN f s l k)
  | 0 => h0
  | k + 1 => by
    have ih := foldN_inv I h0 hs k
    unfold foldN
    cases h : l[k]? with
    | none => exact ih
    | some x => exact hs k x _ h ih
theorem foldN_append (m : List α) : ∀ k, k ≤ l.length → foldN f s (l ++ m) k = foldN f s l k
  | 0, _ => rfl
  | k + 1, h => by
    unfold foldN
    rw [List.getElem?_append_left (by omega), foldN_append m k (by omega)]
end

/-- The beginning of a write over its page. -/
def app (x : WR) (size : Nat) (s : List UInt8) : List UInt8 := splice s (x.page * 256) (x.bytes.take size)
theorem app_len {x : WR} {size n : Nat} {s : List UInt8} (hs : s.length = n * 256) (hx : x.page < n) : (app x size s).length = n * 256 := by
  have h : (x.page + 1) * 256 ≤ n * 256 := Nat.mul_le_mul_right _ hx
  rw [app, length_splice, hs]
  rw [List.length_take, x.len]
  omega
/-- All pending writes, the first k of them. -/
def allN (st : List UInt8) (pd : List WR) (k : Nat) : List UInt8 := foldN (fun _ x s => app x 256 s) st pd k
/-- How much of a write a crash applies. -/
def sizeOfW (torn part : Int) (k : Nat) : Nat := if (k : Int) = torn then (min (max part 0) 256).toNat else 256
theorem sizeOfW_le (torn part : Int) (k : Nat) : sizeOfW torn part k ≤ 256 := by
  unfold sizeOfW
  split
  · omega
  · omega
/-- A crash, the first k writes. -/
def crashN (keep : Nat) (torn part : Int) (st : List UInt8) (pd : List WR) (k : Nat) : List UInt8 :=
  foldN (fun i x s => if keep / 2 ^ (i % 64) % 2 = 0 then s else app x (sizeOfW torn part i) s) st pd k
/-- A page of stored contents. -/
def pageOf (s : List UInt8) (i : Nat) : List UInt8 := (s.drop (i * 256)).take 256
/-- The current contents of a page, of the first k writes. -/
def curN (st : List UInt8) (pd : List WR) (i : Nat) (k : Nat) : List UInt8 := foldN (fun _ x s => if x.page = i then x.bytes else s) (pageOf st i) pd k

theorem allN_len {st : List UInt8} {pd : List WR} {n : Nat} (hs : st.length = n * 256) (hp : ∀ x ∈ pd, x.page < n) (k : Nat) : (allN st pd k).length = n * 256 :=
  foldN_inv (fun s : List UInt8 => s.length = n * 256) hs (fun k x t hx ht => app_len ht (hp x (List.mem_of_getElem? hx))) k
theorem crashN_len {keep : Nat} {torn part : Int} {st : List UInt8} {pd : List WR} {n : Nat} (hs : st.length = n * 256) (hp : ∀ x ∈ pd, x.page < n) (k : Nat) : (crashN keep torn part st pd k).length = n * 256 :=
  foldN_inv (fun s : List UInt8 => s.length = n * 256) hs (fun k x t hx ht => by
    show (if _ then _ else _ : List UInt8).length = _
    split
    · exact ht
    · exact app_len ht (hp x (List.mem_of_getElem? hx))) k

theorem splice_at {α : Type} (s : List α) (o : Nat) (c : List α) (h : o + c.length ≤ s.length) (j : Nat) : (splice s o c)[j]? = if o ≤ j ∧ j < o + c.length then c[j - o]? else s[j]? := by
  unfold splice
  rw [List.getElem?_append, List.length_take, Nat.min_eq_left (by omega)]
  split
  · rename_i hj
    rw [if_neg (by omega), List.getElem?_take_of_lt hj]
  · rename_i hj
    rw [List.getElem?_append]
    split
    · rename_i h2
      rw [if_pos (by omega)]
    · rename_i h2
      rw [if_neg (by omega), List.getElem?_drop]
      congr 1
      omega

/-- A page behind a write: the page itself is laid over from its beginning, the others stay. -/
theorem page_app {x : WR} {size n : Nat} {s : List UInt8} (hs : s.length = n * 256) (hx : x.page < n) (i : Nat) (hi : i < n) :
    pageOf (app x size s) i = if x.page = i then splice (pageOf s i) 0 (x.bytes.take size) else pageOf s i := by
  have h1 : (x.page + 1) * 256 ≤ n * 256 := Nat.mul_le_mul_right _ hx
  have h2 : (i + 1) * 256 ≤ n * 256 := Nat.mul_le_mul_right _ hi
  have hl : (x.bytes.take size).length ≤ 256 := by rw [List.length_take, x.len]; omega
  have hpl : (pageOf s i).length = 256 := by rw [pageOf, List.length_take, List.length_drop]; omega
  apply List.ext_getElem?
  intro j
  unfold pageOf app
  by_cases hj : j < 256
  · rw [List.getElem?_take_of_lt hj, List.getElem?_drop, splice_at _ _ _ (by omega)]
    by_cases he : x.page = i
    · subst he
      rw [if_pos rfl, splice_at _ _ _ (by unfold pageOf at hpl; rw [hpl]; omega)]
      by_cases hc : j < (x.bytes.take size).length
      · rw [if_pos (by omega), if_pos (by omega)]
        congr 1
        omega
      · rw [if_neg (by omega), if_neg (by omega), List.getElem?_take_of_lt hj, List.getElem?_drop]
    · rw [if_neg he, if_neg, List.getElem?_take_of_lt hj, List.getElem?_drop]
      rintro ⟨h3, h4⟩
      rcases Nat.lt_or_gt_of_ne he with h | h
      · have : (x.page + 1) * 256 ≤ i * 256 := Nat.mul_le_mul_right _ h
        omega
      · have : (i + 1) * 256 ≤ x.page * 256 := Nat.mul_le_mul_right _ h
        omega
  · rw [List.getElem?_eq_none (by rw [List.length_take]; omega)]
    split
    · rw [List.getElem?_eq_none]
      rw [length_splice]
      · unfold pageOf at hpl
        rw [hpl]
        omega
      · unfold pageOf at hpl
        rw [hpl]
        omega
    · rw [List.getElem?_eq_none (by rw [List.length_take]; omega)]

theorem page_len {s : List UInt8} {n i : Nat} (hs : s.length = n * 256) (hi : i < n) : (pageOf s i).length = 256 := by
  have h2 : (i + 1) * 256 ≤ n * 256 := Nat.mul_le_mul_right _ hi
  rw [pageOf, List.length_take, List.length_drop]
  omega

theorem splice_full {s c : List UInt8} (h : s.length = c.length) : splice s 0 c = c := by
  simp [splice, ← h]

/-- A page of all applied is the page's current contents. -/
theorem page_all {st : List UInt8} {pd : List WR} {n i : Nat} (hs : st.length = n * 256) (hp : ∀ x ∈ pd, x.page < n) (hi : i < n) : ∀ k, pageOf (allN st pd k) i = curN st pd i k
  | 0 => rfl
  | k + 1 => by
    have ih := page_all hs hp hi k
    unfold allN curN foldN
    cases h : pd[k]? with
    | none => exact ih
    | some x =>
      show pageOf (app x 256 (allN st pd k)) i = if x.page = i then x.bytes else curN st pd i k
      rw [page_app (allN_len hs hp k) (hp x (List.mem_of_getElem? h)) i hi, ih, List.take_of_length_le (by rw [x.len]; omega)]
      split
      · rw [splice_full]
        rw [← ih, page_len (allN_len hs hp k) hi, x.len]
      · rfl
theorem cur_len {st : List UInt8} {pd : List WR} {n i : Nat} (hs : st.length = n * 256) (hi : i < n) (k : Nat) : (curN st pd i k).length = 256 :=
  foldN_inv (fun s : List UInt8 => s.length = 256) (page_len hs hi) (fun k x t hx ht => by
    show (if _ then _ else _ : List UInt8).length = _
    split
    · exact x.len
    · exact ht) k

/-- The last write of a page is read. -/
theorem cur_last {st : List UInt8} {pd : List WR} {i j : Nat} {x : WR} (hx : pd[j]? = some x) (he : x.page = i) : ∀ m, (∀ q y, j < q → q < j + 1 + m → pd[q]? = some y → y.page ≠ i) → curN st pd i (j + 1 + m) = x.bytes
  | 0, _ => by
    show curN st pd i (j + 1) = _
    unfold curN
    rw [foldN_succ hx, if_pos he]
  | m + 1, h => by
    have ih := cur_last (st := st) hx he m (fun q y h1 h2 h3 => h q y h1 (by omega) h3)
    show curN st pd i (j + 1 + m + 1) = _
    unfold curN foldN
    cases hy : pd[j + 1 + m]? with
    | none => exact ih
    | some y =>
      show (if y.page = i then y.bytes else curN st pd i (j + 1 + m)) = _
      rw [if_neg (h _ y (by omega) (by omega) hy), ih]
theorem cur_none {st : List UInt8} {pd : List WR} {i : Nat} : ∀ m, (∀ q y, q < m → pd[q]? = some y → y.page ≠ i) → curN st pd i m = pageOf st i
  | 0, _ => rfl
  | m + 1, h => by
    have ih := cur_none (st := st) m (fun q y h1 h3 => h q y (by omega) h3)
    unfold curN foldN
    cases hy : pd[m]? with
    | none => exact ih
    | some y =>
      show (if y.page = i then y.bytes else curN st pd i m) = _
      rw [if_neg (h _ y (by omega) hy), ih]

end Go.Proofs.Ythjgcbpanfiacaa
