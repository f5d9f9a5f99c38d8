/-
  The reference's device in memory: its box, its pages as strings, its writes; which blocks a call may turn; the contracts of its Write and Read; conditions stand at each.
-/
import Derived.Test.YthjgcbpanfiacaaDevPages
namespace Go.Proofs.Ythjgcbpanfiacaa
open Go.RowKit Go.Sort
set_option linter.unusedVariables false
set_option linter.unusedSimpArgs false

/-- Bytes as a string. -/
def str (l : List UInt8) : ByteArray := ⟨l.toArray⟩
theorem str_size (l : List UInt8) : (str l).size = l.length := by show l.toArray.size = _; simp
theorem str_toList (l : List UInt8) : (str l).data.toList = l := by simp [str]
/-- A write of the reference, as cells. -/
def rcells (x : WR) : List Value := [.int .i64 (x.page : Int), .string (str x.bytes)]
theorem renc : Enc rcells 2 := ⟨fun _ => rfl, fun x u hu => by
  simp only [rcells, List.mem_cons, List.not_mem_nil, or_false] at hu
  rcases hu with rfl | rfl <;> rfl⟩
/-- The pages as strings. -/
def pagesS (st : List UInt8) (n : Nat) : List ByteArray := (List.range n).map fun i => str (pageOf st i)
theorem pagesS_len (st : List UInt8) (n : Nat) : (pagesS st n).length = n := by simp [pagesS]
theorem pagesS_at {st : List UInt8} {n i : Nat} (hi : i < n) : (pagesS st n)[i]? = some (str (pageOf st i)) := by simp [pagesS, hi]
theorem pagesS_app {x : WR} {size n : Nat} {s : List UInt8} (hs : s.length = n * 256) (hx : x.page < n) : (pagesS s n).set x.page (str (splice (pageOf s x.page) 0 (x.bytes.take size))) = pagesS (app x size s) n := by
  apply List.ext_getElem?
  intro i
  by_cases hi : i < n
  · rw [pagesS_at hi, page_app hs hx i hi]
    by_cases he : x.page = i
    · subst he
      rw [if_pos rfl, List.getElem?_set_self (by rw [pagesS_len]; exact hx)]
    · rw [if_neg he, List.getElem?_set_ne he, pagesS_at hi]
  · rw [List.getElem?_eq_none (by rw [List.length_set, pagesS_len]; omega), List.getElem?_eq_none (by rw [pagesS_len]; omega)]

/-- A reference's device in its blocks. -/
structure RefAt (w : World) (b : Nat) (vP vW : Value) (P : List ByteArray) (pd : List WR) : Prop where
  box : w.heap[b]? = some (.cells #[vP, vW] 45 (0, 0))
  ownP : OwnS w 0 vP P
  ownW : OwnL rcells 67 2 w 0 vW pd
  bP : vP.ownBlock ≠ some b
  bW : vW.ownBlock ≠ some b
  pW : ∀ i, vP.ownBlock = some i → vW.ownBlock ≠ some i
/-- Its blocks. -/
def RefIn (w : World) (b : Nat) (vP vW : Value) (F : Nat → Prop) : Prop := ∀ i, (i = b ∨ vP.ownBlock = some i ∨ vW.ownBlock = some i) → F i ∧ i < w.heap.size
/-- A reference's device whose blocks are of F. -/
def Ref (w : World) (b n : Nat) (st : List UInt8) (pd : List WR) (F : Nat → Prop) : Prop := (st.length = n * 256 ∧ n ≤ 512 ∧ ∀ x ∈ pd, x.page < n) ∧ ∃ vP vW, RefAt w b vP vW (pagesS st n) pd ∧ RefIn w b vP vW F

theorem RefAt.keep {w w' : World} {b : Nat} {vP vW : Value} {P : List ByteArray} {pd : List WR} (h : RefAt w b vP vW P pd) (hk : ∀ i, (i = b ∨ vP.ownBlock = some i ∨ vW.ownBlock = some i) → w'.heap[i]? = w.heap[i]?) : RefAt w' b vP vW P pd :=
  ⟨(hk b (.inl rfl)).trans h.box, OwnL.keep h.ownP fun i hi _ => hk i (.inr (.inl hi)), h.ownW.keep fun i hi _ => hk i (.inr (.inr hi)), h.bP, h.bW, h.pW⟩
theorem Ref.keep {w w' : World} {b n : Nat} {st : List UInt8} {pd : List WR} {F G : Nat → Prop} (h : Ref w b n st pd F) (hk : Keep G w w') (hd : ∀ i, F i → i < w.heap.size → ¬ G i) : Ref w' b n st pd F := by
  obtain ⟨h1, vP, vW, hat, hF⟩ := h
  exact ⟨h1, vP, vW, hat.keep fun i hi => hk.block i (hF i hi).2 (hd i (hF i hi).1 (hF i hi).2), fun i hi => ⟨(hF i hi).1, Nat.lt_of_lt_of_le (hF i hi).2 hk.size⟩⟩
theorem Ref.below {w w' : World} {b n : Nat} {st : List UInt8} {pd : List WR} {F : Nat → Prop} (h : Ref w b n st pd F) (hb : Below w.heap.size w w') : Ref w' b n st pd F :=
  h.keep (G := fun _ => False) (.of_below hb) fun _ _ _ hf => hf
theorem Ref.mono {w : World} {b n : Nat} {st : List UInt8} {pd : List WR} {F G : Nat → Prop} (h : Ref w b n st pd F) (hs : ∀ i, i < w.heap.size → F i → G i) : Ref w b n st pd G := by
  obtain ⟨h1, vP, vW, hat, hF⟩ := h
  exact ⟨h1, vP, vW, hat, fun i hi => ⟨hs i (hF i hi).2 (hF i hi).1, (hF i hi).2⟩⟩

/-- append(v, x): onto a row of the call's own, and where it lies then. -/
theorem run_append_blk {α : Type} {f : α → List Value} {k : Nat} (he : Enc f k) (ts t ty : TypeId) (z : Value) (by_ : Nat) (hu : Try.prog.underlying ts = some (.slice t)) (hi : (Try.prog.info? t).map (fun i => (i.zero, i.size, i.bytes)) = some (some z, k, by_)) (hz : z.cells.size = k) (hk : 0 < k) (hby : by_ ≤ 1000)
    {w : World} {v : Value} {xs : List α} (hown : OwnL f t k w 0 v xs) (x : α) (hb : xs.length ≤ 1000000) :
    ∃ v' w', (Builtin.append_ #[ts, ts] ty #[v, .slice (some ⟨w.heap.size, 0, none⟩) 1 1]).run Try.prog (w.alloc (.cells (f x).toArray t)) = .ok v' w' ∧ OwnL f t k w' 0 v' (xs ++ [x]) ∧ (w.alloc (.cells (f x).toArray t)).grownBy w' v.ownBlock ∧ (v'.ownBlock = v.ownBlock ∨ v'.ownBlock = some (w.heap.size + 1)) := by
  obtain ⟨i0, hi0, hz0, hz1, hz2⟩ := info_parts hi
  have hbz : Below w.heap.size w (w.alloc (.cells (f x).toArray t)) := (Below.refl _ _).alloc (Nat.le_refl _) _
  have hcells : ∀ j u, (f x)[j]? = some u → (w.alloc (.cells (f x).toArray t)).cell? ((⟨w.heap.size, 0, none⟩ : Addr).add j) = some u := fun j u h => new_row w (f x).toArray t j u (by simpa using h)
  have h63 : xs.length + 1 ≤ maxLen := by simp only [maxLen]; omega
  have hbt : (xs.length + 1) * by_ ≤ 140737488355328 := by
    have : (xs.length + 1) * by_ ≤ 1000001 * 1000 := Nat.mul_le_mul (by omega) hby
    omega
  obtain ⟨v', w', h1, h2, h3, _⟩ := run_append_own (P := Try.prog) (w.alloc (.cells (f x).toArray t)) 0 ts ty t i0 z k by_ hu hi0 hz0 hz1 hz2 hz hk v xs.length (xs.flatMap f) (hown.below hbz) ⟨w.heap.size, 0, none⟩ 1 1 (f x) (by rw [he.len]; omega) hcells (he.one x) h63 hbt (Nat.zero_le _)
  have h5 := append_block hu hi0 hz0 hz1 hz2 hz (hown.below hbz) (a := ⟨w.heap.size, 0, none⟩) (m := 1) (c := 1) (by rw [he.len]; omega) hcells (he.one x) (by omega) h63 hbt h1
  refine ⟨v', w', h1, ?_, h3, by simpa using h5⟩
  unfold OwnL
  rw [List.flatMap_append, List.length_append]
  simpa using h2
theorem winfo : (Try.prog.info? 67).map (fun i => (i.zero, i.size, i.bytes)) = some (some (.agg #[.int .i64 0, .string ByteArray.empty]), 2, 24) := by kernel_rfl

/-- The cells of one write. -/
theorem RefAt.wr {w : World} {b : Nat} {vP vW : Value} {P : List ByteArray} {pd : List WR} (h : RefAt w b vP vW P pd) {i : Nat} (hi : i < pd.length) :
    ∃ q c x, vW = .slice (some ⟨q, 0, none⟩) pd.length c ∧ pd[i]? = some x ∧ q ≠ b ∧ q < w.heap.size ∧ w.cell? ⟨q, i * 2, none⟩ = some (.int .i64 (x.page : Int)) ∧ w.cell? ⟨q, i * 2 + 1, none⟩ = some (.string (str x.bytes)) := by
  rcases h.ownW.2 with ⟨rfl, h0⟩ | ⟨q, cap, cur, rfl, hb, hh, hc, _, hs, ht⟩
  · omega
  · have hcell := h.ownW.cells (g := q) rfl
    have hx : pd[i]? = some pd[i] := List.getElem?_eq_getElem hi
    have e : ∀ j, ((⟨q, 0, none⟩ : Addr).add j) = ⟨q, j, none⟩ := fun j => by unfold Addr.add; split <;> simp_all
    refine ⟨q, cap, pd[i], rfl, hx, fun e => h.bW (by rw [← e]; rfl), lt_of_block hh, ?_, ?_⟩
    · have := hcell (i * 2 + 0) _ ((renc.at_ pd i 0 _ hx (by omega)).trans rfl)
      rw [e, Nat.add_zero] at this
      exact this
    · have := hcell (i * 2 + 1) _ ((renc.at_ pd i 1 _ hx (by omega)).trans rfl)
      rw [e] at this
      exact this
/-- The cell of one page. -/
theorem OwnS.cell {w : World} {v : Value} {P : List ByteArray} (h : OwnS w 0 v P) {i : Nat} {s : ByteArray} (hs : P[i]? = some s) :
    ∃ q c, v = .slice (some ⟨q, 0, none⟩) P.length c ∧ q < w.heap.size ∧ w.cell? ⟨q, i, none⟩ = some (.string s) ∧ w.frozen? ⟨q, i, none⟩ = false := by
  have hi := (List.getElem?_eq_some_iff.1 hs).1
  rcases h.2 with ⟨rfl, h0⟩ | ⟨q, cap, cur, rfl, hb, hh, hc, _, hz, ht⟩
  · omega
  · have hcell := World.ownsRow.cells h (g := q) rfl
    have e : ∀ j, ((⟨q, 0, none⟩ : Addr).add j) = ⟨q, j, none⟩ := fun j => by unfold Addr.add; split <;> simp_all
    refine ⟨q, cap, rfl, lt_of_block hh, ?_, free_at hh i⟩
    have := hcell (i * 1 + 0) _ ((strC_enc.at_ P i 0 _ hs (by omega)).trans rfl)
    rw [e, Nat.mul_one, Nat.add_zero] at this
    exact this
theorem flat_str (l : List ByteArray) : l.flatMap strC = l.map Value.string := by
  induction l with
  | nil => rfl
  | cons x l ih => rw [List.flatMap_cons, ih]; rfl
theorem OwnS.set {w : World} {q c m : Nat} {P : List ByteArray} (h : OwnS w 0 (.slice (some ⟨q, 0, none⟩) m c) P) (i : Nat) (s : ByteArray) : OwnS (w.setCell ⟨q, i, none⟩ (.string s)) 0 (.slice (some ⟨q, 0, none⟩) m c) (P.set i s) := by
  have h1 := h.1
  unfold OwnS OwnL at *
  rcases h.2 with ⟨hv, h0⟩ | ⟨q', cap, cur, hv, hb, hh, hc, hm, hz, ht⟩
  · cases hv
  · cases hv
    rw [List.length_set]
    refine ⟨?_, .inr ⟨q, c, cur.setIfInBounds i (.string s), rfl, hb, blk_set hh i _, hc, hm, by simpa using hz, ?_⟩⟩
    · rw [flat_str, List.length_map, List.length_set, Nat.mul_one]
    · rw [flat_str] at ht ⊢
      rw [Array.toList_setIfInBounds, List.take_set, ht, List.map_set]

theorem Ref.form {w : World} {b n : Nat} {st : List UInt8} {pd : List WR} {F : Nat → Prop} (h : Ref w b n st pd F) : ∃ vP vW A B c d, vP = .slice A n c ∧ vW = .slice B pd.length d ∧ RefAt w b vP vW (pagesS st n) pd ∧ RefIn w b vP vW F := by
  obtain ⟨h1, vP, vW, hat, hF⟩ := h
  obtain ⟨A, c, e1, _⟩ := hat.ownP.form
  obtain ⟨B, d, e2, _⟩ := hat.ownW.form
  rw [pagesS_len] at e1
  exact ⟨vP, vW, A, B, c, d, e1, e2, hat, hF⟩

end Go.Proofs.Ythjgcbpanfiacaa
