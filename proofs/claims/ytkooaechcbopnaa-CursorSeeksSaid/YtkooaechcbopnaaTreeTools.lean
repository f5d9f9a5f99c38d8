/-
  Tools for the laws of layer 10: trees compared as pointers, what puts and takes come to, the document's answers; conditions stand at each.
-/
import Derived.Test.YtkooaechcbopnaaTreeOps
import Derived.Test.YtkooaechcbopnaaPairRef
namespace Go.Proofs.Ytkooaechcbopnaa
open Go.RowKit Go.Sort Go.ChangeShapes Go.WideShapes
set_option linter.unusedVariables false
set_option linter.unusedSimpArgs false

theorem eql_nil_nil (w : World) : (binOp .eql 26 (.pointer none) (.pointer none)).run Try.prog w = .ok (.bool true) w := by
  have h : ∀ d : Nat, (Op.equalIn (d + 1) 26 (.pointer none) (.pointer none)).run Try.prog w = .ok true w := fun d => by
    simp [Op.equalIn, run_underlying Try.underlying26]
  simp only [binOp]
  simp [Op.equal, Op.maxDepth, h 9999]
theorem eql_some_nil (a : Addr) (w : World) : (binOp .eql 26 (.pointer (some a)) (.pointer none)).run Try.prog w = .ok (.bool false) w := by
  have h : ∀ d : Nat, (Op.equalIn (d + 1) 26 (.pointer (some a)) (.pointer none)).run Try.prog w = .ok false w := fun d => by
    simp [Op.equalIn, run_underlying Try.underlying26]
  simp only [binOp]
  simp [Op.equal, Op.maxDepth, h 9999]
theorem eql_ptr_other {a b : Nat} {w : World} {M N : NR} (ha : NodeAt w a M) (hb : NodeAt w b N) (hne : a ≠ b) : (binOp .eql 26 (pn a) (pn b)).run Try.prog w = .ok (.bool false) w := by
  have hi : (Try.prog.info? 93).map (·.size) = some 6 := by kernel_rfl
  obtain ⟨j, hj, hj6⟩ := Option.map_eq_some_iff.1 hi
  have hab : (⟨a, 0, none⟩ : Addr) ≠ ⟨b, 0, none⟩ := fun e => hne (by cases e; rfl)
  have hs := run_sameAddr_other (P := Try.prog) (w := w) hab ha hb
  have h : ∀ d : Nat, (Op.equalIn (d + 1) 26 (pn a) (pn b)).run Try.prog w = .ok false w := fun d => by
    simp [Op.equalIn, run_underlying Try.underlying26, sizeOf, typeInfo, hj, hj6, hs]
  simp only [binOp]
  simp [Op.equal, Op.maxDepth, h 9999]
/-- A tree is itself. -/
theorem eql_tb_same (T : TO) (w : World) : (binOp .eql 26 (tb T) (tb T)).run Try.prog w = .ok (.bool true) w := by
  cases T with
  | none => exact eql_nil_nil w
  | some x => exact eql_ptr_same ⟨x.2.b, 0, none⟩ w
theorem treeIs_lt {w : World} {T : TO} (h : TreeIs w T) : ∀ x, T = some x → x.2.b < w.heap.size := fun x hx => (h x hx).lt
/-- A new tree is none of the old ones. -/
theorem eql_tb_new {w : World} {T : TO} {x : Nat × ST} {m : Nat} (h1 : TreeIs w T) (h2 : TreeIs w (some x)) (ho : ∀ y, T = some y → y.2.b < m) (hx : m ≤ x.2.b) : (binOp .eql 26 (tb (some x)) (tb T)).run Try.prog w = .ok (.bool false) w := by
  cases T with
  | none => exact eql_some_nil ⟨x.2.b, 0, none⟩ w
  | some y => exact eql_ptr_other (h2 x rfl).at_ (h1 y rfl).at_ (by show x.2.b ≠ y.2.b; have := ho y rfl; omega)

theorem okE_err {e : Ent} (h : okE e = true) : errOf e = 0 := by rw [errOf_ok] at h; exact of_decide_eq_true h
theorem okE_no {e : Ent} (h : ¬ okE e = true) : errOf e ≠ 0 := by rw [errOf_ok] at h; simpa using h
theorem put_back {l : List Ent} (h : Sorted l) {e : Ent} {v : ByteArray} (hl : look l e.k = some v) : put (del (put l e) e.k) ⟨e.k, v⟩ = l := by
  refine sorted_ext (sorted_put (sorted_del (sorted_put h e) e.k) _) h fun x => ?_
  have hm := look_mem hl
  simp only [mem_put, mem_del]
  constructor
  · rintro (rfl | ⟨⟨rfl | ⟨h1, _⟩, h2⟩, _⟩)
    · exact hm
    · exact absurd rfl h2
    · exact h1
  · intro hx
    by_cases hk : x.k = e.k
    · exact .inl (sorted_once h hx hm hk)
    · exact .inr ⟨⟨.inr ⟨hx, hk⟩, hk⟩, hk⟩
theorem del_back {l : List Ent} (h : Sorted l) {e : Ent} (hl : look l e.k = none) : del (put l e) e.k = l := by
  refine sorted_ext (sorted_del (sorted_put h e) e.k) h fun x => ?_
  simp only [mem_put, mem_del]
  constructor
  · rintro ⟨rfl | ⟨h1, _⟩, h2⟩
    · exact absurd rfl h2
    · exact h1
  · intro hx
    have hk := look_none_iff.1 hl x hx
    exact ⟨.inr ⟨hx, hk⟩, hk⟩
/-- Two calls on unlike keys. -/
theorem play_swap {l : List Ent} (h : Sorted l) {a b : TOp} (hk : a.e.k ≠ b.e.k) : play (play l a) b = play (play l b) a := by
  obtain ⟨ad, a⟩ := a
  obtain ⟨bd, b⟩ := b
  unfold play
  simp only at hk ⊢
  cases ad <;> cases bd <;> by_cases ha : okE a = true <;> by_cases hb : okE b = true <;> simp only [ha, hb, if_true, if_false, Bool.false_eq_true]
  · exact put_put h hk
  all_goals first | rfl | exact put_del_swap h hk | exact (put_del_swap h (Ne.symm hk)).symm | exact del_del h | skip
theorem play_sorted {l : List Ent} (h : Sorted l) (o : TOp) : Sorted (play l o) := by
  unfold play
  split
  · exact sorted_del h _
  · split
    · exact sorted_put h _
    · exact h
theorem plays_sorted : ∀ (s : List TOp) (l : List Ent), Sorted l → Sorted (s.foldl play l)
  | [], _, h => h
  | o :: s, l, h => plays_sorted s (play l o) (play_sorted h o)

end Go.Proofs.Ytkooaechcbopnaa
