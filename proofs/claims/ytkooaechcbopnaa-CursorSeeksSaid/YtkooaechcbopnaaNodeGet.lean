/-
  The contracts of the methods of a node and of slices.Clone: Height, Size, Ends, Full, Entries, Kids, of a node and of nil; conditions: the node lies in memory, its slices can be read.
-/
import Derived.Test.YtkooaechcbopnaaNodeMem
namespace Go.Proofs.Ytkooaechcbopnaa
open Go.RowKit Go.Sort
set_option linter.unusedVariables false

abbrev pn (b : Nat) : Value := .pointer (some ⟨b, 0, none⟩)

theorem size_any {w : World} {b : Nat} {N : NR} (h : NodeAt w b N) (hb : N.en + N.kn ≤ 1000000000) : Calls Try.prog 84 #[pn b] w fun e w' => e = .returned (.int .i64 ((N.en + N.kn : Nat) : Int)) ∧ ∃ nq, w' = w.drewN nq := by
  have c0 := h.c0
  have c1 := h.c1
  clear h
  go_enter Try.func84, Try.ntmps84
  go_wp2
  go_quiet (fail)
  go_wp2
  go_ret
  exact ⟨by go_num, nq, rfl⟩
theorem size_nil (w : World) : Calls Try.prog 84 #[.pointer none] w fun e w' => e = .returned (.int .i64 0) ∧ w = w' := by
  go_enter Try.func84, Try.ntmps84
  go_wp2
  go_ret
  exact ⟨rfl, rfl⟩
theorem ends_any {w : World} {b : Nat} {N : NR} (h : NodeAt w b N) : Calls Try.prog 39 #[pn b] w fun e w' => e = .returned (.tuple #[.string N.lo, .string N.hi]) ∧ ∃ nq, w' = w.drewN nq := by
  have c3 := h.c3
  have c4 := h.c4
  clear h
  go_enter Try.func39, Try.ntmps39
  go_wp2
  go_quiet (fail)
  go_wp2
  go_ret2
  exact ⟨rfl, nq, rfl⟩
theorem ends_nil (w : World) : Calls Try.prog 39 #[.pointer none] w fun e w' => e = .returned (.tuple #[.string ByteArray.empty, .string ByteArray.empty]) ∧ w = w' := by
  go_enter Try.func39, Try.ntmps39
  go_wp2
  go_ret2
  exact ⟨rfl, rfl⟩
set_option maxHeartbeats 400000 in
theorem cloneE_any (A : Option Addr) (n c : Nat) (l : List Ent) (w : World) (hr : Es w A l) (hn : l.length = n) (hb : n ≤ 1000000) :
    Calls Try.prog 61 #[.slice A n c] w fun e w' => ∃ v, e = .returned v ∧ Own w' w.heap.size v l ∧ Below w.heap.size w w' := by
  rcases A with _ | ad
  · have h0 : l = [] := by
      rcases Nat.eq_zero_or_pos l.length with h0 | h0
      · exact List.eq_nil_of_length_eq_zero h0
      · obtain ⟨ad, e, _⟩ := hr h0
        cases e
    subst h0
    have hq : ∀ (w : World) (a : Option Addr) (n c n' c' : Nat), (binOp .eql 22 (.slice a n c) (.slice none n' c')).run Try.prog w = .ok (.bool a.isNone) w := fun w a n c n' c' => Lib.run_eql_slice_nil w _ _ a n c n' c' Try.underlying22
    go_enter Try.func61, Try.ntmps61
    go_wp2
    go_ret
    exact ⟨_, rfl, Own.nil_ _ _, Below.refl _ _⟩
  · have hb0 : Below w.heap.size w (w.alloc (.cells #[] 39)) := (Below.refl _ _).alloc (Nat.le_refl _) _
    obtain ⟨v', w', h1, h2, h3⟩ := run_append_ents 22 (Own.empty w) n c (hr.below hb0) hn (by simpa using hb) hb0.size
    have HR := Lib.hid h1
    have HO := Lib.hid h2
    have HB := Lib.hid ((Own.empty w).grow_below hb0 hb0.size h3)
    clear h1 h2 h3 hb0
    have hq : ∀ (w : World) (a : Option Addr) (n c n' c' : Nat), (binOp .eql 22 (.slice a n c) (.slice none n' c')).run Try.prog w = .ok (.bool a.isNone) w := fun w a n c n' c' => Lib.run_eql_slice_nil w _ _ a n c n' c' Try.underlying22
    go_enter Try.func61, Try.ntmps61
    go_wp2_with (at_builtin; refine wpList_append_ran rfl (.tmp 5) (.tmp 6) 22 rfl _ _ _ _ rfl rfl HR.out ?_)
    go_ret
    exact ⟨_, rfl, by simpa using HO.out, HB.out⟩

set_option maxHeartbeats 400000 in
theorem cloneP_any (A : Option Addr) (n c : Nat) (l : List (Option Nat)) (w : World) (hr : Ls pcP w A l) (hn : l.length = n) (hb : n ≤ 1000000) :
    Calls Try.prog 73 #[.slice A n c] w fun e w' => ∃ v, e = .returned v ∧ OwnP w' w.heap.size v l ∧ Below w.heap.size w w' := by
  rcases A with _ | ad
  · have h0 : l = [] := by
      rcases Nat.eq_zero_or_pos l.length with h0 | h0
      · exact List.eq_nil_of_length_eq_zero h0
      · obtain ⟨ad, e, _⟩ := hr h0
        cases e
    subst h0
    have hq : ∀ (w : World) (a : Option Addr) (n c n' c' : Nat), (binOp .eql 63 (.slice a n c) (.slice none n' c')).run Try.prog w = .ok (.bool a.isNone) w := fun w a n c n' c' => Lib.run_eql_slice_nil w _ _ a n c n' c' Try.underlying63
    go_enter Try.func73, Try.ntmps73
    go_wp2
    go_ret
    exact ⟨_, rfl, OwnL.nil_ _ _ _, Below.refl _ _⟩
  · have hb0 : Below w.heap.size w (w.alloc (.cells #[] 26)) := (Below.refl _ _).alloc (Nat.le_refl _) _
    obtain ⟨v', w', h1, h2, h3⟩ := run_append_ls encP 63 26 63 _ _ ⟨_, Try.underlying63, rfl⟩ ptrInfo rfl (by omega) (by omega) (OwnL.empty _ w) n c (hr.below hb0) hn (by simpa using hb) hb0.size
    have HR := Lib.hid h1
    have HO := Lib.hid h2
    have HB := Lib.hid (grown_new hb0 (fun g hg => by simp [Value.ownBlock] at hg; omega) h3)
    clear h1 h2 h3 hb0
    have hq : ∀ (w : World) (a : Option Addr) (n c n' c' : Nat), (binOp .eql 63 (.slice a n c) (.slice none n' c')).run Try.prog w = .ok (.bool a.isNone) w := fun w a n c n' c' => Lib.run_eql_slice_nil w _ _ a n c n' c' Try.underlying63
    go_enter Try.func73, Try.ntmps73
    go_wp2_with (at_builtin; refine wpList_append_ran rfl (.tmp 5) (.tmp 6) 63 rfl _ _ _ _ rfl rfl HR.out ?_)
    go_ret
    exact ⟨_, rfl, by simpa using HO.out, HB.out⟩

theorem entries_any {w : World} {b : Nat} {N : NR} (h : NodeAt w b N) {l : List Ent} (hr : Es w N.ea l) (hn : l.length = N.en) (hb : N.en ≤ 1000000) :
    Calls Try.prog 42 #[pn b] w fun e w' => ∃ v, e = .returned v ∧ Own w' w.heap.size v l ∧ Below w.heap.size w w' := by
  have c0 := h.c0
  obtain ⟨ea, en, ec, ka, kn, kc, hh, lo, hi, lk⟩ := N
  simp only at c0 hr hn hb
  have HN := Lib.hid hn
  clear h hn
  go_enter Try.func42, Try.ntmps42
  go_wp2_with fail
  refine (cloneE_any ea en ec l w hr HN.out hb).mono ?_
  rintro e w1 ⟨v, rfl, ho, hb1⟩
  go_wp2
  go_ret
  exact ⟨v, rfl, ho, hb1⟩
theorem entries_nil (w : World) : Calls Try.prog 42 #[.pointer none] w fun e w' => e = .returned (.slice none 0 0) ∧ w = w' := by
  go_enter Try.func42, Try.ntmps42
  go_wp2
  go_ret
  exact ⟨rfl, rfl⟩
theorem kids_any {w : World} {b : Nat} {N : NR} (h : NodeAt w b N) {l : List (Option Nat)} (hr : Ls pcP w N.ka l) (hn : l.length = N.kn) (hb : N.kn ≤ 1000000) :
    Calls Try.prog 60 #[pn b] w fun e w' => ∃ v, e = .returned v ∧ OwnP w' w.heap.size v l ∧ Below w.heap.size w w' := by
  have c1 := h.c1
  obtain ⟨ea, en, ec, ka, kn, kc, hh, lo, hi, lk⟩ := N
  simp only at c1 hr hn hb
  have HN := Lib.hid hn
  clear h hn
  go_enter Try.func60, Try.ntmps60
  go_wp2_with fail
  refine (cloneP_any ka kn kc l w hr HN.out hb).mono ?_
  rintro e w1 ⟨v, rfl, ho, hb1⟩
  go_wp2
  go_ret
  exact ⟨v, rfl, ho, hb1⟩
theorem kids_nil (w : World) : Calls Try.prog 60 #[.pointer none] w fun e w' => e = .returned (.slice none 0 0) ∧ w = w' := by
  go_enter Try.func60, Try.ntmps60
  go_wp2
  go_ret
  exact ⟨rfl, rfl⟩

end Go.Proofs.Ytkooaechcbopnaa
