/-
  The contract of page.Encode: the page's bytes in a new row, or ErrArg; conditions: its slices can be read, its numbers and strings are as Bd says, the table of the check lies in memory. And the law's helper awake.
-/
import Derived.Test.YtgicomadlhnkjaaDoorPageEnc
namespace Go.Proofs.YtgicomadlhnkjaaDoor
open Go.RowKit Go.Sort
set_option linter.unusedVariables false

/-- What Encode answers. -/
def EncPost (w : World) (p : PP) (e : Ending) (w' : World) : Prop :=
  ((okPage p ∧ ∃ v, e = .returned (.tuple #[v, .int .i64 0]) ∧ OB w' w.heap.size v (encL p)) ∨ (¬ okPage p ∧ e = .returned (.tuple #[.slice none 0 0, .int .i64 1]))) ∧ Below w.heap.size w w'

theorem splice_zeros (c : List UInt8) (h : c.length ≤ 252) : splice (List.replicate 252 (Value.int .u8 0)) 0 (bcells c) = bcells (c ++ List.replicate (252 - c.length) 0) := by
  unfold splice
  rw [bcells_append, List.take_zero, List.nil_append, bcells_length, Nat.zero_add, List.drop_replicate]
  congr 1
  simp [bcells, u8]

set_option maxRecDepth 100000 in
set_option maxHeartbeats 1000000 in
theorem encode_any (p : PP) (A B : Option Addr) (a b : Nat) (w : World) (hA : Ls pcC w A p.cells) (hB : Ls pcK w B p.kids) (hp : Bd p) (hh : Half w) :
    Calls Tryd.prog 11 #[pageV p A a B b] w (EncPost w p) := by
  have hx : Below w.heap.size w (w.alloc (.cells #[.int .i64 p.kind, .slice A p.cells.length a, .slice B p.kids.length b, .string p.piece, .int .i64 p.next] 35)) := (Below.refl _ _).alloc (Nat.le_refl _) _
  by_cases hok : okPage p
  · obtain ⟨L, hL⟩ : ∃ L : Nat, L = 252 := ⟨_, rfl⟩
    have hmk : ∀ w : World, (Instr.makeSlice 28 (.int .i64 252) (.int .i64 252)).run Tryd.prog w = .ok (.slice (some ⟨w.heap.size, 0, none⟩) L L) (w.alloc (.cells (madeCells #[.int .u8 0] 252) 5)) := fun w => by
      rw [hL]
      exact run_make_bytes 252 252 (by omega) (by omega) w
    have HL := Lib.hid hL
    clear hL
    obtain ⟨Z, hZ⟩ : ∃ Z, Z = List.replicate 252 (Value.int .u8 0) := ⟨_, rfl⟩
    rw [made_list, ← hZ] at hmk
    have hright := right_any p A B a b
    have hcont := content_any p A B a b
    have hlen := contL_len hok
    unfold pageV at *
    generalize p.cells.length = n at *
    generalize p.kids.length = m at *
    generalize hpk : p.kind = pk at *
    generalize hpp : p.piece = pp at *
    generalize hpn : p.next = pn at *
    have HZ := Lib.hid hZ
    clear hZ
    go_enter Tryd.func11, Tryd.ntmps11
    go_wp2_with fail
    refine (hright _ (hA.below hx) (hB.below hx) hp).mono ?_
    rintro e w1 ⟨rfl, hb1⟩
    have hbw := bthen hx hb1
    have c0 := box_at hb1 0 _ rfl
    have c1 := box_at hb1 1 _ rfl
    have c2 := box_at hb1 2 _ rfl
    have c3 := box_at hb1 3 _ rfl
    have c4 := box_at hb1 4 _ rfl
    have hs1 := box_lt hb1
    rw [decide_eq_true hok]
    clear hb1 hx
    have hb2 : Below w1.heap.size w1 (w1.alloc (.cells Z.toArray 5)) := (Below.refl _ _).alloc (Nat.le_refl _) _
    go_wp2_with fail
    refine (hcont _ (hA.below (bthen hbw hb2)) (hB.below (bthen hbw hb2)) hok).mono ?_
    rintro e w3 ⟨v3, rfl, ho3, hb3⟩
    obtain ⟨A3, n3, c3', rfl, hn3, hc3, hr3⟩ := ho3.named
    have hg3 : w3.heap[w1.heap.size]? = some (.cells Z.toArray 5 (0, 0)) := (hb3.block _ (by simp)).trans (heap_alloc_new w1 _)
    have hb4 := bthen hb2 hb3
    have HG3 := Lib.hid hg3
    have hn3' : n3 ≤ 252 := by omega
    have H2 : Hid ((bcells (contL p)).length = Nat.min n3 L) := by
      show (bcells (contL p)).length = Nat.min n3 L
      rw [bcells_length, hn3, HL.out]
      exact (Nat.min_eq_left hn3').symm
    have H3 : Hid (0 < (bcells (contL p)).length → ∃ ad, A3 = some ad ∧ ∀ j v, (bcells (contL p))[j]? = some v → w3.cell? (ad.add j) = some v) := by
      intro h0
      rw [bcells_length] at h0
      obtain ⟨ad, e, _, hc⟩ := hr3 h0
      exact ⟨ad, e, hc⟩
    have H4 : Hid (0 + (bcells (contL p)).length ≤ Z.length) := by
      show 0 + (bcells (contL p)).length ≤ Z.length
      rw [bcells_length, HZ.out, List.length_replicate]
      omega
    have HS : Hid (splice Z 0 (bcells (contL p)) = bcells (bodyL p)) := by
      show splice Z 0 (bcells (contL p)) = bcells (bodyL p)
      rw [HZ.out, splice_zeros _ hlen]
      rfl
    clear hn3 hn3' hg3 ho3 hb2 hb3 hr3 hlen c0 c1 c2 c3 c4 HZ hmk hcont hright
    go_wp2_with ((with_reducible refine wpList_copy_splice rfl (.tmp 9) (.tmp 11) 28 28 rfl 5 Tryd.underlying28 (by kernel_rfl) _ _ _ _ _ _ rfl rfl w1.heap.size 0 Z 5 HG3.out (bcells (contL p)) H2.out (fun h0 => ⟨rfl, H3.out h0⟩) H4.out (bcells_one _) w1.heap.size w1 hb4 (Nat.le_refl _) ?_); intro w5 HG5 hb5)
    have hr5 : Rd w5 (some ⟨w1.heap.size, 0, none⟩) (bodyL p) := by
      have hg := HG5.out
      rw [HS.out] at hg
      have := rd_block hg 0 (bodyL p).length
      simpa using this
    have hbl := bodyL_len hok
    have hhw := (hh.below hbw).below hb5
    have hb05 := bthen hbw hb5
    have HBL : Hid ((bodyL p).length = L) := hbl.trans HL.out.symm
    have hL2 : L ≤ 1000 := by rw [HL.out]; omega
    clear hbl
    refine (seal_any (some ⟨w1.heap.size, 0, none⟩) L L (bodyL p) w5 hhw hr5 HBL.out (by omega)).mono ?_
    rintro e w6 ⟨rfl, ho6, hb6⟩
    have HO6 := Lib.hid ho6
    have hb06 := bthen hb05 hb6
    clear ho6
    go_wp2
    go_ret2
    refine ⟨.inl ⟨hok, _, rfl, ?_⟩, hb06⟩
    unfold OB
    rw [encL_len hok, show (256 : Nat) = L + 4 by rw [HL.out]]
    exact own_mono HO6.out hb05.size
  · have hright := right_any p A B a b
    unfold pageV at *
    generalize p.cells.length = n at *
    generalize p.kids.length = m at *
    generalize hpk : p.kind = pk at *
    generalize hpp : p.piece = pp at *
    generalize hpn : p.next = pn at *
    go_enter Tryd.func11, Tryd.ntmps11
    go_wp2_with fail
    refine (hright _ (hA.below hx) (hB.below hx) hp).mono ?_
    rintro e w1 ⟨rfl, hb1⟩
    have hbw := bthen hx hb1
    rw [decide_eq_false hok]
    clear hb1 hx
    go_wp2
    go_ret2
    exact ⟨.inr ⟨hok, rfl⟩, hbw⟩

theorem ok_empty : okPage ⟨1, [], [], ByteArray.empty, 0⟩ := .inl ⟨rfl, rfl, rfl, rfl, by simp, fun c h => by simp at h, fun e h => by simp at h, by simp [Sorted]⟩
theorem bd_empty : Bd ⟨1, [], [], ByteArray.empty, 0⟩ := ⟨⟨by simp only; omega, by simp only; omega⟩, ⟨by simp only; omega, by simp only; omega⟩, Nat.zero_le _, Nat.zero_le _, Nat.zero_le _, fun c h => by simp at h, fun c h => by simp at h⟩

set_option maxRecDepth 100000 in
set_option maxHeartbeats 400000 in
theorem awake_any (w : World) (hh : Half w) :
    Calls Tryd.prog 9 #[] w fun e w' => e = .returned (.bool true) ∧ Below w.heap.size w w' := by
  go_enter Tryd.func9, Tryd.ntmps9
  go_wp2_with fail
  refine (encode_any ⟨1, [], [], ByteArray.empty, 0⟩ none none 0 0 w (Ls.nil _ _) (Ls.nil _ _) bd_empty hh).mono ?_
  rintro e w1 ⟨⟨_, v, rfl, ho⟩ | ⟨h, _⟩, hb⟩
  · obtain ⟨A1, n1, c1, rfl, hn1, hc1, hr1⟩ := ho.named
    rw [encL_len ok_empty] at hn1
    subst hn1
    obtain ⟨ad, rfl, hc⟩ := hr1.at_ (j := 0) (by rw [encL_len ok_empty]; omega)
    have hz : ((encL ⟨1, [], [], ByteArray.empty, 0⟩)[0]'(by rw [encL_len ok_empty]; omega)).toNat = 1 := rfl
    rw [hz] at hc
    have hc' : w1.cell? ad = some (.int .u8 1) := hc
    clear ho hr1 hz hc
    go_wp2
    go_ret
    exact ⟨rfl, hb⟩
  · exact absurd ok_empty h

end Go.Proofs.YtgicomadlhnkjaaDoor
