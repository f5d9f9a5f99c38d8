/-
  The contracts of meta.Next and of the reference's Next of layer 6: the epoch behind; conditions: the slice can be read, and all numbers lie between 0 and 2^30.
-/
import Derived.Test.YtcgmaiadipiegaaDoorMetaOpen
import Derived.Test.YtcgmaiadipiegaaDoorMetaTake
namespace Go.Proofs.YtcgmaiadipiegaaDoor
open Go.RowKit Go.Sort
set_option linter.unusedVariables false
set_option linter.unusedSimpArgs false

def mostI (kept : Int) (l : List MT) : Int := l.foldl (fun a m => max a m.e) kept
def nextI (kept : Int) (l : List MT) : Int := if slotI (mostI kept l) = slotI kept then mostI kept l + 1 else mostI kept l + 2
theorem most_snoc (kept : Int) (l : List MT) (x : MT) : mostI kept (l ++ [x]) = max (mostI kept l) x.e := by simp [mostI]
theorem slot_step (x : Int) : slotI (x + 1) ≠ slotI x := by
  unfold slotI
  split <;> split <;> omega
theorem slot_two (x : Int) : slotI (x + 2) = slotI x := by
  unfold slotI
  rw [show (x + 2) % 2 = x % 2 by omega]
theorem slot_or (x : Int) : slotI x = 0 ∨ slotI x = 1 := by
  unfold slotI
  split
  · exact .inl rfl
  · exact .inr rfl
theorem most_ge (kept : Int) (l : List MT) : kept ≤ mostI kept l := by
  induction l generalizing kept with
  | nil => exact Int.le_refl _
  | cons x l ih =>
    have := ih (max kept x.e)
    show kept ≤ mostI (max kept x.e) l
    omega
theorem most_all (kept : Int) (l : List MT) : ∀ x ∈ l, x.e ≤ mostI kept l := by
  induction l generalizing kept with
  | nil => intro x hx; cases hx
  | cons y l ih =>
    intro x hx
    show x.e ≤ mostI (max kept y.e) l
    rcases List.mem_cons.1 hx with rfl | hx
    · have := most_ge (max kept x.e) l
      omega
    · exact ih _ x hx
/-- What P6.2 says of the next epoch. -/
theorem next_above (kept : Int) (l : List MT) : kept < nextI kept l ∧ (∀ x ∈ l, x.e < nextI kept l) ∧ slotI (nextI kept l) ≠ slotI kept := by
  have h1 := most_ge kept l
  have h2 := most_all kept l
  unfold nextI
  split
  · rename_i h
    exact ⟨by omega, fun x hx => by have := h2 x hx; omega, fun e => slot_step _ (e.trans h.symm)⟩
  · rename_i h
    exact ⟨by omega, fun x hx => by have := h2 x hx; omega, fun e => h (by rw [slot_two] at e; exact e)⟩
theorem next_step (kept : Int) (l : List MT) : (if slotI (mostI kept l + 1) = slotI kept then mostI kept l + 1 + 1 else mostI kept l + 1) = nextI kept l := by
  unfold nextI
  have h1 := slot_step (mostI kept l)
  have h2 := slot_or (mostI kept l)
  have h3 := slot_or (mostI kept l + 1)
  have h4 := slot_or kept
  by_cases h : slotI (mostI kept l) = slotI kept
  · rw [if_neg (by omega), if_pos h]
  · rw [if_pos (by omega), if_neg h]
    omega

def MSm (l : List MT) : Prop := ∀ x ∈ l, 0 ≤ x.e ∧ x.e ≤ 1073741824

set_option maxRecDepth 100000 in
set_option maxHeartbeats 1000000 in
theorem mtNext_any (kept : Int) (A : Option Addr) (n c : Nat) (l : List MT) (w : World) (hr : Ls pcM w A l) (hn : l.length = n) (hb : n ≤ 100000000) (h0 : 0 ≤ kept) (h1 : kept ≤ 1073741824) (hl : MSm l) :
    Calls Tryd.prog 24 #[.int .i64 kept, .slice A n c] w fun e w' => e = .returned (.int .i64 (nextI kept l)) ∧ Below w.heap.size w w' := by
  have Hn := Lib.hid hn
  have HL := Lib.hid hl
  clear hn hl
  go_enter Tryd.func24, Tryd.ntmps24
  go_wp2
  go_loopw [5, 12] (fun v i wr => ∃ (k : Nat) (q : Int), k ≤ n ∧ i = .int .i64 k ∧ v = .int .i64 q ∧ 0 ≤ q ∧ q ≤ 1073741824 ∧ Hid (q = mostI kept (l.take k)) ∧ Below w.heap.size w wr) (fun _ i _ => n - (intOf i).toNat)
  case atStart => exact ⟨0, kept, Nat.zero_le _, rfl, rfl, h0, h1, rfl, Below.refl _ _⟩
  case round =>
    obtain ⟨k, q, hk, rfl, rfl, hq0, hq1, HQ, hbw⟩ := hrel
    by_cases hlt : k < n
    · obtain ⟨ad, x, rfl, hx, hlb, c1, c2⟩ := (hr.below hbw).atM (i := k) (by rw [Hn.out]; exact hlt)
      have hxs := HL.out x (List.mem_of_getElem? hx)
      have hx0 := hxs.1
      have hx1 := hxs.2
      have hst : mostI kept (l.take (k + 1)) = max q x.e := by
        have hk' : k < l.length := by rw [Hn.out]; exact hlt
        have hxe : l[k] = x := by
          rw [List.getElem?_eq_getElem hk'] at hx
          exact Option.some.inj hx
        rw [List.take_succ_eq_append_getElem hk', most_snoc, ← HQ.out, hxe]
      have HB : Hid (Below w.heap.size w (wr.alloc (.cells #[.int .i64 x.e, .int .i64 x.r] 29))) := hbw.alloc hbw.size _
      obtain ⟨xe, hxe⟩ : ∃ xe, xe = x.e := ⟨_, rfl⟩
      rw [← hxe] at hst hx0 hx1 c1 HB
      have HST := Lib.hid hst
      clear hst hx hxs hxe HQ
      go_wp2
      exact ⟨⟨k + 1, max q xe, by omega, by go_num, rfl, by omega, by omega, HST.out.symm, HB.out⟩, by simp [intOf]; omega⟩
    · have hq : q = mostI kept l := by
        rw [HQ.out, List.take_of_length_le (by rw [Hn.out]; omega)]
      have hnx : nextI kept l = if slotI q = slotI kept then q + 1 else q + 2 := by rw [hq]; rfl
      obtain ⟨s1, hs1⟩ : ∃ s, s = slotI q := ⟨_, rfl⟩
      obtain ⟨s2, hs2⟩ : ∃ s, s = slotI kept := ⟨_, rfl⟩
      have HS1 := Lib.hid hs1
      have HS2 := Lib.hid hs2
      rw [← hs1, ← hs2] at hnx
      clear hq HQ hs1 hs2
      go_wp2_with fail
      refine (mtSlot_any q wr ⟨by omega, by omega⟩).mono ?_
      rintro e w1 ⟨rfl, rfl⟩
      rw [← HS1.out]
      go_wp2_with fail
      refine (mtSlot_any kept wr ⟨by omega, by omega⟩).mono ?_
      rintro e w1 ⟨rfl, rfl⟩
      rw [← HS2.out]
      by_cases hs : s1 = s2
      · rw [if_pos hs] at hnx
        have HNX := Lib.hid hnx
        subst hs
        clear hnx HS1 HS2
        go_wp2
        go_ret
        exact ⟨by rw [HNX.out]; rfl, hbw⟩
      · rw [if_neg hs] at hnx
        have HNX := Lib.hid hnx
        have hne : (s1 == s2) = false := by simpa using hs
        clear hnx HS1 HS2
        go_wp2
        go_ret
        exact ⟨by rw [HNX.out]; rfl, hbw⟩

set_option maxRecDepth 100000 in
set_option maxHeartbeats 1000000 in
theorem mtRefNext_any (kept : Int) (A : Option Addr) (n c : Nat) (l : List MT) (w : World) (hr : Ls pcM w A l) (hn : l.length = n) (hb : n ≤ 100000000) (h0 : 0 ≤ kept) (h1 : kept ≤ 1073741824) (hl : MSm l) :
    Calls Tryd.prog 25 #[.int .i64 kept, .slice A n c] w fun e w' => e = .returned (.int .i64 (nextI kept l)) ∧ Below w.heap.size w w' := by
  have Hn := Lib.hid hn
  have HL := Lib.hid hl
  clear hn hl
  go_enter Tryd.func25, Tryd.ntmps25
  go_wp2
  go_loopw [5, 10] (fun v i wr => ∃ (k : Nat) (q : Int), k ≤ n ∧ i = .int .i64 k ∧ v = .int .i64 q ∧ 0 ≤ q ∧ q ≤ 1073741824 ∧ Hid (q = mostI kept (l.take k)) ∧ Below w.heap.size w wr) (fun _ i _ => n - (intOf i).toNat)
  case atStart => exact ⟨0, kept, Nat.zero_le _, rfl, rfl, h0, h1, rfl, Below.refl _ _⟩
  case round =>
    obtain ⟨k, q, hk, rfl, rfl, hq0, hq1, HQ, hbw⟩ := hrel
    by_cases hlt : k < n
    · obtain ⟨ad, x, rfl, hx, hlb, c1, c2⟩ := (hr.below hbw).atM (i := k) (by rw [Hn.out]; exact hlt)
      have hxs := HL.out x (List.mem_of_getElem? hx)
      have hx0 := hxs.1
      have hx1 := hxs.2
      have hst : mostI kept (l.take (k + 1)) = max q x.e := by
        have hk' : k < l.length := by rw [Hn.out]; exact hlt
        have hxe : l[k] = x := by
          rw [List.getElem?_eq_getElem hk'] at hx
          exact Option.some.inj hx
        rw [List.take_succ_eq_append_getElem hk', most_snoc, ← HQ.out, hxe]
      obtain ⟨xe, hxe⟩ : ∃ xe, xe = x.e := ⟨_, rfl⟩
      rw [← hxe] at hst hx0 hx1 c1
      have HST := Lib.hid hst
      clear hst hx hxs hxe HQ
      go_wp2
      exact ⟨⟨k + 1, max q xe, by omega, by go_num, rfl, by omega, by omega, HST.out.symm, hbw⟩, by simp [intOf]; omega⟩
    · have hq : q = mostI kept l := by
        rw [HQ.out, List.take_of_length_le (by rw [Hn.out]; omega)]
      have hnx : nextI kept l = if slotI (q + 1) = slotI kept then q + 1 + 1 else q + 1 := by rw [hq]; exact (next_step kept l).symm
      obtain ⟨s1, hs1⟩ : ∃ s, s = slotI (q + 1) := ⟨_, rfl⟩
      obtain ⟨s2, hs2⟩ : ∃ s, s = slotI kept := ⟨_, rfl⟩
      have HS1 := Lib.hid hs1
      have HS2 := Lib.hid hs2
      rw [← hs1, ← hs2] at hnx
      clear hq HQ hs1 hs2
      go_wp2_with fail
      refine (mtRefSlot_any (q + 1) wr ⟨by omega, by omega⟩).mono ?_
      rintro e w1 ⟨rfl, rfl⟩
      rw [← HS1.out]
      go_wp2_with fail
      refine (mtRefSlot_any kept wr ⟨by omega, by omega⟩).mono ?_
      rintro e w1 ⟨rfl, rfl⟩
      rw [← HS2.out]
      by_cases hs : s1 = s2
      · rw [if_pos hs, show q + 1 + 1 = q + 2 by omega] at hnx
        have HNX := Lib.hid hnx
        subst hs
        clear hnx HS1 HS2
        go_wp2
        go_ret
        exact ⟨by rw [HNX.out, show q + 2 = q + 1 + 1 by omega]; rfl, hbw⟩
      · rw [if_neg hs] at hnx
        have HNX := Lib.hid hnx
        have hne : (s1 == s2) = false := by simpa using hs
        clear hnx HS1 HS2
        go_wp2
        go_ret
        exact ⟨by rw [HNX.out]; rfl, hbw⟩

end Go.Proofs.YtcgmaiadipiegaaDoor
