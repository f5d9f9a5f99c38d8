/-
  The contracts of the reference's Cut and Join and of the law's same: answers as the document says; conditions stand at each.
-/
import Derived.Test.YtalhnmaecnielaaChainJoin
namespace Go.Proofs.Ytalhnmaecnielaa
open Go.RowKit Go.Sort
set_option linter.unusedVariables false

/-- What ref.Cut answers. -/
def ChRefCutPost (w : World) (s : ByteArray) (e : Ending) (w' : World) : Prop := ∃ A c, e = .returned (.slice A (cutL s).length c) ∧ (cutL s).length ≤ c ∧ Ss w' A (cutL s) ∧ Below w.heap.size w w'

theorem cutL_none {s : ByteArray} (h : ¬ Long s.size) : cutL s = [] := if_neg h
theorem cutL_one {s : ByteArray} (h : Long s.size) (h2 : s.size ≤ 240) : cutL s = [s] := (if_pos h).trans ((if_neg (by have := h.1; omega)).trans (if_pos h2))
theorem cutL_two {s : ByteArray} (h : Long s.size) (h2 : ¬ s.size ≤ 240) : cutL s = [s.extract 0 240, s.extract 240 s.size] := (if_pos h).trans ((if_neg (by have := h.1; omega)).trans (if_neg h2))

set_option maxHeartbeats 800000 in
theorem chRefCut_any (s : ByteArray) (w : World) (hs : s.size ≤ 140737488351232) : Calls Try.prog 13 #[.string s] w (ChRefCutPost w s) := by
  by_cases h1 : s.size ≤ 24
  · have HC := Lib.hid (cutL_none (s := s) fun h => by have := h.1; omega)
    go_enter Try.func13, Try.ntmps13
    go_wp2
    go_ret
    refine ⟨none, 0, ?_⟩
    rw [HC.out]
    exact ⟨rfl, Nat.le_refl _, Ls.nil _ _, Below.refl _ _⟩
  by_cases h4 : 400 < s.size
  · have HC := Lib.hid (cutL_none (s := s) fun h => by have := h.2; omega)
    go_enter Try.func13, Try.ntmps13
    go_wp2
    go_ret
    refine ⟨none, 0, ?_⟩
    rw [HC.out]
    exact ⟨rfl, Nat.le_refl _, Ls.nil _ _, Below.refl _ _⟩
  have hl : Long s.size := ⟨by omega, by omega⟩
  by_cases h2 : s.size ≤ 240
  · have HC := Lib.hid (cutL_one hl h2)
    clear hl
    go_enter Try.func13, Try.ntmps13
    go_wp2
    go_ret
    refine ⟨some ⟨w.heap.size, 0, none⟩, 1, ?_⟩
    rw [HC.out]
    exact ⟨rfl, Nat.le_refl _, ss_new w [s], (Below.refl _ _).alloc (Nat.le_refl _) _⟩
  · have HC := Lib.hid (cutL_two hl h2)
    clear hl
    go_enter Try.func13, Try.ntmps13
    go_wp2
    go_region
    all_goals
      go_wp2
      go_ret
      refine ⟨some ⟨w.heap.size, 0, none⟩, 2, ?_⟩
      rw [HC.out]
      exact ⟨rfl, Nat.le_refl _, ss_new _ [s.extract 0 240, s.extract 240 s.size], ((Below.refl _ _).drew).alloc (Nat.le_refl _) _⟩

theorem same_eq (a b : ByteArray) : (a.toList == b.toList) = decide (a = b) := by
  rw [Lib.toList_data, Lib.toList_data]
  by_cases h : a = b
  · subst h; simp
  · have : a.data.toList ≠ b.data.toList := by
      intro e
      apply h
      cases a; cases b
      congr 1
      exact Array.toList_inj.1 e
    have h2 : ¬ a.data = b.data := fun e => this (by rw [e])
    simp [h, h2]

set_option maxHeartbeats 400000 in
/-- same, of lists that are alike. -/
theorem chSame_any (A B : Option Addr) (n c d : Nat) (l : List ByteArray) (w : World) (hr : Ss w A l) (hs : Ss w B l) (hn : l.length = n) (hb : n ≤ 100000000000) :
    Calls Try.prog 11 #[.slice A n c, .slice B n d] w fun e w' => e = .returned (.bool true) ∧ Below w.heap.size w w' := by
  have Hn := Lib.hid hn
  clear hn
  go_enter Try.func11, Try.ntmps11
  go_wp2
  go_loopw [13] (fun i wr => ∃ k : Nat, k ≤ n ∧ i = .int .i64 k ∧ Below w.heap.size w wr) (fun i _ => n - (intOf i).toNat)
  case atStart => exact ⟨0, Nat.zero_le _, rfl, Below.refl _ _⟩
  case round =>
    obtain ⟨k, hk, rfl, hb⟩ := hrel
    by_cases hlt : k < n
    · obtain ⟨ad, x, rfl, hx, hl, h1⟩ := (hr.below hb).at_ (i := k) (by rw [Hn.out]; exact hlt)
      obtain ⟨ad2, x2, rfl, hx2, hl2, h12⟩ := (hs.below hb).at_ (i := k) (by rw [Hn.out]; exact hlt)
      rw [hx] at hx2
      obtain rfl : x = x2 := Option.some.inj hx2
      have hq : (x.toList == x.toList) = true := by rw [same_eq]; simp
      clear hx hx2
      go_wp2
      go_quiet (fail)
      go_wp2
      exact ⟨⟨k + 1, by omega, by go_num, below_drewN hb _⟩, by simp [intOf]; omega⟩
    · go_wp2
      go_ret
      exact ⟨rfl, hb⟩

theorem cat_snoc {l : List ByteArray} {k : Nat} {x : ByteArray} (h : l[k]? = some x) : cat (l.take (k + 1)) = cat (l.take k) ++ x := by
  apply ext_list
  show catL (l.take (k + 1)) = _
  rw [catL_snoc h]
  simp [cat, catL, ByteArray.data_append]
theorem cat_small {l : List ByteArray} (h2 : l.length ≤ 2) (hs : ∀ s ∈ l, s.size ≤ 2000) (k : Nat) : (cat (l.take k)).size ≤ 4000 := by
  have h : (catL l).length ≤ 4000 := by
    match l, h2, hs with
    | [], _, _ => simp [catL]
    | [s], _, hs =>
      have := hs s (by simp)
      have e : s.data.toList.length = s.size := rfl
      simp only [catL, List.flatMap_cons, List.flatMap_nil, List.append_nil]
      omega
    | [s, t], _, hs =>
      have := hs s (by simp)
      have := hs t (by simp)
      have e : s.data.toList.length = s.size := rfl
      have e' : t.data.toList.length = t.size := rfl
      simp only [catL, List.flatMap_cons, List.flatMap_nil, List.append_nil, List.length_append]
      omega
  have := catL_le l k
  have e : (cat (l.take k)).size = (catL (l.take k)).length := by
    show (catL (l.take k)).toArray.size = _
    simp
  omega

set_option maxHeartbeats 1600000 in
set_option maxRecDepth 100000 in
theorem chRefJoin_any (A : Option Addr) (n c : Nat) (z : Int) (l : List ByteArray) (w : World) (hr : Ss w A l) (hn : l.length = n) (hb : n ≤ 140737488351232) (hs : ∀ s ∈ l, s.size ≤ 2000) :
    Calls Try.prog 10 #[.slice A n c, .int .i64 z] w (ChJoinPost w l z) := by
  have Hn := Lib.hid hn
  have HS := Lib.hid hs
  clear hn hs
  by_cases h1 : z < 25
  · have HZ := Lib.hid (show ¬ Long z from fun h => by have := h.1; omega)
    go_enter Try.func10, Try.ntmps10
    go_wp2
    go_ret2
    refine ⟨?_, Below.refl _ _⟩
    rw [show joinS l z = ByteArray.empty from if_neg fun h => HZ.out h.1, show joinE l z = 4 from if_neg fun h => HZ.out h.1]
    rfl
  by_cases h4 : 400 < z
  · have HZ := Lib.hid (show ¬ Long z from fun h => by have := h.2; omega)
    go_enter Try.func10, Try.ntmps10
    go_wp2
    go_ret2
    refine ⟨?_, Below.refl _ _⟩
    rw [show joinS l z = ByteArray.empty from if_neg fun h => HZ.out h.1, show joinE l z = 4 from if_neg fun h => HZ.out h.1]
    rfl
  by_cases h2 : 2 < n
  · go_enter Try.func10, Try.ntmps10
    go_wp2
    go_ret2
    refine ⟨?_, Below.refl _ _⟩
    rw [show joinS l z = ByteArray.empty from if_neg fun h => (by have := h.2.1; rw [Hn.out] at this; omega), show joinE l z = 4 from if_neg fun h => (by have := h.2; rw [Hn.out] at this; omega)]
    rfl
  have HZ := Lib.hid (show Long z from ⟨by omega, by omega⟩)
  have HL := Lib.hid (show l.length ≤ 2 by rw [Hn.out]; omega)
  have HB := Lib.hid (cat_small HL.out HS.out)
  have no : ∀ e w', ¬ Fit l z → e = Ending.returned (.tuple #[.string ⟨#[]⟩, .int .i64 3]) → Below w.heap.size w w' → ChJoinPost w l z e w' := fun e w' hf he hb => by
    refine ⟨?_, hb⟩
    rw [show joinS l z = ByteArray.empty from if_neg fun h => hf h.2.2, show joinE l z = 3 from (if_pos ⟨HZ.out, HL.out⟩).trans (if_neg hf), he]
    rfl
  have yes : ∀ e w', Fit l z → e = Ending.returned (.tuple #[.string (cat l), .int .i64 0]) → Below w.heap.size w w' → ChJoinPost w l z e w' := fun e w' hf he hb => by
    refine ⟨?_, hb⟩
    rw [show joinS l z = cat l from if_pos ⟨HZ.out, HL.out, hf⟩, show joinE l z = 0 from (if_pos ⟨HZ.out, HL.out⟩).trans (if_pos hf), he]
  have NO := Lib.hid no
  have YES := Lib.hid yes
  clear no yes
  go_enter Try.func10, Try.ntmps10
  go_wp2
  go_loopw [6, 23] (fun v i wr => ∃ k : Nat, k ≤ n ∧ i = .int .i64 k ∧ v = .string (cat (l.take k)) ∧ wr = w) (fun _ i _ => n - (intOf i).toNat)
  case atStart => exact ⟨0, Nat.zero_le _, rfl, rfl, rfl⟩
  case round =>
    obtain ⟨k, hk, rfl, rfl, rfl⟩ := hrel
    by_cases hlt : k < n
    · obtain ⟨ad, x, rfl, hx, hl, h5⟩ := hr.at_ (i := k) (by rw [Hn.out]; exact hlt)
      have hcs := cat_snoc hx
      have h6 := HB.out k
      have h7 := HS.out x (List.mem_of_getElem? hx)
      have HC := Lib.hid hcs
      obtain ⟨y, hy⟩ : ∃ y, y = cat (l.take k) := ⟨_, rfl⟩
      rw [← hy] at h6 ⊢
      have HY := Lib.hid hy
      clear hcs hx hy
      go_wp2
      refine ⟨⟨k + 1, by omega, by go_num, ?_, by trivial⟩, by simp [intOf]; omega⟩
      rw [HC.out, ← HY.out]
    · have he : k = n := by omega
      subst he
      rw [List.take_of_length_le (by rw [Hn.out]; exact Nat.le_refl _)]
      have h6 := HB.out k
      rw [List.take_of_length_le (by rw [Hn.out]; exact Nat.le_refl _)] at h6
      obtain ⟨y, hy⟩ : ∃ y, y = cat l := ⟨_, rfl⟩
      rw [← hy] at h6 ⊢
      have HY := Lib.hid hy
      clear hy
      go_wp2_with fail
      refine (chRefCut_any y wr (by omega)).mono ?_
      rintro e w1 ⟨B, d, rfl, hd, hss, hb1⟩
      obtain ⟨q, hq⟩ : ∃ q, (cutL y).length = q := ⟨_, rfl⟩
      rw [hq] at hd ⊢
      have HQ := Lib.hid hq
      clear hq
      have HSS := Lib.hid hss
      clear hss
      by_cases hsz : (y.size : Int) = z
      · by_cases hlen : q = k
        · subst hlen
          have HSZ := Lib.hid hsz
          go_wp2
          go_loopw [48] (fun i w2 => ∃ k2 : Nat, k2 ≤ q ∧ i = .int .i64 k2 ∧ Below w1.heap.size w1 w2 ∧ ∀ j : Nat, j < k2 → (cutL y)[j]? = l[j]?) (fun i _ => q - (intOf i).toNat)
          case atStart => exact ⟨0, Nat.zero_le _, rfl, Below.refl _ _, fun j hj => absurd hj (by omega)⟩
          case round =>
            obtain ⟨k2, hk2, rfl, hb2, hall⟩ := hrel
            have HA := Lib.hid hall
            clear hall
            have hb12 := bthen hb1 hb2
            by_cases hlt2 : k2 < q
            · obtain ⟨ad, x, rfl, hx, hl, h5⟩ := (HSS.out.below hb2).at_ (i := k2) (by rw [HQ.out]; exact hlt2)
              obtain ⟨ad2, x2, rfl, hx2, hl2, h52⟩ := (hr.below hb12).at_ (i := k2) (by rw [Hn.out]; exact hlt2)
              have hsm := same_eq x x2
              have Hx := Lib.hid hx
              have Hx2 := Lib.hid hx2
              clear hx hx2
              by_cases hxx : x = x2
              · rw [decide_eq_true hxx] at hsm
                have Hxx := Lib.hid hxx
                clear hxx
                go_wp2
                go_quiet (fail)
                go_wp2
                refine ⟨⟨k2 + 1, by omega, by go_num, below_drewN hb2 _, fun j hj => ?_⟩, by simp [intOf]; omega⟩
                rcases Nat.lt_or_ge j k2 with h | h
                · exact HA.out j h
                · have : j = k2 := by omega
                  subst this
                  rw [Hx.out, Hx2.out, Hxx.out]
              · rw [decide_eq_false hxx] at hsm
                have Hxx := Lib.hid hxx
                clear hxx
                go_wp2
                go_quiet (fail)
                go_wp2
                go_ret2
                refine NO.out _ _ (fun h => ?_) rfl (below_drewN hb12 _)
                have := ((ref_iff HZ.out).1 h).2
                rw [← HY.out] at this
                have e1 := Hx.out
                rw [this, Hx2.out] at e1
                exact Hxx.out (Option.some.inj e1).symm
            · have he2 : k2 = q := by omega
              subst he2
              go_wp2
              go_ret2
              refine YES.out _ _ ((ref_iff HZ.out).2 ?_) (by rw [← HY.out]; rfl) hb12
              rw [← HY.out]
              refine ⟨HSZ.out, List.ext_getElem? fun j => ?_⟩
              rcases Nat.lt_or_ge j k2 with h | h
              · exact HA.out j h
              · rw [List.getElem?_eq_none (by rw [HQ.out]; exact h), List.getElem?_eq_none (by rw [Hn.out]; exact h)]
        · have HN := Lib.hid (show ¬ Fit l z from fun h => hlen (by
            have := ((ref_iff HZ.out).1 h).2
            rw [← HY.out] at this
            rw [← HQ.out, this]
            exact Hn.out))
          go_wp2
          go_ret2
          exact NO.out _ _ HN.out rfl hb1
      · have HN := Lib.hid (show ¬ Fit l z from fun h => hsz (by
          have := ((ref_iff HZ.out).1 h).1
          rw [← HY.out] at this
          exact this))
        go_wp2
        go_ret2
        exact NO.out _ _ HN.out rfl hb1

end Go.Proofs.Ytalhnmaecnielaa
