/-
  The contract of the reference's Newest of layer 6: the same list as meta.Newest's; conditions: the texts are no longer than 10^9 bytes.
-/
import Derived.Test.YtcgmaiadipiegaaDoorMetaNewR
namespace Go.Proofs.YtcgmaiadipiegaaDoor
open Go.RowKit Go.Sort
set_option linter.unusedVariables false
set_option linter.unusedSimpArgs false

theorem pick_yes {s : Int} {l : List UInt8} {m : MT} (hd : decM l = some m) (hs : slotI m.e = s) : pickM s l = [m] := by rw [pickM, hd]; simp [hs]
theorem pick_no {s : Int} {l : List UInt8} {m : MT} (hd : decM l = some m) (hs : slotI m.e ≠ s) : pickM s l = [] := by rw [pickM, hd]; simp [hs]
theorem pick_none {s : Int} {l : List UInt8} (hd : decM l = none) : pickM s l = [] := by rw [pickM, hd]
/-- append(l, m) behind a world, at once with what it keeps. -/
theorem append_rm2 (ty : TypeId) {W0 W : World} {v : Value} {l : List MT} (h : OwnL pcM 23 2 W W0.heap.size v l) (hb : Below W0.heap.size W0 W) (x y : Int) (hl : l.length ≤ 1000000) :
    ∃ v' w', (Builtin.append_ #[40, 40] ty #[v, .slice (some ⟨W.heap.size, 0, none⟩) 1 1]).run Tryd.prog (W.alloc (.cells #[.int .i64 x, .int .i64 y] 23)) = .ok v' w' ∧ OwnL pcM 23 2 w' W0.heap.size v' (l ++ [⟨x, y⟩]) ∧ Below W0.heap.size W0 w' := by
  obtain ⟨v', w', h1, h2, h3⟩ := append_rmeta ty h hb.size x y hl
  have hba : Below W.heap.size W (W.alloc (.cells #[.int .i64 x, .int .i64 y] 23)) := (Below.refl _ _).alloc (Nat.le_refl _) _
  have hbwa := bthen hb hba
  exact ⟨v', w', h1, h2, (h.below hba).grow_below hbwa hbwa.size h3⟩
/-- A list of two, just built. -/
theorem own_two (W : World) (base : Nat) (hb : base ≤ W.heap.size) (a b c d : Int) : OwnL pcM 23 2 (W.alloc (.cells #[.int .i64 a, .int .i64 b, .int .i64 c, .int .i64 d] 23)) base (.slice (some ⟨W.heap.size, 0, none⟩) 2 2) [⟨a, b⟩, ⟨c, d⟩] :=
  ⟨rfl, .inr ⟨_, 2, _, rfl, hb, heap_alloc_new W _, Nat.le_refl _, by simp [maxLen], rfl, rfl⟩⟩

set_option maxRecDepth 100000 in
set_option maxHeartbeats 4000000 in
theorem mtRefNewest_any (a b : ByteArray) (w : World) (ha : a.size ≤ 1000000000) (hb : b.size ≤ 1000000000) :
    Calls Tryd.prog 23 #[.string a, .string b] w fun e w' => ∃ v, e = .returned v ∧ OwnL pcM 23 2 w' w.heap.size v (newM a.data.toList b.data.toList) ∧ Below w.heap.size w w' := by
  go_enter Tryd.func23, Tryd.ntmps23
  go_wp2_with fail
  refine (mtRefDecode_any a w ha).mono ?_
  rintro e w1 ⟨rfl, hb1⟩
  rcases dec_cases a.data.toList with ⟨⟨x, y⟩, hok, henc, hd, h1, h2⟩ | ⟨hd, h1, h2⟩
  · rw [h1, h2]
    unfold metaV
    simp only
    have hI := (okM_mi hok).1
    simp only at hI
    have hx0 := hI.1
    have hx1 := hI.2
    obtain ⟨U, hU⟩ : ∃ U, U = w1.alloc (.cells #[.int .i64 x, .int .i64 y] 23) := ⟨_, rfl⟩
    have HBU : Hid (Below w.heap.size w U) := by
      show Below _ _ _
      rw [hU]
      exact bthen hb1 ((Below.refl _ _).alloc (Nat.le_refl _) _)
    have HU := Lib.hid hU
    clear hU hb1 h1 h2
    go_wp2_with fail
    rw [← HU.out]
    refine (mtRefDecode_any b U hb).mono ?_
    rintro e w2 ⟨rfl, hb2⟩
    rcases dec_cases b.data.toList with ⟨⟨x', y'⟩, hok', henc', hd', h1, h2⟩ | ⟨hd', h1, h2⟩
    · rw [h1, h2]
      unfold metaV
      simp only
      have hI' := (okM_mi hok').1
      simp only at hI'
      have hx0' := hI'.1
      have hx1' := hI'.2
      obtain ⟨V, hV⟩ : ∃ V, V = w2.alloc (.cells #[.int .i64 x', .int .i64 y'] 23) := ⟨_, rfl⟩
      have hbUV : Below U.heap.size U V := by
        rw [hV]
        exact bthen hb2 ((Below.refl _ _).alloc (Nat.le_refl _) _)
      have hsU : w1.heap.size < V.heap.size := box_lt (w := w1) (x := .cells #[.int .i64 x, .int .i64 y] 23) (by rw [← HU.out]; exact hbUV)
      have hsV : w2.heap.size < V.heap.size := by rw [hV]; simp
      have hs12 : w1.heap.size < w2.heap.size := box_lt (w := w1) (x := .cells #[.int .i64 x, .int .i64 y] 23) (by rw [← HU.out]; exact hb2)
      have p2 : w2.cell? ⟨w1.heap.size, 0, none⟩ = some (.int .i64 x) := box_at (w := w1) (cs := #[.int .i64 x, .int .i64 y]) (t := 23) (by rw [← HU.out]; exact hb2) 0 _ rfl
      have p0 : V.cell? ⟨w1.heap.size, 0, none⟩ = some (.int .i64 x) := box_at (w := w1) (cs := #[.int .i64 x, .int .i64 y]) (t := 23) (by rw [← HU.out]; exact hbUV) 0 _ rfl
      have p1 : V.cell? ⟨w1.heap.size, 1, none⟩ = some (.int .i64 y) := box_at (w := w1) (cs := #[.int .i64 x, .int .i64 y]) (t := 23) (by rw [← HU.out]; exact hbUV) 1 _ rfl
      have q0 : V.cell? ⟨w2.heap.size, 0, none⟩ = some (.int .i64 x') := by rw [hV]; exact box_at (Below.refl _ _) 0 _ rfl
      have q1 : V.cell? ⟨w2.heap.size, 1, none⟩ = some (.int .i64 y') := by rw [hV]; exact box_at (Below.refl _ _) 1 _ rfl
      have HBV : Hid (Below w.heap.size w V) := bthen HBU.out hbUV
      have HBW : Hid (w.heap.size ≤ V.heap.size) := HBV.out.size
      have HV := Lib.hid hV
      clear hV hb2 hbUV h1 h2
      obtain ⟨s, hs⟩ : ∃ s, s = slotI x := ⟨_, rfl⟩
      have HSL := Lib.hid hs
      go_wp2_with fail
      rw [← HV.out]
      refine (mtRefSlot_any x V hI).mono ?_
      rintro e w3 ⟨rfl, rfl⟩
      rw [← hs]
      clear hs
      by_cases hse : s = 0
      · have HS1 : Hid (slotI (⟨x, y⟩ : MT).e = 0) := by show slotI x = 0; rw [← HSL.out, hse]
        obtain ⟨v3, w3, hrun3, ho3, hb3⟩ := append_rm2 40 (OwnL.nil_ (f := pcM) (k := 2) 23 V V.heap.size) (Below.refl _ _) x y (by simp)
        have HR1 := Lib.hid hrun3
        have ho3' : OwnL pcM 23 2 w3 V.heap.size v3 [⟨x, y⟩] := ho3
        obtain ⟨A3, c3, rfl, hc3, hl3⟩ : ∃ A c, v3 = .slice A 1 c ∧ 1 ≤ c ∧ Ls pcM w3 A [⟨x, y⟩] := ho3'.form
        have HO3 := Lib.hid ho3'
        have P0 := (hb3.cell (p := ⟨w1.heap.size, 0, none⟩) hsU).trans p0
        have P1 := (hb3.cell (p := ⟨w1.heap.size, 1, none⟩) hsU).trans p1
        have Q0 := (hb3.cell (p := ⟨w2.heap.size, 0, none⟩) hsV).trans q0
        have Q1 := (hb3.cell (p := ⟨w2.heap.size, 1, none⟩) hsV).trans q1
        have HBS : Hid (Below w.heap.size w w3) := bthen HBV.out hb3
        clear hrun3 ho3 ho3' hl3 hb3
        subst hse
        go_wp2_with (at_builtin; refine wpList_append_ran rfl (.tmp 28) (.tmp 30) 40 rfl _ _ _ _ rfl rfl HR1.out ?_)
        refine (mtRefSlot_any x' w3 hI').mono ?_
        rintro e w4 ⟨rfl, rfl⟩
        obtain ⟨s', hs'⟩ : ∃ s, s = slotI x' := ⟨_, rfl⟩
        have HSL' := Lib.hid hs'
        rw [← hs']
        clear hs'
        by_cases hse' : s' = 1
        · by_cases hgt : x < x'
          · have HN : Hid (newM a.data.toList b.data.toList = [⟨x', y'⟩, ⟨x, y⟩]) := by
              show newM _ _ = _
              rw [newM, pick_yes hd HS1.out, pick_yes hd' (by simp only; rw [← HSL'.out, hse'])]
              exact if_pos hgt
            have HOW := Lib.hid (own_two w3 w.heap.size HBS.out.size x' y' x y)
            have HBE : Hid (Below w.heap.size w (w3.alloc (.cells #[.int .i64 x', .int .i64 y', .int .i64 x, .int .i64 y] 23))) := bthen HBS.out ((Below.refl _ _).alloc (Nat.le_refl _) _)
            clear hd hd'
            subst hse'
            go_wp2
            go_ret
            refine ⟨_, rfl, ?_, HBE.out⟩
            rw [HN.out]
            exact HOW.out
          · have HN : Hid (newM a.data.toList b.data.toList = [⟨x, y⟩, ⟨x', y'⟩]) := by
              show newM _ _ = _
              rw [newM, pick_yes hd HS1.out, pick_yes hd' (by simp only; rw [← HSL'.out, hse'])]
              exact if_neg hgt
            obtain ⟨v9, w9, hrun9, ho9, hb9⟩ := append_rm2 40 (HO3.out.mono HBW.out) HBS.out x' y' (by simp)
            have HR2 := Lib.hid hrun9
            have HO9 : Hid (OwnL pcM 23 2 w9 w.heap.size v9 [⟨x, y⟩, ⟨x', y'⟩]) := ho9
            have HB9 := Lib.hid hb9
            clear hd hd' hrun9 ho9 hb9
            subst hse'
            go_wp2_with (at_builtin; refine wpList_append_ran rfl (.tmp 53) (.tmp 55) 40 rfl _ _ _ _ rfl rfl HR2.out ?_)
            go_ret
            refine ⟨_, rfl, ?_, HB9.out⟩
            rw [HN.out]
            exact HO9.out
        · have HN : Hid (newM a.data.toList b.data.toList = [⟨x, y⟩]) := by
            show newM _ _ = _
            rw [newM, pick_yes hd HS1.out, pick_no hd' (by simp only; rw [← HSL'.out]; exact hse')]
            rfl
          have hne' : (s' == 1) = false := by simpa using hse'
          clear hd hd'
          go_wp2
          go_ret
          refine ⟨_, rfl, ?_, HBS.out⟩
          rw [HN.out]
          exact HO3.out.mono HBW.out
      · have HS1 : Hid (slotI (⟨x, y⟩ : MT).e ≠ 0) := by show slotI x ≠ 0; rw [← HSL.out]; exact hse
        have HO3 := Lib.hid (OwnL.nil_ (f := pcM) (k := 2) 23 V V.heap.size)
        have HBS := HBV
        have hne : (s == 0) = false := by simpa using hse
        go_wp2_with fail
        refine (mtRefSlot_any x' V hI').mono ?_
        rintro e w4 ⟨rfl, rfl⟩
        obtain ⟨s', hs'⟩ : ∃ s, s = slotI x' := ⟨_, rfl⟩
        have HSL' := Lib.hid hs'
        rw [← hs']
        clear hs'
        by_cases hse' : s' = 1
        · have HN : Hid (newM a.data.toList b.data.toList = [⟨x', y'⟩]) := by
            show newM _ _ = _
            rw [newM, pick_no hd HS1.out, pick_yes hd' (by simp only; rw [← HSL'.out, hse'])]
            rfl
          obtain ⟨v9, w9, hrun9, ho9, hb9⟩ := append_rm2 40 (HO3.out.mono HBW.out) HBS.out x' y' (by simp)
          have HR2 := Lib.hid hrun9
          have HO9 : Hid (OwnL pcM 23 2 w9 w.heap.size v9 [⟨x', y'⟩]) := ho9
          have HB9 := Lib.hid hb9
          clear hd hd' hrun9 ho9 hb9
          subst hse'
          go_wp2_with (at_builtin; refine wpList_append_ran rfl (.tmp 53) (.tmp 55) 40 rfl _ _ _ _ rfl rfl HR2.out ?_)
          go_ret
          refine ⟨_, rfl, ?_, HB9.out⟩
          rw [HN.out]
          exact HO9.out
        · have HN : Hid (newM a.data.toList b.data.toList = []) := by
            show newM _ _ = _
            rw [newM, pick_no hd HS1.out, pick_no hd' (by simp only; rw [← HSL'.out]; exact hse')]
            rfl
          have hne' : (s' == 1) = false := by simpa using hse'
          clear hd hd'
          go_wp2
          go_ret
          refine ⟨_, rfl, ?_, HBS.out⟩
          rw [HN.out]
          exact HO3.out.mono HBW.out
    · rw [h1, h2]
      unfold metaV
      simp only
      obtain ⟨V, hV⟩ : ∃ V, V = w2.alloc (.cells #[.int .i64 0, .int .i64 0] 23) := ⟨_, rfl⟩
      have hbUV : Below U.heap.size U V := by
        rw [hV]
        exact bthen hb2 ((Below.refl _ _).alloc (Nat.le_refl _) _)
      have hsU : w1.heap.size < V.heap.size := box_lt (w := w1) (x := .cells #[.int .i64 x, .int .i64 y] 23) (by rw [← HU.out]; exact hbUV)
      have hsV : w2.heap.size < V.heap.size := by rw [hV]; simp
      have hs12 : w1.heap.size < w2.heap.size := box_lt (w := w1) (x := .cells #[.int .i64 x, .int .i64 y] 23) (by rw [← HU.out]; exact hb2)
      have p2 : w2.cell? ⟨w1.heap.size, 0, none⟩ = some (.int .i64 x) := box_at (w := w1) (cs := #[.int .i64 x, .int .i64 y]) (t := 23) (by rw [← HU.out]; exact hb2) 0 _ rfl
      have p0 : V.cell? ⟨w1.heap.size, 0, none⟩ = some (.int .i64 x) := box_at (w := w1) (cs := #[.int .i64 x, .int .i64 y]) (t := 23) (by rw [← HU.out]; exact hbUV) 0 _ rfl
      have p1 : V.cell? ⟨w1.heap.size, 1, none⟩ = some (.int .i64 y) := box_at (w := w1) (cs := #[.int .i64 x, .int .i64 y]) (t := 23) (by rw [← HU.out]; exact hbUV) 1 _ rfl
      have q0 : V.cell? ⟨w2.heap.size, 0, none⟩ = some (.int .i64 0) := by rw [hV]; exact box_at (Below.refl _ _) 0 _ rfl
      have q1 : V.cell? ⟨w2.heap.size, 1, none⟩ = some (.int .i64 0) := by rw [hV]; exact box_at (Below.refl _ _) 1 _ rfl
      have HBV : Hid (Below w.heap.size w V) := bthen HBU.out hbUV
      have HBW : Hid (w.heap.size ≤ V.heap.size) := HBV.out.size
      have HV := Lib.hid hV
      clear hV hb2 hbUV h1 h2
      obtain ⟨s, hs⟩ : ∃ s, s = slotI x := ⟨_, rfl⟩
      have HSL := Lib.hid hs
      go_wp2_with fail
      rw [← HV.out]
      refine (mtRefSlot_any x V hI).mono ?_
      rintro e w3 ⟨rfl, rfl⟩
      rw [← hs]
      clear hs
      by_cases hse : s = 0
      · have HS1 : Hid (slotI (⟨x, y⟩ : MT).e = 0) := by show slotI x = 0; rw [← HSL.out, hse]
        obtain ⟨v3, w3, hrun3, ho3, hb3⟩ := append_rm2 40 (OwnL.nil_ (f := pcM) (k := 2) 23 V V.heap.size) (Below.refl _ _) x y (by simp)
        have HR1 := Lib.hid hrun3
        have ho3' : OwnL pcM 23 2 w3 V.heap.size v3 [⟨x, y⟩] := ho3
        obtain ⟨A3, c3, rfl, hc3, hl3⟩ : ∃ A c, v3 = .slice A 1 c ∧ 1 ≤ c ∧ Ls pcM w3 A [⟨x, y⟩] := ho3'.form
        have HO3 := Lib.hid ho3'
        have P0 := (hb3.cell (p := ⟨w1.heap.size, 0, none⟩) hsU).trans p0
        have P1 := (hb3.cell (p := ⟨w1.heap.size, 1, none⟩) hsU).trans p1
        have Q0 := (hb3.cell (p := ⟨w2.heap.size, 0, none⟩) hsV).trans q0
        have Q1 := (hb3.cell (p := ⟨w2.heap.size, 1, none⟩) hsV).trans q1
        have HBS : Hid (Below w.heap.size w w3) := bthen HBV.out hb3
        clear hrun3 ho3 ho3' hl3 hb3
        subst hse
        have HN : Hid (newM a.data.toList b.data.toList = [⟨x, y⟩]) := by
          show newM _ _ = _
          rw [newM, pick_yes hd HS1.out, pick_none hd']
          rfl
        clear hd hd'
        go_wp2_with (at_builtin; refine wpList_append_ran rfl (.tmp 28) (.tmp 30) 40 rfl _ _ _ _ rfl rfl HR1.out ?_)
        go_ret
        refine ⟨_, rfl, ?_, HBS.out⟩
        rw [HN.out]
        exact HO3.out.mono HBW.out
      · have HS1 : Hid (slotI (⟨x, y⟩ : MT).e ≠ 0) := by show slotI x ≠ 0; rw [← HSL.out]; exact hse
        have HO3 := Lib.hid (OwnL.nil_ (f := pcM) (k := 2) 23 V V.heap.size)
        have HBS := HBV
        have hne : (s == 0) = false := by simpa using hse
        have HN : Hid (newM a.data.toList b.data.toList = []) := by
          show newM _ _ = _
          rw [newM, pick_no hd HS1.out, pick_none hd']
          rfl
        clear hd hd'
        go_wp2
        go_ret
        refine ⟨_, rfl, ?_, HBS.out⟩
        rw [HN.out]
        exact HO3.out.mono HBW.out
  · rw [h1, h2]
    unfold metaV
    simp only
    obtain ⟨U, hU⟩ : ∃ U, U = w1.alloc (.cells #[.int .i64 0, .int .i64 0] 23) := ⟨_, rfl⟩
    have HBU : Hid (Below w.heap.size w U) := by
      show Below _ _ _
      rw [hU]
      exact bthen hb1 ((Below.refl _ _).alloc (Nat.le_refl _) _)
    have HU := Lib.hid hU
    clear hU hb1 h1 h2
    go_wp2_with fail
    rw [← HU.out]
    refine (mtRefDecode_any b U hb).mono ?_
    rintro e w2 ⟨rfl, hb2⟩
    rcases dec_cases b.data.toList with ⟨⟨x', y'⟩, hok', henc', hd', h1, h2⟩ | ⟨hd', h1, h2⟩
    · rw [h1, h2]
      unfold metaV
      simp only
      have hI' := (okM_mi hok').1
      simp only at hI'
      have hx0' := hI'.1
      have hx1' := hI'.2
      obtain ⟨V, hV⟩ : ∃ V, V = w2.alloc (.cells #[.int .i64 x', .int .i64 y'] 23) := ⟨_, rfl⟩
      have hbUV : Below U.heap.size U V := by
        rw [hV]
        exact bthen hb2 ((Below.refl _ _).alloc (Nat.le_refl _) _)
      have hsU : w1.heap.size < V.heap.size := box_lt (w := w1) (x := .cells #[.int .i64 0, .int .i64 0] 23) (by rw [← HU.out]; exact hbUV)
      have hsV : w2.heap.size < V.heap.size := by rw [hV]; simp
      have hs12 : w1.heap.size < w2.heap.size := box_lt (w := w1) (x := .cells #[.int .i64 0, .int .i64 0] 23) (by rw [← HU.out]; exact hb2)
      have p2 : w2.cell? ⟨w1.heap.size, 0, none⟩ = some (.int .i64 0) := box_at (w := w1) (cs := #[.int .i64 0, .int .i64 0]) (t := 23) (by rw [← HU.out]; exact hb2) 0 _ rfl
      have p0 : V.cell? ⟨w1.heap.size, 0, none⟩ = some (.int .i64 0) := box_at (w := w1) (cs := #[.int .i64 0, .int .i64 0]) (t := 23) (by rw [← HU.out]; exact hbUV) 0 _ rfl
      have p1 : V.cell? ⟨w1.heap.size, 1, none⟩ = some (.int .i64 0) := box_at (w := w1) (cs := #[.int .i64 0, .int .i64 0]) (t := 23) (by rw [← HU.out]; exact hbUV) 1 _ rfl
      have q0 : V.cell? ⟨w2.heap.size, 0, none⟩ = some (.int .i64 x') := by rw [hV]; exact box_at (Below.refl _ _) 0 _ rfl
      have q1 : V.cell? ⟨w2.heap.size, 1, none⟩ = some (.int .i64 y') := by rw [hV]; exact box_at (Below.refl _ _) 1 _ rfl
      have HBV : Hid (Below w.heap.size w V) := bthen HBU.out hbUV
      have HBW : Hid (w.heap.size ≤ V.heap.size) := HBV.out.size
      have HV := Lib.hid hV
      clear hV hb2 hbUV h1 h2
      have HO3 := Lib.hid (OwnL.nil_ (f := pcM) (k := 2) 23 V V.heap.size)
      have HBS := HBV
      go_wp2_with fail
      rw [← HV.out]
      refine (mtRefSlot_any x' V hI').mono ?_
      rintro e w4 ⟨rfl, rfl⟩
      obtain ⟨s', hs'⟩ : ∃ s, s = slotI x' := ⟨_, rfl⟩
      have HSL' := Lib.hid hs'
      rw [← hs']
      clear hs'
      by_cases hse' : s' = 1
      · have HN : Hid (newM a.data.toList b.data.toList = [⟨x', y'⟩]) := by
          show newM _ _ = _
          rw [newM, pick_none hd, pick_yes hd' (by simp only; rw [← HSL'.out, hse'])]
          rfl
        obtain ⟨v9, w9, hrun9, ho9, hb9⟩ := append_rm2 40 (HO3.out.mono HBW.out) HBS.out x' y' (by simp)
        have HR2 := Lib.hid hrun9
        have HO9 : Hid (OwnL pcM 23 2 w9 w.heap.size v9 [⟨x', y'⟩]) := ho9
        have HB9 := Lib.hid hb9
        clear hd hd' hrun9 ho9 hb9
        subst hse'
        go_wp2_with (at_builtin; refine wpList_append_ran rfl (.tmp 53) (.tmp 55) 40 rfl _ _ _ _ rfl rfl HR2.out ?_)
        go_ret
        refine ⟨_, rfl, ?_, HB9.out⟩
        rw [HN.out]
        exact HO9.out
      · have HN : Hid (newM a.data.toList b.data.toList = []) := by
          show newM _ _ = _
          rw [newM, pick_none hd, pick_no hd' (by simp only; rw [← HSL'.out]; exact hse')]
          rfl
        have hne' : (s' == 1) = false := by simpa using hse'
        clear hd hd'
        go_wp2
        go_ret
        refine ⟨_, rfl, ?_, HBS.out⟩
        rw [HN.out]
        exact HO3.out.mono HBW.out
    · rw [h1, h2]
      unfold metaV
      simp only
      obtain ⟨V, hV⟩ : ∃ V, V = w2.alloc (.cells #[.int .i64 0, .int .i64 0] 23) := ⟨_, rfl⟩
      have hbUV : Below U.heap.size U V := by
        rw [hV]
        exact bthen hb2 ((Below.refl _ _).alloc (Nat.le_refl _) _)
      have hsU : w1.heap.size < V.heap.size := box_lt (w := w1) (x := .cells #[.int .i64 0, .int .i64 0] 23) (by rw [← HU.out]; exact hbUV)
      have hsV : w2.heap.size < V.heap.size := by rw [hV]; simp
      have hs12 : w1.heap.size < w2.heap.size := box_lt (w := w1) (x := .cells #[.int .i64 0, .int .i64 0] 23) (by rw [← HU.out]; exact hb2)
      have p2 : w2.cell? ⟨w1.heap.size, 0, none⟩ = some (.int .i64 0) := box_at (w := w1) (cs := #[.int .i64 0, .int .i64 0]) (t := 23) (by rw [← HU.out]; exact hb2) 0 _ rfl
      have p0 : V.cell? ⟨w1.heap.size, 0, none⟩ = some (.int .i64 0) := box_at (w := w1) (cs := #[.int .i64 0, .int .i64 0]) (t := 23) (by rw [← HU.out]; exact hbUV) 0 _ rfl
      have p1 : V.cell? ⟨w1.heap.size, 1, none⟩ = some (.int .i64 0) := box_at (w := w1) (cs := #[.int .i64 0, .int .i64 0]) (t := 23) (by rw [← HU.out]; exact hbUV) 1 _ rfl
      have q0 : V.cell? ⟨w2.heap.size, 0, none⟩ = some (.int .i64 0) := by rw [hV]; exact box_at (Below.refl _ _) 0 _ rfl
      have q1 : V.cell? ⟨w2.heap.size, 1, none⟩ = some (.int .i64 0) := by rw [hV]; exact box_at (Below.refl _ _) 1 _ rfl
      have HBV : Hid (Below w.heap.size w V) := bthen HBU.out hbUV
      have HBW : Hid (w.heap.size ≤ V.heap.size) := HBV.out.size
      have HV := Lib.hid hV
      clear hV hb2 hbUV h1 h2
      have HO3 := Lib.hid (OwnL.nil_ (f := pcM) (k := 2) 23 V V.heap.size)
      have HBS := HBV
      have HN : Hid (newM a.data.toList b.data.toList = []) := by
        show newM _ _ = _
        rw [newM, pick_none hd, pick_none hd']
        rfl
      clear hd hd'
      go_wp2
      rw [← HV.out]
      go_ret
      refine ⟨_, rfl, ?_, HBS.out⟩
      rw [HN.out]
      exact HO3.out.mono HBW.out

end Go.Proofs.YtcgmaiadipiegaaDoor
