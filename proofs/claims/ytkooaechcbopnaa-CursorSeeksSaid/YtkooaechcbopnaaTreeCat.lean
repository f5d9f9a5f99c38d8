/-
  The contracts of slices.Grow (of nil) and slices.Concat, for entries and for pointers to nodes; conditions: the slices can be read, few elements.
-/
import Derived.Test.YtkooaechcbopnaaNodeBranch
import Derived.Lib.AppendZeros
namespace Go.Proofs.Ytkooaechcbopnaa
open Go.RowKit Go.Sort
set_option linter.unusedVariables false

/-- A list of pointers among others: where it lies, its capacity. -/
structure PartP where
  A : Option Addr
  c : Nat
  l : List (Option Nat)
def pallP (ps : List PartP) : List (Option Nat) := ps.flatMap (·.l)
theorem pallP_snoc {ps : List PartP} {k : Nat} {p : PartP} (h : ps[k]? = some p) : pallP (ps.take (k + 1)) = pallP (ps.take k) ++ p.l := by
  rw [List.take_add_one, h]
  simp [pallP]
theorem OwnP.made (w : World) (base c : Nat) (cur : Array Value) (hb : base ≤ w.heap.size) (hc : c ≤ maxLen) (hs : cur.size = c * 1) : OwnP (w.alloc (.cells cur 26)) base (.slice (some ⟨w.heap.size, 0, none⟩) 0 c) [] :=
  ⟨by simp, .inr ⟨w.heap.size, c, cur, rfl, hb, heap_alloc_new w _, Nat.zero_le _, hc, hs, by simp⟩⟩
theorem Own.madeAt (w : World) (base c : Nat) (cur : Array Value) (hb : base ≤ w.heap.size) (hc : c ≤ maxLen) (hs : cur.size = c * 2) : Own (w.alloc (.cells cur 39)) base (.slice (some ⟨w.heap.size, 0, none⟩) 0 c) [] :=
  ⟨rfl, .inr ⟨w.heap.size, c, cur, rfl, hb, heap_alloc_new w _, Nat.zero_le _, hc, hs, by simp [ecells]⟩⟩

set_option maxHeartbeats 800000 in
set_option maxRecDepth 100000 in
theorem growP_any (n : Nat) (w : World) (hb : n ≤ 100000) : Calls Try.prog 77 #[.slice none 0 0, .int .i64 (n : Int)] w fun e w' => ∃ v, e = .returned v ∧ OwnP w' w.heap.size v [] ∧ Below w.heap.size w w' := by
  rcases Nat.eq_zero_or_pos n with rfl | hn
  · go_enter Try.func77, Try.ntmps77
    go_wp2
    go_ret
    exact ⟨_, rfl, OwnL.nil_ _ _ _, Below.refl _ _⟩
  · obtain ⟨i0, hi0, hz0, hz1, hz2⟩ := info_parts ptrInfo
    have hrun := Lib.run_append_nil_zeros (P := Try.prog) w 63 3 63 26 i0 _ .i64 .i64 Try.underlying63 Try.underlying3 hi0 hz0 n hn (by rw [hz1]; omega) (by omega) (by rw [hz2]; omega)
    have hcap := grownCap_le_maxLen w n 0 26 (by simp only [maxLen]; omega)
    have hge := grownCap_ge w n 0 26
    generalize grownCap w n 0 26 = c at *
    obtain ⟨cur, hcur⟩ : ∃ cur, cur = Builtin.zeroCells (.pointer none : Value).cells n ++ Builtin.zeroCells (.pointer none : Value).cells (c - n) := ⟨_, rfl⟩
    have hsz : cur.size = c * 1 := by
      rw [hcur, Array.size_append, size_zeroCells, size_zeroCells, show (.pointer none : Value).cells.size = 1 from rfl, ← Nat.add_mul]
      rw [show n + (c - n) = c by omega]
    rw [← hcur] at hrun
    clear hcur hz0 hz1 hz2 hi0
    have HO := Lib.hid (OwnP.made w.drew w.heap.size c cur (Nat.le_refl _) hcap hsz)
    have hb1 : Below w.heap.size w (w.drew.alloc (.cells cur 26)) := ((Below.refl _ _).drew).alloc (Nat.le_refl _) _
    have HB := Lib.hid hb1
    have HR := Lib.hid hrun
    clear hrun hb1 hsz hge
    go_enter Try.func77, Try.ntmps77
    go_wp2_with (at_builtin; refine Lib.wpList_append_run _ rfl (.tmp 20) (.tmp 21) 63 3 rfl _ _ rfl rfl _ _ HR.out ?_)
    go_ret
    exact ⟨_, rfl, HO.out, HB.out⟩

set_option maxHeartbeats 800000 in
set_option maxRecDepth 100000 in
theorem concatP_any (ad : Addr) (K c : Nat) (ps : List PartP) (w : World) (hlt : ad.block < w.heap.size) (hK : ps.length = K) (hc : ∀ j p, ps[j]? = some p → w.cell? (ad.add j) = some (.slice p.A p.l.length p.c) ∧ Ls pcP w p.A p.l)
    (hb : (pallP ps).length ≤ 100000) (hKb : K ≤ 100000) :
    Calls Try.prog 67 #[.slice (some ad) K c] w fun e w' => ∃ v, e = .returned v ∧ OwnP w' w.heap.size v (pallP ps) ∧ Below w.heap.size w w' := by
  have HK := Lib.hid hK
  have HC := Lib.hid hc
  clear hK hc
  have hsub : ∀ k p, ps[k]? = some p → (pallP (ps.take k)).length + p.l.length ≤ 100000 := by
    intro k p hp
    have h1 := pallP_snoc hp
    have h2 : pallP ps = pallP (ps.take (k + 1)) ++ pallP (ps.drop (k + 1)) := by
      unfold pallP
      rw [← List.flatMap_append, List.take_append_drop]
    rw [h2, h1] at hb
    simp at hb
    omega
  have HS := Lib.hid hsub
  clear hsub
  go_enter Try.func67, Try.ntmps67
  go_wp2
  go_loop [3, 11] (fun s3 s11 => ∃ k : Nat, k ≤ K ∧ s11 = .int .i64 k ∧ s3 = .int .i64 (pallP (ps.take k)).length) (fun _ s11 => K - (intOf s11).toNat)
  case atStart => exact ⟨0, Nat.zero_le _, rfl, rfl⟩
  case round =>
    obtain ⟨k, hk, rfl, rfl⟩ := hrel
    by_cases hlt : k < K
    · have hkl : k < ps.length := by rw [HK.out]; exact hlt
      obtain ⟨p, hp⟩ : ∃ p, ps[k]? = some p := ⟨_, List.getElem?_eq_getElem hkl⟩
      have hcell := (HC.out k p hp).1
      have hsum := HS.out k p hp
      have hnx := pallP_snoc hp
      have HNX : Hid ((pallP (ps.take (k + 1))).length = (pallP (ps.take k)).length + p.l.length) := Lib.hid (by rw [hnx, List.length_append])
      clear hp hkl hnx
      generalize (pallP (ps.take k)).length = q at *
      have hneg : ¬ ((q : Int) + (p.l.length : Int) < 0) := by omega
      go_wp2
      refine ⟨⟨k + 1, by omega, by go_num, ?_⟩, by simp [intOf]; omega⟩
      rw [HNX.out]
      go_num
    · have he : k = K := by omega
      subst he
      rw [List.take_of_length_le (by rw [HK.out]; exact Nat.le_refl _)]
      obtain ⟨q, hq⟩ : ∃ q, q = (pallP ps).length := ⟨_, rfl⟩
      rw [← hq]
      have hqb : q ≤ 100000 := by omega
      have Hq := Lib.hid hq
      clear hq
      go_wp2_with fail
      refine (growP_any q w hqb).mono ?_
      rintro e w1 ⟨v1, rfl, hown1, hb1⟩
      have Hown := Lib.hid hown1
      have HB1 := Lib.hid hb1
      clear hown1 hb1
      go_wp2
      go_loopw [6, 27] (fun s6 s24 wr => ∃ j : Nat, j ≤ k ∧ s24 = .int .i64 j ∧ OwnP wr w.heap.size s6 (pallP (ps.take j)) ∧ Below w.heap.size w wr) (fun _ s24 _ => k - (intOf s24).toNat)
      case atStart => exact ⟨0, Nat.zero_le _, rfl, Hown.out, HB1.out⟩
      case round =>
        obtain ⟨j, hj, rfl, hown, hbw⟩ := hrel
        by_cases hlt2 : j < k
        · have hkl : j < ps.length := by rw [HK.out]; exact hlt2
          obtain ⟨p, hp⟩ : ∃ p, ps[j]? = some p := ⟨_, List.getElem?_eq_getElem hkl⟩
          obtain ⟨hcell0, hes⟩ := HC.out j p hp
          have hcell := (hbw.cell (by rw [block_of_add]; assumption)).trans hcell0
          have hsum := HS.out j p hp
          have hnx := pallP_snoc hp
          obtain ⟨v', w2, hrun, hown2, hg2⟩ := run_append_ls encP 63 26 63 _ _ ⟨_, Try.underlying63, rfl⟩ ptrInfo rfl (by omega) (by omega) hown p.l.length p.c (hes.below hbw) rfl (by omega) hbw.size
          rw [← hnx] at hown2
          have HO := Lib.hid hown2
          have HG := Lib.hid (hown.grow_below hbw hbw.size hg2)
          have HR := Lib.hid hrun
          clear hp hkl hnx hown hown2 hcell0 hg2 hsum hrun
          go_wp2_with (at_builtin; refine wpList_append_ran rfl (.tmp 31) (.tmp 32) 63 rfl _ _ _ _ rfl rfl HR.out ?_)
          exact ⟨⟨j + 1, by omega, by go_num, HO.out, HG.out⟩, by simp [intOf]; omega⟩
        · have he : j = k := by omega
          subst he
          rw [List.take_of_length_le (by rw [HK.out]; exact Nat.le_refl _)] at hown
          have HO := Lib.hid hown
          clear hown
          go_wp2
          go_ret
          exact ⟨_, rfl, HO.out, hbw⟩

set_option maxHeartbeats 800000 in
set_option maxRecDepth 100000 in
theorem growE_any (n : Nat) (w : World) (hb : n ≤ 100000) : Calls Try.prog 78 #[.slice none 0 0, .int .i64 (n : Int)] w fun e w' => ∃ v, e = .returned v ∧ Own w' w.heap.size v [] ∧ Below w.heap.size w w' := by
  rcases Nat.eq_zero_or_pos n with rfl | hn
  · go_enter Try.func78, Try.ntmps78
    go_wp2
    go_ret
    exact ⟨_, rfl, Own.nil_ _ _, Below.refl _ _⟩
  · obtain ⟨i0, hi0, hz0, hz1, hz2⟩ := info_parts einfo
    have hrun := Lib.run_append_nil_zeros (P := Try.prog) w 22 3 22 39 i0 _ .i64 .i64 Try.underlying22 Try.underlying3 hi0 hz0 n hn (by rw [hz1]; omega) (by omega) (by rw [hz2]; omega)
    have hcap := grownCap_le_maxLen w n 0 39 (by simp only [maxLen]; omega)
    have hge := grownCap_ge w n 0 39
    generalize grownCap w n 0 39 = c at *
    obtain ⟨cur, hcur⟩ : ∃ cur, cur = Builtin.zeroCells (.agg #[.string ByteArray.empty, .string ByteArray.empty] : Value).cells n ++ Builtin.zeroCells (.agg #[.string ByteArray.empty, .string ByteArray.empty] : Value).cells (c - n) := ⟨_, rfl⟩
    have hsz : cur.size = c * 2 := by
      rw [hcur, Array.size_append, size_zeroCells, size_zeroCells, show (.agg #[.string ByteArray.empty, .string ByteArray.empty] : Value).cells.size = 2 from rfl, ← Nat.add_mul]
      rw [show n + (c - n) = c by omega]
    rw [← hcur] at hrun
    clear hcur hz0 hz1 hz2 hi0
    have HO := Lib.hid (Own.madeAt w.drew w.heap.size c cur (Nat.le_refl _) hcap hsz)
    have hb1 : Below w.heap.size w (w.drew.alloc (.cells cur 39)) := ((Below.refl _ _).drew).alloc (Nat.le_refl _) _
    have HB := Lib.hid hb1
    have HR := Lib.hid hrun
    clear hrun hb1 hsz hge
    go_enter Try.func78, Try.ntmps78
    go_wp2_with (at_builtin; refine Lib.wpList_append_run _ rfl (.tmp 20) (.tmp 21) 22 3 rfl _ _ rfl rfl _ _ HR.out ?_)
    go_ret
    exact ⟨_, rfl, HO.out, HB.out⟩

set_option maxHeartbeats 800000 in
set_option maxRecDepth 100000 in
theorem concatE_any (ad : Addr) (K c : Nat) (ps : List Part) (w : World) (hlt : ad.block < w.heap.size) (hK : ps.length = K) (hc : ∀ j p, ps[j]? = some p → w.cell? (ad.add j) = some (.slice p.A p.l.length p.c) ∧ Es w p.A p.l)
    (hb : (pall ps).length ≤ 100000) (hKb : K ≤ 100000) :
    Calls Try.prog 68 #[.slice (some ad) K c] w fun e w' => ∃ v, e = .returned v ∧ Own w' w.heap.size v (pall ps) ∧ Below w.heap.size w w' := by
  have HK := Lib.hid hK
  have HC := Lib.hid hc
  clear hK hc
  have hsub : ∀ k p, ps[k]? = some p → (pall (ps.take k)).length + p.l.length ≤ 100000 := by
    intro k p hp
    have h1 := pall_snoc hp
    have h2 : pall ps = pall (ps.take (k + 1)) ++ pall (ps.drop (k + 1)) := by
      unfold pall
      rw [← List.flatMap_append, List.take_append_drop]
    rw [h2, h1] at hb
    simp at hb
    omega
  have HS := Lib.hid hsub
  clear hsub
  go_enter Try.func68, Try.ntmps68
  go_wp2
  go_loop [3, 11] (fun s3 s11 => ∃ k : Nat, k ≤ K ∧ s11 = .int .i64 k ∧ s3 = .int .i64 (pall (ps.take k)).length) (fun _ s11 => K - (intOf s11).toNat)
  case atStart => exact ⟨0, Nat.zero_le _, rfl, rfl⟩
  case round =>
    obtain ⟨k, hk, rfl, rfl⟩ := hrel
    by_cases hlt : k < K
    · have hkl : k < ps.length := by rw [HK.out]; exact hlt
      obtain ⟨p, hp⟩ : ∃ p, ps[k]? = some p := ⟨_, List.getElem?_eq_getElem hkl⟩
      have hcell := (HC.out k p hp).1
      have hsum := HS.out k p hp
      have hnx := pall_snoc hp
      have HNX : Hid ((pall (ps.take (k + 1))).length = (pall (ps.take k)).length + p.l.length) := Lib.hid (by rw [hnx, List.length_append])
      clear hp hkl hnx
      generalize (pall (ps.take k)).length = q at *
      have hneg : ¬ ((q : Int) + (p.l.length : Int) < 0) := by omega
      go_wp2
      refine ⟨⟨k + 1, by omega, by go_num, ?_⟩, by simp [intOf]; omega⟩
      rw [HNX.out]
      go_num
    · have he : k = K := by omega
      subst he
      rw [List.take_of_length_le (by rw [HK.out]; exact Nat.le_refl _)]
      obtain ⟨q, hq⟩ : ∃ q, q = (pall ps).length := ⟨_, rfl⟩
      rw [← hq]
      have hqb : q ≤ 100000 := by omega
      have Hq := Lib.hid hq
      clear hq
      go_wp2_with fail
      refine (growE_any q w hqb).mono ?_
      rintro e w1 ⟨v1, rfl, hown1, hb1⟩
      have Hown := Lib.hid hown1
      have HB1 := Lib.hid hb1
      clear hown1 hb1
      go_wp2
      go_loopw [6, 27] (fun s6 s24 wr => ∃ j : Nat, j ≤ k ∧ s24 = .int .i64 j ∧ Own wr w.heap.size s6 (pall (ps.take j)) ∧ Below w.heap.size w wr) (fun _ s24 _ => k - (intOf s24).toNat)
      case atStart => exact ⟨0, Nat.zero_le _, rfl, Hown.out, HB1.out⟩
      case round =>
        obtain ⟨j, hj, rfl, hown, hbw⟩ := hrel
        by_cases hlt2 : j < k
        · have hkl : j < ps.length := by rw [HK.out]; exact hlt2
          obtain ⟨p, hp⟩ : ∃ p, ps[j]? = some p := ⟨_, List.getElem?_eq_getElem hkl⟩
          obtain ⟨hcell0, hes⟩ := HC.out j p hp
          have hcell := (hbw.cell (by rw [block_of_add]; assumption)).trans hcell0
          have hsum := HS.out j p hp
          have hnx := pall_snoc hp
          obtain ⟨v', w2, hrun, hown2, hg2⟩ := run_append_ents 22 hown p.l.length p.c (hes.below hbw) rfl (by omega) hbw.size
          rw [← hnx] at hown2
          have HO := Lib.hid hown2
          have HG := Lib.hid (hown.grow_below hbw hbw.size hg2)
          have HR := Lib.hid hrun
          clear hp hkl hnx hown hown2 hcell0 hg2 hsum hrun
          go_wp2_with (at_builtin; refine wpList_append_ran rfl (.tmp 31) (.tmp 32) 22 rfl _ _ _ _ rfl rfl HR.out ?_)
          exact ⟨⟨j + 1, by omega, by go_num, HO.out, HG.out⟩, by simp [intOf]; omega⟩
        · have he : j = k := by omega
          subst he
          rw [List.take_of_length_le (by rw [HK.out]; exact Nat.le_refl _)] at hown
          have HO := Lib.hid hown
          clear hown
          go_wp2
          go_ret
          exact ⟨_, rfl, HO.out, hbw⟩

end Go.Proofs.Ytkooaechcbopnaa
