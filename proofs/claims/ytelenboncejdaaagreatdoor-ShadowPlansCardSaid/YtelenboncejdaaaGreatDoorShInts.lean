/-
  Lists of numbers: the contracts of slices.Clone, Grow (of nil) and Concat at []int; conditions: the slices can be read, few elements.
-/
import Derived.Test.YtelenboncejdaaaGreatDoorK11
import Derived.Lib.AppendZeros
namespace Go.Proofs.YtelenboncejdaaaGreatDoor
open Go.RowKit Go.Sort
set_option linter.unusedVariables false

theorem intInfo : (Tryz.prog.info? 3).map (fun i => (i.zero, i.size, i.bytes)) = some (some (.int .i64 0), 1, 8) := by kernel_rfl
abbrev OwnI (w : World) (base : Nat) (v : Value) (l : List Int) : Prop := OwnL icell 3 1 w base v l
/-- A list of numbers among others: where it lies, its capacity. -/
structure PartI where
  A : Option Addr
  c : Nat
  l : List Int
def pallI (ps : List PartI) : List Int := ps.flatMap (·.l)
theorem pallI_snoc {ps : List PartI} {k : Nat} {p : PartI} (h : ps[k]? = some p) : pallI (ps.take (k + 1)) = pallI (ps.take k) ++ p.l := by
  rw [List.take_add_one, h]
  simp [pallI]
theorem OwnI.made (w : World) (base c : Nat) (cur : Array Value) (hb : base ≤ w.heap.size) (hc : c ≤ maxLen) (hs : cur.size = c * 1) : OwnI (w.alloc (.cells cur 3)) base (.slice (some ⟨w.heap.size, 0, none⟩) 0 c) [] :=
  ⟨by simp, .inr ⟨w.heap.size, c, cur, rfl, hb, heap_alloc_new w _, Nat.zero_le _, hc, hs, by simp⟩⟩

set_option maxHeartbeats 400000 in
theorem cloneI_any (A : Option Addr) (n c : Nat) (l : List Int) (w : World) (hr : Ls icell w A l) (hn : l.length = n) (hb : n ≤ 1000000) :
    Calls Tryz.prog 64 #[.slice A n c] w fun e w' => ∃ v, e = .returned v ∧ OwnI w' w.heap.size v l ∧ Below w.heap.size w w' := by
  rcases A with _ | ad
  · have h0 : l = [] := by
      rcases Nat.eq_zero_or_pos l.length with h0 | h0
      · exact List.eq_nil_of_length_eq_zero h0
      · obtain ⟨ad, e, _⟩ := hr h0
        cases e
    subst h0
    have hq : ∀ (w : World) (a : Option Addr) (n c n' c' : Nat), (binOp .eql 38 (.slice a n c) (.slice none n' c')).run Tryz.prog w = .ok (.bool a.isNone) w := fun w a n c n' c' => Lib.run_eql_slice_nil w _ _ a n c n' c' Tryz.underlying38
    go_enter Tryz.func64, Tryz.ntmps64
    go_wp2
    go_ret
    exact ⟨_, rfl, OwnL.nil_ _ _ _, Below.refl _ _⟩
  · have hb0 : Below w.heap.size w (w.alloc (.cells #[] 3)) := (Below.refl _ _).alloc (Nat.le_refl _) _
    obtain ⟨v', w', h1, h2, h3⟩ := run_append_ls ienc 38 3 38 _ _ ⟨_, Tryz.underlying38, rfl⟩ intInfo rfl (by omega) (by omega) (OwnL.empty _ w) n c (hr.below hb0) hn (by simpa using hb) hb0.size
    have HR := Lib.hid h1
    have HO := Lib.hid h2
    have HB := Lib.hid (grown_new hb0 (fun g hg => by simp [Value.ownBlock] at hg; omega) h3)
    clear h1 h2 h3 hb0
    have hq : ∀ (w : World) (a : Option Addr) (n c n' c' : Nat), (binOp .eql 38 (.slice a n c) (.slice none n' c')).run Tryz.prog w = .ok (.bool a.isNone) w := fun w a n c n' c' => Lib.run_eql_slice_nil w _ _ a n c n' c' Tryz.underlying38
    go_enter Tryz.func64, Tryz.ntmps64
    go_wp2_with (at_builtin; refine wpList_append_ran rfl (.tmp 5) (.tmp 6) 38 rfl _ _ _ _ rfl rfl HR.out ?_)
    go_ret
    exact ⟨_, rfl, by simpa using HO.out, HB.out⟩


set_option maxHeartbeats 800000 in
set_option maxRecDepth 100000 in
theorem growI_any (n : Nat) (w : World) (hb : n ≤ 100000) : Calls Tryz.prog 145 #[.slice none 0 0, .int .i64 (n : Int)] w fun e w' => ∃ v, e = .returned v ∧ OwnI w' w.heap.size v [] ∧ Below w.heap.size w w' := by
  rcases Nat.eq_zero_or_pos n with rfl | hn
  · go_enter Tryz.func145, Tryz.ntmps145
    go_wp2
    go_ret
    exact ⟨_, rfl, OwnL.nil_ _ _ _, Below.refl _ _⟩
  · obtain ⟨i0, hi0, hz0, hz1, hz2⟩ := info_parts intInfo
    have hrun := Lib.run_append_nil_zeros (P := Tryz.prog) w 38 3 38 3 i0 _ .i64 .i64 Tryz.underlying38 Tryz.underlying3 hi0 hz0 n hn (by rw [hz1]; omega) (by omega) (by rw [hz2]; omega)
    have hcap := grownCap_le_maxLen w n 0 3 (by simp only [maxLen]; omega)
    have hge := grownCap_ge w n 0 3
    generalize grownCap w n 0 3 = c at *
    obtain ⟨cur, hcur⟩ : ∃ cur, cur = Builtin.zeroCells (.int .i64 0 : Value).cells n ++ Builtin.zeroCells (.int .i64 0 : Value).cells (c - n) := ⟨_, rfl⟩
    have hsz : cur.size = c * 1 := by
      rw [hcur, Array.size_append, size_zeroCells, size_zeroCells, show (.int .i64 0 : Value).cells.size = 1 from rfl, ← Nat.add_mul]
      rw [show n + (c - n) = c by omega]
    rw [← hcur] at hrun
    clear hcur hz0 hz1 hz2 hi0
    have HO := Lib.hid (OwnI.made w.drew w.heap.size c cur (Nat.le_refl _) hcap hsz)
    have hb1 : Below w.heap.size w (w.drew.alloc (.cells cur 3)) := ((Below.refl _ _).drew).alloc (Nat.le_refl _) _
    have HB := Lib.hid hb1
    have HR := Lib.hid hrun
    clear hrun hb1 hsz hge
    go_enter Tryz.func145, Tryz.ntmps145
    go_wp2_with (at_builtin; refine Lib.wpList_append_run _ rfl (.tmp 20) (.tmp 21) 38 3 rfl _ _ rfl rfl _ _ HR.out ?_)
    go_ret
    exact ⟨_, rfl, HO.out, HB.out⟩

set_option maxHeartbeats 800000 in
set_option maxRecDepth 100000 in
theorem concatI_any (ad : Addr) (K c : Nat) (ps : List PartI) (w : World) (hlt : ad.block < w.heap.size) (hK : ps.length = K) (hc : ∀ j p, ps[j]? = some p → w.cell? (ad.add j) = some (.slice p.A p.l.length p.c) ∧ Ls icell w p.A p.l)
    (hb : (pallI ps).length ≤ 100000) (hKb : K ≤ 100000) :
    Calls Tryz.prog 113 #[.slice (some ad) K c] w fun e w' => ∃ v, e = .returned v ∧ OwnI w' w.heap.size v (pallI ps) ∧ Below w.heap.size w w' := by
  have HK := Lib.hid hK
  have HC := Lib.hid hc
  clear hK hc
  have hsub : ∀ k p, ps[k]? = some p → (pallI (ps.take k)).length + p.l.length ≤ 100000 := by
    intro k p hp
    have h1 := pallI_snoc hp
    have h2 : pallI ps = pallI (ps.take (k + 1)) ++ pallI (ps.drop (k + 1)) := by
      unfold pallI
      rw [← List.flatMap_append, List.take_append_drop]
    rw [h2, h1] at hb
    simp at hb
    omega
  have HS := Lib.hid hsub
  clear hsub
  go_enter Tryz.func113, Tryz.ntmps113
  go_wp2
  go_loop [3, 11] (fun s3 s11 => ∃ k : Nat, k ≤ K ∧ s11 = .int .i64 k ∧ s3 = .int .i64 (pallI (ps.take k)).length) (fun _ s11 => K - (intOf s11).toNat)
  case atStart => exact ⟨0, Nat.zero_le _, rfl, rfl⟩
  case round =>
    obtain ⟨k, hk, rfl, rfl⟩ := hrel
    by_cases hlt : k < K
    · have hkl : k < ps.length := by rw [HK.out]; exact hlt
      obtain ⟨p, hp⟩ : ∃ p, ps[k]? = some p := ⟨_, List.getElem?_eq_getElem hkl⟩
      have hcell := (HC.out k p hp).1
      have hsum := HS.out k p hp
      have hnx := pallI_snoc hp
      have HNX : Hid ((pallI (ps.take (k + 1))).length = (pallI (ps.take k)).length + p.l.length) := Lib.hid (by rw [hnx, List.length_append])
      clear hp hkl hnx
      generalize (pallI (ps.take k)).length = q at *
      have hneg : ¬ ((q : Int) + (p.l.length : Int) < 0) := by omega
      go_wp2
      refine ⟨⟨k + 1, by omega, by go_num, ?_⟩, by simp [intOf]; omega⟩
      rw [HNX.out]
      go_num
    · have he : k = K := by omega
      subst he
      rw [List.take_of_length_le (by rw [HK.out]; exact Nat.le_refl _)]
      obtain ⟨q, hq⟩ : ∃ q, q = (pallI ps).length := ⟨_, rfl⟩
      rw [← hq]
      have hqb : q ≤ 100000 := by omega
      have Hq := Lib.hid hq
      clear hq
      go_wp2_with fail
      refine (growI_any q w hqb).mono ?_
      rintro e w1 ⟨v1, rfl, hown1, hb1⟩
      have Hown := Lib.hid hown1
      have HB1 := Lib.hid hb1
      clear hown1 hb1
      go_wp2
      go_loopw [6, 27] (fun s6 s24 wr => ∃ j : Nat, j ≤ k ∧ s24 = .int .i64 j ∧ OwnI wr w.heap.size s6 (pallI (ps.take j)) ∧ Below w.heap.size w wr) (fun _ s24 _ => k - (intOf s24).toNat)
      case atStart => exact ⟨0, Nat.zero_le _, rfl, Hown.out, HB1.out⟩
      case round =>
        obtain ⟨j, hj, rfl, hown, hbw⟩ := hrel
        by_cases hlt2 : j < k
        · have hkl : j < ps.length := by rw [HK.out]; exact hlt2
          obtain ⟨p, hp⟩ : ∃ p, ps[j]? = some p := ⟨_, List.getElem?_eq_getElem hkl⟩
          obtain ⟨hcell0, hes⟩ := HC.out j p hp
          have hcell := (hbw.cell (by rw [block_of_add]; assumption)).trans hcell0
          have hsum := HS.out j p hp
          have hnx := pallI_snoc hp
          obtain ⟨v', w2, hrun, hown2, hg2⟩ := run_append_ls ienc 38 3 38 _ _ ⟨_, Tryz.underlying38, rfl⟩ intInfo rfl (by omega) (by omega) hown p.l.length p.c (hes.below hbw) rfl (by omega) hbw.size
          rw [← hnx] at hown2
          have HO := Lib.hid hown2
          have HG := Lib.hid (hown.grow_below hbw hbw.size hg2)
          have HR := Lib.hid hrun
          clear hp hkl hnx hown hown2 hcell0 hg2 hsum hrun
          go_wp2_with (at_builtin; refine wpList_append_ran rfl (.tmp 31) (.tmp 32) 38 rfl _ _ _ _ rfl rfl HR.out ?_)
          exact ⟨⟨j + 1, by omega, by go_num, HO.out, HG.out⟩, by simp [intOf]; omega⟩
        · have he : j = k := by omega
          subst he
          rw [List.take_of_length_le (by rw [HK.out]; exact Nat.le_refl _)] at hown
          have HO := Lib.hid hown
          clear hown
          go_wp2
          go_ret
          exact ⟨_, rfl, HO.out, hbw⟩

end Go.Proofs.YtelenboncejdaaaGreatDoor
