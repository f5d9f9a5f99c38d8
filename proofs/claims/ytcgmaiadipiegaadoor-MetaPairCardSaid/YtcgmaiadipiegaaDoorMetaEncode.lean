/-
  The contract of meta.Encode: a meta page's bytes in a new row, or ErrArg; conditions: numbers of 64 bits, the table of the check lies in memory.
-/
import Derived.Test.YtcgmaiadipiegaaDoorMetaEnc
namespace Go.Proofs.YtcgmaiadipiegaaDoor
open Go.RowKit Go.Sort
set_option linter.unusedVariables false

/-- What Encode answers. -/
def MEncPost (w : World) (m : MT) (e : Ending) (w' : World) : Prop :=
  ((okM m ∧ ∃ v, e = .returned (.tuple #[v, .int .i64 0]) ∧ OB w' w.heap.size v (encM m)) ∨ (¬ okM m ∧ e = .returned (.tuple #[.slice none 0 0, .int .i64 1]))) ∧ Below w.heap.size w w'

theorem splice_zeros2 (c : List UInt8) (N : Nat) (h : c.length ≤ N) : splice (List.replicate N (Value.int .u8 0)) 0 (bcells c) = bcells (c ++ List.replicate (N - c.length) 0) := by
  unfold splice
  rw [bcells_append, List.take_zero, List.nil_append, bcells_length, Nat.zero_add, List.drop_replicate]
  congr 1
  simp [bcells, u8]

/-- A cell of an older block, in every later world. -/
theorem cell_later {w : World} {p : Addr} {u : Value} (h : w.cell? p = some u) (hp : p.block < w.heap.size) (d : Nat) (os : Array Obj) : (grow (redrawn w d) os).cell? p = some u :=
  ((below_regrown w d os).cell hp).trans h

set_option maxRecDepth 100000 in
set_option maxHeartbeats 1000000 in
theorem mtEncode_any (m : MT) (w : World) (hm : MI m) (hh : Half w) :
    Calls Tryd.prog 12 #[metaV m] w (MEncPost w m) := by
  have hright := mtRight_any m
  have hcont := mtContent_any m
  have hx : Below w.heap.size w (w.alloc (.cells #[.int .i64 m.e, .int .i64 m.r] 29)) := (Below.refl _ _).alloc (Nat.le_refl _) _
  have HI : Hid (I64 m.e) := Lib.hid hm.1
  by_cases hok : okM m
  · obtain ⟨L, hL⟩ : ∃ L : Nat, L = 248 := ⟨_, rfl⟩
    have hmk : ∀ w : World, (Instr.makeSlice 25 (.int .i64 248) (.int .i64 248)).run Tryd.prog w = .ok (.slice (some ⟨w.heap.size, 0, none⟩) L L) (w.alloc (.cells (madeCells #[.int .u8 0] 248) 5)) := fun w => by
      rw [hL]
      exact run_make_bytes 248 248 (by omega) (by omega) w
    have HL := Lib.hid hL
    clear hL
    obtain ⟨Z, hZ⟩ : ∃ Z, Z = List.replicate 248 (Value.int .u8 0) := ⟨_, rfl⟩
    rw [made_list, ← hZ] at hmk
    have HZ := Lib.hid hZ
    clear hZ
    have hMV : metaV m = .agg #[.int .i64 m.e, .int .i64 m.r] := rfl
    rw [hMV] at hright hcont ⊢
    obtain ⟨x, hxe⟩ : ∃ x, x = m.e := ⟨_, rfl⟩
    obtain ⟨y, hye⟩ : ∃ y, y = m.r := ⟨_, rfl⟩
    rw [← hxe, ← hye] at hright hcont hx ⊢
    rw [← hxe] at HI
    have HX := Lib.hid hxe
    clear hMV hxe hye
    have HM := Lib.hid hm
    clear hm
    go_enter Tryd.func12, Tryd.ntmps12
    go_wp2_with fail
    refine (hright _ HM.out).mono ?_
    rintro e w1 ⟨rfl, hb1⟩
    have hbw := bthen hx hb1
    have c0 := box_at hb1 0 (.int .i64 x) rfl
    have c1 := box_at hb1 1 (.int .i64 y) rfl
    have hs1 := box_lt hb1
    rw [decide_eq_true hok]
    clear hb1 hx
    have hb2 : Below w1.heap.size w1 (w1.alloc (.cells Z.toArray 5)) := (Below.refl _ _).alloc (Nat.le_refl _) _
    go_wp2_with fail
    refine (hcont _ HM.out).mono ?_
    rintro e w3 ⟨v3, rfl, ho3, hb3⟩
    obtain ⟨A3, n3, c3, rfl, hn3, hc3, hr3⟩ := ho3.named
    have hg3 : w3.heap[w1.heap.size]? = some (.cells Z.toArray 5 (0, 0)) := (hb3.block _ (by simp)).trans (heap_alloc_new w1 _)
    have hb4 := bthen hb2 hb3
    have HG3 := Lib.hid hg3
    have hlen : (contM m).length ≤ 248 := by rw [contM_len]; omega
    have H2 : Hid ((bcells (contM m)).length = Nat.min n3 L) := by
      show (bcells (contM m)).length = Nat.min n3 L
      rw [bcells_length, hn3, HL.out]
      exact (Nat.min_eq_left (by omega)).symm
    have H3 : Hid (0 < (bcells (contM m)).length → ∃ ad, A3 = some ad ∧ ∀ j v, (bcells (contM m))[j]? = some v → w3.cell? (ad.add j) = some v) := by
      intro h0
      rw [bcells_length] at h0
      obtain ⟨ad, e, _, hc⟩ := hr3 h0
      exact ⟨ad, e, hc⟩
    have H4 : Hid (0 + (bcells (contM m)).length ≤ Z.length) := by
      show 0 + (bcells (contM m)).length ≤ Z.length
      rw [bcells_length, HZ.out, List.length_replicate]
      omega
    have HS : Hid (splice Z 0 (bcells (contM m)) = bcells (bodyM m)) := by
      show splice Z 0 (bcells (contM m)) = bcells (bodyM m)
      rw [HZ.out, splice_zeros2 _ _ hlen]
      rfl
    clear hn3 hg3 ho3 hb2 hb3 hr3 hlen HZ hmk hcont hright c1
    go_wp2_with ((with_reducible refine wpList_copy_splice rfl (.tmp 9) (.tmp 11) 25 25 rfl 5 Tryd.underlying25 (by kernel_rfl) _ _ _ _ _ _ rfl rfl w1.heap.size 0 Z 5 HG3.out (bcells (contM m)) H2.out (fun h0 => ⟨rfl, H3.out h0⟩) H4.out (bcells_one _) w1.heap.size w1 hb4 (Nat.le_refl _) ?_); intro w5 HG5 hb5)
    have hr5 : Rd w5.drew (some ⟨w1.heap.size, 0, none⟩) (bodyM m) := by
      have hg := HG5.out
      rw [HS.out] at hg
      have := rd_block (w := w5.drew) hg 0 (bodyM m).length
      simpa using this
    have hb5d : Below w1.heap.size w1 w5.drew := hb5.drew
    have hhw := (hh.below hbw).below hb5d
    have hb05 := bthen hbw hb5d
    have HBL : Hid ((bodyM m).length = L) := (bodyM_len m).trans HL.out.symm
    have hL2 : L ≤ 1000 := by rw [HL.out]; omega
    have c5 : w5.drew.cell? ⟨w.heap.size, 0, none⟩ = some (.int .i64 x) := (hb5d.cell (p := ⟨w.heap.size, 0, none⟩) hs1).trans c0
    have hs5 : w.heap.size < w5.drew.heap.size := Nat.lt_of_lt_of_le hs1 hb5d.size
    obtain ⟨W, hW⟩ : ∃ W, W = w5.drew := ⟨_, rfl⟩
    rw [← hW] at hr5 hhw hb05 c5 hs5
    have hcl := cell_later c5 hs5
    clear hb5 hb5d HG5 HG3 H2 H3 H4 HS c0 hb4 hbw hs1
    refine wp_region_segs [([0, 2, 3], 1), ([], 4)] [5, 6] (by kernel_rfl) (by kernel_rfl) (by kernel_rfl) (by kernel_rfl) (by intro c a d v w h; cases d <;> exact h) ?_
    rw [← hW]
    clear hW
    refine wpSegs_more ?_
    simp only [pick, List.getElem?_cons_zero, List.getElem?_cons_succ]
    repeat (first | go_big_quiet_step (fail) | quiet_step (fail))
    refine wpQuiet_nil ?_
    refine wpOp_heavy rfl (by rfl) (fun K hK => ?_)
    go_simp
    refine (seal_any (some ⟨w1.heap.size, 0, none⟩) L L (bodyM m) W hhw hr5 HBL.out (by omega)).mono ?_
    rintro e w6 ⟨rfl, ho6, hb6⟩
    have HR6 := Lib.hid (Rd.of_own ho6)
    have hb06 := bthen hb05 hb6
    refine hK _ _ hb6 ?_
    clear hK K hb6 ho6 hcl hr5
    refine wpSegs_more ?_
    simp only [pick]
    refine wpQuiet_nil ?_
    refine wpOp_heavy rfl (by rfl) (fun K hK => ?_)
    go_simp
    refine (put32_ob _ (L + 4) (L + 4) (Crc.sealed (bodyM m)) x w6 HR6.out (by rw [Crc.sealed_length, HBL.out]) (by omega) HI.out).mono ?_
    rintro e w7 ⟨v7, rfl, ho7, hb7⟩
    have HO7 := Lib.hid (ho7.mono hb06.size)
    have hb07 := bthen hb06 hb7
    refine hK _ _ hb7 ?_
    clear hK K hb7 ho7
    refine wpSegs_last ?_
    simp only [pick, List.getElem?_cons_zero, List.getElem?_cons_succ]
    repeat (first | go_big_quiet_step (fail) | quiet_step (fail))
    refine wpQuiet_nil ?_
    go_wp2
    go_ret2
    refine ⟨.inl ⟨hok, v7, rfl, ?_⟩, hb07⟩
    have := HO7.out
    rw [HX.out] at this
    exact this
  · unfold metaV at *
    go_enter Tryd.func12, Tryd.ntmps12
    go_wp2_with fail
    refine (hright _ hm).mono ?_
    rintro e w1 ⟨rfl, hb1⟩
    have hbw := bthen hx hb1
    rw [decide_eq_false hok]
    clear hb1 hx
    go_wp2
    go_ret2
    exact ⟨.inr ⟨hok, rfl⟩, hbw⟩

theorem menc_ok {w : World} {m : MT} {e : Ending} {w' : World} (h : MEncPost w m e w') (hok : okM m) : ∃ v, e = .returned (.tuple #[v, .int .i64 0]) ∧ OB w' w.heap.size v (encM m) ∧ Below w.heap.size w w' := by
  obtain ⟨⟨_, v, h1, h2⟩ | ⟨h, _⟩, hb⟩ := h
  · exact ⟨v, h1, h2, hb⟩
  · exact absurd hok h
theorem menc_no {w : World} {m : MT} {e : Ending} {w' : World} (h : MEncPost w m e w') (hok : ¬ okM m) : e = .returned (.tuple #[.slice none 0 0, .int .i64 1]) ∧ Below w.heap.size w w' := by
  obtain ⟨⟨h, _⟩ | ⟨_, h1⟩, hb⟩ := h
  · exact absurd h hok
  · exact ⟨h1, hb⟩

end Go.Proofs.YtcgmaiadipiegaaDoor
