/-
  The reference's Take, Commit and Abort; append onto an empty row without room; conditions stand at each.
-/
import Derived.Test.YtpchihgdcpbjiaaLedRef
import Derived.Test.YtpchihgdcpbjiaaGrow
namespace Go.Proofs.Ytpchihgdcpbjiaa
open Go.RowKit Go.Sort
set_option linter.unusedVariables false
set_option linter.unusedSimpArgs false

theorem iinfo : (Try.prog.info? 3).map (fun i => (i.zero, i.size, i.bytes)) = some (some (.int .i64 0), 1, 8) := by kernel_rfl
theorem OwnI.lt {w : World} {B : Nat} {v : Value} {l : List Int} (h : OwnI w B v l) : ∀ g, v.ownBlock = some g → g < w.heap.size := OwnL.lt h

/-- What Take leaves. -/
def RTake (B : Nat) (w : World) (b n : Nat) (lo ln lt : List Int) (e : Ending) (w' : World) : Prop := match least (fr (memB n lo) (memB n ln) (memB n lt)) n with
  | some k => e = .returned (.tuple #[.int .i64 (k : Int), .int .i64 0]) ∧ RefI B w' b n lo ln (lt ++ [(k : Int)]) ∧ RK B w w'
  | none => e = .returned (.tuple #[.int .i64 0, .int .i64 8]) ∧ w' = w
set_option maxRecDepth 100000 in
set_option maxHeartbeats 2000000 in
theorem refTake_any {B : Nat} {w : World} {b n : Nat} {lo ln lt : List Int} (hd : RefI B w b n lo ln lt) (hlt : lt.length < 1000) (hB : B ≤ w.heap.size) :
    Calls Try.prog 13 #[.pointer (some ⟨b, 0, none⟩)] w (RTake B w b n lo ln lt) := by
  have HD := Lib.hid hd
  obtain ⟨vO, vN, vT, h⟩ := hd
  have k0 := cell_at h.box 0 _ rfl
  have k3 := cell_at h.box 3 _ rfl
  have hs := h.small
  have HH := Lib.hid h
  have HLT := Lib.hid hlt
  have HBS := Lib.hid hB
  clear h hlt hB
  go_enter Try.func13, Try.ntmps13
  go_wp2
  go_loopw [4] (fun i wr => ∃ k : Nat, 2 ≤ k ∧ (k ≤ n ∨ k = 2) ∧ i = .int .i64 k ∧ Hid (∀ j, j < k → fr (memB n lo) (memB n ln) (memB n lt) j = false) ∧ wr = w) (fun i _ => n - (intOf i).toNat)
  case atStart => exact ⟨2, Nat.le_refl _, .inr rfl, rfl, Lib.hid fun j hj => by
    cases hf : fr (memB n lo) (memB n ln) (memB n lt) j with
    | false => rfl
    | true => have := fr_two hf; omega, rfl⟩
  case round =>
    obtain ⟨k, hk2, hk, rfl, HL, rfl⟩ := hrel
    by_cases hlt : k < n
    · have hfu := fr_used (lo := lo) (ln := ln) (lt := lt) hk2 hlt
      go_wp2_with fail
      refine (refUsed_any HD.out k).mono ?_
      rintro e w1 ⟨rfl, rfl⟩
      generalize (decide ((k : Int) ∈ lo) || decide ((k : Int) ∈ ln) || decide ((k : Int) ∈ lt)) = u at hfu ⊢
      have HF := Lib.hid hfu
      clear hfu
      cases u
      · obtain ⟨W, hW⟩ : ∃ W, W = w1.alloc (.cells #[.int .i64 (k : Int)] 3) := ⟨_, rfl⟩
        have hbW : Below w1.heap.size w1 W := by rw [hW]; exact (Below.refl _ _).alloc (Nat.le_refl _) _
        have hWs : W.heap.size = w1.heap.size + 1 := by rw [hW]; simp
        have hh : W.heap[w1.heap.size]? = some (.cells (icell (k : Int)).toArray 3 (0, 0)) := by rw [hW]; exact heap_alloc_new w1 _
        obtain ⟨v', w', hrun, hown, hgr, hblk⟩ := run_append_at ienc 29 3 29 (.int .i64 0) 8 ⟨_, Try.underlying29, rfl⟩ iinfo rfl (by omega) (by omega) (OwnL.below HH.out.t hbW) (k : Int) hh (by have := HLT.out; omega) (Nat.le_trans HBS.out hbW.size)
        obtain ⟨A', c', hv', hc', _⟩ := hown.form
        have hbl := lt_of_block HH.out.box
        have hbT : vT.ownBlock ≠ some b := fun e => by
          obtain ⟨_, cs, hc⟩ := OwnI.row HH.out.t b e
          rw [HH.out.box] at hc
          cases hc
        have hbox' : w'.heap[b]? = some (.cells #[.int .i64 (n : Int), vO, vN, vT] 40 (0, 0)) := (hgr.block b (Nat.lt_of_lt_of_le hbl hbW.size) (fun e => hbT e.symm)).trans ((hbW.block b hbl).trans HH.out.box)
        have m3 := cell_at hbox' 3 _ rfl
        have mf := free_at hbox' 3
        have HEND := Lib.hid (show RefI B (w'.setCell ⟨b, 3, none⟩ v') b n lo ln (lt ++ [(k : Int)]) ∧ RK B w1 (w'.setCell ⟨b, 3, none⟩ v') from by
          have old : ∀ i, i < w1.heap.size → i ≠ b → vT.ownBlock ≠ some i → (w'.setCell ⟨b, 3, none⟩ v').heap[i]? = w1.heap[i]? := fun i hi hne hT => by
            rw [Below.heap_setCell _ _ _ _ hne]
            exact (hgr.block i (Nat.lt_of_lt_of_le hi hbW.size) (fun e => hT e.symm)).trans (hbW.block i hi)
          have hnb : v'.ownBlock ≠ some b := fun e => by
            obtain ⟨_, cs, hc⟩ := OwnI.row hown b e
            rw [hbox'] at hc
            cases hc
          have far : ∀ {u : Value} {l : List Int}, OwnI w1 B u l → (∀ g, vT.ownBlock = some g → u.ownBlock ≠ some g) → OwnI (w'.setCell ⟨b, 3, none⟩ v') B u l := fun {u l} hu hne => OwnL.keep hu fun g hg hl => old g hl (fun e => by
            obtain ⟨_, cs, hc⟩ := OwnI.row hu g hg
            rw [e, HH.out.box] at hc
            cases hc) (fun e => hne g e hg)
          have apart : ∀ {u : Value} {l : List Int}, OwnI w1 B u l → (∀ g, vT.ownBlock = some g → u.ownBlock ≠ some g) → ∀ g, v'.ownBlock = some g → u.ownBlock ≠ some g := fun {u l} hu hne g hg => by
            rcases hblk with e | e
            · exact hne g (by rw [← e]; exact hg)
            · rw [e] at hg
              cases hg
              intro e2
              have := OwnI.lt hu _ e2
              omega
          refine ⟨⟨vO, vN, v', ⟨?_, far HH.out.o HH.out.dO, far HH.out.nw HH.out.dN, OwnL.keep hown fun g hg hl => Below.heap_setCell _ _ _ _ (fun e => hnb (by rw [hg, e])), apart HH.out.o HH.out.dO, apart HH.out.nw HH.out.dN, HH.out.above, HH.out.small, HH.out.so, HH.out.sn, by rw [List.length_append]; have := HLT.out; simp; omega⟩⟩, ?_⟩
          · have := blk_set hbox' 3 v'
            simpa using this
          · refine ⟨hgr.os.trans hbW.os, hgr.tape.trans hbW.tape, hgr.output.trans hbW.output, ?_, fun i hi hn => old i hi (fun e => hn ?_) (fun e => hn ?_)⟩
            · have h1 := hgr.size
              have h2 := hbW.size
              simp only [World.setCell, Array.size_modify]
              omega
            · subst e
              exact ⟨HH.out.above, _, _, HH.out.box, .inl rfl⟩
            · obtain ⟨hge, cs, hc⟩ := OwnI.row HH.out.t i e
              exact ⟨hge, _, _, hc, .inr rfl⟩)
        have HRUN := Lib.hid hrun
        have HW := Lib.hid hW
        have HLS := Lib.hid (least_some hlt HF.out HL.out)
        obtain ⟨A3, c3, hvT, _⟩ := OwnL.form HH.out.t
        subst hvT hv'
        clear hrun hown hgr hblk hc' hbT hbox' hbl hbW hWs hh hW
        go_wp2_with (at_builtin; rw [← HW.out]; refine wpList_append_ran rfl (.tmp 21) (.tmp 23) 29 rfl _ _ _ _ rfl rfl HRUN.out ?_)
        go_ret2
        unfold RTake
        rw [HLS.out]
        have he := HEND.out
        rw [show (lt ++ [(k : Int)]).length = lt.length + 1 by simp] at he
        exact ⟨rfl, he⟩
      · go_wp2
        exact ⟨⟨k + 1, by omega, by omega, by go_num, Lib.hid fun j hj => by
          rcases Nat.lt_or_ge j k with h | h
          · exact HL.out j h
          · have : j = k := by omega
            subst this
            exact HF.out, by trivial⟩, by simp [intOf]; omega⟩
    · go_wp2
      go_ret2
      unfold RTake
      rw [least_none fun j hj => HL.out j (by omega)]
      exact ⟨rfl, by trivial⟩

/-- Another box. -/
theorem RefL.boxed {B : Nat} {w w' : World} {b n : Nat} {vO vN vT uO uN uT : Value} {lo ln lt l1 l2 l3 : List Int} (h : RefL B w b n vO vN vT lo ln lt) (hk : Keep (fun i => i = b) w w')
    (hb : w'.heap[b]? = some (.cells #[.int .i64 (n : Int), uO, uN, uT] 40 (0, 0))) (h1 : OwnI w B uO l1) (h2 : OwnI w B uN l2) (h3 : OwnI w B uT l3)
    (d1 : ∀ g, uT.ownBlock = some g → uO.ownBlock ≠ some g) (d2 : ∀ g, uT.ownBlock = some g → uN.ownBlock ≠ some g) (s1 : l1.length ≤ 1000) (s2 : l2.length ≤ 1000) (s3 : l3.length ≤ 1000) : RefI B w' b n l1 l2 l3 ∧ RK B w w' := by
  have far : ∀ {u : Value} {l : List Int}, OwnI w B u l → OwnI w' B u l := fun {u l} hu => OwnL.keep hu fun g hg hl => hk.block g hl (by
    rintro rfl
    obtain ⟨_, cs, hc⟩ := OwnI.row hu g hg
    rw [h.box] at hc
    cases hc)
  exact ⟨⟨uO, uN, uT, hb, far h1, far h2, far h3, d1, d2, h.above, h.small, s1, s2, s3⟩, hk.mono fun i _ e => by
    subst e
    exact ⟨h.above, _, _, h.box, .inl rfl⟩⟩
theorem no_own : ∀ g, (Value.slice none 0 0).ownBlock ≠ some g := fun g => by simp [Value.ownBlock]
set_option maxRecDepth 100000 in
theorem refAbort_any {B : Nat} {w : World} {b n : Nat} {lo ln lt : List Int} (hd : RefI B w b n lo ln lt) :
    Calls Try.prog 17 #[.pointer (some ⟨b, 0, none⟩)] w fun e w' => e = .returned (.tuple #[]) ∧ RefI B w' b n lo ln [] ∧ RK B w w' := by
  obtain ⟨vO, vN, vT, h⟩ := hd
  have k3 := cell_at h.box 3 _ rfl
  have mf := free_at h.box 3
  have HE := Lib.hid (h.boxed (w' := w.setCell ⟨b, 3, none⟩ (.slice none 0 0)) (uO := vO) (uN := vN) (uT := .slice none 0 0) (l3 := []) ((Keep.refl (fun i => i = b) w).set (p := ⟨b, 3, none⟩) (.inl rfl) _) (by have := blk_set h.box 3 (.slice none 0 0); simpa using this) h.o h.nw (OwnL.nil_ _ _ _) (fun g hg => absurd hg (no_own g)) (fun g hg => absurd hg (no_own g)) h.so h.sn (by simp))
  clear h
  go_enter Try.func17, Try.ntmps17
  go_wp2
  go_end0
  exact ⟨rfl, HE.out⟩
set_option maxRecDepth 100000 in
theorem refCommit_any {B : Nat} {w : World} {b n : Nat} {lo ln lt : List Int} (hd : RefI B w b n lo ln lt) {v : Value} {l : List Int} (hv : OwnI w B v l) (hl : l.length ≤ 1000) :
    Calls Try.prog 15 #[.pointer (some ⟨b, 0, none⟩), v] w fun e w' => e = .returned (.tuple #[]) ∧ RefI B w' b n ln l [] ∧ RK B w w' := by
  obtain ⟨vO, vN, vT, h⟩ := hd
  have k1 := cell_at h.box 1 _ rfl
  have k2 := cell_at h.box 2 _ rfl
  have k3 := cell_at h.box 3 _ rfl
  have m1 := free_at h.box 1
  have m2 := free_at h.box 2
  have m3 := free_at h.box 3
  have HE := Lib.hid (h.boxed (w' := ((w.setCell ⟨b, 1, none⟩ vN).setCell ⟨b, 2, none⟩ v).setCell ⟨b, 3, none⟩ (.slice none 0 0)) (uO := vN) (uN := v) (uT := .slice none 0 0) (l3 := [])
    ((((Keep.refl (fun i => i = b) w).set (p := ⟨b, 1, none⟩) (.inl rfl) _).set (p := ⟨b, 2, none⟩) (.inl rfl) _).set (p := ⟨b, 3, none⟩) (.inl rfl) _)
    (by have := blk_set (blk_set (blk_set h.box 1 vN) 2 v) 3 (.slice none 0 0); simpa using this) h.nw hv (OwnL.nil_ _ _ _) (fun g hg => absurd hg (no_own g)) (fun g hg => absurd hg (no_own g)) h.sn hl (by simp))
  obtain ⟨A1, c1, rfl, _⟩ := OwnL.form h.o
  obtain ⟨A2, c2, rfl, _⟩ := OwnL.form h.nw
  obtain ⟨A3, c3, rfl, _⟩ := OwnL.form hv
  clear h hv
  go_enter Try.func15, Try.ntmps15
  go_wp2
  go_end0
  exact ⟨rfl, HE.out⟩

end Go.Proofs.Ytpchihgdcpbjiaa
