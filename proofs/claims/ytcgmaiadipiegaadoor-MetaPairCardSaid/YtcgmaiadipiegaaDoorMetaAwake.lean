/-
  The contract of the law's helper awake: true; conditions: the table of the check lies in memory.
-/
import Derived.Test.YtcgmaiadipiegaaDoorMetaDecode
namespace Go.Proofs.YtcgmaiadipiegaaDoor
open Go.RowKit Go.Sort
set_option linter.unusedVariables false

theorem dec_enc {m : MT} (h : okM m) : decV (encM m) = m ∧ decE (encM m) = 0 := by
  have h1 := (decM_iff (encM m) m).2 ⟨h, rfl⟩
  exact ⟨by unfold decV; rw [h1]; rfl, by unfold decE; rw [h1]; rfl⟩

set_option maxRecDepth 100000 in
set_option maxHeartbeats 1000000 in
theorem mtAwake_any (w : World) (hh : Half w) :
    Calls Tryd.prog 11 #[] w fun e w' => e = .returned (.bool true) ∧ Below w.heap.size w w' := by
  have hok : okM ⟨5, 7⟩ := by decide
  have henc := mtEncode_any ⟨5, 7⟩ w (okM_mi hok) hh
  unfold metaV at henc
  simp only at henc
  go_enter Tryd.func11, Tryd.ntmps11
  go_wp2_with fail
  refine henc.mono ?_
  intro e w1 hpost
  obtain ⟨v1, rfl, ho1, hb1⟩ := menc_ok hpost hok
  obtain ⟨A1, n1, c1, rfl, hn1, hc1, hr1⟩ := ho1.named
  have Hn := Lib.hid hn1
  rw [encM_len] at hn1
  subst hn1
  have hdv := dec_enc hok
  clear hpost ho1 henc
  go_wp2_with fail
  refine (mtDecode_any A1 256 c1 (encM ⟨5, 7⟩) w1 (hh.below hb1) hr1 Hn.out (by omega)).mono ?_
  rintro e w2 ⟨rfl, hb2⟩
  rw [hdv.1, hdv.2]
  have hb3 : Below w2.heap.size w2 (w2.alloc (.cells #[.int .i64 5, .int .i64 7] 29)) := (Below.refl _ _).alloc (Nat.le_refl _) _
  have HB := Lib.hid (bthen (bthen hb1 hb2) hb3)
  have hslot : slotI 5 = 1 := by decide
  clear hdv Hn hb1 hb2 hb3 hr1
  unfold metaV
  go_wp2_with fail
  refine (mtSlot_any 5 _ ⟨by omega, by omega⟩).mono ?_
  rintro e w3 ⟨rfl, rfl⟩
  rw [hslot]
  go_wp2
  go_ret
  exact ⟨rfl, HB.out⟩

end Go.Proofs.YtcgmaiadipiegaaDoor
