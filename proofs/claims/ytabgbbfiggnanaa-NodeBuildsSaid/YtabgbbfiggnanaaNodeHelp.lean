/-
  The contracts of the law's helpers awake and known; make of nil nodes; conditions stand at each.
-/
import Derived.Test.YtabgbbfiggnanaaNodeBranch
namespace Go.Proofs.Ytabgbbfiggnanaa
open Go.RowKit Go.Sort
set_option linter.unusedVariables false
set_option linter.unusedSimpArgs false

theorem quiet_is {P : Program} {f : FuncId} {args : Array Value} {w : World} {n : Nat} {v : Value}
    (h : Calls P f args (w.drewN n) fun e w' => e = .returned v ∧ w.drewN n = w') : Calls P f args (w.drewN n) fun e w'' => e = .returned v ∧ ∃ m, w'' = w.drewN m :=
  h.mono fun _ _ ⟨he, hm⟩ => ⟨he, n, hm.symm⟩
theorem quiet_more {P : Program} {f : FuncId} {args : Array Value} {w : World} {n : Nat} {v : Value}
    (h : Calls P f args (w.drewN n) fun e w' => e = .returned v ∧ ∃ nq, w' = (w.drewN n).drewN nq) : Calls P f args (w.drewN n) fun e w'' => e = .returned v ∧ ∃ m, w'' = w.drewN m :=
  h.mono fun _ _ ⟨he, nq, hm⟩ => ⟨he, n + nq, hm.trans (drewN_add _ _ _)⟩
theorem NodeAt.drewN {w : World} {b : Nat} {N : NR} (h : NodeAt w b N) (n : Nat) : NodeAt (w.drewN n) b N := h
theorem byte_of {x : Int} (h : (Lit.int .u8 x).wf = true) : ∃ y : Nat, y < 256 ∧ x = (y : Int) := by
  have : 0 ≤ x ∧ x ≤ 255 := by simpa [Lit.wf, IntKind.min, IntKind.max, IntKind.signed, IntKind.bits] using h
  exact ⟨x.toNat, by omega, by omega⟩

theorem okLeaf_a : okLeaf [⟨⟨#[97]⟩, ByteArray.empty⟩] = true := by decide

set_option maxRecDepth 100000 in
set_option maxHeartbeats 1000000 in
theorem ndAwake_any (w : World) : Calls Try.prog 7 #[] w fun e w' => e = .returned (.bool true) ∧ Below w.heap.size w w' := by
  go_enter Try.func7, Try.ntmps7
  go_wp2_with fail
  refine (leaf_any (some ⟨w.heap.size, 0, none⟩) 1 1 [⟨⟨#[97]⟩, ByteArray.empty⟩] _ (box_es w ⟨⟨#[97]⟩, ByteArray.empty⟩ 36) rfl (by omega) (by decide)).mono ?_
  rintro e w1 ⟨hb1, ⟨_, b, N, rfl, hbb, hn, hl, _⟩ | ⟨h, _⟩⟩
  · have hb0 : Below w.heap.size w (w.alloc (.cells #[.string ⟨#[97]⟩, .string ByteArray.empty] 36)) := (Below.refl _ _).alloc (Nat.le_refl _) _
    have HB := Lib.hid (bthen hb0 hb1)
    have HN := Lib.hid hn
    have hh := hl.h
    have hk := hl.kn
    have he := hl.en
    have HH := Lib.hid hh
    have HS := Lib.hid (show N.en + N.kn = 1 by rw [hk, he]; rfl)
    clear hb0 hb1 hn hl hh hk he hbb
    go_wp2_with fail
    refine (height_any HN.out).mono ?_
    rintro e w2 ⟨rfl, rfl⟩
    rw [HH.out]
    go_wp2_with fail
    refine (size_any HN.out (by rw [HS.out]; omega)).mono ?_
    rintro e w2 ⟨rfl, nq, rfl⟩
    rw [HS.out]
    go_wp2
    go_ret
    exact ⟨rfl, below_drewN HB.out nq⟩
  · rw [okLeaf_a] at h
    cases h

set_option maxRecDepth 100000 in
set_option maxHeartbeats 1000000 in
/-- known, of a node of which that is known. -/
theorem known_any {w : World} {b : Nat} {N : NR} (h : NodeAt w b N) (K : KR) (h1 : K.h = N.h) (h2 : K.lo = N.lo) (h3 : K.hi = N.hi) (h4 : K.full = !N.lk) :
    Calls Try.prog 11 #[pn b, kidV K] w fun e w' => e = .returned (.bool true) ∧ Below w.heap.size w w' := by
  obtain ⟨kh, klo, khi, kf, ke⟩ := K
  simp only at h1 h2 h3 h4
  subst h1 h2 h3
  obtain ⟨wa, hwa⟩ : ∃ wa, wa = w.alloc (.cells #[.int .i64 (N.h : Int), .string N.lo, .string N.hi, .bool kf, .bool ke] 38) := ⟨_, rfl⟩
  have hba : Below w.heap.size w wa := by rw [hwa]; exact (Below.refl _ _).alloc (Nat.le_refl _) _
  have c0 : wa.cell? ⟨w.heap.size, 0, none⟩ = some (.int .i64 (N.h : Int)) := by rw [hwa, World.cell?_alloc_mark]; rfl
  have c1 : wa.cell? ⟨w.heap.size, 1, none⟩ = some (.string N.lo) := by rw [hwa, World.cell?_alloc_mark]; rfl
  have c2 : wa.cell? ⟨w.heap.size, 2, none⟩ = some (.string N.hi) := by rw [hwa, World.cell?_alloc_mark]; rfl
  have c3 : wa.cell? ⟨w.heap.size, 3, none⟩ = some (.bool kf) := by rw [hwa, World.cell?_alloc_mark]; rfl
  have HN := Lib.hid (h.below hba)
  have HB := Lib.hid hba
  have HWA := Lib.hid hwa
  have HF := Lib.hid h4
  clear hba hwa h h4
  have hs1 : (N.lo.toList == N.lo.toList) = true := by rw [same_eq]; simp
  have hs2 : (N.hi.toList == N.hi.toList) = true := by rw [same_eq]; simp
  unfold kidV
  simp only
  go_enter Try.func11, Try.ntmps11
  go_wp2_with fail
  rw [← HWA.out]
  refine (ends_any HN.out).mono ?_
  rintro e w2 ⟨rfl, nq, rfl⟩
  obtain ⟨wb, hwb⟩ : ∃ wb, wb = wa.drewN nq := ⟨_, rfl⟩
  have d0 : wb.cell? ⟨w.heap.size, 0, none⟩ = some (.int .i64 (N.h : Int)) := by rw [hwb]; exact c0
  have d1 : wb.cell? ⟨w.heap.size, 1, none⟩ = some (.string N.lo) := by rw [hwb]; exact c1
  have d2 : wb.cell? ⟨w.heap.size, 2, none⟩ = some (.string N.hi) := by rw [hwb]; exact c2
  have d3 : wb.cell? ⟨w.heap.size, 3, none⟩ = some (.bool kf) := by rw [hwb]; exact c3
  have HNB := Lib.hid (show NodeAt wb b N by rw [hwb]; exact HN.out)
  have HBB := Lib.hid (show Below w.heap.size w wb by rw [hwb]; exact below_drewN HB.out nq)
  rw [← hwb]
  clear hwb c0 c1 c2 c3 HN HB HWA
  have HF' := HF.out
  subst HF'
  clear HF
  go_wp2
  go_quiet (first
    | (go_at_call 20; exact quiet_is (height_any (HNB.out.drewN _)))
    | (go_at_call 21; exact quiet_is (full_any (HNB.out.drewN _))))
  go_wp2
  go_ret
  exact ⟨by simp, below_drewN HBB.out _⟩

/-- make([]*Node, n), n a byte. -/
theorem run_make_nils (n : Nat) (hb : n ≤ 255) (w : World) :
    (Instr.makeSlice 25 (.int .u8 (n : Int)) (.int .u8 (n : Int))).run Try.prog w = .ok (.slice (some ⟨w.heap.size, 0, none⟩) n n) (w.alloc (.cells (List.replicate n (.pointer none)).toArray 30)) := by
  obtain ⟨i0, hi0, hz0, hz1, hz2⟩ := info_parts ptrInfo
  have hr := run_make (P := Try.prog) w 25 30 i0 _ Try.underlying25 hi0 hz0 .u8 .u8 (n : Int) (n : Int) (by omega) (by omega) (by rw [hz2]; omega) (by omega)
  rw [hz1] at hr
  rw [← made_list]
  simpa [Value.cells] using hr
theorem nils_cells : ∀ n : Nat, (List.replicate n (none : Option Nat)).flatMap pcP = List.replicate n (Value.pointer none)
  | 0 => rfl
  | n + 1 => by rw [List.replicate_succ, List.flatMap_cons, nils_cells n]; rfl
theorem ls_nils (n : Nat) (w : World) : Ls pcP (w.alloc (.cells (List.replicate n (.pointer none)).toArray 30)) (some ⟨w.heap.size, 0, none⟩) (List.replicate n none) := fun _ =>
  ⟨_, rfl, by simp, fun j u hu => by
    refine new_row w _ _ j u ?_
    rw [nils_cells] at hu
    simpa using hu⟩

end Go.Proofs.Ytabgbbfiggnanaa
