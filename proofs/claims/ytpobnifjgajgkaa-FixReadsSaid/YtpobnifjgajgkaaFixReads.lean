/-
  The law FixReads answers true for all bytes and every list of calls: each answer, the error and the position are those of the document's reader; no conditions.
-/
import Derived.Test.YtpobnifjgajgkaaFixStops
import Derived.Test.YtpobnifjgajgkaaFixRefR
import Derived.Deep.RegionHeld3
namespace Go.Proofs.Ytpobnifjgajgkaa
open Go.RowKit Go.Sort
set_option linter.unusedVariables false

theorem quiet_same {P : Program} {f : FuncId} {args : Array Value} {w : World} {n : Nat} {v : Value}
    (h : Calls P f args (w.drewN n) fun e w' => e = .returned v ∧ w.drewN n = w') : Calls P f args (w.drewN n) fun e w'' => e = .returned v ∧ ∃ m, w'' = w.drewN m :=
  h.mono fun _ _ ⟨he, hm⟩ => ⟨he, n, hm.symm⟩
theorem below_drewN_ {B : Nat} {a w : World} (h : Below B a w) (n : Nat) : Below B a (w.drewN n) := ⟨h.os, h.tape, h.output, h.size, h.block⟩
theorem Rdr.only {w w' : World} {g d h : Nat} {l : List UInt8} {p e : Int} (r : Rdr w g d l p e) (hg : w.grownBy w' (some h)) (h1 : g ≠ h) (h2 : d ≠ h) : Rdr w' g d l p e :=
  ⟨(hg.block g r.lt.1 (fun x => h1 (Option.some.inj x))).trans r.1, (hg.block d r.lt.2 (fun x => h2 (Option.some.inj x))).trans r.2.1, r.2.2.1, r.2.2.2⟩
theorem RefR.only {w w' : World} {g h : Nat} {B : ByteArray} {p e : Int} (r : RefR w g B p e) (hg : w.grownBy w' (some h)) (h1 : g ≠ h) : RefR w' g B p e :=
  ⟨(hg.block g r.lt (fun x => h1 (Option.some.inj x))).trans r.1, r.2.1, r.2.2⟩
theorem RefR.alloc {w : World} {g : Nat} {B : ByteArray} {p e : Int} (r : RefR w g B p e) (o : Obj) : RefR (w.alloc o) g B p e :=
  ⟨(Below.heap_alloc w o g r.lt).trans r.1, r.2.1, r.2.2⟩

/-- Both readers stand alike, and nothing else has turned. -/
def Both (wB : World) (g d rg : Nat) (l : List UInt8) (B : ByteArray) (wr : World) : Prop := ∃ p e, Rdr wr g d l p e ∧ RefR wr rg B p e ∧ Below wB.heap.size wB wr

set_option maxHeartbeats 1000000 in
theorem fixReads_long (b : ByteArray) (A1 : Option Addr) (n1 c1 : Nat) (w : World) (h1 : 300 < n1) (hn1 : n1 ≤ 9223372036854775807) :
    Calls Try.prog 4 #[.string b, .slice A1 n1 c1] w fun e w' => e = .returned (.bool true) ∧ Below w.heap.size w w' := by
  have hd : decide ((300 : Int) < (n1 : Int)) = true := by simp; omega
  go_enter Try.func4, Try.ntmps4
  go_wp2_with fail
  refine (awake_any _).mono ?_
  rintro x w1 ⟨rfl, hb1⟩
  go_wp2_with fail
  refine (awake_any _).mono ?_
  rintro x w2 ⟨rfl, hb2⟩
  go_wp2
  go_ret
  exact ⟨rfl, bthen hb1 hb2⟩

set_option maxRecDepth 100000 in
set_option maxHeartbeats 4000000 in
theorem fixReads_walk (b : ByteArray) (A1 : Option Addr) (n1 c1 : Nat) (hbs : b.size ≤ 140737488351232) (hn1 : n1 ≤ 300) (w : World) (o1 : OpsAt w A1 n1) :
    Calls Try.prog 4 #[.string b, .slice A1 n1 c1] w fun e w' => e = .returned (.bool true) ∧ Below w.heap.size w w' := by
  have hd1 : decide ((300 : Int) < (n1 : Int)) = false := by simp; omega
  obtain ⟨C, F, hcv, hF⟩ := bytes_of b
  have HF := Lib.hid hF
  clear hF
  have hbl : b.data.toList.length = b.size := rfl
  obtain ⟨l, hl⟩ : ∃ l, l = b.data.toList := ⟨_, rfl⟩
  rw [← hl] at hbl
  have Hbl := Lib.hid hbl
  have Hl := Lib.hid hl
  have hlb : l.length ≤ 281474976710656 := by omega
  have hbb : b.size ≤ 281474976710656 := by omega
  clear hbl hl
  go_enter Try.func4, Try.ntmps4
  go_wp2_with fail
  refine (awake_any _).mono ?_
  rintro x w1 ⟨rfl, hb1⟩
  go_wp2_with fail
  have hF1 := HF.out w1
  rw [← Hl.out] at hF1
  generalize F w1 = w2 at *
  refine (read_any _ b.size _ l _ hF1.1 Hbl.out (by omega)).mono ?_
  rintro x w3 ⟨g, rfl, r3, hg3, hb3⟩
  have hb02 := bthen hb1 hF1.2
  have p1 := o1.below hb02
  have hrd0 : g < w3.heap.size := r3.lt.1
  have hdd0 : w2.heap.size < w3.heap.size := r3.lt.2
  have R3 := Lib.hid r3
  clear o1 hb1 hF1 hcv HF r3
  go_wp2
  obtain ⟨rg, hrge⟩ : ∃ rg, rg = w3.heap.size := ⟨_, rfl⟩
  have hG : Both w2 g w2.heap.size rg l b (w3.alloc (.cells #[.string b, .int .i64 0, .int .i64 0] 34)) :=
    ⟨0, 0, R3.out.alloc _, ⟨by rw [hrge]; exact heap_alloc_new w3 _, Int.le_refl _, by omega⟩, hb3.alloc hb3.size _⟩
  have hrg : rg ≠ g := by omega
  have hrd : w2.heap.size ≠ rg := by omega
  have hg4 : w2.heap.size ≤ rg := by omega
  rw [← hrge]
  clear hrge R3 hb3 hrd0 hdd0
  go_loopw [26] (fun i wr => ∃ k : Nat, k ≤ n1 ∧ i = .int .i64 k ∧ Both w2 g w2.heap.size rg l b wr) (fun i _ => n1 - (intOf i).toNat)
  case atStart => exact ⟨0, Nat.zero_le _, rfl, hG⟩
  case round =>
    obtain ⟨k, hk, rfl, p, e, r, q, hbr⟩ := hrel
    have R := Lib.hid r
    have Q := Lib.hid q
    clear r q
    by_cases hlt : k < n1
    case neg =>
      obtain ⟨hc60, hc61, hc62⟩ := Q.out.cells
      go_wp2
      go_quiet (first
        | (go_at_call 25; exact quiet_same (err_some _ g _ l _ _ (R.out.drewN _)))
        | (go_at_call 26; exact quiet_same (at_some _ g _ l _ _ (R.out.drewN _))))
      go_wp2
      go_ret
      exact ⟨rfl, bthen hb02 (below_drewN_ hbr nq)⟩
    obtain ⟨bb, off, rfl, hlt2, hc⟩ := p1 (by omega)
    obtain ⟨kk, mm, hc0, hc1⟩ := hc k hlt
    rw [← hbr.cell (p := ⟨bb, off + k * 2, none⟩) hlt2] at hc0
    rw [← hbr.cell (p := ⟨bb, off + k * 2 + 1, none⟩) hlt2] at hc1
    have HC := Lib.hid hc
    clear hc
    by_cases hkk : kk = 1
    · subst hkk
      go_wp2_with fail
      refine (take8_any _ g _ l p e (R.out.alloc _) hlb).mono ?_
      rintro x w5 ⟨rfl, r5, hg5⟩
      have q5 := (Q.out.alloc (.cells #[.int .i64 1, .int .i64 mm] 36)).only hg5 hrg
      have b5 := below_only (hbr.alloc hbr.size (.cells #[.int .i64 1, .int .i64 mm] 36)) hg5 (Nat.le_trans hbr.size (by simp)) hg3
      have Q5 := Lib.hid q5
      have R5 := Lib.hid r5
      clear q5 r5 hg5
      go_wp2_with fail
      refine (rtake_any _ rg b p e 1 Q5.out (by omega) (by omega) hbb).mono ?_
      rintro x w6 ⟨rfl, q6, hg6⟩
      have hb6 := below_only b5 hg6 b5.size hg4
      rw [← Hl.out] at q6 ⊢
      have r6 := R5.out.only hg6 (Ne.symm hrg) hrd
      have Q6 := Lib.hid q6
      have R6 := Lib.hid r6
      obtain ⟨p6, hp6⟩ : ∃ q, q = nextP l p e 1 := ⟨_, rfl⟩
      obtain ⟨e6, he6⟩ : ∃ q, q = nextE l p e 1 := ⟨_, rfl⟩
      rw [← hp6, ← he6] at Q6 R6
      obtain ⟨hc60, hc61, hc62⟩ := Q6.out.cells
      clear q6 r6 hg6 Q5 R5 b5 hp6 he6
      go_wp2
      go_quiet (first
        | (go_at_call 25; exact quiet_same (err_some _ g _ l _ _ (R6.out.drewN _)))
        | (go_at_call 26; exact quiet_same (at_some _ g _ l _ _ (R6.out.drewN _))))
      go_wp2
      refine ⟨⟨k + 1, by omega, by go_num, _, _, R6.out.drewN nq, Q6.out.drewN nq, below_drewN_ hb6 nq⟩, by simp [intOf]; omega⟩
    by_cases hkk2 : kk = 2
    · subst hkk2
      go_wp2_with fail
      refine (take16_any _ g _ l p e (R.out.alloc _) hlb).mono ?_
      rintro x w5 ⟨rfl, r5, hg5⟩
      have q5 := (Q.out.alloc (.cells #[.int .i64 2, .int .i64 mm] 36)).only hg5 hrg
      have b5 := below_only (hbr.alloc hbr.size (.cells #[.int .i64 2, .int .i64 mm] 36)) hg5 (Nat.le_trans hbr.size (by simp)) hg3
      have Q5 := Lib.hid q5
      have R5 := Lib.hid r5
      clear q5 r5 hg5
      go_wp2_with fail
      refine (rtake_any _ rg b p e 2 Q5.out (by omega) (by omega) hbb).mono ?_
      rintro x w6 ⟨rfl, q6, hg6⟩
      have hb6 := below_only b5 hg6 b5.size hg4
      rw [← Hl.out] at q6 ⊢
      have r6 := R5.out.only hg6 (Ne.symm hrg) hrd
      have Q6 := Lib.hid q6
      have R6 := Lib.hid r6
      obtain ⟨p6, hp6⟩ : ∃ q, q = nextP l p e 2 := ⟨_, rfl⟩
      obtain ⟨e6, he6⟩ : ∃ q, q = nextE l p e 2 := ⟨_, rfl⟩
      rw [← hp6, ← he6] at Q6 R6
      obtain ⟨hc60, hc61, hc62⟩ := Q6.out.cells
      clear q6 r6 hg6 Q5 R5 b5 hp6 he6
      go_wp2
      go_quiet (first
        | (go_at_call 25; exact quiet_same (err_some _ g _ l _ _ (R6.out.drewN _)))
        | (go_at_call 26; exact quiet_same (at_some _ g _ l _ _ (R6.out.drewN _))))
      go_wp2
      refine ⟨⟨k + 1, by omega, by go_num, _, _, R6.out.drewN nq, Q6.out.drewN nq, below_drewN_ hb6 nq⟩, by simp [intOf]; omega⟩
    by_cases hkk3 : kk = 3
    · subst hkk3
      go_wp2_with fail
      refine (take32_any _ g _ l p e (R.out.alloc _) hlb).mono ?_
      rintro x w5 ⟨rfl, r5, hg5⟩
      have q5 := (Q.out.alloc (.cells #[.int .i64 3, .int .i64 mm] 36)).only hg5 hrg
      have b5 := below_only (hbr.alloc hbr.size (.cells #[.int .i64 3, .int .i64 mm] 36)) hg5 (Nat.le_trans hbr.size (by simp)) hg3
      have Q5 := Lib.hid q5
      have R5 := Lib.hid r5
      clear q5 r5 hg5
      go_wp2_with fail
      refine (rtake_any _ rg b p e 4 Q5.out (by omega) (by omega) hbb).mono ?_
      rintro x w6 ⟨rfl, q6, hg6⟩
      have hb6 := below_only b5 hg6 b5.size hg4
      rw [← Hl.out] at q6 ⊢
      have r6 := R5.out.only hg6 (Ne.symm hrg) hrd
      have Q6 := Lib.hid q6
      have R6 := Lib.hid r6
      obtain ⟨p6, hp6⟩ : ∃ q, q = nextP l p e 4 := ⟨_, rfl⟩
      obtain ⟨e6, he6⟩ : ∃ q, q = nextE l p e 4 := ⟨_, rfl⟩
      rw [← hp6, ← he6] at Q6 R6
      obtain ⟨hc60, hc61, hc62⟩ := Q6.out.cells
      clear q6 r6 hg6 Q5 R5 b5 hp6 he6
      go_wp2
      go_quiet (first
        | (go_at_call 25; exact quiet_same (err_some _ g _ l _ _ (R6.out.drewN _)))
        | (go_at_call 26; exact quiet_same (at_some _ g _ l _ _ (R6.out.drewN _))))
      go_wp2
      refine ⟨⟨k + 1, by omega, by go_num, _, _, R6.out.drewN nq, Q6.out.drewN nq, below_drewN_ hb6 nq⟩, by simp [intOf]; omega⟩
    by_cases hkk5 : kk = 5
    · subst hkk5
      go_wp2_with fail
      refine (zero_any _ g _ l p e (R.out.alloc _) hlb).mono ?_
      rintro x w5 ⟨rfl, r5, hg5⟩
      have q5 := (Q.out.alloc (.cells #[.int .i64 5, .int .i64 mm] 36)).only hg5 hrg
      have b5 := below_only (hbr.alloc hbr.size (.cells #[.int .i64 5, .int .i64 mm] 36)) hg5 (Nat.le_trans hbr.size (by simp)) hg3
      have Q5 := Lib.hid q5
      have R5 := Lib.hid r5
      clear q5 r5 hg5
      go_wp2_with fail
      refine (rzero_any _ rg b p e Q5.out hbb).mono ?_
      rintro x w6 ⟨rfl, q6, hg6⟩
      have hb6 := below_only b5 hg6 b5.size hg4
      rw [← Hl.out] at q6
      have r6 := R5.out.only hg6 (Ne.symm hrg) hrd
      have Q6 := Lib.hid q6
      have R6 := Lib.hid r6
      obtain ⟨p6, hp6⟩ : ∃ q, q = zeroP l p e := ⟨_, rfl⟩
      obtain ⟨e6, he6⟩ : ∃ q, q = zeroE l p e := ⟨_, rfl⟩
      rw [← hp6, ← he6] at Q6 R6
      obtain ⟨hc60, hc61, hc62⟩ := Q6.out.cells
      clear q6 r6 hg6 Q5 R5 b5 hp6 he6
      go_wp2
      go_quiet (first
        | (go_at_call 25; exact quiet_same (err_some _ g _ l _ _ (R6.out.drewN _)))
        | (go_at_call 26; exact quiet_same (at_some _ g _ l _ _ (R6.out.drewN _))))
      go_wp2
      refine ⟨⟨k + 1, by omega, by go_num, _, _, R6.out.drewN nq, Q6.out.drewN nq, below_drewN_ hb6 nq⟩, by simp [intOf]; omega⟩
    by_cases hkk4 : kk = 4
    · subst hkk4
      go_wp2
      have Q4 := Lib.hid (Q.out.alloc (.cells #[.int .i64 4, .int .i64 mm] 36))
      have R4 := Lib.hid (R.out.alloc (.cells #[.int .i64 4, .int .i64 mm] 36))
      have hb4 := hbr.alloc hbr.size (.cells #[.int .i64 4, .int .i64 mm] 36)
      have hc4 : (wr.alloc (.cells #[.int .i64 4, .int .i64 mm] 36)).cell? ⟨wr.heap.size, 1, none⟩ = some (.int .i64 mm) := (World.cell?_alloc_mark _ _ _ _ _).trans rfl
      have hbg : some wr.heap.size ≠ some g := fun h => by have := R.out.lt.1; cases h; omega
      have hbr2 : some wr.heap.size ≠ some rg := fun h => by have := Q.out.lt; cases h; omega
      generalize (wr.alloc (.cells #[.int .i64 4, .int .i64 mm] 36)) = w4 at *
      generalize wr.heap.size = bx at *
      clear Q R hbr hc0 hc1
      go_region_held3 (fun w' => w'.cell? ⟨bx, 1, none⟩ = some (.int .i64 mm)) (first | exact hc4 | exact hc5 | exact hc6)
        (first
          | (go_at_call 21; refine (text_any _ g _ l p e mm (by exact R4.out) hlb).mono ?_; rintro x w5 ⟨rfl, r5, hg5⟩; have hc5 := hg5.cell (a := ⟨bx, 1, none⟩) hc4 hbg; have R5 := Lib.hid r5; have HG5 := Lib.hid hg5; clear r5 hg5)
          | (go_at_call 22; refine (rtext_any _ rg b p e mm (by exact (show RefR w4.drew rg b p e from Q4.out).only HG5.out hrg) hbb).mono ?_; rintro x w6 ⟨rfl, q6, hg6⟩; have hc6 := hg6.cell (a := ⟨bx, 1, none⟩) hc5 hbr2; have Q6 := Lib.hid q6; have HG6 := Lib.hid hg6; clear q6 hg6))
      have r6 := R5.out.only HG6.out (Ne.symm hrg) hrd
      have b5 := below_only hb4.drew HG5.out hb4.size hg3
      have hb6 := below_only b5 HG6.out b5.size hg4
      rw [← Hl.out] at Q6 ⊢
      have R6 := Lib.hid r6
      obtain ⟨p6, hp6⟩ : ∃ q, q = txtP l p e mm := ⟨_, rfl⟩
      obtain ⟨e6, he6⟩ : ∃ q, q = txtE l p e mm := ⟨_, rfl⟩
      rw [← hp6, ← he6] at Q6 R6
      obtain ⟨hc60, hc61, hc62⟩ := Q6.out.cells
      clear r6 b5 R5 R4 Q4 HG5 HG6 hb4 hp6 he6 hc4 hc5 hc6
      go_wp2
      go_quiet (first
        | (go_at_call 25; exact quiet_same (err_some _ g _ l _ _ (R6.out.drewN _)))
        | (go_at_call 26; exact quiet_same (at_some _ g _ l _ _ (R6.out.drewN _))))
      go_wp2
      refine ⟨⟨k + 1, by omega, by go_num, _, _, R6.out.drewN nq, Q6.out.drewN nq, below_drewN_ hb6 nq⟩, by simp [intOf]; omega⟩
    have b1 : (kk == 1) = false := by simpa using hkk
    have b2 : (kk == 2) = false := by simpa using hkk2
    have b3 : (kk == 3) = false := by simpa using hkk3
    have b4 : (kk == 4) = false := by simpa using hkk4
    have b5 : (kk == 5) = false := by simpa using hkk5
    have Q6 := Lib.hid (Q.out.alloc (.cells #[.int .i64 kk, .int .i64 mm] 36))
    have R6 := Lib.hid (R.out.alloc (.cells #[.int .i64 kk, .int .i64 mm] 36))
    have hb6 := hbr.alloc hbr.size (.cells #[.int .i64 kk, .int .i64 mm] 36)
    obtain ⟨hc60, hc61, hc62⟩ := Q6.out.cells
    clear hkk hkk2 hkk3 hkk4 hkk5
    go_wp2
    go_quiet (first
      | (go_at_call 25; exact quiet_same (err_some _ g _ l _ _ (R6.out.drewN _)))
      | (go_at_call 26; exact quiet_same (at_some _ g _ l _ _ (R6.out.drewN _))))
    go_wp2
    refine ⟨⟨k + 1, by omega, by go_num, _, _, R6.out.drewN nq, Q6.out.drewN nq, below_drewN_ hb6 nq⟩, by simp [intOf]; omega⟩

theorem fixReads_row (b : ByteArray) (A1 : Option Addr) (n1 c1 : Nat) (w : World) (hbs : b.size ≤ 140737488351232) (o1 : n1 ≤ maxLen ∧ OpsAt w A1 n1) :
    Calls Try.prog 4 #[.string b, .slice A1 n1 c1] w fun e w' => e = .returned (.bool true) ∧ Below w.heap.size w w' := by
  by_cases h : 300 < n1
  · exact fixReads_long b A1 n1 c1 w h o1.1
  · exact fixReads_walk b A1 n1 c1 hbs (by omega) w o1.2

end Go.Proofs.Ytpobnifjgajgkaa

namespace Go.Proofs.Ytpobnifjgajgkaa.fixReads
open Go.ChangeShapes Go.WideShapes Go.ChangeAt Go.RowKit
open Go.ChangeMaps (open_string shut_string)
set_option linter.unusedVariables false

theorem own : ownKnob Try.prog.godebug = none := by kernel_rfl
theorem laidOut : laidOutB Try.prog = true := by kernel_rfl

set_option maxRecDepth 100000 in
theorem lifted (os : Os) (started : os.Started) (H : Type) (enc : TypeId × Value → H) :
    ReturnsInHanded {} Try.checked os 4 .any (Rows.fixReadsSpec.pre6 enc Try.prog Try.f4 Rows.fixReadsRow.domain false) (Rows.fixReadsSpec.post enc Try.prog Try.f4 false true false false) := by
  refine returnsInHanded_of_change_sized (C := Try.checked) own started (by kernel_rfl) Try.func4
    (ChangeSpec.witness6 (enc := enc) (C := Try.checked) false ⟨#[], #[.string ByteArray.empty, .slice none 0 0], []⟩ 8 (by kernel_rfl) (by kernel_rfl) (by kernel_rfl) (by kernel_rfl)) ?_
  intro W base args ds gs before hval0 hW hcnd hsz0 _
  have hval : ∀ (j : Nat) t v, Try.f4.params[j]? = some t → args[j]? = some v → Value.okWide Try.prog W .any base t v := hval0
  have hsz : (DataW.weightsEach Try.prog (Try.f4.params.toList ++ Rows.fixReadsSpec.plain.varTypes Try.prog) (ds ++ gs)).all (· ≤ reachBytes) = true := hsz0
  have hW' := hW
  obtain ⟨p, q, hA0, hV, rfl, hfz, hnd⟩ := hW
  have hA : DataW.TrodAll enc Try.prog W 0 (fun _ => true) true Try.f4.params.toList args.toList ds p := hA0
  rw [Try.params4] at hA hval hsz
  obtain ⟨v0, vs0, d0, ds0, p0, q0, hargs, rfl, rfl, h0, r0⟩ := trodAll_cons hA
  obtain ⟨v1, vs1, d1, ds1, p1, q1, rfl, rfl, rfl, h1, r1⟩ := trodAll_cons r0
  obtain ⟨rfl, rfl, rfl⟩ := trodAll_nil r1
  obtain rfl : args = #[v0, v1] := by cases args; simp_all
  obtain ⟨rfl, rfl⟩ := trodVars_none hV
  obtain ⟨a0, rfl, rfl, rfl, w0⟩ := open_string Try.underlying9 (hval 0 9 v0 rfl rfl) h0
  obtain ⟨A1, n1, c1, rfl⟩ := okWide_slice Try.underlying29 (hval 1 29 v1 rfl rfl)
  have k1 := h1
  have lt1 : ∀ x ∈ p1, x.block < W.heap.size := by obtain ⟨m, hm⟩ := k1; exact DataW.trod_lt m _ _ _ hm
  have w1 := ops_of h1
  have z0 : a0.data.toList.length ≤ reachBytes := sized_string hsz (j := 0) (t := 9) rfl rfl
  have y0 : a0.size ≤ 140737488351232 := z0
  clear hA0 hval0 hsz hsz0
  refine (fixReads_row a0 A1 n1 c1 W y0 w1).mono fun e W' ⟨he, bel⟩ => ?_
  subst he
  exact ⟨_, rfl, _, _, _, [], _, [], hW', trodAll_mk1 (shut_bool Try.underlying4 _), (trodAll_cons_mk (shut_string Try.underlying9 w0) (trodAll_cons_mk (Below.trod laidOut (by kernel_rfl) (of_decide_eq_true (by kernel_rfl)) k1 bel lt1) trodAll_mk0)), rfl, bel.frame _, fun h => by cases h⟩

theorem over : Rows.fixReadsRow.holds Try.pinned (OpenSpec.ofChange Rows.fixReadsSpec) :=
  OpenClaim.holds_of_wide 4 Try.f4 rfl rfl rfl rfl rfl rfl rfl ⟨rfl, rfl, rfl, rfl, rfl⟩ rfl rfl rfl rfl rfl (by kernel_rfl) Try.func4 (by kernel_rfl)
    (of_decide_eq_true (by kernel_rfl)) (by unfold Func.isWrapper; first | (rw [if_pos (by decide +kernel)]; kernel_rfl) | (rw [if_neg (by decide +kernel)]; exact ⟨rfl, rfl⟩))
    (fun os started H enc _ => lifted os started H enc)

theorem proved : Rows.FixReadsSaid := over
#print axioms proved

end Go.Proofs.Ytpobnifjgajgkaa.fixReads
