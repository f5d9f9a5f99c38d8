/-
  The law FixStops answers true for all bytes and every two lists of calls: after the first error nothing moves any more; no conditions.
-/
import Derived.Test.YtpobnifjgajgkaaFixDoes
import Derived.Test.YtpobnifjgajgkaaFixConv
import Derived.ProofKit
import Derived.OpenShut
import Derived.Carry
import Derived.ShutString
import Derived.SizedLaws
import Derived.Deep.SlicePairs
namespace Go.Proofs.Ytpobnifjgajgkaa
open Go.RowKit Go.Sort
set_option linter.unusedVariables false

set_option maxHeartbeats 1000000 in
theorem fixStops_long (b : ByteArray) (A1 A2 : Option Addr) (n1 c1 n2 c2 : Nat) (hn : 300 < n1 ∨ 300 < n2) (w : World) (hn1 : n1 ≤ 9223372036854775807) (hn2 : n2 ≤ 9223372036854775807) :
    Calls Try.prog 6 #[.string b, .slice A1 n1 c1, .slice A2 n2 c2] w fun e w' => e = .returned (.bool true) ∧ Below w.heap.size w w' := by
  by_cases h1 : 300 < n1
  · have hd : decide ((300 : Int) < (n1 : Int)) = true := by simp; omega
    go_enter Try.func6, Try.ntmps6
    go_wp2_with fail
    refine (awake_any _).mono ?_
    rintro x w1 ⟨rfl, hb1⟩
    go_wp2_with fail
    refine (awake_any _).mono ?_
    rintro x w2 ⟨rfl, hb2⟩
    go_wp2
    go_ret
    exact ⟨rfl, bthen hb1 hb2⟩
  · have h2 : 300 < n2 := by omega
    have hd : decide ((300 : Int) < (n1 : Int)) = false := by simp; omega
    have hd2 : decide ((300 : Int) < (n2 : Int)) = true := by simp; omega
    clear hn
    go_enter Try.func6, Try.ntmps6
    go_wp2_with fail
    refine (awake_any _).mono ?_
    rintro x w1 ⟨rfl, hb1⟩
    go_wp2_with fail
    refine (awake_any _).mono ?_
    rintro x w2 ⟨rfl, hb2⟩
    go_wp2
    go_ret
    exact ⟨rfl, bthen hb1 hb2⟩

/-- What holds while the calls go on: where the Reader is, and that nothing else has turned. -/
def Going (wB : World) (g d : Nat) (l : List UInt8) (p e : Int) (wr : World) : Prop := Rdr wr g d l p e ∧ Below wB.heap.size wB wr
def GoingSome (wB : World) (g d : Nat) (l : List UInt8) (wr : World) : Prop := ∃ p e, Going wB g d l p e wr

set_option maxHeartbeats 2000000 in
theorem fixStops_walk (b : ByteArray) (A1 A2 : Option Addr) (n1 c1 n2 c2 : Nat) (hbs : b.size ≤ 140737488351232) (hn1 : n1 ≤ 300) (hn2 : n2 ≤ 300) (w : World) (o1 : OpsAt w A1 n1) (o2 : OpsAt w A2 n2) :
    Calls Try.prog 6 #[.string b, .slice A1 n1 c1, .slice A2 n2 c2] w fun e w' => e = .returned (.bool true) ∧ Below w.heap.size w w' := by
  have hd1 : decide ((300 : Int) < (n1 : Int)) = false := by simp; omega
  have hd2 : decide ((300 : Int) < (n2 : Int)) = false := by simp; omega
  obtain ⟨C, F, hcv, hF⟩ := bytes_of b
  have HF := Lib.hid hF
  clear hF
  have hbl : b.data.toList.length = b.size := rfl
  obtain ⟨l, hl⟩ : ∃ l, l = b.data.toList := ⟨_, rfl⟩
  rw [← hl] at hbl
  have Hbl := Lib.hid hbl
  have Hl := Lib.hid hl
  have hlb : l.length ≤ 281474976710656 := by omega
  clear hbl hl
  go_enter Try.func6, Try.ntmps6
  go_wp2_with fail
  refine (awake_any _).mono ?_
  rintro x w1 ⟨rfl, hb1⟩
  go_wp2_with fail
  have hF1 := HF.out w1
  rw [← Hl.out] at hF1
  generalize F w1 = w2 at *
  refine (read_any _ b.size _ l _ hF1.1 Hbl.out (by omega)).mono ?_
  rintro x w3 ⟨g, rfl, r3, hg3, hb3⟩
  have hb02 := bthen hb1 hF1.2
  have p1 := o1.below hb02
  have p2 := o2.below hb02
  have hG : GoingSome w2 g w2.heap.size l w3 := ⟨0, 0, r3, hb3⟩
  clear o1 o2 hb1 hF1 r3 hb3 hcv HF
  go_wp2
  go_loopw [30] (fun i wr => ∃ k : Nat, k ≤ n1 ∧ i = .int .i64 k ∧ GoingSome w2 g w2.heap.size l wr) (fun i _ => n1 - (intOf i).toNat)
  case atStart => exact ⟨0, Nat.zero_le _, rfl, hG⟩
  case round =>
    obtain ⟨k, hk, rfl, p, e, r, hbr⟩ := hrel
    by_cases hlt : k < n1
    · obtain ⟨bb, off, rfl, hlt2, hc⟩ := p1 (by omega)
      obtain ⟨kk, mm, hc0, hc1⟩ := hc k hlt
      rw [← hbr.cell (p := ⟨bb, off + k * 2, none⟩) hlt2] at hc0
      rw [← hbr.cell (p := ⟨bb, off + k * 2 + 1, none⟩) hlt2] at hc1
      have R := Lib.hid r
      have HC := Lib.hid hc
      clear r hc
      go_wp2_with fail
      refine (does_any wr g _ l p e kk mm R.out hlb).mono ?_
      rintro x w4 ⟨bo, p', e', rfl, r4, hg4, _⟩
      go_wp2
      refine ⟨⟨k + 1, by omega, by go_num, p', e', r4, below_only hbr hg4 hbr.size hg3⟩, by simp [intOf]; omega⟩
    · have R := Lib.hid r
      have hpl : p ≤ (b.size : Int) := by have h := r.2.2.2; rw [Hbl.out] at h; exact h
      clear r p1
      go_wp2_with fail
      refine (err_some wr g _ l p e R.out).mono ?_
      rintro x w4 ⟨rfl, rfl⟩
      go_wp2_with fail
      refine (at_some wr g _ l p e R.out).mono ?_
      rintro x w4 ⟨rfl, rfl⟩
      by_cases he : e = 0
      · subst he
        go_wp2
        go_ret
        exact ⟨rfl, bthen hb02 hbr⟩
      · have hef : (e == 0) = false := by simpa using he
        have HE := Lib.hid he
        have hG2 : Going w2 g w2.heap.size l p e wr := ⟨R.out, hbr⟩
        clear he R hbr hlt hk
        go_wp2
        go_loopw [52] (fun i wq => ∃ j : Nat, j ≤ n2 ∧ i = .int .i64 j ∧ Going w2 g w2.heap.size l p e wq) (fun i _ => n2 - (intOf i).toNat)
        case atStart => exact ⟨0, Nat.zero_le _, rfl, hG2⟩
        case round =>
          obtain ⟨j, hj, rfl, r, hbr⟩ := hrel
          by_cases hlt : j < n2
          · obtain ⟨bb, off, rfl, hlt2, hc⟩ := p2 (by omega)
            obtain ⟨kk, mm, hc0, hc1⟩ := hc j hlt
            rw [← hbr.cell (p := ⟨bb, off + j * 2, none⟩) hlt2] at hc0
            rw [← hbr.cell (p := ⟨bb, off + j * 2 + 1, none⟩) hlt2] at hc1
            have R := Lib.hid r
            have HC := Lib.hid hc
            clear r hc
            go_wp2_with fail
            refine (does_any _ g _ l p e kk mm R.out hlb).mono ?_
            rintro x w5 ⟨bo, p', e', rfl, r5, hg5, hst⟩
            obtain ⟨rfl, rfl, rfl⟩ := hst HE.out
            have hb5 := below_only hbr hg5 hbr.size hg3
            have R5 := Lib.hid r5
            clear r5 hg5 hbr R
            go_wp2_with fail
            refine (err_some w5 g _ l p' e' R5.out).mono ?_
            rintro x w6 ⟨rfl, rfl⟩
            go_wp2_with fail
            refine (at_some w5 g _ l p' e' R5.out).mono ?_
            rintro x w6 ⟨rfl, rfl⟩
            go_wp2
            refine ⟨⟨j + 1, by omega, by go_num, R5.out, hb5⟩, by simp [intOf]; omega⟩
          · go_wp2
            go_ret
            exact ⟨rfl, bthen hb02 hbr⟩

theorem opCells : Try.prog.cellsOf 36 = 2 := by kernel_rfl
theorem intCells : Try.prog.cellsOf 3 = 1 := by kernel_rfl

open Go.ChangeShapes Go.WideShapes in
/-- What a slice of calls that can be read gives the walk. -/
theorem ops_of {H : Type} {enc : TypeId × Value → H} {W : World} {base : Nat} {sp : Nat → Bool} {held : Bool} {A : Option Addr} {n c : Nat} {d : DataW H} {p : List MemPlace}
    (h : DataW.Trod enc Try.prog W base sp held 29 (.slice A n c) d p) : n ≤ maxLen ∧ OpsAt W A n := by
  obtain ⟨fuel, hf⟩ := h
  rcases Deep.open_slice_pairs Try.underlying29 Try.underlying36 opCells rfl rfl intCells intCells hf with ⟨hcs, _⟩ | ⟨a, len, cap, m, q, V0, V1, D0, D1, P0, P1, hcs, hb, hl, hm, hmm, _, hi⟩
  · simp [Value.cells] at hcs
    obtain ⟨rfl, rfl, rfl⟩ := hcs
    exact ⟨Nat.zero_le _, fun h => absurd h (by omega)⟩
  · simp [Value.cells] at hcs
    obtain ⟨rfl, rfl, rfl⟩ := hcs
    refine ⟨Nat.le_trans hl hm, fun h0 => ?_⟩
    have hnm : n ≤ m := by rw [hmm]; split <;> omega
    obtain ⟨b, off, spot⟩ := a
    have hspot : spot = none := by
      have := World.cell?_spot (hi 0 (by omega)).1
      simpa [Addr.add] using this
    subst hspot
    have hadd : ∀ j, ((⟨b, off, none⟩ : Addr).add j) = ⟨b, off + j, none⟩ := fun j => by unfold Addr.add; split <;> simp_all
    refine ⟨b, off, rfl, World.block_lt_of_cell? W _ (hi 0 (by omega)).1, fun i hin => ?_⟩
    obtain ⟨h1, h2, h3, h4⟩ := hi i (by omega)
    obtain ⟨x, e0, _, _⟩ := DataW.trod_int Try.underlying3 h3
    obtain ⟨y, e1, _, _⟩ := DataW.trod_int Try.underlying3 h4
    simp at e0 e1
    rw [hadd, e0] at h1
    rw [hadd, e1] at h2
    exact ⟨x, y, h1, by rw [Nat.add_assoc]; exact h2⟩

theorem fixStops_row (b : ByteArray) (A1 : Option Addr) (n1 c1 : Nat) (A2 : Option Addr) (n2 c2 : Nat) (w : World) (hbs : b.size ≤ 140737488351232) (o1 : n1 ≤ maxLen ∧ OpsAt w A1 n1) (o2 : n2 ≤ maxLen ∧ OpsAt w A2 n2) :
    Calls Try.prog 6 #[.string b, .slice A1 n1 c1, .slice A2 n2 c2] w fun e w' => e = .returned (.bool true) ∧ Below w.heap.size w w' := by
  by_cases h : 300 < n1 ∨ 300 < n2
  · exact fixStops_long b A1 A2 n1 c1 n2 c2 h w o1.1 o2.1
  · exact fixStops_walk b A1 A2 n1 c1 n2 c2 hbs (by omega) (by omega) w o1.2 o2.2

end Go.Proofs.Ytpobnifjgajgkaa

namespace Go.Proofs.Ytpobnifjgajgkaa.fixStops
open Go.ChangeShapes Go.WideShapes Go.ChangeAt Go.RowKit
open Go.ChangeMaps (open_string shut_string)
set_option linter.unusedVariables false

theorem own : ownKnob Try.prog.godebug = none := by kernel_rfl
theorem laidOut : laidOutB Try.prog = true := by kernel_rfl

set_option maxRecDepth 100000 in
theorem lifted (os : Os) (started : os.Started) (H : Type) (enc : TypeId × Value → H) :
    ReturnsInHanded {} Try.checked os 6 .any (Rows.fixStopsSpec.pre6 enc Try.prog Try.f6 Rows.fixStopsRow.domain false) (Rows.fixStopsSpec.post enc Try.prog Try.f6 false true false false) := by
  refine returnsInHanded_of_change_sized (C := Try.checked) own started (by kernel_rfl) Try.func6
    (ChangeSpec.witness6 (enc := enc) (C := Try.checked) false ⟨#[], #[.string ByteArray.empty, .slice none 0 0, .slice none 0 0], []⟩ 8 (by kernel_rfl) (by kernel_rfl) (by kernel_rfl) (by kernel_rfl)) ?_
  intro W base args ds gs before hval0 hW hcnd hsz0 _
  have hval : ∀ (j : Nat) t v, Try.f6.params[j]? = some t → args[j]? = some v → Value.okWide Try.prog W .any base t v := hval0
  have hsz : (DataW.weightsEach Try.prog (Try.f6.params.toList ++ Rows.fixStopsSpec.plain.varTypes Try.prog) (ds ++ gs)).all (· ≤ reachBytes) = true := hsz0
  have hW' := hW
  obtain ⟨p, q, hA0, hV, rfl, hfz, hnd⟩ := hW
  have hA : DataW.TrodAll enc Try.prog W 0 (fun _ => true) true Try.f6.params.toList args.toList ds p := hA0
  rw [Try.params6] at hA hval hsz
  obtain ⟨v0, vs0, d0, ds0, p0, q0, hargs, rfl, rfl, h0, r0⟩ := trodAll_cons hA
  obtain ⟨v1, vs1, d1, ds1, p1, q1, rfl, rfl, rfl, h1, r1⟩ := trodAll_cons r0
  obtain ⟨v2, vs2, d2, ds2, p2, q2, rfl, rfl, rfl, h2, r2⟩ := trodAll_cons r1
  obtain ⟨rfl, rfl, rfl⟩ := trodAll_nil r2
  obtain rfl : args = #[v0, v1, v2] := by cases args; simp_all
  obtain ⟨rfl, rfl⟩ := trodVars_none hV
  obtain ⟨a0, rfl, rfl, rfl, w0⟩ := open_string Try.underlying9 (hval 0 9 v0 rfl rfl) h0
  obtain ⟨A1, n1, c1, rfl⟩ := okWide_slice Try.underlying29 (hval 1 29 v1 rfl rfl)
  have k1 := h1
  have lt1 : ∀ x ∈ p1, x.block < W.heap.size := by obtain ⟨m, hm⟩ := k1; exact DataW.trod_lt m _ _ _ hm
  have w1 := ops_of h1
  obtain ⟨A2, n2, c2, rfl⟩ := okWide_slice Try.underlying29 (hval 2 29 v2 rfl rfl)
  have k2 := h2
  have lt2 : ∀ x ∈ p2, x.block < W.heap.size := by obtain ⟨m, hm⟩ := k2; exact DataW.trod_lt m _ _ _ hm
  have w2 := ops_of h2
  have z0 : a0.data.toList.length ≤ reachBytes := sized_string hsz (j := 0) (t := 9) rfl rfl
  have y0 : a0.size ≤ 140737488351232 := z0
  clear hA0 hval0 hsz hsz0
  refine (fixStops_row a0 A1 n1 c1 A2 n2 c2 W y0 w1 w2).mono fun e W' ⟨he, bel⟩ => ?_
  subst he
  exact ⟨_, rfl, _, _, _, [], _, [], hW', trodAll_mk1 (shut_bool Try.underlying4 _), (trodAll_cons_mk (shut_string Try.underlying9 w0) (trodAll_cons_mk (Below.trod laidOut (by kernel_rfl) (of_decide_eq_true (by kernel_rfl)) k1 bel lt1) (trodAll_cons_mk (Below.trod laidOut (by kernel_rfl) (of_decide_eq_true (by kernel_rfl)) k2 bel lt2) trodAll_mk0))), rfl, bel.frame _, fun h => by cases h⟩

theorem over : Rows.fixStopsRow.holds Try.pinned (OpenSpec.ofChange Rows.fixStopsSpec) :=
  OpenClaim.holds_of_wide 6 Try.f6 rfl rfl rfl rfl rfl rfl rfl ⟨rfl, rfl, rfl, rfl, rfl⟩ rfl rfl rfl rfl rfl (by kernel_rfl) Try.func6 (by kernel_rfl)
    (of_decide_eq_true (by kernel_rfl)) (by unfold Func.isWrapper; first | (rw [if_pos (by decide +kernel)]; kernel_rfl) | (rw [if_neg (by decide +kernel)]; exact ⟨rfl, rfl⟩))
    (fun os started H enc _ => lifted os started H enc)

theorem proved : Rows.FixStopsSaid := over
#print axioms proved

end Go.Proofs.Ytpobnifjgajgkaa.fixStops
