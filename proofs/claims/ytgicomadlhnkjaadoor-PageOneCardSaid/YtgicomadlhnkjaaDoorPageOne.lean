/-
  PageOne: bytes that are decoded are just that page's bytes, and it can be; for every string; no condition beyond the row's.
-/
import Derived.Test.YtgicomadlhnkjaaDoorPageDecode
import Derived.Test.YtgicomadlhnkjaaDoorPageTold
import Derived.Test.YtgicomadlhnkjaaDoorPageSame
import Derived.Test.YtgicomadlhnkjaaDoorPageOpen
import Derived.Test.YtgicomadlhnkjaaDoorPageTools
import Derived.Test.YtgicomadlhnkjaaDoorSumLaid
import Derived.Test.YtgicomadlhnkjaaDoorTie
import Derived.Test.YtgicomadlhnkjaaDoorCards
import Derived.SevenTiedAt
namespace Go.Proofs.YtgicomadlhnkjaaDoor
open Go.RowKit Go.Sort
set_option linter.unusedVariables false

theorem dec_cases {l : List UInt8} {q : PP} {r : Int} (h : Dec l q r) : (q = PP.zero ∧ r ≠ 0) ∨ (okPage q ∧ encL q = l ∧ r = 0) := by
  rcases h with ⟨_, h1, h2⟩ | ⟨_, _, h1, h2⟩ | ⟨_, _, _, h1, h2⟩ | h
  · exact .inl ⟨h1, by omega⟩
  · exact .inl ⟨h1, by omega⟩
  · exact .inl ⟨h1, by omega⟩
  · exact .inr h
theorem data_mk (b : ByteArray) : (⟨b.data.toList.toArray⟩ : ByteArray) = b := (str_eq b).symm

set_option maxHeartbeats 4000000 in
set_option maxRecDepth 100000 in
theorem pageOne_walk (b : ByteArray) (w : World) (hh : Half w) (hs : b.size ≤ 140737488351232) :
    Calls Tryd.prog 6 #[.string b] w fun e w' => e = .returned (.bool true) ∧ Below w.heap.size w w' := by
  obtain ⟨C, F, hcv, hF⟩ := bytes_of b
  by_cases hl : 5000 < b.size
  · go_enter Tryd.func6, Tryd.ntmps6
    go_wp2_with fail
    refine (awake_any w hh).mono ?_
    rintro e w1 ⟨rfl, hb1⟩
    go_wp2_with fail
    refine (awake_any w1 (hh.below hb1)).mono ?_
    rintro e w2 ⟨rfl, hb2⟩
    go_wp2
    go_ret
    exact ⟨rfl, bthen hb1 hb2⟩
  · go_enter Tryd.func6, Tryd.ntmps6
    go_wp2_with fail
    refine (awake_any w hh).mono ?_
    rintro e w1 ⟨rfl, hb1⟩
    obtain ⟨hr1, hc1, hb1'⟩ := hF w1
    have hb2 := bthen hb1 hb1'
    go_wp2_with fail
    refine (decode_any _ b.size (C w1) b.data.toList (F w1) (hh.below hb2) hr1 rfl hc1 (by omega)).mono ?_
    rintro e w3 ⟨q, A3, B3, a3, b3, r, rfl, hA3, hB3, hb3, hbd, h255, h255', hdec⟩
    have hb03 := bthen hb2 hb3
    have htold := told_any q
    have hsame := same_pg q PP.zero
    have henc := encode_any q
    have hright := right_any q
    unfold PgPost at htold
    unfold pageV at *
    clear hF hb1 hb1' hb2 hb3 hr1 hc1
    obtain ⟨W5, hW5⟩ : ∃ W5, W5 = w3.alloc (.cells #[.int .i64 q.kind, .slice A3 q.cells.length a3, .slice B3 q.kids.length b3, .string q.piece, .int .i64 q.next] 35) := ⟨_, rfl⟩
    have hb35 : Below w3.heap.size w3 W5 := by rw [hW5]; exact (Below.refl _ _).alloc (Nat.le_refl _) _
    have hpb : ∀ w', Below W5.heap.size W5 w' → w'.cell? ⟨w3.heap.size, 0, none⟩ = some (.int .i64 q.kind) ∧ w'.cell? ⟨w3.heap.size, 1, none⟩ = some (.slice A3 q.cells.length a3) ∧ w'.cell? ⟨w3.heap.size, 2, none⟩ = some (.slice B3 q.kids.length b3) ∧ w'.cell? ⟨w3.heap.size, 3, none⟩ = some (.string q.piece) ∧ w'.cell? ⟨w3.heap.size, 4, none⟩ = some (.int .i64 q.next) := fun w' h => by
      rw [hW5] at h
      exact ⟨box_at h 0 _ rfl, box_at h 1 _ rfl, box_at h 2 _ rfl, box_at h 3 _ rfl, box_at h 4 _ rfl⟩
    have hs35 : w3.heap.size < W5.heap.size := by rw [hW5]; simp
    have HPB := Lib.hid hpb
    have HW5 := Lib.hid hW5
    clear hW5 hpb
    have hb05 := bthen hb03 hb35
    rcases dec_cases hdec with ⟨hq, hr⟩ | ⟨hok, heq, rfl⟩
    · obtain ⟨p0, p1, p2, p3, p4⟩ := HPB.out _ (Below.refl _ _)
      rw [decide_eq_true hq] at hsame
      clear hq hdec
      go_wp2_with fail
      rw [← HW5.out]
      refine (htold A3 B3 a3 b3 W5 (hA3.below hb35) (hB3.below hb35) (by omega) (by omega)).mono ?_
      rintro e w6 ⟨A6, a6, B6, b6, rfl, hA6, hB6, hb6⟩
      have hb06 := bthen hb05 hb6
      go_wp2_with fail
      refine (hsame A6 B6 none none a6 b6 0 0 w6 hA6 hB6 (Ls.nil _ _) (Ls.nil _ _) (by omega) (by omega) (Nat.zero_le _) (Nat.zero_le _)).mono ?_
      rintro e w7 ⟨rfl, hb7⟩
      have hb07 := bthen hb06 hb7
      go_wp2
      go_ret
      exact ⟨rfl, hb07⟩
    · obtain ⟨p0, p1, p2, p3, p4⟩ := HPB.out _ (Below.refl _ _)
      go_wp2_with fail
      rw [← HW5.out]
      refine (henc A3 B3 a3 b3 W5 (hA3.below hb35) (hB3.below hb35) hbd (hh.below hb05)).mono ?_
      intro e w6 hpost
      obtain ⟨v6, rfl, ho6, hb6⟩ := enc_ok hpost hok
      obtain ⟨A6, n6, c6, rfl, hn6, hc6, hr6⟩ := ho6.named
      have hb06 := bthen hb05 hb6
      rw [heq] at hn6 hr6
      have hcv6 : (convert 28 9 (.slice A6 n6 c6)).run Tryd.prog w6 = .ok (.string b) w6 := by
        have := conv_rd (c := c6) hr6 hn6
        rwa [data_mk] at this
      have hse := same_eq b b
      rw [decide_eq_true rfl] at hse
      obtain ⟨s0, s1, s2, s3, s4⟩ := HPB.out _ hb6
      clear hpost ho6 hn6 hr6 p0 p1 p2 p3 p4
      go_wp2_with fail
      refine (hright A3 B3 a3 b3 w6 ((hA3.below hb35).below hb6) ((hB3.below hb35).below hb6) hbd).mono ?_
      rintro e w7 ⟨rfl, hb7⟩
      rw [decide_eq_true hok]
      have hb07 := bthen hb06 hb7
      go_wp2
      go_ret
      exact ⟨rfl, hb07⟩

end Go.Proofs.YtgicomadlhnkjaaDoor

namespace Go.Proofs.YtgicomadlhnkjaaDoor.pageOne
open Go Go.ChangeShapes Go.WideShapes Go.ChangeAt Go.RowKit
open Go.ChangeMaps (open_string shut_string)
set_option linter.unusedVariables false

theorem own : ownKnob Tryd.prog.godebug = none := by kernel_rfl

set_option maxRecDepth 100000 in
theorem lifted (os : Os) (started : os.Started) (H : Type) (enc : TypeId × Value → H) :
    ReturnsInHanded {} Tryd.checked os 6 .any (fun w args => (Rows.pageOneSpec.pre enc Tryd.prog Tryd.f6 [] false w args ∧ laidMetH Tryd.prog laidL w) ∧ sizedMet enc Tryd.prog Tryd.f6 (OpenSpec.ofChange Rows.pageOneSpec) false w args)
      (Rows.pageOneSpec.post enc Tryd.prog Tryd.f6 false true false false) := by
  refine returnsInHanded_of_change_and (C := Tryd.checked) (X := fun w _ => laidMetH Tryd.prog laidL w) (fun _ _ _ hh h => h.of_heap hh) own started (by kernel_rfl) Tryd.func6
    (ChangeSpec.witness_shaped (enc := enc) (C := Tryd.checked) (os := os) (X := fun w _ => laidMetH Tryd.prog laidL w) false (World.doorLaid Tryd.prog 14 os) #[.string ByteArray.empty] 8 rfl (World.shaped_of_RefB (by kernel_rfl) (by kernel_rfl)) (by kernel_rfl) (by kernel_rfl) (by kernel_rfl) (door_met os _)) ?_
  intro W base args ds gs before hval0 hW hcnd hsz0 hL _
  have hval : ∀ (j : Nat) t v, Tryd.f6.params[j]? = some t → args[j]? = some v → Value.okWide Tryd.prog W .any base t v := hval0
  have hsz : (DataW.weightsEach Tryd.prog (Tryd.f6.params.toList ++ Rows.pageOneSpec.plain.varTypes Tryd.prog) (ds ++ gs)).all (· ≤ reachBytes) = true := hsz0
  have hW' := hW
  obtain ⟨p, q, hA0, hV, rfl, hfz, hnd⟩ := hW
  have hA : DataW.TrodAll enc Tryd.prog W 0 (fun _ => true) true Tryd.f6.params.toList args.toList ds p := hA0
  rw [Tryd.params6] at hA hval hsz
  obtain ⟨v0, vs0, d0, ds0, p0, q0, hargs, rfl, rfl, h0, r0⟩ := trodAll_cons hA
  obtain ⟨rfl, rfl, rfl⟩ := trodAll_nil r0
  obtain rfl : args = #[v0] := by cases args; simp_all
  obtain ⟨rfl, rfl⟩ := trodVars_none hV
  obtain ⟨a0, rfl, rfl, rfl, w0⟩ := open_string Tryd.underlying9 (hval 0 9 v0 rfl rfl) h0
  have z0 : a0.data.toList.length ≤ reachBytes := sized_string hsz (j := 0) (t := 9) rfl rfl
  have y0 : a0.size ≤ 140737488351232 := z0
  clear hA0 hval0 hsz hsz0
  simp only [List.append_nil] at hW'
  refine (pageOne_walk a0 W (half_of_laid hL) y0).mono fun e W' ⟨he, bel⟩ => ?_
  subst he
  exact ⟨_, rfl, _, _, _, [], [], [], hW', trodAll_mk1 (shut_bool Tryd.underlying4 _), (trodAll_cons_mk (shut_string Tryd.underlying9 w0) trodAll_mk0), rfl, bel.frame _, fun h => by cases h⟩

theorem over : Rows.PageOneSaid :=
  OpenClaim.holds_of_wide 6 Tryd.f6 rfl rfl rfl rfl rfl rfl rfl ⟨rfl, rfl, rfl, rfl, rfl⟩ rfl rfl rfl rfl rfl (by kernel_rfl) Tryd.func6 (by kernel_rfl)
    (of_decide_eq_true (by kernel_rfl)) (by unfold Func.isWrapper; first | (rw [if_pos (by decide +kernel)]; kernel_rfl) | (rw [if_neg (by decide +kernel)]; exact ⟨rfl, rfl⟩))
    (fun os started H enc _ => lifted os started H enc)

theorem proved : Rows.PageOneCardSaid :=
  Claim7.holds_tied_plain_at .later [] [.data] true (true, "4e616fa6175ec80d00b51e5fb52bf1d6326841f81c3ae43d4e7153953247007d") false
    over (fun _ h => by cases h) (by kernel_rfl) (fun _ h => by cases h) pageOne_row_tie rfl ⟨rfl, rfl⟩ (by kernel_rfl) rfl
    (fun f fn hf hfn => by
      obtain rfl : f = 6 := Option.some.inj ((show Tryd.prog.funcNamed "sapwood/sapwoodlaw04.PageOne" = some 6 by kernel_rfl).symm.trans hf) |>.symm
      obtain rfl : fn = Tryd.f6 := (Option.some.inj (Tryd.func6.symm.trans hfn)).symm
      exact ⟨by kernel_rfl, fun j t ht => by
        rw [Tryd.params6] at ht
        have hm : t ∈ [9] := by simpa using Array.mem_of_getElem? ht
        have hall : ([9].all fun u => !Tryd.prog.wantsStandIn u) = true := by kernel_rfl
        exact (show Tryd.prog.wantsStandIn t = false by simpa using List.all_eq_true.1 hall t hm)⟩)
    (by kernel_rfl)
#print axioms proved

end Go.Proofs.YtgicomadlhnkjaaDoor.pageOne
