/-
  The law's helpers: awake answers true; a call of a script as an argument, a slice of them; few; conditions stand at each.
-/
import Derived.Test.YtpchihgdcpbjiaaLedCommit
namespace Go.Proofs.Ytpchihgdcpbjiaa
open Go.RowKit Go.Sort Go.ChangeShapes Go.WideShapes Go.Joins Go.Deep
set_option linter.unusedVariables false
set_option linter.unusedSimpArgs false

theorem belowN {B : Nat} {a w : World} (h : Below B a w) (n : Nat) : Below B a (w.drewN n) := ⟨h.os, h.tape, h.output, h.size, h.block⟩
set_option maxRecDepth 100000 in
set_option maxHeartbeats 1000000 in
theorem ldAwake_any (w : World) : Calls Try.prog 8 #[] w fun e w' => e = .returned (.bool true) ∧ Below w.heap.size w w' := by
  go_enter Try.func8, Try.ntmps8
  go_wp2_with fail
  refine (ldNew_any 4 w).mono ?_
  rintro e w1 ⟨b, rfl, hd1, hge, hb1⟩
  have HD1 := Lib.hid (show Led w1 b 4 noMark noMark noMark from hd1)
  have HB1 := Lib.hid hb1
  have HG := Lib.hid hge
  clear hd1 hb1 hge
  go_wp2_with fail
  refine (ldCnt_any HD1.out).mono ?_
  rw [show cnt (fr noMark noMark noMark) 4 = 2 from by decide]
  rintro e w2 ⟨rfl, rfl⟩
  go_wp2_with fail
  refine (ldTake_any HD1.out).mono ?_
  unfold TakePost
  rw [show least (fr noMark noMark noMark) 4 = some 2 from by decide]
  rintro e w3 ⟨rfl, hd3, hk3⟩
  have HD3 := Lib.hid hd3
  have HB3 := Lib.hid (HB1.out.trans (hk3.below HB1.out.size (by rintro i rfl; exact HG.out)))
  clear hd3 hk3
  go_wp2_with fail
  refine (ldIn_any HD3.out 2).mono ?_
  rw [show inUse 4 noMark noMark (mark1 noMark 2) 2 = true from by decide]
  rintro e w4 ⟨rfl, rfl⟩
  go_wp2_with fail
  refine (ldIn_any HD3.out 3).mono ?_
  rw [show inUse 4 noMark noMark (mark1 noMark 2) 3 = false from by decide]
  rintro e w4 ⟨rfl, rfl⟩
  go_wp2
  go_ret
  exact ⟨rfl, HB3.out⟩

/-- A call of a script: its kind and its lists, with where they lie. -/
structure LOp where
  kind : Int
  A : Option Addr
  n : Nat
  c : Nat
  l : List Int
  B : Option Addr
  m : Nat
  d : Nat
  r : List Int
def pcL (o : LOp) : List Value := [.int .i64 o.kind, .slice o.A o.n o.c, .slice o.B o.m o.d]
theorem encL : Enc pcL 3 := ⟨fun _ => rfl, fun x u hu => by
  simp only [pcL, List.mem_cons, List.not_mem_nil, or_false] at hu
  rcases hu with rfl | rfl | rfl <;> rfl⟩
structure OkL (W : World) (o : LOp) : Prop where
  kind : I64 o.kind
  fst : ArgI W o.A o.n o.c o.l
  snd : ArgI W o.B o.m o.d o.r
theorem OkL.below {w w' : World} {o : LOp} (h : OkL w o) (hb : Below w.heap.size w w') : OkL w' o := ⟨h.kind, h.fst.below hb, h.snd.below hb⟩
/-- A script as an argument. -/
structure ArgL (W : World) (A : Option Addr) (n c : Nat) (l : List LOp) : Prop where
  len : l.length = n
  cap : n ≤ c
  small : n ≤ 140737488351232
  ls : Ls pcL W A l
  ok : ∀ o ∈ l, OkL W o
theorem ArgL.below {W W' : World} {A : Option Addr} {n c : Nat} {l : List LOp} (h : ArgL W A n c l) (hb : Below W.heap.size W W') : ArgL W' A n c l := ⟨h.len, h.cap, h.small, h.ls.below hb, fun o ho => (h.ok o ho).below hb⟩
theorem fields_lop : ∃ f0 f1 f2, Try.prog.underlying 31 = some (.struct #[f0, f1, f2]) ∧ f0.offset = 0 ∧ f1.offset = 1 ∧ f2.offset = 2 ∧ f0.type = 3 ∧ f1.type = 29 ∧ f2.type = 29 := ⟨_, _, _, Try.underlying31, rfl, rfl, rfl, rfl, rfl, rfl⟩
theorem slice_of {t e : TypeId} (hu : Try.prog.underlying t = some (.slice e)) {H : Type} {enc : TypeId × Value → H} {W : World} {fuel : Nat} {v : Value} {x : DataW H × List MemPlace}
    (h : DataW.trod enc Try.prog W 0 (fun _ => true) true fuel t [v] = some x) : ∃ A n c, v = .slice A n c := by
  rcases open_slice hu h with ⟨hc, _⟩ | ⟨a, len, cap, m, q, D, Pl, hc, _⟩
  · simp only [List.cons.injEq, and_true] at hc
    exact ⟨_, _, _, hc⟩
  · simp only [List.cons.injEq, and_true] at hc
    exact ⟨_, _, _, hc⟩
theorem elemL {H : Type} {enc : TypeId × Value → H} {W : World} (fuel : Nat) (cs : List Value) (y : DataW H × List MemPlace) (h : DataW.trod enc Try.prog W 0 (fun _ => true) true fuel 31 cs = some y)
    (hsz : ∀ m ∈ y.1.weights Try.prog 31, m ≤ reachBytes) : ∃ z : LOp, cs = pcL z ∧ OkL W z := by
  obtain ⟨f0, f1, f2, he, o0, o1, o2, t0, t1, t2⟩ := fields_lop
  have c3 : Try.prog.cellsOf 3 = 1 := by kernel_rfl
  have cc : Try.prog.cellsOf 29 = 1 := by kernel_rfl
  have c4 : Try.prog.cellsOf 31 = 3 := by kernel_rfl
  obtain ⟨xs, n, _, hx, hlen, hxl, hf⟩ := DataW.trod_struct he h
  rw [c4] at hlen
  match xs, hxl, cs, hlen with
  | [y0, y1, y2], _, [v0, v1, v2], _ =>
    have g0 := hf 0 f0 rfl
    have g1 := hf 1 f1 rfl
    have g2 := hf 2 f2 rfl
    simp [o0, o1, o2, t0, t1, t2, cc, c3] at g0 g1 g2
    obtain ⟨i, hi, hdi, wi⟩ := DataW.trod_int Try.underlying3 g0
    obtain ⟨A, n1, a, rfl⟩ := slice_of Try.underlying29 g1
    obtain ⟨B, n2, c, rfl⟩ := slice_of Try.underlying29 g2
    simp only [List.cons.injEq, and_true] at hi
    subst hi hx
    simp only [List.map_cons, List.map_nil, DataW.weights, he, DataW.weightsEach, List.append_nil, List.mem_append, t0, t1, t2] at hsz
    obtain ⟨l, hl⟩ := open_ints (d := y1.1) (p := y1.2) ⟨_, g1⟩ (fun m hm => hsz m (.inr (.inl hm)))
    obtain ⟨r, hr⟩ := open_ints (d := y2.1) (p := y2.2) ⟨_, g2⟩ (fun m hm => hsz m (.inr (.inr hm)))
    exact ⟨⟨i, A, n1, a, l, B, n2, c, r⟩, rfl, wf_i64 wi, hl, hr⟩
theorem open_lops {H : Type} {enc : TypeId × Value → H} {W : World} {A : Option Addr} {n c : Nat} {d : DataW H} {p : List MemPlace}
    (h : DataW.Trod enc Try.prog W 0 (fun _ => true) true 22 (.slice A n c) d p) (hsz : ∀ m ∈ d.weights Try.prog 22, m ≤ reachBytes) : ∃ l, ArgL W A n c l := by
  obtain ⟨fuel, hf⟩ := h
  obtain ⟨l, h1, h2, h3, h4, h5⟩ := open_list (f := pcL) (k := 3) (ok := OkL W) encL (by omega) Try.underlying22 (by kernel_rfl) (by_ := 56) (by kernel_rfl) (by omega) elemL hf hsz
  exact ⟨l, h1, h2, h3, h4, h5⟩
/-- A call by value. -/
def lopV (o : LOp) : Value := .agg #[.int .i64 o.kind, .slice o.A o.n o.c, .slice o.B o.m o.d]
theorem open_lop {H : Type} {enc : TypeId × Value → H} {W : World} {base : Nat} {v : Value} {d : DataW H} {p : List MemPlace} (hv : Value.okWide Try.prog W .any base 31 v)
    (h : DataW.Trod enc Try.prog W 0 (fun _ => true) true 31 v d p) (hsz : ∀ m ∈ d.weights Try.prog 31, m ≤ reachBytes) : ∃ x : LOp, v = lopV x ∧ OkL W x := by
  obtain ⟨f0, f1, f2, he, _⟩ := fields_lop
  obtain ⟨cs, rfl, hcs⟩ := okWide_struct he hv
  obtain ⟨fuel, hf⟩ := h
  obtain ⟨z, hz, hok⟩ := elemL fuel _ _ hf hsz
  refine ⟨z, ?_, hok⟩
  have : cs = (pcL z).toArray := Array.toList_inj.1 (by simpa [Value.cells] using hz)
  rw [this]
  rfl
theorem Ls.atL {w : World} {A : Option Addr} {l : List LOp} (h : Ls pcL w A l) {i : Nat} (hi : i < l.length) : ∃ ad o, A = some ad ∧ l[i]? = some o ∧ ad.block < w.heap.size ∧ w.cell? (ad.add (i * 3)) = some (.int .i64 o.kind) ∧ w.cell? ⟨(ad.add (i * 3)).block, (ad.add (i * 3)).off + 1, none⟩ = some (.slice o.A o.n o.c) ∧ w.cell? ⟨(ad.add (i * 3)).block, (ad.add (i * 3)).off + 2, none⟩ = some (.slice o.B o.m o.d) := by
  obtain ⟨ad, o, e, hp, hl, hc⟩ := h.at_ encL hi
  have hz : w.cell? (ad.add (i * 3)) = some (.int .i64 o.kind) := by
    have := hc 0 (.int .i64 o.kind) (by omega) rfl
    rw [add_of_add] at this
    simpa using this
  exact ⟨ad, o, e, hp, hl, hz, hc 1 (.slice o.A o.n o.c) (by omega) rfl, hc 2 (.slice o.B o.m o.d) (by omega) rfl⟩
/-- A script of one call, laid by the walk. -/
theorem argL_one {w : World} {o : LOp} (h : OkL w o) : ArgL (w.alloc (.cells #[.int .i64 o.kind, .slice o.A o.n o.c, .slice o.B o.m o.d] 31)) (some ⟨w.heap.size, 0, none⟩) 1 1 [o] :=
  ⟨rfl, Nat.le_refl _, by omega, fun _ => ⟨_, rfl, by simp, fun j u hu => new_row w #[.int .i64 o.kind, .slice o.A o.n o.c, .slice o.B o.m o.d] _ j u (by simpa [pcL] using hu)⟩, fun x hx => by
    rw [List.mem_singleton] at hx
    subst hx
    exact h.below ((Below.refl _ _).alloc (Nat.le_refl _) _)⟩

/-- What few answers. -/
def FewPost (w : World) (l : List LOp) (e : Ending) (w' : World) : Prop := Below w.heap.size w w' ∧ ∃ r : Bool, e = .returned (.bool r) ∧ (r = true → l.length ≤ 150 ∧ ∀ o ∈ l, o.n + o.m ≤ 200)
set_option maxRecDepth 100000 in
set_option maxHeartbeats 2000000 in
theorem ldFew_any (A : Option Addr) (n c : Nat) (l : List LOp) (w : World) (ha : ArgL w A n c l) :
    Calls Try.prog 9 #[.slice A n c] w (FewPost w l) := by
  obtain ⟨hlen, hcap, hsm, hls, hok⟩ := ha
  have HL := Lib.hid hlen
  have HOK := Lib.hid hok
  clear hlen hok
  by_cases h60 : 150 < n
  · go_enter Try.func9, Try.ntmps9
    go_wp2
    go_ret
    exact ⟨Below.refl _ _, false, rfl, fun h => by cases h⟩
  go_enter Try.func9, Try.ntmps9
  go_wp2
  go_loopw [9] (fun i wr => ∃ k : Nat, k ≤ n ∧ i = .int .i64 k ∧ Below w.heap.size w wr ∧ Hid (∀ j o, j < k → l[j]? = some o → o.n + o.m ≤ 200)) (fun i _ => n - (intOf i).toNat)
  case atStart => exact ⟨0, Nat.zero_le _, rfl, Below.refl _ _, Lib.hid fun j _ hj => absurd hj (by omega)⟩
  case round =>
    obtain ⟨k, hk, rfl, hbw, HA⟩ := hrel
    by_cases hlt : k < n
    · obtain ⟨ad, o, rfl, ho, hl, q0, q1, q2⟩ := (hls.below hbw).atL (i := k) (by rw [HL.out]; exact hlt)
      obtain ⟨_, hao, hbo⟩ := HOK.out o (List.mem_of_getElem? ho)
      have HO := Lib.hid ho
      clear ho
      obtain ⟨ok, oA, on, oc, ol, oB, om, od, orr⟩ := o
      simp only at q0 q1 q2 hao hbo
      obtain ⟨_, _, g3, _, _⟩ := hao
      obtain ⟨_, _, g4, _, _⟩ := hbo
      by_cases h30 : 200 < on + om
      · have h31 : (200 : Int) < (on : Int) + (om : Int) := by omega
        clear h30
        go_wp2
        go_quiet (fail)
        go_wp2
        go_ret
        exact ⟨below_drewN hbw _, false, rfl, fun h => by cases h⟩
      · have h31 : ¬ (200 : Int) < (on : Int) + (om : Int) := by omega
        have H30 := Lib.hid h30
        clear h30
        go_wp2
        go_quiet (fail)
        go_wp2
        exact ⟨⟨k + 1, by omega, by go_num, below_drewN hbw _, Lib.hid fun j e hj he => by
          rcases Nat.lt_or_ge j k with h | h
          · exact HA.out j e h he
          · have : j = k := by omega
            subst this
            rw [HO.out] at he
            cases he
            have := H30.out
            show on + om ≤ 200
            omega⟩, by simp [intOf]; omega⟩
    · have he : k = n := by omega
      subst he
      go_wp2
      go_ret
      refine ⟨hbw, true, rfl, fun _ => ⟨by rw [HL.out]; omega, fun o ho => ?_⟩⟩
      obtain ⟨j, hj⟩ := List.getElem?_of_mem ho
      exact HA.out j o (by have := (List.getElem?_eq_some_iff.1 hj).1; rw [HL.out] at this; exact this) hj

end Go.Proofs.Ytpchihgdcpbjiaa
