/-
  Arguments of the rows of layer 9: a script of steps, each with a list of entries; the contract of few; conditions stand at each.
-/
import Derived.Test.YtabgbbfiggnanaaNodeHelp
import Derived.Test.YtabgbbfiggnanaaStrs
import Derived.Test.YtabgbbfiggnanaaPairOpen
namespace Go.Proofs.Ytabgbbfiggnanaa
open Go.RowKit Go.Sort Go.ChangeShapes Go.WideShapes Go.Joins Go.Deep
set_option linter.unusedVariables false
set_option linter.unusedSimpArgs false

def I64 (i : Int) : Prop := -9223372036854775808 ≤ i ∧ i ≤ 9223372036854775807
/-- A step: what it takes, and its entries with where they lie. -/
structure NOp where
  take : Int
  A : Option Addr
  n : Nat
  c : Nat
  l : List Ent
def pcO (o : NOp) : List Value := [.int .i64 o.take, .slice o.A o.n o.c]
theorem encO : Enc pcO 2 := ⟨fun _ => rfl, fun x u hu => by
  simp only [pcO, List.mem_cons, List.not_mem_nil, or_false] at hu
  rcases hu with rfl | rfl <;> rfl⟩
def OkO (W : World) (o : NOp) : Prop := I64 o.take ∧ Arg W o.A o.n o.c o.l
structure ArgN (W : World) (A : Option Addr) (n c : Nat) (l : List NOp) : Prop where
  len : l.length = n
  cap : n ≤ c
  small : n ≤ 140737488351232
  ls : Ls pcO W A l
  ok : ∀ o ∈ l, OkO W o
theorem Arg.below {W W' : World} {A : Option Addr} {n c : Nat} {l : List Ent} (h : Arg W A n c l) (hb : Below W.heap.size W W') : Arg W' A n c l := ⟨h.len, h.cap, h.small, h.es.below hb, h.strs⟩
theorem ArgN.below {W W' : World} {A : Option Addr} {n c : Nat} {l : List NOp} (h : ArgN W A n c l) (hb : Below W.heap.size W W') : ArgN W' A n c l := ⟨h.len, h.cap, h.small, h.ls.below hb, fun o ho => ⟨(h.ok o ho).1, (h.ok o ho).2.below hb⟩⟩

theorem wf_i64 {n : Int} (h : (Lit.int .i64 n).wf = true) : I64 n := by
  have : -9223372036854775808 ≤ n ∧ n ≤ 9223372036854775807 := by simpa [Lit.wf, IntKind.min, IntKind.max, IntKind.signed, IntKind.bits] using h
  exact this
theorem fields_op : ∃ f0 f1, Try.prog.underlying 29 = some (.struct #[f0, f1]) ∧ f0.offset = 0 ∧ f1.offset = 1 ∧ f0.type = 3 ∧ f1.type = 27 := ⟨_, _, Try.underlying29, rfl, rfl, rfl, rfl⟩
theorem slice_of {t e : TypeId} (hu : Try.prog.underlying t = some (.slice e)) {H : Type} {enc : TypeId × Value → H} {W : World} {fuel : Nat} {v : Value} {x : DataW H × List MemPlace}
    (h : DataW.trod enc Try.prog W 0 (fun _ => true) true fuel t [v] = some x) : ∃ A n c, v = .slice A n c := by
  rcases open_slice hu h with ⟨hc, _⟩ | ⟨a, len, cap, m, q, D, Pl, hc, _⟩
  · simp only [List.cons.injEq, and_true] at hc
    exact ⟨_, _, _, hc⟩
  · simp only [List.cons.injEq, and_true] at hc
    exact ⟨_, _, _, hc⟩
theorem elemO {H : Type} {enc : TypeId × Value → H} {W : World} (fuel : Nat) (cs : List Value) (y : DataW H × List MemPlace) (h : DataW.trod enc Try.prog W 0 (fun _ => true) true fuel 29 cs = some y)
    (hsz : ∀ m ∈ y.1.weights Try.prog 29, m ≤ reachBytes) : ∃ z : NOp, cs = pcO z ∧ OkO W z := by
  obtain ⟨f0, f1, he, o0, o1, t0, t1⟩ := fields_op
  have c3 : Try.prog.cellsOf 3 = 1 := by kernel_rfl
  have cc : Try.prog.cellsOf 27 = 1 := by kernel_rfl
  have c4 : Try.prog.cellsOf 29 = 2 := by kernel_rfl
  obtain ⟨xs, n, _, hx, hlen, hxl, hf⟩ := DataW.trod_struct he h
  rw [c4] at hlen
  match xs, hxl, cs, hlen with
  | [y0, y1], _, [v0, v1], _ =>
    have g0 := hf 0 f0 rfl
    have g1 := hf 1 f1 rfl
    simp [o0, o1, t0, t1, cc, c3] at g0 g1
    obtain ⟨i, hi, hdi, wi⟩ := DataW.trod_int Try.underlying3 g0
    obtain ⟨A, n1, a, rfl⟩ := slice_of Try.underlying27 g1
    simp only [List.cons.injEq, and_true] at hi
    subst hi hx
    simp only [List.map_cons, List.map_nil, DataW.weights, he, DataW.weightsEach, List.append_nil, List.mem_append, t0, t1] at hsz
    obtain ⟨l, hl⟩ := open_ents (d := y1.1) (p := y1.2) ⟨_, g1⟩ (fun m hm => hsz m (.inr hm))
    exact ⟨⟨i, A, n1, a, l⟩, rfl, wf_i64 wi, hl⟩
theorem open_nops {H : Type} {enc : TypeId × Value → H} {W : World} {A : Option Addr} {n c : Nat} {d : DataW H} {p : List MemPlace}
    (h : DataW.Trod enc Try.prog W 0 (fun _ => true) true 22 (.slice A n c) d p) (hsz : ∀ m ∈ d.weights Try.prog 22, m ≤ reachBytes) : ∃ l, ArgN W A n c l := by
  obtain ⟨fuel, hf⟩ := h
  obtain ⟨l, h1, h2, h3, h4, h5⟩ := open_list (f := pcO) (k := 2) (ok := OkO W) encO (by omega) Try.underlying22 (by kernel_rfl) (by_ := 32) (by kernel_rfl) (by omega) elemO hf hsz
  exact ⟨l, h1, h2, h3, h4, h5⟩
theorem Ls.op_at {w : World} {A : Option Addr} {l : List NOp} (h : Ls pcO w A l) {i : Nat} (hi : i < l.length) : ∃ ad o, A = some ad ∧ l[i]? = some o ∧ ad.block < w.heap.size ∧ w.cell? (ad.add (i * 2)) = some (.int .i64 o.take) ∧ w.cell? ⟨(ad.add (i * 2)).block, (ad.add (i * 2)).off + 1, none⟩ = some (.slice o.A o.n o.c) := by
  obtain ⟨ad, o, e, hp, hl, hc⟩ := h.at_ encO hi
  have hz : w.cell? (ad.add (i * 2)) = some (.int .i64 o.take) := by
    have := hc 0 (.int .i64 o.take) (by omega) rfl
    rw [add_of_add] at this
    simpa using this
  exact ⟨ad, o, e, hp, hl, hz, hc 1 (.slice o.A o.n o.c) (by omega) rfl⟩
/-- A script of one step, laid by the walk. -/
theorem ls_one (w : World) (A : Option Addr) (n c : Nat) (l : List Ent) : Ls pcO (w.alloc (.cells #[.int .i64 0, .slice A n c] 29)) (some ⟨w.heap.size, 0, none⟩) [⟨0, A, n, c, l⟩] := fun _ =>
  ⟨_, rfl, by simp, fun j u hu => new_row w #[.int .i64 0, .slice A n c] _ j u (by simpa [pcO] using hu)⟩
theorem argN_one {w : World} {A : Option Addr} {n c : Nat} {l : List Ent} (h : Arg w A n c l) : ArgN (w.alloc (.cells #[.int .i64 0, .slice A n c] 29)) (some ⟨w.heap.size, 0, none⟩) 1 1 [⟨0, A, n, c, l⟩] :=
  ⟨rfl, Nat.le_refl _, by omega, ls_one w A n c l, fun o ho => by
    rw [List.mem_singleton] at ho
    subst ho
    exact ⟨show I64 0 from ⟨by omega, by omega⟩, h.below ((Below.refl _ _).alloc (Nat.le_refl _) _)⟩⟩

/-- What few answers. -/
def FewPost (w : World) (l : List NOp) (e : Ending) (w' : World) : Prop := Below w.heap.size w w' ∧ ∃ r : Bool, e = .returned (.bool r) ∧ (r = true → l.length ≤ 60 ∧ ∀ o ∈ l, o.n ≤ 30)

set_option maxRecDepth 100000 in
set_option maxHeartbeats 2000000 in
theorem ndFew_any (A : Option Addr) (n c : Nat) (l : List NOp) (w : World) (ha : ArgN w A n c l) :
    Calls Try.prog 8 #[.slice A n c] w (FewPost w l) := by
  obtain ⟨hlen, hcap, hsm, hls, hok⟩ := ha
  have HL := Lib.hid hlen
  have HOK := Lib.hid hok
  clear hlen hok
  by_cases h60 : 60 < n
  · go_enter Try.func8, Try.ntmps8
    go_wp2
    go_ret
    exact ⟨Below.refl _ _, false, rfl, fun h => by cases h⟩
  go_enter Try.func8, Try.ntmps8
  go_wp2
  go_loopw [10] (fun i wr => ∃ k : Nat, k ≤ n ∧ i = .int .i64 k ∧ Below w.heap.size w wr ∧ Hid (∀ j o, j < k → l[j]? = some o → o.n ≤ 30)) (fun i _ => n - (intOf i).toNat)
  case atStart => exact ⟨0, Nat.zero_le _, rfl, Below.refl _ _, Lib.hid fun j _ hj => absurd hj (by omega)⟩
  case round =>
    obtain ⟨k, hk, rfl, hbw, HA⟩ := hrel
    by_cases hlt : k < n
    · obtain ⟨ad, o, rfl, ho, hl, q0, q1⟩ := (hls.below hbw).op_at (i := k) (by rw [HL.out]; exact hlt)
      obtain ⟨_, hao⟩ := HOK.out o (List.mem_of_getElem? ho)
      have HO := Lib.hid ho
      clear ho
      obtain ⟨ot, oA, on, oc, ol⟩ := o
      simp only at q0 q1 hao
      obtain ⟨g1, g2, g3, g4, g5⟩ := hao
      have HG1 := Lib.hid g1
      have HG5 := Lib.hid g5
      clear g1 g5
      by_cases h30 : 30 < on
      · go_wp2
        go_ret
        exact ⟨hbw, false, rfl, fun h => by cases h⟩
      go_wp2
      go_loopw [26] (fun i wq => ∃ q : Nat, q ≤ on ∧ i = .int .i64 q ∧ Below w.heap.size w wq) (fun i _ => on - (intOf i).toNat)
      case atStart => exact ⟨0, Nat.zero_le _, rfl, hbw⟩
      case round =>
        obtain ⟨q, hq, rfl, hbq⟩ := hrel
        by_cases hlq : q < on
        · obtain ⟨ae, x, rfl, hx, hle, x1, x2⟩ := (g4.below hbq).at_ (i := q) (by rw [HG1.out]; exact hlq)
          obtain ⟨hs1, hs2⟩ := HG5.out x (List.mem_of_getElem? hx)
          obtain ⟨ad2, o2, e2, ho2, _, r0, r1⟩ := (hls.below hbq).op_at (i := k) (by rw [HL.out]; exact hlt)
          cases e2
          rw [HO.out] at ho2
          cases ho2
          simp only at r1
          clear hx q0 q1 r0
          by_cases hd : 2000 < x.k.size + x.v.size
          · go_wp2
            go_quiet (fail)
            go_wp2
            go_ret
            exact ⟨below_drewN hbq _, false, rfl, fun h => by cases h⟩
          · go_wp2
            go_quiet (fail)
            go_wp2
            exact ⟨⟨q + 1, by omega, by go_num, below_drewN hbq _⟩, by simp [intOf]; omega⟩
        · have he : q = on := by omega
          subst he
          go_wp2
          refine ⟨⟨k + 1, by omega, by go_num, hbq, Lib.hid fun j e hj he => ?_⟩, by simp [intOf]; omega⟩
          rcases Nat.lt_or_ge j k with h | h
          · exact HA.out j e h he
          · have : j = k := by omega
            subst this
            rw [HO.out] at he
            cases he
            simp only
            omega
    · have he : k = n := by omega
      subst he
      go_wp2
      go_ret
      refine ⟨hbw, true, rfl, fun _ => ⟨by rw [HL.out]; omega, fun o ho => ?_⟩⟩
      obtain ⟨j, hj⟩ := List.getElem?_of_mem ho
      exact HA.out j o (by have := (List.getElem?_eq_some_iff.1 hj).1; rw [HL.out] at this; exact this) hj

end Go.Proofs.Ytabgbbfiggnanaa
