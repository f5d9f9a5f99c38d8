/-
  The functions that the rows of layer 12 call beside the cursor: awake, built, few; a script as an argument; conditions stand at each.
-/
import Derived.Test.YtkooaechcbopnaaCurRef
import Derived.Test.YtkooaechcbopnaaTreeTools
import Derived.Test.YtkooaechcbopnaaTreeRefs
import Derived.Test.YtkooaechcbopnaaPairOpen
import Derived.BigQuiet
namespace Go.Proofs.Ytkooaechcbopnaa
open Go.RowKit Go.Sort Go.Shelf Go.ChangeShapes Go.WideShapes Go.Joins Go.Deep Rt
set_option linter.unusedVariables false
set_option linter.unusedSimpArgs false

set_option maxRecDepth 100000 in
set_option maxHeartbeats 4000000 in
theorem cuAwake_any (w : World) : Calls Try.prog 8 #[] w fun r w' => r = .returned (.bool true) ∧ Below w.heap.size w w' := by
  go_enter Try.func8, Try.ntmps8
  go_wp2_with fail
  obtain ⟨e, he⟩ : ∃ e : Ent, e = ⟨⟨#[97]⟩, ⟨#[118]⟩⟩ := ⟨_, rfl⟩
  have hek : (⟨#[97]⟩ : ByteArray) = e.k := by rw [he]
  have hev : (⟨#[118]⟩ : ByteArray) = e.v := by rw [he]
  have hok : okE e = true := by rw [he]; rfl
  have hks : e.k.size = 1 := by rw [he]; rfl
  have hvs : e.v.size = 1 := by rw [he]; rfl
  have HEV := Lib.hid hev
  have HE : Hid ((Value.agg #[.string ⟨#[97]⟩, .string ⟨#[118]⟩]) = .agg #[.string e.k, .string e.v]) := Lib.hid (by rw [hek, hev])
  rw [HE.out]
  refine (put_any (T := none) (TreeIs.none w) (fun x hx => by cases hx) (by omega) (by omega)).mono ?_
  rintro r w1 ⟨T', rfl, ht', hb1, hno, hyes⟩
  obtain ⟨hl', _, hx⟩ := hyes hok
  have hz : errOf e = 0 := by have := hok; rw [errOf_ok] at this; exact of_decide_eq_true this
  rw [hz]
  have hl' : tl T' = [e] := hl'
  have HT := Lib.hid ht'
  have HL := Lib.hid hl'
  have HB1 := Lib.hid hb1
  obtain ⟨pt, hpt⟩ : ∃ pt, tb T' = .pointer pt := ⟨_, rfl⟩
  rw [hpt]
  have HP := Lib.hid hpt
  clear hno hyes hx hb1 hl' hz ht' hok hks hvs he hpt hek hev
  go_wp2_with fail
  refine (curNew_any w1 pt).mono ?_
  rintro r w2 ⟨rfl, rfl⟩
  rw [← HP.out]
  have HC2 := Lib.hid (Cur.new HT.out (Below.refl _ w1))
  have HB2 : Hid (Below w.heap.size w (w1.alloc (.cells #[tb T', .string ⟨#[]⟩] 53))) := Lib.hid (HB1.out.alloc HB1.out.size _)
  obtain ⟨w2, hw2⟩ : ∃ w2, w1.alloc (.cells #[tb T', .string ⟨#[]⟩] 53) = w2 := ⟨_, rfl⟩
  rw [hw2] at HC2 HB2 ⊢
  clear hw2
  go_wp2_with fail
  refine (curFirst_any HC2.out).mono ?_
  rw [HL.out, show mvFirst [e] = some 0 from rfl]
  rintro r w3 ⟨rfl, hm, hc⟩
  have HB3 := Lib.hid (HB2.out.trans (Mv.below' hm HB2.out.size HB1.out.size))
  have HC3 := Lib.hid hc
  clear hm hc
  go_wp2_with fail
  refine (curEntry_any HC3.out).mono ?_
  rw [HL.out, show entAt [e] (some 0) = some e from rfl]
  rintro r w4 ⟨rfl, hb4⟩
  have HB4 := Lib.hid (bthen HB3.out hb4)
  have hvv : (e.v.toList == [118]) = true := by
    rw [← HEV.out, Lib.toList_data]
    rfl
  obtain ⟨ek, hek⟩ : ∃ ek, e.k = ek := ⟨_, rfl⟩
  obtain ⟨ev, hev⟩ : ∃ ev, e.v = ev := ⟨_, rfl⟩
  rw [hev] at hvv
  have HA : Hid (ansV (some e) = .tuple #[.agg #[.string ek, .string ev], .bool true]) := Lib.hid (by rw [← hek, ← hev]; rfl)
  rw [HA.out]
  have HG : Hid (∀ o, Below w.heap.size w (w4.alloc o)) := Lib.hid fun o => HB4.out.alloc HB4.out.size o
  clear hb4 HEV hek hev
  go_wp2
  go_ret
  exact ⟨rfl, HG.out _⟩

/-- What built answers. -/
def BuiltPost (w : World) (r : Ending) (w' : World) : Prop :=
  ∃ T v, (∃ b : Bool, r = .returned (.tuple #[tb T, v, .bool b])) ∧ TreeIs w' T ∧ Own w' w.heap.size v (tl T) ∧ (tl T).length ≤ 150 ∧ Below w.heap.size w w'

set_option maxRecDepth 100000 in
set_option maxHeartbeats 4000000 in
theorem cuBuilt_any (A : Option Addr) (n c : Nat) (l : List Ent) (w : World) (ha : Arg w A n c l) :
    Calls Try.prog 10 #[.slice A n c] w (BuiltPost w) := by
  obtain ⟨hlen, hcap, hsm, hes, hok⟩ := ha
  have HL := Lib.hid hlen
  have HOK := Lib.hid hok
  clear hlen hok
  by_cases h150 : 150 < n
  · go_enter Try.func10, Try.ntmps10
    go_wp2
    go_ret3
    exact ⟨none, _, ⟨false, rfl⟩, TreeIs.none _, Own.nil_ _ _, Nat.zero_le _, Below.refl _ _⟩
  go_enter Try.func10, Try.ntmps10
  go_wp2
  go_loopw [5, 6, 15] (fun s5 s6 s15 wr => ∃ (k : Nat) (T : TO), k ≤ n ∧ s15 = .int .i64 (k : Int) ∧ s5 = tb T ∧ Hid (TreeIs wr T ∧ Own wr w.heap.size s6 (tl T) ∧ (tl T).length ≤ k) ∧ Below w.heap.size w wr) (fun _ _ s15 _ => n - (intOf s15).toNat)
  case atStart => exact ⟨0, none, Nat.zero_le _, rfl, rfl, Lib.hid ⟨TreeIs.none _, Own.nil_ _ _, Nat.zero_le _⟩, Below.refl _ _⟩
  case round =>
    obtain ⟨k, T, hk, rfl, rfl, HI, hbw⟩ := hrel
    obtain ⟨tv, htv⟩ : ∃ tv, tv = tb T := ⟨_, rfl⟩
    rw [← htv]
    have HTV := Lib.hid htv
    clear htv
    by_cases hlt : k < n
    · obtain ⟨ad, x, rfl, hx, hl, h1, h2⟩ := (hes.below hbw).at_ (i := k) (by rw [HL.out]; exact hlt)
      obtain ⟨hks, hvs⟩ := HOK.out x (List.mem_of_getElem? hx)
      have HX := Lib.hid hx
      clear hx
      by_cases hbig : 2000 < x.k.size + x.v.size
      · go_wp2
        go_quiet (fail)
        go_wp2
        go_ret3
        exact ⟨none, _, ⟨false, rfl⟩, TreeIs.none _, Own.nil_ _ _, Nat.zero_le _, below_drewN hbw _⟩
      · go_wp2
        go_quiet (fail)
        obtain ⟨wa, hwd⟩ : ∃ wd, wd = wr.drewN nq := ⟨_, rfl⟩
        rw [← hwd]
        have hbq : Below wr.heap.size wr wa := by rw [hwd]; exact below_drewN (Below.refl _ _) nq
        have hbw2 := bthen hbw hbq
        have HBQ := Lib.hid hbq
        obtain ⟨_, _, e', hx', _, h1', h2'⟩ := (hes.below hbw2).at_ (i := k) (by rw [HL.out]; exact hlt)
        cases e'
        obtain rfl := Option.some.inj (HX.out.symm.trans hx')
        have HT2 := Lib.hid (HI.out.1.below hbq)
        have HO2 := Lib.hid (HI.out.2.1.below hbq)
        have HLen := Lib.hid HI.out.2.2
        clear HI hwd hbq hbw h1 h2 hx'
        go_wp2_with fail
        rw [HTV.out]
        refine (put_any HT2.out (HT2.out.low (by have := HLen.out; omega)) hks hvs).mono ?_
        rintro r w1 ⟨T', rfl, ht', hb1, hno, hyes⟩
        have hb := bthen hbw2 hb1
        by_cases he : okE x = true
        · obtain ⟨hl', _, _⟩ := hyes he
          have hz : errOf x = 0 := by rw [errOf_ok] at he; exact of_decide_eq_true he
          rw [hz]
          obtain ⟨_, _, e', hx', _, h1, h2⟩ := (hes.below hb).at_ (i := k) (by rw [HL.out]; exact hlt)
          cases e'
          obtain rfl := Option.some.inj (HX.out.symm.trans hx')
          obtain ⟨A2, c2, hv2, hc2, hes2⟩ := (HO2.out.below hb1).form
          subst hv2
          have HPL := Lib.hid (put_length HT2.out.sorted x)
          have HTL := Lib.hid hl'
          have HT' := Lib.hid ht'
          have HS := Lib.hid HT2.out.sorted
          obtain ⟨tv', htv'⟩ : ∃ tv, tv = tb T' := ⟨_, rfl⟩
          rw [← htv']
          have HTV' := Lib.hid htv'
          have HBX := Lib.hid hb
          clear hl' hb1 hno hyes hz he ht' hx' h1' h2' htv'
          go_wp2_with fail
          refine (refWith_any A2 _ c2 (tl T) x w1 HS.out hes2 rfl (by have := HLen.out; omega)).mono ?_
          rintro r w2 ⟨v3, rfl, ho3, hb3⟩
          have HO3 := Lib.hid (ho3.mono HBX.out.size)
          have HB3 := Lib.hid (bthen HBX.out hb3)
          have HT3 := Lib.hid (HT'.out.below hb3)
          clear ho3 hb3 h1 h2
          go_wp2
          exact ⟨⟨k + 1, T', by omega, by go_num, HTV'.out, Lib.hid ⟨HT3.out, by rw [HTL.out]; exact HO3.out, by rw [HTL.out]; have := HPL.out; have := HLen.out; omega⟩, HB3.out⟩, by simp [intOf]; omega⟩
        · have hz : errOf x ≠ 0 := by rw [errOf_ok] at he; simpa using he
          have HT3 := Lib.hid (HT2.out.below hb1)
          have HO3 := Lib.hid (HO2.out.below hb1)
          rw [← HTV.out]
          have HB3 := Lib.hid hb
          clear hb1 hno hyes he ht' h1' h2' hb hbw2
          go_wp2
          exact ⟨⟨k + 1, T, by omega, by go_num, HTV.out, Lib.hid ⟨HT3.out, HO3.out, by have := HLen.out; omega⟩, HB3.out⟩, by simp [intOf]; omega⟩
    · have he : k = n := by omega
      subst he
      go_wp2
      go_ret3
      exact ⟨T, _, ⟨true, by rw [← HTV.out]; rfl⟩, HI.out.1, HI.out.2.1, by have := HI.out.2.2; omega, hbw⟩


/-- A call of a script: which, and the key that it seeks. -/
structure CuOp where
  kind : Int
  key : ByteArray
def pcQ (o : CuOp) : List Value := [.int .i64 o.kind, .string o.key]
theorem encQ : Enc pcQ 2 := ⟨fun _ => rfl, fun x u hu => by
  simp only [pcQ, List.mem_cons, List.not_mem_nil, or_false] at hu
  rcases hu with rfl | rfl <;> rfl⟩
/-- What is known of one that comes in. -/
structure OkQ (o : CuOp) : Prop where
  kind : -9223372036854775808 ≤ o.kind ∧ o.kind ≤ 9223372036854775807
  key : o.key.size ≤ 140737488351232
structure ArgQ (W : World) (A : Option Addr) (n c : Nat) (l : List CuOp) : Prop where
  len : l.length = n
  cap : n ≤ c
  small : n ≤ 140737488351232
  ls : Ls pcQ W A l
  ok : ∀ o ∈ l, OkQ o
theorem ArgQ.below {W W' : World} {A : Option Addr} {n c : Nat} {l : List CuOp} (h : ArgQ W A n c l) (hb : Below W.heap.size W W') : ArgQ W' A n c l := ⟨h.len, h.cap, h.small, h.ls.below hb, h.ok⟩
theorem fields_cuop : ∃ f0 f1, Try.prog.underlying 35 = some (.struct #[f0, f1]) ∧ f0.offset = 0 ∧ f1.offset = 1 ∧ f0.type = 3 ∧ f1.type = 9 := ⟨_, _, Try.underlying35, rfl, rfl, rfl, rfl⟩
set_option maxRecDepth 100000 in
theorem elemQ {H : Type} {enc : TypeId × Value → H} {W : World} (fuel : Nat) (cs : List Value) (y : DataW H × List MemPlace) (h : DataW.trod enc Try.prog W 0 (fun _ => true) true fuel 35 cs = some y)
    (hsz : ∀ m ∈ y.1.weights Try.prog 35, m ≤ reachBytes) : ∃ z : CuOp, cs = pcQ z ∧ OkQ z := by
  obtain ⟨f0, f1, he, o0, o1, t0, t1⟩ := fields_cuop
  have c9 : Try.prog.cellsOf 9 = 1 := by kernel_rfl
  have c3 : Try.prog.cellsOf 3 = 1 := by kernel_rfl
  have c4 : Try.prog.cellsOf 35 = 2 := by kernel_rfl
  obtain ⟨xs, n, _, hx, hlen, hxl, hf⟩ := DataW.trod_struct he h
  rw [c4] at hlen
  match xs, hxl, cs, hlen with
  | [y0, y1], _, [v0, v1], _ =>
    have g0 := hf 0 f0 rfl
    have g1 := hf 1 f1 rfl
    simp [o0, o1, t0, t1, c9, c3] at g0 g1
    obtain ⟨i0, e0, d0, w0⟩ := DataW.trod_int Try.underlying3 g0
    obtain ⟨s, e1, d1, _⟩ := DataW.trod_string Try.underlying9 g1
    simp only [List.cons.injEq, and_true] at e0 e1
    subst e0 e1 d0 d1 hx
    simp only [List.map_cons, List.map_nil, DataW.weights, he, DataW.weightsEach, List.append_nil, List.nil_append, List.mem_append, List.mem_cons, List.not_mem_nil, or_false, false_or, t0, t1] at hsz
    exact ⟨⟨i0, s⟩, rfl, by simpa [Lit.wf, IntKind.min, IntKind.max, IntKind.signed, IntKind.bits] using w0, hsz _ rfl⟩
theorem open_cuops {H : Type} {enc : TypeId × Value → H} {W : World} {A : Option Addr} {n c : Nat} {d : DataW H} {p : List MemPlace}
    (h : DataW.Trod enc Try.prog W 0 (fun _ => true) true 23 (.slice A n c) d p) (hsz : ∀ m ∈ d.weights Try.prog 23, m ≤ reachBytes) : ∃ l, ArgQ W A n c l := by
  obtain ⟨fuel, hf⟩ := h
  obtain ⟨l, h1, h2, h3, h4, h5⟩ := open_list (f := pcQ) (k := 2) (ok := OkQ) encQ (by omega) Try.underlying23 (by kernel_rfl) (by_ := 24) (by kernel_rfl) (by omega) elemQ hf hsz
  exact ⟨l, h1, h2, h3, h4, h5⟩
theorem Ls.cuop_at {w : World} {A : Option Addr} {l : List CuOp} (h : Ls pcQ w A l) {i : Nat} (hi : i < l.length) : ∃ ad o, A = some ad ∧ l[i]? = some o ∧ ad.block < w.heap.size ∧ w.cell? (ad.add (i * 2)) = some (.int .i64 o.kind) ∧
    w.cell? ⟨(ad.add (i * 2)).block, (ad.add (i * 2)).off + 1, none⟩ = some (.string o.key) := by
  obtain ⟨ad, o, e, hp, hl, hc⟩ := h.at_ encQ hi
  have hz : w.cell? (ad.add (i * 2)) = some (.int .i64 o.kind) := by
    have := hc 0 (.int .i64 o.kind) (by omega) rfl
    rw [add_of_add] at this
    simpa using this
  exact ⟨ad, o, e, hp, hl, hz, hc 1 (.string o.key) (by omega) rfl⟩
/-- What few answers. -/
def FewQ (w : World) (n : Nat) (e : Ending) (w' : World) : Prop := w = w' ∧ ∃ r : Bool, e = .returned (.bool r) ∧ (r = true → n ≤ 300)

set_option maxRecDepth 100000 in
set_option maxHeartbeats 2000000 in
theorem fewQ_any (A : Option Addr) (n c : Nat) (l : List CuOp) (w : World) (ha : ArgQ w A n c l) :
    Calls Try.prog 9 #[.slice A n c] w (FewQ w n) := by
  obtain ⟨hlen, hcap, hsm, hls, hok⟩ := ha
  have HL := Lib.hid hlen
  have HOK := Lib.hid hok
  clear hlen hok
  by_cases h300 : 300 < n
  · go_enter Try.func9, Try.ntmps9
    go_wp2
    go_ret
    exact ⟨rfl, false, rfl, fun h => by cases h⟩
  go_enter Try.func9, Try.ntmps9
  go_wp2
  go_loop [9] (fun i => ∃ k : Nat, k ≤ n ∧ i = .int .i64 k) (fun i => n - (intOf i).toNat)
  case atStart => exact ⟨0, Nat.zero_le _, rfl⟩
  case round =>
    obtain ⟨k, hk, rfl⟩ := hrel
    by_cases hlt : k < n
    · obtain ⟨ad, o, rfl, ho, hl, q0, q1⟩ := hls.cuop_at (i := k) (by rw [HL.out]; exact hlt)
      have hok := HOK.out o (List.mem_of_getElem? ho)
      have hk1 := hok.key
      clear ho hok q0
      by_cases hd : 2000 < o.key.size
      · go_wp2
        go_ret
        exact ⟨rfl, false, rfl, fun h => by cases h⟩
      · go_wp2
        exact ⟨⟨k + 1, by omega, by go_num⟩, by simp [intOf]; omega⟩
    · have he : k = n := by omega
      subst he
      go_wp2
      go_ret
      exact ⟨rfl, true, rfl, fun _ => by omega⟩

end Go.Proofs.Ytkooaechcbopnaa
