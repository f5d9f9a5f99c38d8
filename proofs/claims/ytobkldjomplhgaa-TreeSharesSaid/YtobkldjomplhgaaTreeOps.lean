/-
  Arguments of the rows of layer 10: a script of calls; the contracts of few, built, after and awake; conditions stand at each.
-/
import Derived.Test.YtobkldjomplhgaaTreeItems
import Derived.Test.YtobkldjomplhgaaStrs
import Derived.Test.YtobkldjomplhgaaPairOpen
import Derived.BigQuiet
namespace Go.Proofs.Ytobkldjomplhgaa
open Go.RowKit Go.Sort Go.ChangeShapes Go.WideShapes Go.Joins Go.Deep
set_option linter.unusedVariables false
set_option linter.unusedSimpArgs false

/-- A call: whether it takes away, and its entry. -/
structure TOp where
  d : Bool
  e : Ent
def pcT (o : TOp) : List Value := [.bool o.d, .string o.e.k, .string o.e.v]
theorem encT : Enc pcT 3 := ⟨fun _ => rfl, fun x u hu => by
  simp only [pcT, List.mem_cons, List.not_mem_nil, or_false] at hu
  rcases hu with rfl | rfl | rfl <;> rfl⟩
structure OkT (o : TOp) : Prop where
  key : o.e.k.size ≤ 140737488351232
  val : o.e.v.size ≤ 140737488351232
structure ArgT (W : World) (A : Option Addr) (n c : Nat) (l : List TOp) : Prop where
  len : l.length = n
  cap : n ≤ c
  small : n ≤ 140737488351232
  ls : Ls pcT W A l
  ok : ∀ o ∈ l, OkT o
theorem ArgT.below {W W' : World} {A : Option Addr} {n c : Nat} {l : List TOp} (h : ArgT W A n c l) (hb : Below W.heap.size W W') : ArgT W' A n c l := ⟨h.len, h.cap, h.small, h.ls.below hb, h.ok⟩
theorem fields_top : ∃ f0 f1, Try.prog.underlying 32 = some (.struct #[f0, f1]) ∧ f0.offset = 0 ∧ f1.offset = 1 ∧ f0.type = 4 ∧ f1.type = 30 := ⟨_, _, Try.underlying32, rfl, rfl, rfl, rfl⟩
set_option maxRecDepth 100000 in
theorem elemT {H : Type} {enc : TypeId × Value → H} {W : World} (fuel : Nat) (cs : List Value) (y : DataW H × List MemPlace) (h : DataW.trod enc Try.prog W 0 (fun _ => true) true fuel 32 cs = some y)
    (hsz : ∀ m ∈ y.1.weights Try.prog 32, m ≤ reachBytes) : ∃ z : TOp, cs = pcT z ∧ OkT z := by
  obtain ⟨f0, f1, he, o0, o1, t0, t1⟩ := fields_top
  obtain ⟨g0, g1, hee, p0, p1, u0, u1⟩ := fields_ent
  have cb : Try.prog.cellsOf 4 = 1 := by kernel_rfl
  have cs9 : Try.prog.cellsOf 9 = 1 := by kernel_rfl
  have ce : Try.prog.cellsOf 30 = 2 := by kernel_rfl
  have c4 : Try.prog.cellsOf 32 = 3 := by kernel_rfl
  obtain ⟨xs, n, _, hx, hlen, hxl, hf⟩ := DataW.trod_struct he h
  rw [c4] at hlen
  match xs, hxl, cs, hlen with
  | [y0, y1], _, [v0, v1, v2], _ =>
    have k0 := hf 0 f0 rfl
    have k1 := hf 1 f1 rfl
    simp [o0, o1, t0, t1, cb, ce] at k0 k1
    obtain ⟨b, hb, hdb⟩ := DataW.trod_bool Try.underlying4 k0
    obtain ⟨ys, m, _, hy, hlen2, hyl, hg⟩ := DataW.trod_struct hee k1
    match ys, hyl with
    | [z0, z1], _ =>
      have q0 := hg 0 g0 rfl
      have q1 := hg 1 g1 rfl
      simp [p0, p1, u0, u1, cs9] at q0 q1
      obtain ⟨s, hs, hds, _⟩ := DataW.trod_string Try.underlying9 q0
      obtain ⟨s', hs', hds', _⟩ := DataW.trod_string Try.underlying9 q1
      simp only [List.cons.injEq, and_true] at hb hs hs'
      subst hb hs hs' hx hy hds hds'
      simp only [List.map_cons, List.map_nil, DataW.weights, he, hee, DataW.weightsEach, List.append_nil, List.mem_append, t0, t1, u0, u1] at hsz
      refine ⟨⟨b, ⟨s, s'⟩⟩, rfl, ?_, ?_⟩
      · exact hsz _ (.inr (.inl (by simp [DataW.weights, Try.underlying9])))
      · exact hsz _ (.inr (.inr (by simp [DataW.weights, Try.underlying9])))
theorem open_tops {H : Type} {enc : TypeId × Value → H} {W : World} {A : Option Addr} {n c : Nat} {d : DataW H} {p : List MemPlace}
    (h : DataW.Trod enc Try.prog W 0 (fun _ => true) true 22 (.slice A n c) d p) (hsz : ∀ m ∈ d.weights Try.prog 22, m ≤ reachBytes) : ∃ l, ArgT W A n c l := by
  obtain ⟨fuel, hf⟩ := h
  obtain ⟨l, h1, h2, h3, h4, h5⟩ := open_list (f := pcT) (k := 3) (ok := OkT) encT (by omega) Try.underlying22 (by kernel_rfl) (by_ := 40) (by kernel_rfl) (by omega) elemT hf hsz
  exact ⟨l, h1, h2, h3, h4, h5⟩
/-- A call by value. -/
def topV (o : TOp) : Value := .agg #[.bool o.d, .string o.e.k, .string o.e.v]
set_option maxRecDepth 100000 in
theorem open_top {H : Type} {enc : TypeId × Value → H} {W : World} {base : Nat} {v : Value} {d : DataW H} {p : List MemPlace} (hv : Value.okWide Try.prog W .any base 32 v)
    (h : DataW.Trod enc Try.prog W 0 (fun _ => true) true 32 v d p) (hsz : ∀ m ∈ d.weights Try.prog 32, m ≤ reachBytes) : ∃ x : TOp, v = topV x ∧ OkT x := by
  obtain ⟨f0, f1, he, _⟩ := fields_top
  obtain ⟨cs, rfl, hcs⟩ := okWide_struct he hv
  obtain ⟨fuel, hf⟩ := h
  obtain ⟨z, hz, hok⟩ := elemT fuel _ _ hf hsz
  refine ⟨z, ?_, hok⟩
  have : cs = (pcT z).toArray := Array.toList_inj.1 (by simpa [Value.cells] using hz)
  rw [this]
  rfl
theorem Ls.top_at {w : World} {A : Option Addr} {l : List TOp} (h : Ls pcT w A l) {i : Nat} (hi : i < l.length) : ∃ ad o, A = some ad ∧ l[i]? = some o ∧ ad.block < w.heap.size ∧ w.cell? (ad.add (i * 3)) = some (.bool o.d) ∧
    w.cell? ⟨(ad.add (i * 3)).block, (ad.add (i * 3)).off + 1, none⟩ = some (.string o.e.k) ∧ w.cell? ⟨(ad.add (i * 3)).block, (ad.add (i * 3)).off + 1 + 1, none⟩ = some (.string o.e.v) := by
  obtain ⟨ad, o, e, hp, hl, hc⟩ := h.at_ encT hi
  have hz : w.cell? (ad.add (i * 3)) = some (.bool o.d) := by
    have := hc 0 (.bool o.d) (by omega) rfl
    rw [add_of_add] at this
    simpa using this
  exact ⟨ad, o, e, hp, hl, hz, hc 1 (.string o.e.k) (by omega) rfl, hc 2 (.string o.e.v) (by omega) rfl⟩

/-- What few answers. -/
def FewT (w : World) (l : List TOp) (e : Ending) (w' : World) : Prop := Below w.heap.size w w' ∧ ∃ r : Bool, e = .returned (.bool r) ∧ (r = true → l.length ≤ 200)

set_option maxRecDepth 100000 in
set_option maxHeartbeats 2000000 in
theorem fewT_any (A : Option Addr) (n c : Nat) (l : List TOp) (w : World) (ha : ArgT w A n c l) :
    Calls Try.prog 12 #[.slice A n c] w (FewT w l) := by
  obtain ⟨hlen, hcap, hsm, hls, hok⟩ := ha
  have HL := Lib.hid hlen
  have HOK := Lib.hid hok
  clear hlen hok
  by_cases h60 : 200 < n
  · go_enter Try.func12, Try.ntmps12
    go_wp2
    go_ret
    exact ⟨Below.refl _ _, false, rfl, fun h => by cases h⟩
  have HN : Hid (l.length ≤ 200) := Lib.hid (by rw [HL.out]; omega)
  go_enter Try.func12, Try.ntmps12
  go_wp2
  go_loopw [9] (fun i wr => ∃ k : Nat, k ≤ n ∧ i = .int .i64 k ∧ Below w.heap.size w wr) (fun i _ => n - (intOf i).toNat)
  case atStart => exact ⟨0, Nat.zero_le _, rfl, Below.refl _ _⟩
  case round =>
    obtain ⟨k, hk, rfl, hbw⟩ := hrel
    by_cases hlt : k < n
    · obtain ⟨ad, o, rfl, ho, hl, q0, q1, q2⟩ := (hls.below hbw).top_at (i := k) (by rw [HL.out]; exact hlt)
      have hok := HOK.out o (List.mem_of_getElem? ho)
      have hk1 := hok.key
      have hv1 := hok.val
      clear ho hok q0
      by_cases hd : 2000 < o.e.k.size + o.e.v.size
      · go_wp2
        go_quiet (fail)
        go_wp2
        go_ret
        exact ⟨below_drewN hbw _, false, rfl, fun h => by cases h⟩
      · go_wp2
        go_quiet (fail)
        go_wp2
        exact ⟨⟨k + 1, by omega, by go_num, below_drewN hbw _⟩, by simp [intOf]; omega⟩
    · have he : k = n := by omega
      subst he
      go_wp2
      go_ret
      exact ⟨hbw, true, rfl, fun _ => HN.out⟩

/-- What a call makes of the entries. -/
def play (l : List Ent) (o : TOp) : List Ent := if o.d then del l o.e.k else if okE o.e then put l o.e else l
def plays (s : List TOp) : List Ent := s.foldl play []
theorem plays_snoc {s : List TOp} {k : Nat} {o : TOp} (h : s[k]? = some o) : plays (s.take (k + 1)) = play (plays (s.take k)) o := by
  rw [List.take_add_one, h]
  simp [plays]
theorem play_len {l : List Ent} (h : Sorted l) (o : TOp) : (play l o).length ≤ l.length + 1 := by
  unfold play
  split
  · exact Nat.le_succ_of_le (del_length _ h)
  · split
    · rcases put_length h o.e with h | h <;> omega
    · omega

set_option maxRecDepth 100000 in
set_option maxHeartbeats 2000000 in
theorem built_any (A : Option Addr) (n c : Nat) (l : List TOp) (w : World) (ha : ArgT w A n c l) (hn : n ≤ 1000) :
    Calls Try.prog 21 #[.slice A n c] w fun r w' => ∃ T, r = .returned (tb T) ∧ TreeIs w' T ∧ tl T = plays l ∧ (tl T).length ≤ n ∧ Below w.heap.size w w' := by
  obtain ⟨hlen, hcap, hsm, hls, hok⟩ := ha
  have HL := Lib.hid hlen
  have HOK := Lib.hid hok
  clear hlen hok
  go_enter Try.func21, Try.ntmps21
  go_wp2
  go_loopw [3, 9] (fun s3 s9 wr => ∃ k T, k ≤ n ∧ s9 = .int .i64 (k : Nat) ∧ s3 = tb T ∧ TreeIs wr T ∧ tl T = plays (l.take k) ∧ (tl T).length ≤ k ∧ Below w.heap.size w wr) (fun _ s9 _ => n - (intOf s9).toNat)
  case atStart => exact ⟨0, none, Nat.zero_le _, rfl, rfl, TreeIs.none _, rfl, Nat.zero_le _, Below.refl _ _⟩
  case round =>
    obtain ⟨k, T, hk, rfl, rfl, ht, hpl, htl, hbw⟩ := hrel
    by_cases hlt : k < n
    · obtain ⟨ad, o, rfl, ho, hl, q0, q1, q2⟩ := (hls.below hbw).top_at (i := k) (by rw [HL.out]; exact hlt)
      have hok := HOK.out o (List.mem_of_getElem? ho)
      have HO := Lib.hid ho
      have HT := Lib.hid ht
      have HPL := Lib.hid hpl
      have HBW := Lib.hid hbw
      have hplen := play_len ht.sorted o
      have HNX := Lib.hid (show plays (l.take (k + 1)) = play (tl T) o by rw [plays_snoc ho, hpl])
      obtain ⟨od, oe⟩ := o
      simp only at q0 q1 q2 hok
      have hkey := hok.key
      have hval := hok.val
      simp only at hkey hval
      obtain ⟨tv, htv⟩ : ∃ tv, tv = tb T := ⟨_, rfl⟩
      rw [← htv]
      have HTV := Lib.hid htv
      have hlow : Low T := ht.low (by omega)
      clear ho ht hpl hbw htv hok
      cases od with
      | true =>
        go_wp2_with fail
        rw [HTV.out]
        refine (del_any HT.out hlow).mono ?_
        rintro r w1 ⟨T', rfl, ht', hb1, hl', _, _⟩
        have hb := bthen HBW.out hb1
        have HX := Lib.hid (show tl T' = plays (l.take (k + 1)) by rw [HNX.out, hl']; rfl)
        have hle : (tl T').length ≤ k + 1 := by rw [HX.out, HNX.out]; omega
        clear hl' hb1
        go_wp2
        exact ⟨⟨k + 1, T', by omega, by go_num, rfl, ht', HX.out, hle, hb⟩, by simp [intOf]; omega⟩
      | false =>
        go_wp2_with fail
        rw [HTV.out]
        refine (put_any HT.out hlow hkey hval).mono ?_
        rintro r w1 ⟨T', rfl, ht', hb1, hno, hyes⟩
        have hb := bthen HBW.out hb1
        by_cases he : okE oe = true
        · obtain ⟨hl', _, _⟩ := hyes he
          have hz : errOf oe = 0 := by rw [errOf_ok] at he; exact of_decide_eq_true he
          have HX := Lib.hid (show tl T' = plays (l.take (k + 1)) by rw [HNX.out, hl']; unfold play; simp [he])
          have hle : (tl T').length ≤ k + 1 := by rw [HX.out, HNX.out]; omega
          rw [hz]
          clear hl' hb1 hno hyes hz he
          go_wp2
          exact ⟨⟨k + 1, T', by omega, by go_num, rfl, ht', HX.out, hle, hb⟩, by simp [intOf]; omega⟩
        · have hz : errOf oe ≠ 0 := by rw [errOf_ok] at he; simpa using he
          have HX := Lib.hid (show tl T = plays (l.take (k + 1)) by rw [HNX.out]; unfold play; simp [he])
          have ht2 := HT.out.below hb1
          clear hb1 hno hyes he ht'
          go_wp2
          exact ⟨⟨k + 1, T, by omega, by go_num, rfl, ht2, HX.out, by omega, hb⟩, by simp [intOf]; omega⟩
    · have he : k = n := by omega
      subst he
      rw [List.take_of_length_le (by rw [HL.out]; exact Nat.le_refl _)] at hpl
      go_wp2
      go_ret
      exact ⟨T, rfl, ht, hpl, htl, hbw⟩

set_option maxRecDepth 100000 in
set_option maxHeartbeats 2000000 in
theorem after_any {w : World} {T : TO} {o : TOp} (ht : TreeIs w T) (hl : Low T) (hok : OkT o) :
    Calls Try.prog 31 #[tb T, topV o] w fun r w' => ∃ T', r = .returned (tb T') ∧ TreeIs w' T' ∧ tl T' = play (tl T) o ∧ Below w.heap.size w w' := by
  obtain ⟨od, oe⟩ := o
  have hkey := hok.key
  have hval := hok.val
  simp only at hkey hval
  have HT := Lib.hid ht
  obtain ⟨tv, htv⟩ : ∃ tv, tv = tb T := ⟨_, rfl⟩
  rw [← htv]
  have HTV := Lib.hid htv
  have hb0 : Below w.heap.size w (w.alloc (.cells #[.bool od, .string oe.k, .string oe.v] 32)) := (Below.refl _ _).alloc (Nat.le_refl _) _
  have hbx := heap_alloc_new w (.cells #[.bool od, .string oe.k, .string oe.v] 32)
  clear ht hok htv
  unfold topV
  cases od with
  | true =>
    go_enter Try.func31, Try.ntmps31
    go_wp2_with fail
    rw [HTV.out]
    refine (del_any (HT.out.below hb0) hl).mono ?_
    rintro r w1 ⟨T', rfl, ht', hb1, hl', _, _⟩
    have hb := bthen hb0 hb1
    have HX := Lib.hid (show tl T' = play (tl T) ⟨true, oe⟩ by rw [hl']; rfl)
    clear hl' hb1 hb0 hbx
    go_wp2
    go_ret
    exact ⟨T', rfl, ht', HX.out, hb⟩
  | false =>
    go_enter Try.func31, Try.ntmps31
    go_wp2_with fail
    rw [HTV.out]
    refine (put_any (HT.out.below hb0) hl hkey hval).mono ?_
    rintro r w1 ⟨T', rfl, ht', hb1, hno, hyes⟩
    have hb := bthen hb0 hb1
    by_cases he : okE oe = true
    · obtain ⟨hl', _, _⟩ := hyes he
      have hz : errOf oe = 0 := by rw [errOf_ok] at he; exact of_decide_eq_true he
      have HX := Lib.hid (show tl T' = play (tl T) ⟨false, oe⟩ by rw [hl']; unfold play; simp [he])
      rw [hz]
      clear hl' hb1 hb0 hbx hno hyes hz he
      go_wp2
      go_ret
      exact ⟨T', rfl, ht', HX.out, hb⟩
    · have hz : errOf oe ≠ 0 := by rw [errOf_ok] at he; simpa using he
      have HX := Lib.hid (show tl T = play (tl T) ⟨false, oe⟩ by unfold play; simp [he])
      have ht2 := HT.out.below hb
      clear hb1 hb0 hbx hno hyes he ht'
      go_wp2
      go_ret
      exact ⟨T, rfl, ht2, HX.out, hb⟩

set_option maxRecDepth 100000 in
set_option maxHeartbeats 2000000 in
theorem trAwake_any (w : World) : Calls Try.prog 11 #[] w fun r w' => r = .returned (.bool true) ∧ Below w.heap.size w w' := by
  go_enter Try.func11, Try.ntmps11
  go_wp2_with fail
  obtain ⟨e, he⟩ : ∃ e : Ent, e = ⟨⟨#[97]⟩, ⟨#[118]⟩⟩ := ⟨_, rfl⟩
  have hek : (⟨#[97]⟩ : ByteArray) = e.k := by rw [he]
  have hev : (⟨#[118]⟩ : ByteArray) = e.v := by rw [he]
  have hok : okE e = true := by rw [he]; rfl
  have hks : e.k.size = 1 := by rw [he]; rfl
  have hvs : e.v.size = 1 := by rw [he]; rfl
  rw [hek, hev]
  refine (put_any (T := none) (TreeIs.none w) (fun x hx => by cases hx) (by omega) (by omega)).mono ?_
  rintro r w1 ⟨T', rfl, ht', hb1, hno, hyes⟩
  obtain ⟨hl', _, hx⟩ := hyes hok
  have hz : errOf e = 0 := by have := hok; rw [errOf_ok] at this; exact of_decide_eq_true this
  rw [hz]
  have hl' : tl T' = [e] := hl'
  cases T' with
  | none => cases hl'
  | some x =>
    obtain ⟨h, s⟩ := x
    have t : Tr w1 h s := ht' (h, s) rfl
    have hsl : s.l = [e] := hl'
    have hh : h = 0 := by
      have := t.len
      rw [hsl] at this
      simpa using this
    subst hh
    have HTR := Lib.hid t
    have hN1 : s.N.h = 1 := t.high
    have HLK := Lib.hid (show look s.l e.k = some e.v by rw [hsl]; exact look_some (List.pairwise_singleton ..) (List.mem_singleton.2 rfl))
    have HB1 := Lib.hid hb1
    have HEV := Lib.hid hev
    clear hno hyes hx hb1 hl' hz t ht' hsl hok hks hvs he
    go_wp2_with fail
    refine (get_tr HTR.out (by omega)).mono ?_
    rintro r w2 ⟨rfl, hb2⟩
    rw [HLK.out]
    unfold lookV
    simp only [Option.getD_some, Option.isSome_some]
    have HB2 := Lib.hid (bthen HB1.out hb2)
    have HT2 := Lib.hid (HTR.out.below hb2)
    have hsm : (e.v.toList == [118]) = true := by
      rw [← hev, Lib.toList_data]
      rfl
    clear hb2 hev hek
    go_wp2_with fail
    refine (height_any HT2.out.at_).mono ?_
    rintro r w3 ⟨rfl, rfl⟩
    rw [hN1]
    go_wp2_with fail
    refine (right_tr HT2.out).mono ?_
    rintro r w3 ⟨rfl, hb3⟩
    have HB3 := Lib.hid (bthen HB2.out hb3)
    clear hb3
    go_wp2
    go_ret
    exact ⟨rfl, HB3.out⟩

end Go.Proofs.Ytobkldjomplhgaa
