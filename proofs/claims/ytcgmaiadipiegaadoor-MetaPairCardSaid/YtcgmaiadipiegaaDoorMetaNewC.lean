/-
  The contract of meta.Newest: the meta pages that are intact and in their places, the newer one first, in a row of the call's own; conditions: the slices can be read, the table of the check lies in memory.
-/
import Derived.Test.YtcgmaiadipiegaaDoorMetaOpen
import Derived.Test.YtcgmaiadipiegaaDoorMetaDecode
namespace Go.Proofs.YtcgmaiadipiegaaDoor
open Go.RowKit Go.Sort
set_option linter.unusedVariables false
set_option linter.unusedSimpArgs false

theorem infoMM : (Tryd.prog.info? 29).map (fun i => (i.zero, i.size, i.bytes)) = some (some (.agg #[.int .i64 0, .int .i64 0]), 2, 16) := by kernel_rfl
/-- append(l, m), of meta pages. -/
theorem append_meta (ty : TypeId) {W : World} {base : Nat} {v : Value} {l : List MT} (h : OwnL pcM 29 2 W base v l) (hs : base ≤ W.heap.size) (x y : Int) (hl : l.length ≤ 1000000) :
    ∃ v' w', (Builtin.append_ #[42, 42] ty #[v, .slice (some ⟨W.heap.size, 0, none⟩) 1 1]).run Tryd.prog (W.alloc (.cells #[.int .i64 x, .int .i64 y] 29)) = .ok v' w' ∧ OwnL pcM 29 2 w' base v' (l ++ [⟨x, y⟩]) ∧ (W.alloc (.cells #[.int .i64 x, .int .i64 y] 29)).grownBy w' v.ownBlock :=
  run_append_one encPM 42 29 ty (.agg #[.int .i64 0, .int .i64 0]) 16 ⟨_, Tryd.underlying42, rfl⟩ infoMM rfl (by omega) (by omega) (by omega) h ⟨x, y⟩ hl hs

/-- The one that is intact and in its place. -/
def pickM (s : Int) (l : List UInt8) : List MT := match decM l with
  | some m => if slotI m.e = s then [m] else []
  | none => []
theorem pick_len (s : Int) (l : List UInt8) : (pickM s l).length ≤ 1 := by
  unfold pickM
  split
  · split <;> simp
  · simp
theorem pick_ok {s : Int} {l : List UInt8} {m : MT} (h : m ∈ pickM s l) : okM m ∧ encM m = l ∧ slotI m.e = s := by
  unfold pickM at h
  split at h
  · rename_i m' hd
    split at h
    · rename_i hs
      rw [List.mem_singleton] at h
      subst h
      exact ⟨((decM_iff l m).1 hd).1, ((decM_iff l m).1 hd).2, hs⟩
    · cases h
  · cases h
def fndM (la lb : List UInt8) (k : Nat) : List MT := (if 1 ≤ k then pickM 0 la else []) ++ (if 2 ≤ k then pickM 1 lb else [])
theorem idx0 (a b : Value) (w : World) : (Instr.index 69 (.agg #[a, b]) (.int .i64 0)).run Tryd.prog w = .ok a w := by
  simp [Instr.index, run_underlying Tryd.underlying69, asIntOf, part, go_sem, Tryd.isAgg25]
theorem idx1 (a b : Value) (w : World) : (Instr.index 69 (.agg #[a, b]) (.int .i64 1)).run Tryd.prog w = .ok b w := by
  simp [Instr.index, run_underlying Tryd.underlying69, asIntOf, part, go_sem, Tryd.isAgg25]
theorem slot_or2 (x : Int) : slotI x = 0 ∨ slotI x = 1 := by
  unfold slotI
  split
  · exact .inl rfl
  · exact .inr rfl
theorem fnd_len (la lb : List UInt8) (k : Nat) : (fndM la lb k).length ≤ 2 := by
  have h1 := pick_len 0 la
  have h2 := pick_len 1 lb
  unfold fndM
  rw [List.length_append]
  split <;> split <;> simp <;> omega
theorem fnd_zero (la lb : List UInt8) : fndM la lb 0 = [] := by simp [fndM]
theorem fnd_one (la lb : List UInt8) : fndM la lb 1 = pickM 0 la := by simp [fndM]
theorem fnd_two (la lb : List UInt8) : fndM la lb 2 = pickM 0 la ++ pickM 1 lb := by simp [fndM]
theorem fnd0_yes {la lb : List UInt8} {m : MT} (hd : decM la = some m) (hs : slotI m.e = 0) : fndM la lb 1 = fndM la lb 0 ++ [m] := by rw [fnd_one, fnd_zero, pickM, hd]; simp [hs]
theorem fnd0_no {la lb : List UInt8} {m : MT} (hd : decM la = some m) (hs : slotI m.e ≠ 0) : fndM la lb 1 = fndM la lb 0 := by rw [fnd_one, fnd_zero, pickM, hd]; simp [hs]
theorem fnd0_none {la lb : List UInt8} (hd : decM la = none) : fndM la lb 1 = fndM la lb 0 := by rw [fnd_one, fnd_zero, pickM, hd]
theorem fnd1_yes {la lb : List UInt8} {m : MT} (hd : decM lb = some m) (hs : slotI m.e = 1) : fndM la lb 2 = fndM la lb 1 ++ [m] := by rw [fnd_one, fnd_two, pickM, pickM, hd]; simp [hs]
theorem fnd1_no {la lb : List UInt8} {m : MT} (hd : decM lb = some m) (hs : slotI m.e ≠ 1) : fndM la lb 2 = fndM la lb 1 := by rw [fnd_one, fnd_two, pickM, pickM, hd]; simp [hs]
theorem fnd1_none {la lb : List UInt8} (hd : decM lb = none) : fndM la lb 2 = fndM la lb 1 := by rw [fnd_one, fnd_two, pickM, pickM, hd]; simp
/-- The newer one first. -/
def turnM : List MT → List MT
  | [p, q] => if p.e < q.e then [q, p] else [p, q]
  | l => l
def newM (la lb : List UInt8) : List MT := turnM (pickM 0 la ++ pickM 1 lb)

/-- Two meta pages of a row of the call's own, written anew. -/
theorem own_swap {V : World} {base g cap : Nat} {cur : Array Value} {x0 x1 x2 x3 : Value} (hz : V.heap[g]? = some (.cells cur 29 (0, 0))) (hg : base ≤ g) (hc : 2 ≤ cap) (hm : cap ≤ maxLen) (hs : cur.size = cap * 2)
    (ht : cur.toList.take 4 = [x0, x1, x2, x3]) (a b c d : Int) :
    OwnL pcM 29 2 ((((V.setCell ⟨g, 0, none⟩ (.int .i64 a)).setCell ⟨g, 1, none⟩ (.int .i64 b)).setCell ⟨g, 2, none⟩ (.int .i64 c)).setCell ⟨g, 3, none⟩ (.int .i64 d)).drew base (.slice (some ⟨g, 0, none⟩) 2 cap) [⟨a, b⟩, ⟨c, d⟩] := by
  have h4 := blk_set (blk_set (blk_set (blk_set hz 0 (.int .i64 a)) 1 (.int .i64 b)) 2 (.int .i64 c)) 3 (.int .i64 d)
  have hcur : cur.toList = x0 :: x1 :: x2 :: x3 :: cur.toList.drop 4 := by
    have := List.take_append_drop 4 cur.toList
    rw [ht] at this
    exact this.symm
  refine ⟨rfl, .inr ⟨g, cap, _, rfl, hg, h4, hc, hm, by simp [hs], ?_⟩⟩
  simp only [Array.toList_setIfInBounds]
  rw [hcur]
  rfl

set_option maxRecDepth 100000 in
set_option maxHeartbeats 2000000 in
theorem mtNewest_any (A B : Option Addr) (n c m d : Nat) (la lb : List UInt8) (w : World) (hh : Half w) (hA : Rd w A la) (hn : la.length = n) (hB : Rd w B lb) (hm : lb.length = m) (hbn : n ≤ 1000000000) (hbm : m ≤ 1000000000) :
    Calls Tryd.prog 22 #[.slice A n c, .slice B m d] w fun e w' => ∃ v, e = .returned v ∧ OwnL pcM 29 2 w' w.heap.size v (newM la lb) ∧ Below w.heap.size w w' := by
  have Hn := Lib.hid hn
  have Hm := Lib.hid hm
  clear hn hm
  go_enter Tryd.func22, Tryd.ntmps22
  have hix0 : ∀ w : World, (Instr.index 69 (.agg #[.slice A n c, .slice B m d]) (.int .i64 0)).run Tryd.prog w = .ok (.slice A n c) w := fun w => idx0 _ _ w
  have hix1 : ∀ w : World, (Instr.index 69 (.agg #[.slice A n c, .slice B m d]) (.int .i64 1)).run Tryd.prog w = .ok (.slice B m d) w := fun w => idx1 _ _ w
  have hix0 : ∀ w : World, (Instr.index 69 (.agg #[.slice A n c, .slice B m d]) (.int .i64 0)).run Tryd.prog w = .ok (.slice A n c) w := fun w => idx0 _ _ w
  have hix1 : ∀ w : World, (Instr.index 69 (.agg #[.slice A n c, .slice B m d]) (.int .i64 1)).run Tryd.prog w = .ok (.slice B m d) w := fun w => idx1 _ _ w
  have hix0 : ∀ w : World, (Instr.index 69 (.agg #[.slice A n c, .slice B m d]) (.int .i64 0)).run Tryd.prog w = .ok (.slice A n c) w := fun w => idx0 _ _ w
  have hix1 : ∀ w : World, (Instr.index 69 (.agg #[.slice A n c, .slice B m d]) (.int .i64 1)).run Tryd.prog w = .ok (.slice B m d) w := fun w => idx1 _ _ w
  have hix0 : ∀ w : World, (Instr.index 69 (.agg #[.slice A n c, .slice B m d]) (.int .i64 0)).run Tryd.prog w = .ok (.slice A n c) w := fun w => idx0 _ _ w
  have hix1 : ∀ w : World, (Instr.index 69 (.agg #[.slice A n c, .slice B m d]) (.int .i64 1)).run Tryd.prog w = .ok (.slice B m d) w := fun w => idx1 _ _ w
  have hix0 : ∀ w : World, (Instr.index 69 (.agg #[.slice A n c, .slice B m d]) (.int .i64 0)).run Tryd.prog w = .ok (.slice A n c) w := fun w => idx0 _ _ w
  have hix1 : ∀ w : World, (Instr.index 69 (.agg #[.slice A n c, .slice B m d]) (.int .i64 1)).run Tryd.prog w = .ok (.slice B m d) w := fun w => idx1 _ _ w
  go_wp2
  go_loopw [5, 14] (fun v i wr => ∃ k : Nat, k ≤ 2 ∧ i = .int .i64 k ∧ Hid (OwnL pcM 29 2 wr w.heap.size v (fndM la lb k)) ∧ Below w.heap.size w wr) (fun _ i _ => 2 - (intOf i).toNat)
  case atStart => exact ⟨0, Nat.zero_le _, rfl, ⟨by simp [fndM], .inr ⟨_, _, _, rfl, Nat.le_refl _, heap_alloc_new w _, Nat.le_refl _, Nat.zero_le _, rfl, rfl⟩⟩, (Below.refl _ _).alloc (Nat.le_refl _) _⟩
  case round =>
    obtain ⟨k, hk, rfl, HO, hbw⟩ := hrel
    match k, hk with
    | 0, _ =>
      go_wp2_with fail
      refine (mtDecode_any A n c la wr (hh.below hbw) (hA.below hbw) Hn.out (by omega)).mono ?_
      rintro e w1 ⟨rfl, hb1⟩
      have hbw1 := bthen hbw hb1
      have HO1 := Lib.hid (HO.out.below hb1)
      clear HO hb1 hbw
      rcases dec_cases la with ⟨⟨x, y⟩, hok, henc, hd, h1, h2⟩ | ⟨hd, h1, h2⟩
      · rw [h1, h2]
        unfold metaV
        simp only
        have hI := (okM_mi hok).1
        simp only at hI
        obtain ⟨U, hU⟩ : ∃ U, U = w1.alloc (.cells #[.int .i64 x, .int .i64 y] 29) := ⟨_, rfl⟩
        have hbU : Below w1.heap.size w1 U := by rw [hU]; exact (Below.refl _ _).alloc (Nat.le_refl _) _
        have hbwU := bthen hbw1 hbU
        have HOU := Lib.hid (HO1.out.below hbU)
        have hzU : U.heap[w1.heap.size]? = some (.cells #[.int .i64 x, .int .i64 y] 29 (0, 0)) := by rw [hU]; exact heap_alloc_new w1 _
        have u0 := cell_at hzU 0 (.int .i64 x) rfl
        have u1 := cell_at hzU 1 (.int .i64 y) rfl
        have HU := Lib.hid hU
        have hsl := slot_or2 x
        obtain ⟨s, hs⟩ : ∃ s, s = slotI x := ⟨_, rfl⟩
        have HSL := Lib.hid hs
        rw [← hs] at hsl
        clear hU hbw1 hbU HO1 hzU h1 h2 hs
        go_wp2_with fail
        rw [← HU.out]
        refine (mtSlot_any x U hI).mono ?_
        rintro e w2 ⟨rfl, rfl⟩
        rw [← HSL.out]
        by_cases hse : s = 0
        · have hF : fndM la lb 1 = fndM la lb 0 ++ [⟨x, y⟩] := fnd0_yes hd (by rw [← HSL.out, hse])
          have HF := Lib.hid hF
          subst hse
          have hlen : (fndM la lb 0).length ≤ 1000000 := by have := fnd_len la lb 0; omega
          obtain ⟨v', w3, hrun, ho3, hg3⟩ := append_meta 42 HOU.out hbwU.size x y hlen
          have hba : Below U.heap.size U (U.alloc (.cells #[.int .i64 x, .int .i64 y] 29)) := (Below.refl _ _).alloc (Nat.le_refl _) _
          have hbwa := bthen hbwU hba
          have HG := Lib.hid ((HOU.out.below hba).grow_below hbwa hbwa.size hg3)
          have HR := Lib.hid hrun
          have HO3 : Hid (OwnL pcM 29 2 w3 w.heap.size v' (fndM la lb 1)) := by rw [HF.out]; exact ho3
          clear hrun ho3 hg3 hba hbwa hF hd henc hlen HOU hbwU
          go_wp2_with (at_builtin; refine wpList_append_ran rfl (.tmp 32) (.tmp 34) 42 rfl _ _ _ _ rfl rfl HR.out ?_)
          exact ⟨⟨1, by omega, by go_num, HO3, HG.out⟩, by simp [intOf]⟩
        · have hF : fndM la lb 1 = fndM la lb 0 := fnd0_no hd (by rw [← HSL.out]; exact hse)
          have HO3 : Hid (OwnL pcM 29 2 U w.heap.size u5 (fndM la lb 1)) := by rw [hF]; exact HOU
          have hne : (s == 0) = false := by simpa using hse
          clear hF hd henc HOU
          go_wp2
          exact ⟨⟨1, by omega, by go_num, HO3, hbwU⟩, by simp [intOf]⟩
      · rw [h1, h2]
        unfold metaV
        simp only
        have hF : fndM la lb 1 = fndM la lb 0 := fnd0_none hd
        obtain ⟨U, hU⟩ : ∃ U, U = w1.alloc (.cells #[.int .i64 0, .int .i64 0] 29) := ⟨_, rfl⟩
        have hbU : Below w1.heap.size w1 U := by rw [hU]; exact (Below.refl _ _).alloc (Nat.le_refl _) _
        have HB : Hid (Below w.heap.size w U) := bthen hbw1 hbU
        have HO3 : Hid (OwnL pcM 29 2 U w.heap.size u5 (fndM la lb 1)) := by rw [hF]; exact HO1.out.below hbU
        have HU := Lib.hid hU
        clear h1 h2 hU hbU hF HO1 hd
        go_wp2
        rw [← HU.out]
        exact ⟨⟨1, by omega, by go_num, HO3, HB.out⟩, by simp [intOf]⟩
    | 1, _ =>
      go_wp2_with fail
      refine (mtDecode_any B m d lb wr (hh.below hbw) (hB.below hbw) Hm.out (by omega)).mono ?_
      rintro e w1 ⟨rfl, hb1⟩
      have hbw1 := bthen hbw hb1
      have HO1 := Lib.hid (HO.out.below hb1)
      clear HO hb1 hbw
      rcases dec_cases lb with ⟨⟨x, y⟩, hok, henc, hd, h1, h2⟩ | ⟨hd, h1, h2⟩
      · rw [h1, h2]
        unfold metaV
        simp only
        have hI := (okM_mi hok).1
        simp only at hI
        obtain ⟨U, hU⟩ : ∃ U, U = w1.alloc (.cells #[.int .i64 x, .int .i64 y] 29) := ⟨_, rfl⟩
        have hbU : Below w1.heap.size w1 U := by rw [hU]; exact (Below.refl _ _).alloc (Nat.le_refl _) _
        have hbwU := bthen hbw1 hbU
        have HOU := Lib.hid (HO1.out.below hbU)
        have hzU : U.heap[w1.heap.size]? = some (.cells #[.int .i64 x, .int .i64 y] 29 (0, 0)) := by rw [hU]; exact heap_alloc_new w1 _
        have u0 := cell_at hzU 0 (.int .i64 x) rfl
        have u1 := cell_at hzU 1 (.int .i64 y) rfl
        have HU := Lib.hid hU
        have hsl := slot_or2 x
        obtain ⟨s, hs⟩ : ∃ s, s = slotI x := ⟨_, rfl⟩
        have HSL := Lib.hid hs
        rw [← hs] at hsl
        clear hU hbw1 hbU HO1 hzU h1 h2 hs
        go_wp2_with fail
        rw [← HU.out]
        refine (mtSlot_any x U hI).mono ?_
        rintro e w2 ⟨rfl, rfl⟩
        rw [← HSL.out]
        by_cases hse : s = 1
        · have hF : fndM la lb 2 = fndM la lb 1 ++ [⟨x, y⟩] := fnd1_yes hd (by rw [← HSL.out, hse])
          have HF := Lib.hid hF
          subst hse
          have hlen : (fndM la lb 1).length ≤ 1000000 := by have := fnd_len la lb 1; omega
          obtain ⟨v', w3, hrun, ho3, hg3⟩ := append_meta 42 HOU.out hbwU.size x y hlen
          have hba : Below U.heap.size U (U.alloc (.cells #[.int .i64 x, .int .i64 y] 29)) := (Below.refl _ _).alloc (Nat.le_refl _) _
          have hbwa := bthen hbwU hba
          have HG := Lib.hid ((HOU.out.below hba).grow_below hbwa hbwa.size hg3)
          have HR := Lib.hid hrun
          have HO3 : Hid (OwnL pcM 29 2 w3 w.heap.size v' (fndM la lb 2)) := by rw [HF.out]; exact ho3
          clear hrun ho3 hg3 hba hbwa hF hd henc hlen HOU hbwU
          go_wp2_with (at_builtin; refine wpList_append_ran rfl (.tmp 32) (.tmp 34) 42 rfl _ _ _ _ rfl rfl HR.out ?_)
          exact ⟨⟨2, by omega, by go_num, HO3, HG.out⟩, by simp [intOf]⟩
        · have hF : fndM la lb 2 = fndM la lb 1 := fnd1_no hd (by rw [← HSL.out]; exact hse)
          have HO3 : Hid (OwnL pcM 29 2 U w.heap.size u5 (fndM la lb 2)) := by rw [hF]; exact HOU
          have hne : (s == 1) = false := by simpa using hse
          clear hF hd henc HOU
          go_wp2
          exact ⟨⟨2, by omega, by go_num, HO3, hbwU⟩, by simp [intOf]⟩
      · rw [h1, h2]
        unfold metaV
        simp only
        have hF : fndM la lb 2 = fndM la lb 1 := fnd1_none hd
        obtain ⟨U, hU⟩ : ∃ U, U = w1.alloc (.cells #[.int .i64 0, .int .i64 0] 29) := ⟨_, rfl⟩
        have hbU : Below w1.heap.size w1 U := by rw [hU]; exact (Below.refl _ _).alloc (Nat.le_refl _) _
        have HB : Hid (Below w.heap.size w U) := bthen hbw1 hbU
        have HO3 : Hid (OwnL pcM 29 2 U w.heap.size u5 (fndM la lb 2)) := by rw [hF]; exact HO1.out.below hbU
        have HU := Lib.hid hU
        clear h1 h2 hU hbU hF HO1 hd
        go_wp2
        rw [← HU.out]
        exact ⟨⟨2, by omega, by go_num, HO3, HB.out⟩, by simp [intOf]⟩
    | 2, _ =>
      have hF := fnd_two la lb
      rw [hF] at HO
      have hp1 : ∀ z ∈ pickM 0 la, okM z := fun z hz => (pick_ok hz).1
      have hp2 : ∀ z ∈ pickM 1 lb, okM z := fun z hz => (pick_ok hz).1
      have hN : newM la lb = turnM (pickM 0 la ++ pickM 1 lb) := rfl
      obtain ⟨fs, hfs⟩ : ∃ fs, fs = pickM 0 la ++ pickM 1 lb := ⟨_, rfl⟩
      have hokf : ∀ z ∈ fs, okM z := fun z hz => by
        rw [hfs] at hz
        rcases List.mem_append.1 hz with h | h
        · exact hp1 z h
        · exact hp2 z h
      have hfl : fs.length ≤ 2 := by
        rw [hfs, ← hF]
        exact fnd_len la lb 2
      rw [← hfs] at HO hN
      have HN := Lib.hid hN
      clear hF hp1 hp2 hN hfs hix0 hix1
      obtain ⟨Af, cf, rfl, hcf, hlsf⟩ := HO.out.form
      match fs, hfl with
      | [], _ =>
        simp only [List.length_nil] at *
        go_wp2
        go_quiet (fail)
        go_wp2
        go_ret
        refine ⟨_, rfl, ?_, below_drewN hbw _⟩
        rw [HN.out]
        exact HO.out
      | [p], _ =>
        simp only [List.length_cons, List.length_nil] at *
        go_wp2
        go_quiet (fail)
        go_wp2
        go_ret
        refine ⟨_, rfl, ?_, below_drewN hbw _⟩
        rw [HN.out]
        exact HO.out
      | [p, q], _ =>
        simp only [List.length_cons, List.length_nil] at *
        obtain ⟨px, py⟩ := p
        obtain ⟨qx, qy⟩ := q
        have hpx := okM_e (hokf ⟨px, py⟩ (by simp))
        have hqx := okM_e (hokf ⟨qx, qy⟩ (by simp))
        simp only at hpx hqx
        obtain ⟨hpx0, hpx1⟩ := hpx
        obtain ⟨hqx0, hqx1⟩ := hqx
        rcases HO.out.2 with ⟨h0, _⟩ | ⟨g, cap, cur, hv, hg, hz, hc, hmx, hcs, htk⟩
        · cases h0
        cases hv
        have htk' : cur.toList.take 4 = [.int .i64 px, .int .i64 py, .int .i64 qx, .int .i64 qy] := htk
        have hat : ∀ j, j < 4 → cur[j]? = ([.int .i64 px, .int .i64 py, .int .i64 qx, .int .i64 qy] : List Value)[j]? := fun j hj => by
          rw [← htk', List.getElem?_take_of_lt hj]
          simp
        have k0 : wr.cell? ⟨g, 0, none⟩ = some (.int .i64 px) := (cell_of_block hz 0).trans (hat 0 (by omega))
        have k1 : wr.cell? ⟨g, 1, none⟩ = some (.int .i64 py) := (cell_of_block hz 1).trans (hat 1 (by omega))
        have k2 : wr.cell? ⟨g, 2, none⟩ = some (.int .i64 qx) := (cell_of_block hz 2).trans (hat 2 (by omega))
        have k3 : wr.cell? ⟨g, 3, none⟩ = some (.int .i64 qy) := (cell_of_block hz 3).trans (hat 3 (by omega))
        have HZ := Lib.hid hz
        have HTK := Lib.hid htk'
        have HCS := Lib.hid hcs
        clear hlsf htk htk' hat hz hcs hokf
        by_cases hlt : px < qx
        · have hf0 : wr.frozen? ⟨g, 0, none⟩ = false := free_at HZ.out 0
          have hf1 : wr.frozen? ⟨g, 1, none⟩ = false := free_at HZ.out 1
          have hf2 : wr.frozen? ⟨g, 2, none⟩ = false := free_at HZ.out 2
          have hf3 : wr.frozen? ⟨g, 3, none⟩ = false := free_at HZ.out 3
          go_wp2
          go_quiet (fail)
          go_wp2
          obtain ⟨V, hV⟩ : ∃ V, V = wr.drewN nq := ⟨_, rfl⟩
          have hbV : Below w.heap.size w V := by rw [hV]; exact below_drewN hbw _
          have hzV : V.heap[g]? = some (.cells cur 29 (0, 0)) := by rw [hV]; exact HZ.out
          have v0 : V.cell? ⟨g, 0, none⟩ = some (.int .i64 px) := by rw [hV]; exact k0
          have v1 : V.cell? ⟨g, 1, none⟩ = some (.int .i64 py) := by rw [hV]; exact k1
          have v2 : V.cell? ⟨g, 2, none⟩ = some (.int .i64 qx) := by rw [hV]; exact k2
          have v3 : V.cell? ⟨g, 3, none⟩ = some (.int .i64 qy) := by rw [hV]; exact k3
          have f0 : V.frozen? ⟨g, 0, none⟩ = false := by rw [hV]; exact hf0
          have f1 : V.frozen? ⟨g, 1, none⟩ = false := by rw [hV]; exact hf1
          have f2 : V.frozen? ⟨g, 2, none⟩ = false := by rw [hV]; exact hf2
          have f3 : V.frozen? ⟨g, 3, none⟩ = false := by rw [hV]; exact hf3
          have HZV := Lib.hid hzV
          rw [← hV]
          clear hV hzV k0 k1 k2 k3 hf0 hf1 hf2 hf3 HZ
          go_region
          have HOW := Lib.hid (own_swap HZV.out hg hc hmx HCS.out HTK.out qx qy px py)
          have HBW : Hid (Below w.heap.size w ((((V.setCell ⟨g, 0, none⟩ (.int .i64 qx)).setCell ⟨g, 1, none⟩ (.int .i64 qy)).setCell ⟨g, 2, none⟩ (.int .i64 px)).setCell ⟨g, 3, none⟩ (.int .i64 py)).drew) :=
            ((((hbV.setCell (p := ⟨g, 0, none⟩) hg _).setCell (p := ⟨g, 1, none⟩) hg _).setCell (p := ⟨g, 2, none⟩) hg _).setCell (p := ⟨g, 3, none⟩) hg _).drew
          go_wp2
          go_ret
          refine ⟨_, rfl, ?_, HBW.out⟩
          rw [HN.out]
          show OwnL _ _ _ _ _ _ (if px < qx then [(⟨qx, qy⟩ : MT), ⟨px, py⟩] else [⟨px, py⟩, ⟨qx, qy⟩])
          rw [if_pos hlt]
          exact HOW.out
        · go_wp2
          go_quiet (fail)
          go_wp2
          go_ret
          refine ⟨_, rfl, ?_, below_drewN hbw _⟩
          rw [HN.out]
          show OwnL _ _ _ _ _ _ (if px < qx then [(⟨qx, qy⟩ : MT), ⟨px, py⟩] else [⟨px, py⟩, ⟨qx, qy⟩])
          rw [if_neg (by omega)]
          exact HO.out

end Go.Proofs.YtcgmaiadipiegaaDoor
