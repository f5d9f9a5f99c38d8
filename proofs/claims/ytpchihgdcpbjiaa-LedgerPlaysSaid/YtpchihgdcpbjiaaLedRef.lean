/-
  The reference's ledger in memory: its box, its three lists; what its calls may turn; the contracts of has, Used, Free, New, Take, Commit and Abort; conditions stand at each.
-/
import Derived.Test.YtpchihgdcpbjiaaLedHelp
namespace Go.Proofs.Ytpchihgdcpbjiaa
open Go.RowKit Go.Sort
set_option linter.unusedVariables false
set_option linter.unusedSimpArgs false

/-- A list of numbers in a row of the call's own, from base B on. -/
def OwnI (w : World) (B : Nat) (v : Value) (l : List Int) : Prop := OwnL icell 3 1 w B v l
theorem OwnI.row {w : World} {B : Nat} {v : Value} {l : List Int} (h : OwnI w B v l) : ∀ g, v.ownBlock = some g → B ≤ g ∧ ∃ cs, w.heap[g]? = some (.cells cs 3 (0, 0)) := by
  intro g hg
  rcases h.2 with ⟨rfl, h0⟩ | ⟨g', cap, cur, rfl, hb, hh, _⟩
  · simp [Value.ownBlock] at hg
  · have : g' = g := by simpa [Value.ownBlock] using hg
    subst this
    exact ⟨hb, cur, hh⟩
/-- The reference's ledger. -/
structure RefL (B : Nat) (w : World) (b n : Nat) (vO vN vT : Value) (lo ln lt : List Int) : Prop where
  box : w.heap[b]? = some (.cells #[.int .i64 (n : Int), vO, vN, vT] 40 (0, 0))
  o : OwnI w B vO lo
  nw : OwnI w B vN ln
  t : OwnI w B vT lt
  dO : ∀ g, vT.ownBlock = some g → vO.ownBlock ≠ some g
  dN : ∀ g, vT.ownBlock = some g → vN.ownBlock ≠ some g
  above : B ≤ b
  small : n ≤ 512
  so : lo.length ≤ 1000
  sn : ln.length ≤ 1000
  st : lt.length ≤ 1000
def RefI (B : Nat) (w : World) (b n : Nat) (lo ln lt : List Int) : Prop := ∃ vO vN vT, RefL B w b n vO vN vT lo ln lt
/-- What its calls may turn: rows of numbers, and boxes of its kind, from base B on. -/
def Rt (B : Nat) (w : World) (i : Nat) : Prop := B ≤ i ∧ ∃ cs T, w.heap[i]? = some (.cells cs T (0, 0)) ∧ (T = 40 ∨ T = 3)
def RK (B : Nat) (w w' : World) : Prop := Keep (Rt B w) w w'
theorem RK.refl (B : Nat) (w : World) : RK B w w := Keep.refl _ _
theorem RK.of_below {B : Nat} {w w' : World} (h : Below w.heap.size w w') : RK B w w' := Keep.of_below h
theorem RK.trans {B : Nat} {a b c : World} (h : RK B a b) (k : RK B b c) : RK B a c :=
  ⟨k.os.trans h.os, k.tape.trans h.tape, k.output.trans h.output, Nat.le_trans h.size k.size, fun i hi hn => by
    have h1 := h.block i hi hn
    refine (k.block i (Nat.lt_of_lt_of_le hi h.size) fun hf => hn ?_).trans h1
    obtain ⟨hB, cs, T, hc, ht⟩ := hf
    exact ⟨hB, cs, T, h1 ▸ hc, ht⟩⟩
theorem RK.led {B : Nat} {w w' : World} (h : RK B w w') {b n : Nat} {o v t : Nat → Bool} (hd : Led w b n o v t) : Led w' b n o v t := hd.keep h fun hf => by
  obtain ⟨_, cs, T, hc, ht⟩ := hf
  obtain ⟨ds, hb, _⟩ := hd.box
  rw [hb] at hc
  cases hc
  rcases ht with h | h <;> exact absurd h (by decide)
theorem RK.box {B : Nat} {w w' : World} (h : RK B w w') {g : Nat} {cs : Array Value} {T : TypeId} (hb : w.heap[g]? = some (.cells cs T (0, 0))) (h1 : T ≠ 40) (h2 : T ≠ 3) : w'.heap[g]? = some (.cells cs T (0, 0)) :=
  (h.block g (lt_of_block hb) fun hf => by
    obtain ⟨_, ds, T', hc, ht⟩ := hf
    rw [hb] at hc
    cases hc
    rcases ht with h | h
    · exact h1 h
    · exact h2 h).trans hb
theorem RK.below {B : Nat} {a w w' : World} (hb : Below B a w) (hB : B ≤ w.heap.size) (h : RK B w w') : Below B a w' := hb.trans (Keep.below h hB fun i hi => hi.1)
theorem RefL.keep {B : Nat} {w w' : World} {b n : Nat} {vO vN vT : Value} {lo ln lt : List Int} (h : RefL B w b n vO vN vT lo ln lt) (hk : ∀ i, i < w.heap.size → (i = b ∨ vO.ownBlock = some i ∨ vN.ownBlock = some i ∨ vT.ownBlock = some i) → w'.heap[i]? = w.heap[i]?) : RefL B w' b n vO vN vT lo ln lt :=
  ⟨(hk b (lt_of_block h.box) (.inl rfl)).trans h.box, OwnL.keep h.o fun g hg hl => hk g hl (.inr (.inl hg)), OwnL.keep h.nw fun g hg hl => hk g hl (.inr (.inr (.inl hg))), OwnL.keep h.t fun g hg hl => hk g hl (.inr (.inr (.inr hg))), h.dO, h.dN, h.above, h.small, h.so, h.sn, h.st⟩
theorem RefI.below {B : Nat} {w w' : World} {b n : Nat} {lo ln lt : List Int} (h : RefI B w b n lo ln lt) (hb : Below w.heap.size w w') : RefI B w' b n lo ln lt := by
  obtain ⟨vO, vN, vT, h⟩ := h
  exact ⟨vO, vN, vT, h.keep fun i hi _ => hb.block i hi⟩
/-- A step of a ledger's. -/
theorem RefI.led {B : Nat} {w w' : World} {b n b1 m : Nat} {lo ln lt : List Int} {o v t : Nat → Bool} (h : RefI B w b n lo ln lt) (hd : Led w b1 m o v t) (hk : Keep (fun i => i = b1) w w') : RefI B w' b n lo ln lt := by
  obtain ⟨vO, vN, vT, h⟩ := h
  obtain ⟨ds, hb, _⟩ := hd.box
  refine ⟨vO, vN, vT, h.keep fun i hi hr => hk.block i hi ?_⟩
  rintro rfl
  have row : ∀ {u : Value} {l : List Int}, OwnI w B u l → u.ownBlock ≠ some i := fun ho e => by
    obtain ⟨_, cs, hc⟩ := ho.row i e
    rw [hb] at hc
    cases hc
  rcases hr with e | e | e | e
  · rw [e, h.box] at hb
    cases hb
  · exact row h.o e
  · exact row h.nw e
  · exact row h.t e

theorem fr_used {n : Nat} {lo ln lt : List Int} {k : Nat} (h2 : 2 ≤ k) (hk : k < n) : fr (memB n lo) (memB n ln) (memB n lt) k = !(decide ((k : Int) ∈ lo) || decide ((k : Int) ∈ ln) || decide ((k : Int) ∈ lt)) := by
  simp [fr, memB, h2, hk]

set_option maxHeartbeats 1000000 in
theorem refHas_any {w : World} {A : Option Addr} {n c : Nat} {l : List Int} (hr : Ls icell w A l) (hn : l.length = n) (hb : n ≤ 1000) (i : Int) :
    Calls Try.prog 27 #[.slice A n c, .int .i64 i] w fun e w' => e = .returned (.bool (decide (i ∈ l))) ∧ w' = w := by
  have HR := Lib.hid hr
  have HN := Lib.hid hn
  clear hr hn
  obtain ⟨d, hd⟩ : ∃ d, d = decide (i ∈ l) := ⟨_, rfl⟩
  rw [← hd]
  have HDD := Lib.hid hd
  clear hd
  go_enter Try.func27, Try.ntmps27
  go_wp2
  go_loopw [8] (fun j wr => ∃ k : Nat, k ≤ n ∧ j = .int .i64 k ∧ Hid (i ∉ l.take k) ∧ wr = w) (fun j _ => n - (intOf j).toNat)
  case atStart => exact ⟨0, Nat.zero_le _, rfl, Lib.hid (by simp), rfl⟩
  case round =>
    obtain ⟨k, hk, rfl, HI, rfl⟩ := hrel
    by_cases hlt : k < n
    · obtain ⟨ad, x, rfl, hx, hl, hc⟩ := HR.out.atI (i := k) (by rw [HN.out]; exact hlt)
      have HX := Lib.hid (show l.take (k + 1) = l.take k ++ [x] by rw [List.take_add_one, hx]; rfl)
      have HM := Lib.hid (List.mem_of_getElem? hx)
      clear hx
      by_cases he : x = i
      · have HE := Lib.hid (show d = true by rw [HDD.out, ← he]; simpa using HM.out)
        go_wp2
        go_ret
        exact ⟨by rw [HE.out]; rfl, by trivial⟩
      · go_wp2
        exact ⟨⟨k + 1, by omega, by go_num, Lib.hid (by
          rw [HX.out, List.mem_append, List.mem_singleton]
          rintro (h | h)
          · exact HI.out h
          · exact he h.symm), by trivial⟩, by simp [intOf]; omega⟩
    · have he : k = n := by omega
      subst he
      have HE := Lib.hid (show d = false by
        have := HI.out
        rw [List.take_of_length_le (by rw [HN.out]; exact Nat.le_refl _)] at this
        rw [HDD.out]
        simpa using this)
      go_wp2
      go_ret
      exact ⟨by rw [HE.out]; rfl, by trivial⟩

set_option maxHeartbeats 1000000 in
theorem refUsed_any {B : Nat} {w : World} {b n : Nat} {lo ln lt : List Int} (hd : RefI B w b n lo ln lt) (i : Int) :
    Calls Try.prog 21 #[.pointer (some ⟨b, 0, none⟩), .int .i64 i] w fun e w' => e = .returned (.bool (decide (i ∈ lo) || decide (i ∈ ln) || decide (i ∈ lt))) ∧ w' = w := by
  obtain ⟨vO, vN, vT, h⟩ := hd
  obtain ⟨A1, c1, rfl, _, h1⟩ := OwnL.form h.o
  obtain ⟨A2, c2, rfl, _, h2⟩ := OwnL.form h.nw
  obtain ⟨A3, c3, rfl, _, h3⟩ := OwnL.form h.t
  have k1 := cell_at h.box 1 _ rfl
  have k2 := cell_at h.box 2 _ rfl
  have k3 := cell_at h.box 3 _ rfl
  have H1 := Lib.hid (refHas_any (c := c1) h1 rfl h.so i)
  have H2 := Lib.hid (refHas_any (c := c2) h2 rfl h.sn i)
  have H3 := Lib.hid (refHas_any (c := c3) h3 rfl h.st i)
  clear h h1 h2 h3
  generalize decide (i ∈ lo) = d1 at H1 ⊢
  generalize decide (i ∈ ln) = d2 at H2 ⊢
  generalize decide (i ∈ lt) = d3 at H3 ⊢
  go_enter Try.func21, Try.ntmps21
  go_wp2_with fail
  refine H1.out.mono ?_
  rintro e w1 ⟨rfl, rfl⟩
  cases d1
  · go_wp2_with fail
    refine H2.out.mono ?_
    rintro e w1 ⟨rfl, rfl⟩
    cases d2
    · go_wp2_with fail
      refine H3.out.mono ?_
      rintro e w1 ⟨rfl, rfl⟩
      go_wp2
      go_ret
      exact ⟨rfl, by trivial⟩
    · go_wp2
      go_ret
      exact ⟨rfl, by trivial⟩
  · go_wp2
    go_ret
    exact ⟨rfl, by trivial⟩

theorem cnt_two {o v t : Nat → Bool} {k : Nat} (h : k ≤ 2) : cnt (fr o v t) k = 0 := cnt_zero fun i hi => by
  cases hf : fr o v t i with
  | false => rfl
  | true => have := fr_two hf; omega
set_option maxHeartbeats 1000000 in
theorem refFree_any {B : Nat} {w : World} {b n : Nat} {lo ln lt : List Int} (hd : RefI B w b n lo ln lt) :
    Calls Try.prog 20 #[.pointer (some ⟨b, 0, none⟩)] w fun e w' => e = .returned (.int .i64 (cnt (fr (memB n lo) (memB n ln) (memB n lt)) n : Nat)) ∧ w' = w := by
  have HD := Lib.hid hd
  obtain ⟨vO, vN, vT, h⟩ := hd
  have k0 := cell_at h.box 0 _ rfl
  have hs := h.small
  clear h
  go_enter Try.func20, Try.ntmps20
  go_wp2
  go_loopw [3, 4] (fun c i wr => ∃ k : Nat, 2 ≤ k ∧ (k ≤ n ∨ k = 2) ∧ i = .int .i64 k ∧ c = .int .i64 (cnt (fr (memB n lo) (memB n ln) (memB n lt)) k : Nat) ∧ wr = w) (fun _ i _ => n - (intOf i).toNat)
  case atStart => exact ⟨2, Nat.le_refl _, .inr rfl, rfl, by rw [cnt_two (Nat.le_refl _)]; rfl, rfl⟩
  case round =>
    obtain ⟨k, hk2, hk, rfl, rfl, rfl⟩ := hrel
    by_cases hlt : k < n
    · have hc := cnt_le (fr (memB n lo) (memB n ln) (memB n lt)) k
      have hfu := fr_used (lo := lo) (ln := ln) (lt := lt) hk2 hlt
      go_wp2_with fail
      refine (refUsed_any HD.out k).mono ?_
      rintro e w1 ⟨rfl, rfl⟩
      generalize (decide ((k : Int) ∈ lo) || decide ((k : Int) ∈ ln) || decide ((k : Int) ∈ lt)) = u at hfu ⊢
      cases u
      · have e1 := Lib.hid (cnt_yes hfu)
        generalize cnt (fr (memB n lo) (memB n ln) (memB n lt)) k = ck at e1 hc ⊢
        clear hfu
        go_wp2
        exact ⟨⟨k + 1, by omega, by omega, by go_num, by rw [e1.out]; go_num, by trivial⟩, by simp [intOf]; omega⟩
      · have e1 := Lib.hid (cnt_no hfu)
        generalize cnt (fr (memB n lo) (memB n ln) (memB n lt)) k = ck at e1 hc ⊢
        clear hfu
        go_wp2
        exact ⟨⟨k + 1, by omega, by omega, by go_num, by rw [e1.out], by trivial⟩, by simp [intOf]; omega⟩
    · have hce : cnt (fr (memB n lo) (memB n ln) (memB n lt)) k = cnt (fr (memB n lo) (memB n ln) (memB n lt)) n := by
        rcases hk with h | h
        · rw [show k = n by omega]
        · subst h
          rw [cnt_two (Nat.le_refl _), cnt_two (by omega)]
      have HCE := Lib.hid hce
      clear hce
      generalize cnt (fr (memB n lo) (memB n ln) (memB n lt)) k = ck at HCE ⊢
      go_wp2
      go_ret
      exact ⟨by rw [← HCE.out]; rfl, by trivial⟩

set_option maxRecDepth 100000 in
theorem refNew_any (x : Int) (w : World) {B : Nat} (hB : B ≤ w.heap.size) : Calls Try.prog 11 #[.int .i64 x] w fun e w' => ∃ b, e = .returned (.pointer (some ⟨b, 0, none⟩)) ∧ RefI B w' b (clampN x) [] [] [] ∧ Below w.heap.size w w' := by
  have hp := clampN_le x
  obtain ⟨m, hm⟩ : ∃ m, m = clampN x := ⟨_, rfl⟩
  have hm2 : (max 0 (min x 512) : Int) = (m : Int) := by rw [hm]; unfold clampN; omega
  rw [← hm] at hp ⊢
  have Hm := Lib.hid hm
  clear hm
  go_enter Try.func11, Try.ntmps11
  go_wp2
  go_ret
  exact ⟨_, rfl, ⟨_, _, _, heap_alloc_new w _, OwnL.nil_ _ _ _, OwnL.nil_ _ _ _, OwnL.nil_ _ _ _, fun g hg => by simp [Value.ownBlock] at hg, fun g hg => by simp [Value.ownBlock] at hg, hB, hp, by simp, by simp, by simp⟩, (Below.refl _ _).alloc (Nat.le_refl _) _⟩

end Go.Proofs.Ytpchihgdcpbjiaa
