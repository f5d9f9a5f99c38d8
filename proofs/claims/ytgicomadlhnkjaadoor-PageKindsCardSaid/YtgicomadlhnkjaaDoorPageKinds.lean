/-
  PageKinds: a page that can be can't be one of another kind; and bytes of unlike pages are unlike; for every two pages; no condition beyond the row's.
-/
import Derived.Test.YtgicomadlhnkjaaDoorPageRefT
import Derived.Test.YtgicomadlhnkjaaDoorPageSame
import Derived.Test.YtgicomadlhnkjaaDoorPageOpen
import Derived.Test.YtgicomadlhnkjaaDoorPageTools
import Derived.Test.YtgicomadlhnkjaaDoorSumLaid
import Derived.Test.YtgicomadlhnkjaaDoorTie
import Derived.Test.YtgicomadlhnkjaaDoorCards
import Derived.SevenTiedAt
namespace Go.Proofs.YtgicomadlhnkjaaDoor
open Go.RowKit Go.Sort
set_option linter.unusedVariables false

theorem kinds_apart {p : PP} (h : okPage p) {k : Int} (hk : k ≠ p.kind) (ho : okPage ⟨k, p.cells, p.kids, p.piece, p.next⟩) : p.kind = 1 := by
  rcases h with ⟨h, _⟩ | ⟨h, h1, h2, h3, h4⟩ | ⟨h, h1, h2, h3⟩
  · exact h
  · rcases ho with ⟨_, o1, _⟩ | ⟨o, _⟩ | ⟨_, _, o1, _⟩
    · have := h4.1; simp only at o1; omega
    · simp only at o; omega
    · have := h4.1; simp only at o1; omega
  · rcases ho with ⟨_, _, o1, _⟩ | ⟨_, _, o1, _⟩ | ⟨o, _⟩
    · have := h3.1; simp only at o1; omega
    · have := h3.1; simp only at o1; omega
    · simp only at o; omega
theorem bd_kind {p : PP} (h : Bd p) (k : Int) (hk : I64 k) : Bd ⟨k, p.cells, p.kids, p.piece, p.next⟩ := ⟨hk, h.next, h.piece, h.cl, h.kl, h.cells, h.kids⟩

set_option maxHeartbeats 8000000 in
set_option maxRecDepth 100000 in
theorem pageKinds_walk (p : PP) (A B : Option Addr) (a b : Nat) (q : PP) (A' B' : Option Addr) (a' b' : Nat) (w : World) (hh : Half w) (hA : Ls pcC w A p.cells) (hB : Ls pcK w B p.kids) (hp : ArgP p) (hA' : Ls pcC w A' q.cells) (hB' : Ls pcK w B' q.kids) (hq : ArgP q) :
    Calls Tryd.prog 8 #[pageV p A a B b, pageV q A' a' B' b'] w fun e w' => e = .returned (.bool true) ∧ Below w.heap.size w w' := by
  have hfew := few_any p
  have hfewq := few_any q
  have hmade := made_any p
  have hmadeq := made_any q
  have henc := encode_any p
  have hencq := encode_any q
  have hrefR := refRight_any p
  have hrefRq := refRight_any q
  have hrk : ∀ k : Int, _ := fun k => right_any ⟨k, p.cells, p.kids, p.piece, p.next⟩
  have hsame := same_pg p q
  have hsz : ∀ z, FewP z → z.cells.length ≤ 1000 ∧ z.kids.length ≤ 1000 := fun z h => ⟨by have := h.1; omega, by have := h.2.1; omega⟩
  have hzp := hsz p
  have hzq := hsz q
  have hbd' : FewP p → Bd p := fun h => hp.bd h
  have hbdq' : FewP q → Bd q := fun h => hq.bd h
  have hbk' : FewP p → ∀ k : Int, I64 k → Bd ⟨k, p.cells, p.kids, p.piece, p.next⟩ := fun h k hk => bd_kind (hp.bd h) k hk
  have hap : ∀ k : Int, okPage p → k ≠ p.kind → okPage ⟨k, p.cells, p.kids, p.piece, p.next⟩ → p.kind = 1 := fun k h hk ho => kinds_apart h hk ho
  have hpb : okPage p → 1 ≤ p.kind ∧ p.kind ≤ 3 := fun h => by rcases h with ⟨h, _⟩ | ⟨h, _⟩ | ⟨h, _⟩ <;> omega
  clear hsz
  unfold PgPost at hmade hmadeq
  unfold pageV at *
  simp only at hrk
  generalize hgn : p.cells.length = n at *
  generalize hgm : p.kids.length = m at *
  generalize hpk : p.kind = pk at *
  generalize hpp : p.piece = pp at *
  generalize hpn : p.next = pn at *
  generalize hgn2 : q.cells.length = n' at *
  generalize hgm2 : q.kids.length = m' at *
  generalize hqk : q.kind = qk at *
  generalize hqp : q.piece = qp at *
  generalize hqn : q.next = qn at *
  clear hgn hgm hpk hpp hpn hgn2 hgm2 hqk hqp hqn
  obtain ⟨X, hX⟩ : ∃ X, X = w.alloc (.cells #[.int .i64 pk, .slice A n a, .slice B m b, .string pp, .int .i64 pn] 25) := ⟨_, rfl⟩
  have hbX : Below w.heap.size w X := by rw [hX]; exact (Below.refl _ _).alloc (Nat.le_refl _) _
  have hXs : X.heap.size = w.heap.size + 1 := by rw [hX]; simp
  obtain ⟨W, hW⟩ : ∃ W, W = X.alloc (.cells #[.int .i64 qk, .slice A' n' a', .slice B' m' b', .string qp, .int .i64 qn] 25) := ⟨_, rfl⟩
  have hbXW : Below X.heap.size X W := by rw [hW]; exact (Below.refl _ _).alloc (Nat.le_refl _) _
  have hbW := bthen hbX hbXW
  have hsW : w.heap.size + 1 < W.heap.size := by rw [hW]; simp; omega
  have hcp : ∀ w', Below W.heap.size W w' → w'.cell? ⟨w.heap.size, 0, none⟩ = some (.int .i64 pk) ∧ w'.cell? ⟨w.heap.size, 1, none⟩ = some (.slice A n a) ∧ w'.cell? ⟨w.heap.size, 2, none⟩ = some (.slice B m b) ∧ w'.cell? ⟨w.heap.size, 3, none⟩ = some (.string pp) ∧ w'.cell? ⟨w.heap.size, 4, none⟩ = some (.int .i64 pn) := fun w' h => by
    have h := bthen hbXW h
    rw [hX] at h
    exact ⟨box_at h 0 _ rfl, box_at h 1 _ rfl, box_at h 2 _ rfl, box_at h 3 _ rfl, box_at h 4 _ rfl⟩
  have hcq : ∀ w', Below W.heap.size W w' → w'.cell? ⟨w.heap.size + 1, 0, none⟩ = some (.int .i64 qk) ∧ w'.cell? ⟨w.heap.size + 1, 1, none⟩ = some (.slice A' n' a') ∧ w'.cell? ⟨w.heap.size + 1, 2, none⟩ = some (.slice B' m' b') ∧ w'.cell? ⟨w.heap.size + 1, 3, none⟩ = some (.string qp) ∧ w'.cell? ⟨w.heap.size + 1, 4, none⟩ = some (.int .i64 qn) := fun w' h => by
    rw [hW] at h
    rw [← hXs]
    exact ⟨box_at h 0 _ rfl, box_at h 1 _ rfl, box_at h 2 _ rfl, box_at h 3 _ rfl, box_at h 4 _ rfl⟩
  have HCP := Lib.hid hcp
  have HCQ := Lib.hid hcq
  rw [hX] at hW
  have HW := Lib.hid hW
  clear hW hcp hcq hX hXs hbX hbXW X
  go_enter Tryd.func8, Tryd.ntmps8
  go_wp2_with fail
  rw [← HW.out]
  refine (awake_any W (hh.below hbW)).mono ?_
  rintro e w1 ⟨rfl, hb1⟩
  obtain ⟨ca0, ca1, ca2, ca3, ca4⟩ := HCP.out _ hb1
  obtain ⟨da0, da1, da2, da3, da4⟩ := HCQ.out _ hb1
  have hbw1 := bthen hbW hb1
  go_wp2_with fail
  refine (hfew A B a b w1 (hA.below hbw1) (hB.below hbw1) hp).mono ?_
  rintro e w2 ⟨rfl, hb2⟩
  have hb12 := bthen hb1 hb2
  have hbw2 := bthen hbW hb12
  clear ca0 ca1 ca2 ca3 ca4 da0 da1 da2 da3 da4
  by_cases hf : FewP p
  case neg =>
    rw [decide_eq_false hf]
    go_wp2_with fail
    refine (awake_any w2 (hh.below (bthen hbW hb12))).mono ?_
    rintro e wA ⟨rfl, hbA⟩
    have hbwA := bthen (bthen hbW hb12) hbA
    go_wp2
    go_ret
    exact ⟨rfl, hbwA⟩
  rw [decide_eq_true hf]
  obtain ⟨hf1, hf2⟩ := hzp hf
  have hbd := hbd' hf
  have hbk := hbk' hf
  clear hbk'
  obtain ⟨cb0, cb1, cb2, cb3, cb4⟩ := HCP.out _ hb12
  obtain ⟨db0, db1, db2, db3, db4⟩ := HCQ.out _ hb12
  go_wp2_with fail
  refine (hfewq A' B' a' b' w2 (hA'.below hbw2) (hB'.below hbw2) hq).mono ?_
  rintro e w3 ⟨rfl, hb3⟩
  have hb13 := bthen hb12 hb3
  have hbw3 := bthen hbW hb13
  clear cb0 cb1 cb2 cb3 cb4 db0 db1 db2 db3 db4
  by_cases hg : FewP q
  case neg =>
    rw [decide_eq_false hg]
    go_wp2_with fail
    refine (awake_any w3 (hh.below (bthen hbW hb13))).mono ?_
    rintro e wA ⟨rfl, hbA⟩
    have hbwA := bthen (bthen hbW hb13) hbA
    go_wp2
    go_ret
    exact ⟨rfl, hbwA⟩
  rw [decide_eq_true hg]
  obtain ⟨hg1, hg2⟩ := hzq hg
  have hbdq := hbdq' hg
  clear hzp hzq hbd' hbdq' hfew hfewq
  obtain ⟨ce0, ce1, ce2, ce3, ce4⟩ := HCP.out _ hb13
  obtain ⟨de0, de1, de2, de3, de4⟩ := HCQ.out _ hb13
  go_wp2_with fail
  refine (hrefR A B a b w3 (hA.below hbw3) (hB.below hbw3) hbd).mono ?_
  rintro e w4 ⟨rfl, hb4⟩
  have hb14 := bthen hb13 hb4
  have hbw4 := bthen hbW hb14
  clear ce0 ce1 ce2 ce3 ce4 de0 de1 de2 de3 de4
  by_cases hok : okPage p
  case neg =>
    rw [decide_eq_false hok]
    go_wp2_with fail
    refine (awake_any w4 (hh.below (bthen hbW hb14))).mono ?_
    rintro e wA ⟨rfl, hbA⟩
    have hbwA := bthen (bthen hbW hb14) hbA
    go_wp2
    go_ret
    exact ⟨rfl, hbwA⟩
  rw [decide_eq_true hok]
  obtain ⟨cf0, cf1, cf2, cf3, cf4⟩ := HCP.out _ hb14
  obtain ⟨df0, df1, df2, df3, df4⟩ := HCQ.out _ hb14
  go_wp2_with fail
  refine (hrefRq A' B' a' b' w4 (hA'.below hbw4) (hB'.below hbw4) hbdq).mono ?_
  rintro e w5 ⟨rfl, hb5⟩
  have hb15 := bthen hb14 hb5
  have hbw5 := bthen hbW hb15
  clear cf0 cf1 cf2 cf3 cf4 df0 df1 df2 df3 df4
  by_cases hokq : okPage q
  case neg =>
    rw [decide_eq_false hokq]
    go_wp2_with fail
    refine (awake_any w5 (hh.below (bthen hbW hb15))).mono ?_
    rintro e wA ⟨rfl, hbA⟩
    have hbwA := bthen (bthen hbW hb15) hbA
    go_wp2
    go_ret
    exact ⟨rfl, hbwA⟩
  rw [decide_eq_true hokq]
  clear hrefR hrefRq
  have HAP := Lib.hid hap
  have hpb3 := hpb hok
  clear hap hpb
  go_wp2
  go_loopw [5] (fun i wr => ∃ k : Int, 1 ≤ k ∧ k ≤ 4 ∧ i = .int .i64 k ∧ Below W.heap.size W wr) (fun i _ => (4 - intOf i).toNat)
  case atStart => exact ⟨1, by omega, by omega, rfl, hb15⟩
  case round =>
    obtain ⟨k, hk1, hk4, rfl, hbr⟩ := hrel
    have hbwr := bthen hbW hbr
    by_cases hk3 : k ≤ 3
    · obtain ⟨c0, c1, c2, c3, c4⟩ := HCP.out _ hbr
      go_wp2_with fail
      refine (hmade A B a b wr (hA.below hbwr) (hB.below hbwr) hf1 hf2).mono ?_
      rintro e w6 ⟨A6, a6, B6, b6, rfl, hA6, hB6, hb6⟩
      have hb06 := bthen hbr hb6
      have hbw6 := bthen hbW hb06
      obtain ⟨s0, s1, s2, s3, s4⟩ := HCP.out _ hb06
      clear c0 c1 c2 c3 c4
      obtain ⟨V, hV⟩ : ∃ V, V = w6.alloc (.cells #[.int .i64 k, .slice A6 n a6, .slice B6 m b6, .string pp, .int .i64 pn] 35) := ⟨_, rfl⟩
      have hbV : Below w6.heap.size w6 V := by rw [hV]; exact (Below.refl _ _).alloc (Nat.le_refl _) _
      have hb0V := bthen hb06 hbV
      have HV := Lib.hid hV
      clear hV
      have hlt6 : w.heap.size < w6.heap.size := by have := hb06.size; omega
      by_cases hkk : k = pk
      · go_wp2
        rw [hkk] at HV
        refine ⟨⟨pk + 1, by omega, by omega, by go_num, ?_⟩, by simp [intOf]; omega⟩
        rw [← HV.out]
        exact hb0V
      · have hkb : (k == pk) = false := by simpa using hkk
        go_wp2_with fail
        rw [← HV.out]
        refine (hrk k A6 B6 a6 b6 V (hA6.below hbV) (hB6.below hbV) (hbk k ⟨by omega, by omega⟩)).mono ?_
        rintro e w7 ⟨rfl, hb7⟩
        have hb07 := bthen hb0V hb7
        obtain ⟨t0, t1, t2, t3, t4⟩ := HCP.out _ hb07
        by_cases hox : okPage ⟨k, p.cells, p.kids, pp, pn⟩
        · rw [decide_eq_true hox]
          have hpk1 : pk = 1 := HAP.out k hok hkk hox
          clear hox
          subst hpk1
          go_wp2
          exact ⟨⟨k + 1, by omega, by omega, by go_num, hb07⟩, by simp [intOf]; omega⟩
        · rw [decide_eq_false hox]
          go_wp2
          exact ⟨⟨k + 1, by omega, by omega, by go_num, hb07⟩, by simp [intOf]; omega⟩
    · obtain ⟨c0, c1, c2, c3, c4⟩ := HCP.out _ hbr
      have hk5 : k = 4 := by omega
      subst hk5
      clear hrk hbk
      go_wp2_with fail
      refine (hmade A B a b wr (hA.below hbwr) (hB.below hbwr) hf1 hf2).mono ?_
      rintro e w6 ⟨A6, a6, B6, b6, rfl, hA6, hB6, hb6⟩
      have hb06 := bthen hbr hb6
      have hbw6 := bthen hbW hb06
      clear c0 c1 c2 c3 c4
      go_wp2_with fail
      refine (henc A6 B6 a6 b6 w6 hA6 hB6 hbd (hh.below hbw6)).mono ?_
      intro e w7 hpost
      obtain ⟨v7, rfl, ho7, hb7⟩ := enc_ok hpost hok
      obtain ⟨A7, n7, c7, rfl, hn7, _, hr7⟩ := ho7.named
      have Hn7 := Lib.hid hn7
      have hb07 := bthen hb06 hb7
      have hbw7 := bthen hbW hb07
      obtain ⟨e0, e1, e2, e3, e4⟩ := HCQ.out _ hb07
      clear hpost ho7 hn7
      go_wp2_with fail
      refine (hmadeq A' B' a' b' w7 (hA'.below hbw7) (hB'.below hbw7) hg1 hg2).mono ?_
      rintro e w8 ⟨A8, a8, B8, b8', rfl, hA8, hB8, hb8⟩
      have hb08 := bthen hb07 hb8
      have hbw8 := bthen hbW hb08
      clear e0 e1 e2 e3 e4
      go_wp2_with fail
      refine (hencq A8 B8 a8 b8' w8 hA8 hB8 hbdq (hh.below hbw8)).mono ?_
      intro e w9 hpost
      obtain ⟨v9, rfl, ho9, hb9⟩ := enc_ok hpost hokq
      obtain ⟨A9, n9, c9, rfl, hn9, _, hr9⟩ := ho9.named
      have Hn9 := Lib.hid hn9
      have hb09 := bthen hb08 hb9
      have hbw9 := bthen hbW hb09
      clear hpost ho9 hn9
      obtain ⟨U, hU⟩ : ∃ U, U = w9.drew := ⟨_, rfl⟩
      have hbU : Below w9.heap.size w9 U := by rw [hU]; exact (Below.refl _ _).drew
      have hbU0 := bthen hb09 hbU
      have hbUw := bthen hbW hbU0
      have hlU : w.heap.size < U.heap.size := by have := hbU0.size; omega
      have hlU1 : w.heap.size + 1 < U.heap.size := by have := hbU0.size; omega
      have HU := Lib.hid hU
      clear hU
      obtain ⟨M, hM⟩ : ∃ M : ByteArray, M = ⟨(encL p).toArray⟩ := ⟨_, rfl⟩
      obtain ⟨N, hN⟩ : ∃ N : ByteArray, N = ⟨(encL q).toArray⟩ := ⟨_, rfl⟩
      have hr7U := hr7.below (bthen (bthen hb8 hb9) hbU)
      have hr9U := hr9.below hbU
      have qm : ∀ q : Dc.Past [] U, (convert 28 9 (.slice A7 n7 c7)).run Tryd.prog q.val = .ok (.string M) q.val := fun q => by
        rw [hM]
        exact conv_rd (rd_past q hr7U) Hn7.out
      have qn' : ∀ q : Dc.Past [] U, (convert 28 9 (.slice A9 n9 c9)).run Tryd.prog q.val = .ok (.string N) q.val := fun q => by
        rw [hN]
        exact conv_rd (rd_past q hr9U) Hn9.out
      have hse := same_eq M N
      rw [show decide (M = N) = decide (p = q) from decide_eq_decide.2 ⟨fun h => encL_inj hok hokq (by
        rw [hM, hN] at h
        have := congrArg (fun x : ByteArray => x.data.toList) h
        simpa using this), fun h => by rw [hM, hN, h]⟩] at hse
      clear hM hN hr7 hr9
      have qb0 : ∀ q : Dc.Past [] U, q.val.cell? ⟨w.heap.size, 0, none⟩ = some (.int .i64 pk) := fun q => (q.ok.cell (by exact hlU) (by simp)).trans (HCP.out _ hbU0).1
      have qb1 : ∀ q : Dc.Past [] U, q.val.cell? ⟨w.heap.size, 1, none⟩ = some (.slice A n a) := fun q => (q.ok.cell (by exact hlU) (by simp)).trans (HCP.out _ hbU0).2.1
      have qb2 : ∀ q : Dc.Past [] U, q.val.cell? ⟨w.heap.size, 2, none⟩ = some (.slice B m b) := fun q => (q.ok.cell (by exact hlU) (by simp)).trans (HCP.out _ hbU0).2.2.1
      have qb3 : ∀ q : Dc.Past [] U, q.val.cell? ⟨w.heap.size, 3, none⟩ = some (.string pp) := fun q => (q.ok.cell (by exact hlU) (by simp)).trans (HCP.out _ hbU0).2.2.2.1
      have qb4 : ∀ q : Dc.Past [] U, q.val.cell? ⟨w.heap.size, 4, none⟩ = some (.int .i64 pn) := fun q => (q.ok.cell (by exact hlU) (by simp)).trans (HCP.out _ hbU0).2.2.2.2
      have qe0 : ∀ q : Dc.Past [] U, q.val.cell? ⟨w.heap.size + 1, 0, none⟩ = some (.int .i64 qk) := fun q => (q.ok.cell (by exact hlU1) (by simp)).trans (HCQ.out _ hbU0).1
      have qe1 : ∀ q : Dc.Past [] U, q.val.cell? ⟨w.heap.size + 1, 1, none⟩ = some (.slice A' n' a') := fun q => (q.ok.cell (by exact hlU1) (by simp)).trans (HCQ.out _ hbU0).2.1
      have qe2 : ∀ q : Dc.Past [] U, q.val.cell? ⟨w.heap.size + 1, 2, none⟩ = some (.slice B' m' b') := fun q => (q.ok.cell (by exact hlU1) (by simp)).trans (HCQ.out _ hbU0).2.2.1
      have qe3 : ∀ q : Dc.Past [] U, q.val.cell? ⟨w.heap.size + 1, 3, none⟩ = some (.string qp) := fun q => (q.ok.cell (by exact hlU1) (by simp)).trans (HCQ.out _ hbU0).2.2.2.1
      have qe4 : ∀ q : Dc.Past [] U, q.val.cell? ⟨w.heap.size + 1, 4, none⟩ = some (.int .i64 qn) := fun q => (q.ok.cell (by exact hlU1) (by simp)).trans (HCQ.out _ hbU0).2.2.2.2
      by_cases hpq : p = q
      · rw [decide_eq_true hpq] at hse hsame
        have HPQ := Lib.hid hpq
        clear hpq
        go_wp2
        refine Dc.wp_region_segs 17 [] [([0, 1, 2, 3, 4, 5, 6, 7, 8, 9, 10, 11, 12, 13], 14)] [15, 16, 17] (by kernel_rfl) (by kernel_rfl) (by kernel_rfl) (by kernel_rfl) (by kernel_rfl) (by intro c a d v w h; cases d <;> exact h) ?_
        rw [← HU.out]
        refine Dc.wpSegs_more ?_
        simp only [Dc.pick, List.getElem?_cons_zero, List.getElem?_cons_succ]
        repeat (first | go_big_quiet_step (fail) | quiet_step (fail))
        refine wpQuiet_nil ?_
        refine Dc.wpOp_heavy rfl (by rfl) (fun K hK => ?_)
        go_simp
        refine (hsame A B A' B' a b a' b' U (hA.below hbUw) (hB.below hbUw) (hA'.below hbUw) (hB'.below hbUw) hf1 hf2 hg1 hg2).mono ?_
        rintro e wE ⟨rfl, hbE⟩
        refine hK _ _ (fun _ => Dc.But.of_below hbE) ?_
        clear hK K
        have hbwE := bthen hbUw hbE
        refine Dc.wpSegs_last ?_
        simp only [Dc.pick, List.getElem?_cons_zero, List.getElem?_cons_succ]
        repeat (first | go_big_quiet_step (fail) | quiet_step (fail))
        refine wpQuiet_nil ?_
        go_wp2
        go_ret
        exact ⟨rfl, hbwE⟩
      · rw [decide_eq_false hpq] at hse hsame
        have HPQ := Lib.hid hpq
        clear hpq
        go_wp2
        refine Dc.wp_region_segs 17 [] [([0, 1, 2, 3, 4, 5, 6, 7, 8, 9, 10, 11, 12, 13], 14)] [15, 16, 17] (by kernel_rfl) (by kernel_rfl) (by kernel_rfl) (by kernel_rfl) (by kernel_rfl) (by intro c a d v w h; cases d <;> exact h) ?_
        rw [← HU.out]
        refine Dc.wpSegs_more ?_
        simp only [Dc.pick, List.getElem?_cons_zero, List.getElem?_cons_succ]
        repeat (first | go_big_quiet_step (fail) | quiet_step (fail))
        refine wpQuiet_nil ?_
        refine Dc.wpOp_heavy rfl (by rfl) (fun K hK => ?_)
        go_simp
        refine (hsame A B A' B' a b a' b' U (hA.below hbUw) (hB.below hbUw) (hA'.below hbUw) (hB'.below hbUw) hf1 hf2 hg1 hg2).mono ?_
        rintro e wE ⟨rfl, hbE⟩
        refine hK _ _ (fun _ => Dc.But.of_below hbE) ?_
        clear hK K
        have hbwE := bthen hbUw hbE
        refine Dc.wpSegs_last ?_
        simp only [Dc.pick, List.getElem?_cons_zero, List.getElem?_cons_succ]
        repeat (first | go_big_quiet_step (fail) | quiet_step (fail))
        refine wpQuiet_nil ?_
        go_wp2
        go_ret
        exact ⟨rfl, hbwE⟩

end Go.Proofs.YtgicomadlhnkjaaDoor

namespace Go.Proofs.YtgicomadlhnkjaaDoor.pageKinds
open Go Go.ChangeShapes Go.WideShapes Go.ChangeAt Go.RowKit
open Go.ChangeMaps (open_string shut_string)
set_option linter.unusedVariables false

theorem own : ownKnob Tryd.prog.godebug = none := by kernel_rfl

theorem laidOut : laidOutB Tryd.prog = true := by kernel_rfl

set_option maxRecDepth 100000 in
theorem lifted (os : Os) (started : os.Started) (H : Type) (enc : TypeId × Value → H) :
    ReturnsInHanded {} Tryd.checked os 8 .any (fun w args => (Rows.pageKindsSpec.pre enc Tryd.prog Tryd.f8 [] false w args ∧ laidMetH Tryd.prog laidL w) ∧ sizedMet enc Tryd.prog Tryd.f8 (OpenSpec.ofChange Rows.pageKindsSpec) false w args)
      (Rows.pageKindsSpec.post enc Tryd.prog Tryd.f8 false true false false) := by
  refine returnsInHanded_of_change_and (C := Tryd.checked) (X := fun w _ => laidMetH Tryd.prog laidL w) (fun _ _ _ hh h => h.of_heap hh) own started (by kernel_rfl) Tryd.func8
    (ChangeSpec.witness_shaped (enc := enc) (C := Tryd.checked) (os := os) (X := fun w _ => laidMetH Tryd.prog laidL w) false (World.doorLaid Tryd.prog 14 os) #[.agg #[.int .i64 0, .slice none 0 0, .slice none 0 0, .string ByteArray.empty, .int .i64 0], .agg #[.int .i64 0, .slice none 0 0, .slice none 0 0, .string ByteArray.empty, .int .i64 0]] 8 rfl (World.shaped_of_RefB (by kernel_rfl) (by kernel_rfl)) (by kernel_rfl) (by kernel_rfl) (by kernel_rfl) (door_met os _)) ?_
  intro W base args ds gs before hval0 hW hcnd hsz0 hL _
  have hval : ∀ (j : Nat) t v, Tryd.f8.params[j]? = some t → args[j]? = some v → Value.okWide Tryd.prog W .any base t v := hval0
  have hsz : (DataW.weightsEach Tryd.prog (Tryd.f8.params.toList ++ Rows.pageKindsSpec.plain.varTypes Tryd.prog) (ds ++ gs)).all (· ≤ reachBytes) = true := hsz0
  have hW' := hW
  obtain ⟨p, q, hA0, hV, rfl, hfz, hnd⟩ := hW
  have hA : DataW.TrodAll enc Tryd.prog W 0 (fun _ => true) true Tryd.f8.params.toList args.toList ds p := hA0
  rw [Tryd.params8] at hA hval hsz
  obtain ⟨v0, vs0, d0, ds0, p0, q0, hargs, rfl, rfl, h0, r0⟩ := trodAll_cons hA
  obtain ⟨v1, vs1, d1, ds1, p1, q1, rfl, rfl, rfl, h1, r1⟩ := trodAll_cons r0
  obtain ⟨rfl, rfl, rfl⟩ := trodAll_nil r1
  obtain rfl : args = #[v0, v1] := by cases args; simp_all
  obtain ⟨rfl, rfl⟩ := trodVars_none hV
  have k0 := h0
  have lt0 : ∀ x ∈ p0, x.block < W.heap.size := by obtain ⟨m, hm⟩ := k0; exact DataW.trod_lt m _ _ _ hm
  obtain ⟨a0, A0, B0, ca0, cb0, rfl, la0, lb0, w0⟩ := open_page (hval 0 25 v0 rfl rfl) h0 (fun m hm => of_decide_eq_true (List.all_eq_true.1 hsz _ (DataW.weights_mem_each (j := 0) (t := 25) rfl rfl m hm)))
  have k1 := h1
  have lt1 : ∀ x ∈ p1, x.block < W.heap.size := by obtain ⟨m, hm⟩ := k1; exact DataW.trod_lt m _ _ _ hm
  obtain ⟨a1, A1, B1, ca1, cb1, rfl, la1, lb1, w1⟩ := open_page (hval 1 25 v1 rfl rfl) h1 (fun m hm => of_decide_eq_true (List.all_eq_true.1 hsz _ (DataW.weights_mem_each (j := 1) (t := 25) rfl rfl m hm)))
  clear hA0 hval0 hsz hsz0
  refine (pageKinds_walk a0 A0 B0 ca0 cb0 a1 A1 B1 ca1 cb1 W (half_of_laid hL) la0 lb0 w0 la1 lb1 w1).mono fun e W' ⟨he, bel⟩ => ?_
  subst he
  exact ⟨_, rfl, _, _, _, [], _, [], hW', trodAll_mk1 (shut_bool Tryd.underlying4 _), (trodAll_cons_mk (Below.trod laidOut (by kernel_rfl) (of_decide_eq_true (by kernel_rfl)) k0 bel lt0) (trodAll_cons_mk (Below.trod laidOut (by kernel_rfl) (of_decide_eq_true (by kernel_rfl)) k1 bel lt1) trodAll_mk0)), rfl, bel.frame _, fun h => by cases h⟩

theorem over : Rows.PageKindsSaid :=
  OpenClaim.holds_of_wide 8 Tryd.f8 rfl rfl rfl rfl rfl rfl rfl ⟨rfl, rfl, rfl, rfl, rfl⟩ rfl rfl rfl rfl rfl (by kernel_rfl) Tryd.func8 (by kernel_rfl)
    (of_decide_eq_true (by kernel_rfl)) (by unfold Func.isWrapper; first | (rw [if_pos (by decide +kernel)]; kernel_rfl) | (rw [if_neg (by decide +kernel)]; exact ⟨rfl, rfl⟩))
    (fun os started H enc _ => lifted os started H enc)

theorem proved : Rows.PageKindsCardSaid :=
  Claim7.holds_tied_plain_at .later [] [.data] true (true, "4e616fa6175ec80d00b51e5fb52bf1d6326841f81c3ae43d4e7153953247007d") false
    over (fun _ h => by cases h) (by kernel_rfl) (fun _ h => by cases h) pageKinds_row_tie rfl ⟨rfl, rfl⟩ (by kernel_rfl) rfl
    (fun f fn hf hfn => by
      obtain rfl : f = 8 := Option.some.inj ((show Tryd.prog.funcNamed "sapwood/sapwoodlaw04.PageKinds" = some 8 by kernel_rfl).symm.trans hf) |>.symm
      obtain rfl : fn = Tryd.f8 := (Option.some.inj (Tryd.func8.symm.trans hfn)).symm
      exact ⟨by kernel_rfl, fun j t ht => by
        rw [Tryd.params8] at ht
        have hm : t ∈ [25, 25] := by simpa using Array.mem_of_getElem? ht
        have hall : ([25, 25].all fun u => !Tryd.prog.wantsStandIn u) = true := by kernel_rfl
        exact (show Tryd.prog.wantsStandIn t = false by simpa using List.all_eq_true.1 hall t hm)⟩)
    (by kernel_rfl)
#print axioms proved

end Go.Proofs.YtgicomadlhnkjaaDoor.pageKinds
