/-
  The contracts of the document's answers Bytes and Encode: a page's bytes as a string; conditions: the page can be (Encode: any page), its slices can be read, its numbers and strings are as Bd says.
-/
import Derived.Test.YtgicomadlhnkjaaDoorPageRefT
import Derived.Test.YtgicomadlhnkjaaDoorSumRef
namespace Go.Proofs.YtgicomadlhnkjaaDoor
open Go.RowKit Go.Sort
set_option linter.unusedVariables false

/-- Bytes as a string. -/
def mk (l : List UInt8) : ByteArray := ⟨l.toArray⟩
theorem mk_add (l m : List UInt8) : mk l ++ mk m = mk (l ++ m) := by
  apply ba_ext
  show (mk l ++ mk m).data.toList = (l ++ m).toArray.toList
  rw [ByteArray.data_append]
  simp [mk]
theorem mk_list (l : List UInt8) : (mk l).data.toList = l := by simp [mk]
theorem mk_size (l : List UInt8) : (mk l).size = l.length := by
  show (mk l).data.size = l.length
  simp [mk]
theorem mk_0 : (⟨#[0]⟩ : ByteArray) = mk [0] := rfl
theorem mk_1 : (⟨#[1]⟩ : ByteArray) = mk [1] := rfl
theorem refText_mk (w : World) (t : ByteArray) (hs : t.size ≤ 65535) :
    Calls Tryd.prog 41 #[.string t] w fun e w' => e = .returned (.string (mk (textL t))) ∧ Below w.heap.size w w' := refText_short w t hs
theorem number1_mk (w : World) (n : Int) (hn : I64 n) :
    Calls Tryd.prog 40 #[.int .i64 n, .int .i64 1] w fun e w' => e = .returned (.string (mk [b8 n])) ∧ Below w.heap.size w w' := by
  refine (number_any w n 1 (by omega) (by omega) hn.1 hn.2).mono ?_
  rintro e w' ⟨rfl, hb⟩
  refine ⟨?_, hb⟩
  simp [numL, mk]
theorem number2_mk (w : World) (n : Int) (hn : I64 n) :
    Calls Tryd.prog 40 #[.int .i64 n, .int .i64 2] w fun e w' => e = .returned (.string (mk (be16 n))) ∧ Below w.heap.size w w' := by
  refine (number_any w n 2 (by omega) (by omega) hn.1 hn.2).mono ?_
  rintro e w' ⟨rfl, hb⟩
  refine ⟨?_, hb⟩
  show Ending.returned (.string ⟨(numL n 2).toArray⟩) = _
  rw [numL_2]
  rfl

set_option maxHeartbeats 4000000 in
set_option maxRecDepth 100000 in
theorem refBytes_leaf (p : PP) (A B : Option Addr) (a b : Nat) (w : World) (hA : Ls pcC w A p.cells) (hbd : Bd p) (hk : p.kind = 1) (hp : okLeaf p) :
    Calls Tryd.prog 22 #[pageV p A a B b] w fun e w' => e = .returned (.string (mk (encL p))) ∧ Below w.heap.size w w' := by
  have hok : okPage p := .inl ⟨hk, hp⟩
  have hlen := contL_len hok
  obtain ⟨C, hC⟩ : ∃ C, C = contL p := ⟨_, rfl⟩
  have HCB : Hid (bodyL p = C ++ List.replicate (252 - C.length) 0) := by rw [hC]; rfl
  rw [← hC] at hlen
  have hpost : ∀ e w', e = Ending.returned (.string ⟨(Crc.sealed (bodyL p)).toArray⟩) ∧ Below w.heap.size w w' → e = Ending.returned (.string (mk (encL p))) ∧ Below w.heap.size w w' := fun e w' h => h
  refine Calls.mono ?_ (fun e w' h => hpost e w' h)
  clear hpost hok
  generalize bodyL p = Y at *
  obtain ⟨pk, pc, pd, pp, pn⟩ := p
  obtain ⟨_, _, hpn, hc⟩ := hp
  unfold pageV
  simp only at *
  subst hk hpn
  obtain ⟨n, hn⟩ : ∃ n, n = pc.length := ⟨_, rfl⟩
  obtain ⟨m, hm⟩ : ∃ m, m = pd.length := ⟨_, rfl⟩
  rw [← hn, ← hm]
  have hn4 : n ≤ 4 := by rw [hn]; exact hc.1
  have HC : Hid (C = 1 :: b8 n :: pc.flatMap cellL) := by
    show C = 1 :: b8 n :: pc.flatMap cellL
    rw [hC]
    unfold contL
    simp only
    rw [if_pos trivial, ← hn]
    rfl
  have Hn := Lib.hid hn
  have HCC := Lib.hid hc
  have HBD := Lib.hid hbd
  clear hn hm hc hC hbd
  obtain ⟨W, hW⟩ : ∃ W, W = w.alloc (.cells #[.int .i64 1, .slice A n a, .slice B m b, .string pp, .int .i64 0] 25) := ⟨_, rfl⟩
  have hbW : Below w.heap.size w W := by rw [hW]; exact (Below.refl _ _).alloc (Nat.le_refl _) _
  have hcc0 : ∀ w', Below W.heap.size W w' → w'.cell? ⟨w.heap.size, 0, none⟩ = some (.int .i64 1) := fun w' h => by rw [hW] at h; exact box_at h 0 _ rfl
  have hcc1 : ∀ w', Below W.heap.size W w' → w'.cell? ⟨w.heap.size, 1, none⟩ = some (.slice A n a) := fun w' h => by rw [hW] at h; exact box_at h 1 _ rfl
  have HC0 := Lib.hid hcc0
  have HC1 := Lib.hid hcc1
  have HW := Lib.hid hW
  clear hW hcc0 hcc1
  go_enter Tryd.func22, Tryd.ntmps22
  go_wp2_with fail
  rw [← HW.out]
  refine (number1_mk W 1 ⟨by omega, by omega⟩).mono ?_
  rintro e w1 ⟨rfl, hb1⟩
  have c0 := HC0.out _ hb1
  have c1 := HC1.out _ hb1
  go_wp2_with fail
  refine (number1_mk w1 n ⟨by omega, by omega⟩).mono ?_
  rintro e w2 ⟨rfl, hb2⟩
  have hb02 := bthen hb1 hb2
  have c12 := HC1.out _ hb02
  clear c0 c1
  go_wp2
  go_loopw [3, 23] (fun s i wr => ∃ k : Nat, k ≤ n ∧ i = .int .i64 k ∧ s = .string (mk (1 :: b8 n :: (pc.take k).flatMap cellL)) ∧ Below W.heap.size W wr) (fun _ i _ => n - (intOf i).toNat)
  case atStart => exact ⟨0, Nat.zero_le _, rfl, by rw [mk_add]; rfl, hb02⟩
  case round =>
    obtain ⟨k, hk, rfl, rfl, hbw⟩ := hrel
    have c1 := HC1.out _ hbw
    have hbb := bthen hbW hbw
    obtain ⟨L, hL⟩ : ∃ L, L = 1 :: b8 n :: (pc.take k).flatMap cellL := ⟨_, rfl⟩
    rw [← hL]
    have HL := Lib.hid hL
    clear hL
    by_cases hlt : k < n
    · obtain ⟨ad, x, rfl, hx, hl, d0, d1, d2, d3⟩ := (hA.below hbb).atC (i := k) (by rw [← Hn.out]; exact hlt)
      have hmem := List.mem_of_getElem? hx
      have hxk := (okKeys_cells HCC.out.2.2 hmem).2
      have hxb := HCC.out.2.1 x hmem
      have Hx := Lib.hid hx
      clear hx hmem
      have hnext : mk (L ++ cellL x) = mk (1 :: b8 n :: (pc.take (k + 1)).flatMap cellL) := by
        rw [take_snocA Hx.out, List.flatMap_append, HL.out]
        simp
      have HN := Lib.hid hnext
      have sL : (mk L).size ≤ 1000 := by
        have := flat_len (f := cellL) (m := 53) (pc.take k) (fun c hc => cellL_len (okKeys_cells HCC.out.2.2 (List.mem_of_mem_take hc)) (HCC.out.2.1 c (List.mem_of_mem_take hc)))
        rw [List.length_take] at this
        rw [mk_size, HL.out]
        simp only [List.length_cons]
        omega
      have sk : (mk (textL x.k)).size ≤ 100 := by rw [mk_size, textL_len]; omega
      clear hnext
      go_wp2_with fail
      refine (refText_mk _ x.k (by omega)).mono ?_
      rintro e w3 ⟨rfl, hb3⟩
      have e1 := box_at hb3 1 (.string x.v) rfl
      have e2 := box_at hb3 2 (.int .i64 x.sz) rfl
      have e3 := box_at hb3 3 (.int .i64 x.st) rfl
      have hl3 := box_lt hb3
      have hb30 : Below wr.heap.size wr w3 := bthen ((Below.refl _ _).alloc (Nat.le_refl _) _) hb3
      have hbw3 := bthen hbw hb30
      clear hb3 d0 d1 d2 d3
      rcases hxb with ⟨z1, z2, z3⟩ | ⟨z1, z2, z3, z4⟩
      · go_wp2_with fail
        refine (refText_mk _ x.v (by omega)).mono ?_
        rintro e w4 ⟨rfl, hb4⟩
        have hbw4 := bthen hbw3 hb4
        have sv : (mk (textL x.v)).size ≤ 100 := by rw [mk_size, textL_len]; omega
        have hv : mk L ++ mk (textL x.k) ++ mk [0] ++ mk (textL x.v) = mk (1 :: b8 n :: (pc.take (k + 1)).flatMap cellL) := by
          rw [← HN.out, mk_add, mk_add, mk_add]
          unfold cellL
          rw [if_pos z1]
          simp
        have HV := Lib.hid hv
        clear hv
        go_wp2
        refine ⟨⟨k + 1, by omega, by go_num, ?_, hbw4⟩, by simp [intOf]; omega⟩
        rw [mk_0, HV.out]
      · have hst : x.st ≠ 0 := by have := z4.1; omega
        have hz64 : I64 x.sz := ⟨by omega, by omega⟩
        have hs64 := i64_num z4
        have sz2 : (mk (be16 x.sz)).size = 2 := by rw [mk_size, be16_len]
        have st2 : (mk (be16 x.st)).size = 2 := by rw [mk_size, be16_len]
        have hv : mk L ++ mk (textL x.k) ++ mk [1] ++ mk (be16 x.sz) ++ mk (be16 x.st) = mk (1 :: b8 n :: (pc.take (k + 1)).flatMap cellL) := by
          rw [← HN.out, mk_add, mk_add, mk_add, mk_add]
          unfold cellL
          rw [if_neg (by omega)]
          simp
        have HV := Lib.hid hv
        clear hv
        obtain ⟨U, hU⟩ : ∃ U, U = w3.drew := ⟨_, rfl⟩
        have hbU : Below w3.heap.size w3 U := by rw [hU]; exact (Below.refl _ _).drew
        have q2 : ∀ q : Dc.Past [] U, q.val.cell? ⟨wr.heap.size, 2, none⟩ = some (.int .i64 x.sz) := fun q => (q.ok.cell (by rw [hU]; exact hl3) (by simp)).trans (by rw [hU]; exact e2)
        have q3 : ∀ q : Dc.Past [] U, q.val.cell? ⟨wr.heap.size, 3, none⟩ = some (.int .i64 x.st) := fun q => (q.ok.cell (by rw [hU]; exact hl3) (by simp)).trans (by rw [hU]; exact e3)
        have HU := Lib.hid hU
        clear hU
        go_wp2
        refine Dc.wp_region_segs 10 [] [([0, 1, 2, 3, 6, 7], 4), ([5], 8)] [9, 10] (by kernel_rfl) (by kernel_rfl) (by kernel_rfl) (by kernel_rfl) (by kernel_rfl) (by intro c a d v w h; cases d <;> exact h) ?_
        rw [← HU.out]
        refine Dc.wpSegs_more ?_
        simp only [Dc.pick, List.getElem?_cons_zero, List.getElem?_cons_succ]
        repeat (first | go_big_quiet_step (fail) | quiet_step (fail))
        refine wpQuiet_nil ?_
        refine Dc.wpOp_heavy rfl (by rfl) (fun K hK => ?_)
        go_simp
        refine (number2_mk U x.sz hz64).mono ?_
        rintro y w4 ⟨rfl, hb4⟩
        refine hK _ _ (fun _ => Dc.But.of_below hb4) ?_
        clear hK K
        refine Dc.wpSegs_more ?_
        simp only [Dc.pick, List.getElem?_cons_zero, List.getElem?_cons_succ]
        repeat (first | go_big_quiet_step (fail) | quiet_step (fail))
        refine wpQuiet_nil ?_
        refine Dc.wpOp_heavy rfl (by rfl) (fun K hK => ?_)
        go_simp
        refine (number2_mk w4 x.st hs64).mono ?_
        rintro y w5 ⟨rfl, hb5⟩
        refine hK _ _ (fun _ => Dc.But.of_below hb5) ?_
        clear hK K
        have hbw5 := bthen hbw3 (bthen hbU (bthen hb4 hb5))
        refine Dc.wpSegs_last ?_
        simp only [Dc.pick, List.getElem?_cons_zero, List.getElem?_cons_succ]
        repeat (first | go_big_quiet_step (fail) | quiet_step (fail))
        refine wpQuiet_nil ?_
        go_wp2
        refine ⟨⟨k + 1, by omega, by go_num, ?_, hbw5⟩, by simp [intOf]; omega⟩
        rw [mk_1, HV.out]
    · have he : k = n := by omega
      subst he
      have hLC : L = C := by
        rw [HL.out, HC.out, List.take_of_length_le (by rw [← Hn.out]; exact Nat.le_refl _)]
      subst hLC
      clear c1
      go_wp2
      generalize wr = wo at *
      go_loopw [3] (fun s wr => ∃ j : Nat, s = .string (mk (L ++ List.replicate j 0)) ∧ L.length + j ≤ 252 ∧ Below w.heap.size w wr) (fun s _ => 252 - (match s with | .string t => t.size | _ => 0))
      case atStart => exact ⟨0, by rw [List.replicate_zero, List.append_nil], by omega, hbb⟩
      case round =>
        obtain ⟨j, rfl, hj, hbj⟩ := hrel
        have hsz : (mk (L ++ List.replicate j 0)).size = L.length + j := by rw [mk_size, List.length_append, List.length_replicate]
        have hadd : mk (L ++ List.replicate j 0) ++ mk [0] = mk (L ++ List.replicate (j + 1) 0) := by
          rw [mk_add, List.append_assoc, List.replicate_succ']
        generalize hS : mk (L ++ List.replicate j 0) = S at *
        have HS := Lib.hid hS
        have HADD := Lib.hid hadd
        clear hS hadd
        by_cases hlt : L.length + j < 252
        · go_wp2
          refine ⟨⟨j + 1, ?_, by omega, hbj⟩, ?_⟩
          · rw [mk_0, HADD.out]
          · simp only
            rw [mk_0, HADD.out, mk_size, List.length_append, List.length_replicate, hsz]
            omega
        · have hfin : (mk (L ++ List.replicate j 0)).data.toList = Y := by
            rw [mk_list, HCB.out]
            have : j = 252 - L.length := by omega
            rw [this]
          rw [HS.out] at hfin
          have HF := Lib.hid hfin
          clear hfin
          go_wp2_with fail
          refine (refSeal_any S _ (by omega)).mono ?_
          rintro e w9 ⟨rfl, hb9⟩
          rw [HF.out]
          have hb10 := bthen hbj hb9
          go_wp2
          go_ret
          exact ⟨rfl, hb10⟩

set_option maxHeartbeats 4000000 in
set_option maxRecDepth 100000 in
theorem refBytes_branch (p : PP) (A B : Option Addr) (a b : Nat) (w : World) (hB : Ls pcK w B p.kids) (hbd : Bd p) (hk : p.kind = 2) (hp : okBranch p) :
    Calls Tryd.prog 22 #[pageV p A a B b] w fun e w' => e = .returned (.string (mk (encL p))) ∧ Below w.heap.size w w' := by
  have hok : okPage p := .inr (.inl ⟨hk, hp⟩)
  have hlen := contL_len hok
  obtain ⟨C, hC⟩ : ∃ C, C = contL p := ⟨_, rfl⟩
  have HCB : Hid (bodyL p = C ++ List.replicate (252 - C.length) 0) := by rw [hC]; rfl
  rw [← hC] at hlen
  have hpost : ∀ e w', e = Ending.returned (.string ⟨(Crc.sealed (bodyL p)).toArray⟩) ∧ Below w.heap.size w w' → e = Ending.returned (.string (mk (encL p))) ∧ Below w.heap.size w w' := fun e w' h => h
  refine Calls.mono ?_ (fun e w' h => hpost e w' h)
  clear hpost hok
  generalize bodyL p = Y at *
  obtain ⟨pk, pc, pd, pp, pn⟩ := p
  obtain ⟨_, _, hpn, hc⟩ := hp
  unfold pageV
  simp only at *
  subst hk hpn
  obtain ⟨n, hn⟩ : ∃ n, n = pc.length := ⟨_, rfl⟩
  obtain ⟨m, hm⟩ : ∃ m, m = pd.length := ⟨_, rfl⟩
  rw [← hn, ← hm]
  have hn4 : m ≤ 6 := by rw [hm]; exact hc.2.1
  have HC : Hid (C = 2 :: b8 m :: pd.flatMap kidL) := by
    show C = 2 :: b8 m :: pd.flatMap kidL
    rw [hC]
    unfold contL
    simp only
    rw [if_neg (by omega), if_pos trivial, ← hm]
    rfl
  have Hn := Lib.hid hm
  have HCC := Lib.hid hc
  clear hn hm hc hC hbd
  obtain ⟨W, hW⟩ : ∃ W, W = w.alloc (.cells #[.int .i64 2, .slice A n a, .slice B m b, .string pp, .int .i64 0] 25) := ⟨_, rfl⟩
  have hbW : Below w.heap.size w W := by rw [hW]; exact (Below.refl _ _).alloc (Nat.le_refl _) _
  have hsW : w.heap.size < W.heap.size := by rw [hW]; simp
  have hcc0 : ∀ w', Below W.heap.size W w' → w'.cell? ⟨w.heap.size, 0, none⟩ = some (.int .i64 2) := fun w' h => by rw [hW] at h; exact box_at h 0 _ rfl
  have hcc1 : ∀ w', Below W.heap.size W w' → w'.cell? ⟨w.heap.size, 2, none⟩ = some (.slice B m b) := fun w' h => by rw [hW] at h; exact box_at h 2 _ rfl
  have HC0 := Lib.hid hcc0
  have HC1 := Lib.hid hcc1
  have HW := Lib.hid hW
  clear hW hcc0 hcc1
  go_enter Tryd.func22, Tryd.ntmps22
  go_wp2_with fail
  rw [← HW.out]
  refine (number1_mk W 2 ⟨by omega, by omega⟩).mono ?_
  rintro e w1 ⟨rfl, hb1⟩
  have c0 := HC0.out _ hb1
  have c1 := HC1.out _ hb1
  go_wp2_with fail
  refine (number1_mk w1 m ⟨by omega, by omega⟩).mono ?_
  rintro e w2 ⟨rfl, hb2⟩
  have hb02 := bthen hb1 hb2
  have c12 := HC1.out _ hb02
  have s12 : (mk [b8 2]).size = 1 := by rw [mk_size]; rfl
  have s1m : (mk [b8 m]).size = 1 := by rw [mk_size]; rfl
  clear c0 c1
  go_wp2
  go_loopw [3, 67] (fun s i wr => ∃ k : Nat, k ≤ m ∧ i = .int .i64 k ∧ s = .string (mk (2 :: b8 m :: (pd.take k).flatMap kidL)) ∧ Below W.heap.size W wr) (fun _ i _ => m - (intOf i).toNat)
  case atStart => exact ⟨0, Nat.zero_le _, rfl, by rw [mk_add]; rfl, hb02⟩
  case round =>
    obtain ⟨k, hk, rfl, rfl, hbw⟩ := hrel
    have hbb := bthen hbW hbw
    obtain ⟨L, hL⟩ : ∃ L, L = 2 :: b8 m :: (pd.take k).flatMap kidL := ⟨_, rfl⟩
    rw [← hL]
    have HL := Lib.hid hL
    clear hL
    by_cases hlt : k < m
    · obtain ⟨ad, x, rfl, hx, hl, d0, d1⟩ := (hB.below hbb).atK (i := k) (by rw [← Hn.out]; exact hlt)
      have hmem := List.mem_of_getElem? hx
      have hxk := (okKeys_kids HCC.out.2.2.2 hmem).2
      have hs64 := i64_num (HCC.out.2.2.1 x hmem)
      have Hx := Lib.hid hx
      clear hx hmem
      have hv : mk L ++ mk (textL x.k) ++ mk (be16 x.pg) = mk (2 :: b8 m :: (pd.take (k + 1)).flatMap kidL) := by
        rw [take_snocA Hx.out, List.flatMap_append, mk_add, mk_add, HL.out, List.flatMap_cons, List.flatMap_nil, List.append_nil, show kidL x = textL x.k ++ be16 x.pg from rfl]
        simp
      have HV := Lib.hid hv
      clear hv
      have sL : (mk L).size ≤ 1000 := by
        have := flat_len (f := kidL) (m := 28) (pd.take k) (fun c hc => kidL_len (okKeys_kids HCC.out.2.2.2 (List.mem_of_mem_take hc)))
        rw [List.length_take] at this
        rw [mk_size, HL.out]
        simp only [List.length_cons]
        omega
      have sk : (mk (textL x.k)).size ≤ 100 := by rw [mk_size, textL_len]; omega
      have sz2 : (mk (be16 x.pg)).size = 2 := by rw [mk_size, be16_len]
      obtain ⟨U, hU⟩ : ∃ U, U = wr.drew := ⟨_, rfl⟩
      have hbU : Below wr.heap.size wr U := by rw [hU]; exact (Below.refl _ _).drew
      have hlU : w.heap.size < U.heap.size := by have h1 := hbw.size; have h2 := hbU.size; omega
      have hlA : ad.block < U.heap.size := Nat.lt_of_lt_of_le hl hbU.size
      have q0 : ∀ q : Dc.Past [] U, q.val.cell? ⟨w.heap.size, 2, none⟩ = some (.slice (some ad) m b) := fun q => (q.ok.cell (by exact hlU) (by simp)).trans (HC1.out _ (bthen hbw hbU))
      have q1 : ∀ q : Dc.Past [] U, q.val.cell? (ad.add (k * 2)) = some (.string x.k) := fun q => (q.ok.cell (by rw [block_of_add]; exact hlA) (by simp)).trans (by rw [hU]; exact d0)
      have q2 : ∀ q : Dc.Past [] U, q.val.cell? ⟨(ad.add (k * 2)).block, (ad.add (k * 2)).off + 1, none⟩ = some (.int .i64 x.pg) := fun q => (q.ok.cell (by simp only [block_of_add]; exact hlA) (by simp)).trans (by rw [hU]; exact d1)
      have HU := Lib.hid hU
      clear hU d0 d1
      go_wp2
      refine Dc.wp_region_segs 17 [] [([0, 1, 2, 3, 4, 5, 6, 9, 10, 11, 12, 13, 14], 7), ([8], 15)] [16, 17] (by kernel_rfl) (by kernel_rfl) (by kernel_rfl) (by kernel_rfl) (by kernel_rfl) (by intro c a d v w h; cases d <;> exact h) ?_
      rw [← HU.out]
      refine Dc.wpSegs_more ?_
      simp only [Dc.pick, List.getElem?_cons_zero, List.getElem?_cons_succ]
      repeat (first | go_big_quiet_step (fail) | quiet_step (fail))
      refine wpQuiet_nil ?_
      refine Dc.wpOp_heavy rfl (by rfl) (fun K hK => ?_)
      go_simp
      refine (refText_mk U x.k (by omega)).mono ?_
      rintro y w4 ⟨rfl, hb4⟩
      refine hK _ _ (fun _ => Dc.But.of_below hb4) ?_
      clear hK K
      refine Dc.wpSegs_more ?_
      simp only [Dc.pick, List.getElem?_cons_zero, List.getElem?_cons_succ]
      repeat (first | go_big_quiet_step (fail) | quiet_step (fail))
      refine wpQuiet_nil ?_
      refine Dc.wpOp_heavy rfl (by rfl) (fun K hK => ?_)
      go_simp
      refine (number2_mk w4 x.pg hs64).mono ?_
      rintro y w5 ⟨rfl, hb5⟩
      refine hK _ _ (fun _ => Dc.But.of_below hb5) ?_
      clear hK K
      have hbw5 := bthen hbw (bthen hbU (bthen hb4 hb5))
      refine Dc.wpSegs_last ?_
      simp only [Dc.pick, List.getElem?_cons_zero, List.getElem?_cons_succ]
      repeat (first | go_big_quiet_step (fail) | quiet_step (fail))
      refine wpQuiet_nil ?_
      go_wp2
      refine ⟨⟨k + 1, by omega, by go_num, ?_, hbw5⟩, by simp [intOf]; omega⟩
      rw [HV.out]
    · have he : k = m := by omega
      subst he
      have hLC : L = C := by
        rw [HL.out, HC.out, List.take_of_length_le (by rw [← Hn.out]; exact Nat.le_refl _)]
      subst hLC
      go_wp2
      generalize wr = wo at *
      go_loopw [3] (fun s wr => ∃ j : Nat, s = .string (mk (L ++ List.replicate j 0)) ∧ L.length + j ≤ 252 ∧ Below w.heap.size w wr) (fun s _ => 252 - (match s with | .string t => t.size | _ => 0))
      case atStart => exact ⟨0, by rw [List.replicate_zero, List.append_nil], by omega, hbb⟩
      case round =>
        obtain ⟨j, rfl, hj, hbj⟩ := hrel
        have hsz : (mk (L ++ List.replicate j 0)).size = L.length + j := by rw [mk_size, List.length_append, List.length_replicate]
        have hadd : mk (L ++ List.replicate j 0) ++ mk [0] = mk (L ++ List.replicate (j + 1) 0) := by
          rw [mk_add, List.append_assoc, List.replicate_succ']
        generalize hS : mk (L ++ List.replicate j 0) = S at *
        have HS := Lib.hid hS
        have HADD := Lib.hid hadd
        clear hS hadd
        by_cases hlt : L.length + j < 252
        · go_wp2
          refine ⟨⟨j + 1, ?_, by omega, hbj⟩, ?_⟩
          · rw [mk_0, HADD.out]
          · simp only
            rw [mk_0, HADD.out, mk_size, List.length_append, List.length_replicate, hsz]
            omega
        · have hfin : (mk (L ++ List.replicate j 0)).data.toList = Y := by
            rw [mk_list, HCB.out]
            have : j = 252 - L.length := by omega
            rw [this]
          rw [HS.out] at hfin
          have HF := Lib.hid hfin
          clear hfin
          go_wp2_with fail
          refine (refSeal_any S _ (by omega)).mono ?_
          rintro e w9 ⟨rfl, hb9⟩
          rw [HF.out]
          have hb10 := bthen hbj hb9
          go_wp2
          go_ret
          exact ⟨rfl, hb10⟩

set_option maxHeartbeats 4000000 in
set_option maxRecDepth 100000 in
theorem refBytes_chain (p : PP) (A B : Option Addr) (a b : Nat) (w : World)  (hbd : Bd p) (hk : p.kind = 3) (hp : okChain p) :
    Calls Tryd.prog 22 #[pageV p A a B b] w fun e w' => e = .returned (.string (mk (encL p))) ∧ Below w.heap.size w w' := by
  have hok : okPage p := .inr (.inr ⟨hk, hp⟩)
  have hlen := contL_len hok
  obtain ⟨C, hC⟩ : ∃ C, C = contL p := ⟨_, rfl⟩
  have HCB : Hid (bodyL p = C ++ List.replicate (252 - C.length) 0) := by rw [hC]; rfl
  rw [← hC] at hlen
  have hpost : ∀ e w', e = Ending.returned (.string ⟨(Crc.sealed (bodyL p)).toArray⟩) ∧ Below w.heap.size w w' → e = Ending.returned (.string (mk (encL p))) ∧ Below w.heap.size w w' := fun e w' h => h
  refine Calls.mono ?_ (fun e w' h => hpost e w' h)
  clear hpost hok
  generalize bodyL p = Y at *
  obtain ⟨pk, pc, pd, pp, pn⟩ := p
  obtain ⟨_, _, hc⟩ := hp
  unfold pageV
  simp only at *
  subst hk
  obtain ⟨n, hn⟩ : ∃ n, n = pc.length := ⟨_, rfl⟩
  obtain ⟨m, hm⟩ : ∃ m, m = pd.length := ⟨_, rfl⟩
  rw [← hn, ← hm]
  have hsz := hc.2.1
  have hi64 : I64 pn := hbd.next
  have HC : Hid (C = 3 :: (textL pp ++ be16 pn)) := by
    show C = 3 :: (textL pp ++ be16 pn)
    rw [hC]
    unfold contL
    simp only
    rw [if_neg (by omega), if_neg (by omega), if_pos trivial]
    rfl
  clear hn hm hc hC hbd
  obtain ⟨W, hW⟩ : ∃ W, W = w.alloc (.cells #[.int .i64 3, .slice A n a, .slice B m b, .string pp, .int .i64 pn] 25) := ⟨_, rfl⟩
  have hbW : Below w.heap.size w W := by rw [hW]; exact (Below.refl _ _).alloc (Nat.le_refl _) _
  have hsW : w.heap.size < W.heap.size := by rw [hW]; simp
  have hcc0 : ∀ w', Below W.heap.size W w' → w'.cell? ⟨w.heap.size, 0, none⟩ = some (.int .i64 3) := fun w' h => by rw [hW] at h; exact box_at h 0 _ rfl
  have hcc3 : ∀ w', Below W.heap.size W w' → w'.cell? ⟨w.heap.size, 3, none⟩ = some (.string pp) := fun w' h => by rw [hW] at h; exact box_at h 3 _ rfl
  have hcc4 : ∀ w', Below W.heap.size W w' → w'.cell? ⟨w.heap.size, 4, none⟩ = some (.int .i64 pn) := fun w' h => by rw [hW] at h; exact box_at h 4 _ rfl
  have HC0 := Lib.hid hcc0
  have HC3 := Lib.hid hcc3
  have HC4 := Lib.hid hcc4
  have HW := Lib.hid hW
  clear hW hcc0 hcc3 hcc4
  go_enter Tryd.func22, Tryd.ntmps22
  go_wp2_with fail
  rw [← HW.out]
  refine (number1_mk W 3 ⟨by omega, by omega⟩).mono ?_
  rintro e w1 ⟨rfl, hb1⟩
  have c0 := HC0.out _ hb1
  have s12 : (mk [b8 3]).size = 1 := by rw [mk_size]; rfl
  have sk : (mk (textL pp)).size ≤ 1000 := by rw [mk_size, textL_len]; omega
  have sz2 : (mk (be16 pn)).size = 2 := by rw [mk_size, be16_len]
  have hv : mk [b8 3] ++ mk (textL pp) ++ mk (be16 pn) = mk C := by
    rw [mk_add, mk_add, HC.out]
    simp
    rfl
  have HV := Lib.hid hv
  clear hv
  obtain ⟨U, hU⟩ : ∃ U, U = w1.drew := ⟨_, rfl⟩
  have hbU : Below w1.heap.size w1 U := by rw [hU]; exact (Below.refl _ _).drew
  have hlU : w.heap.size < U.heap.size := by have h1 := hb1.size; have h2 := hbU.size; omega
  have q3 : ∀ q : Dc.Past [] U, q.val.cell? ⟨w.heap.size, 3, none⟩ = some (.string pp) := fun q => (q.ok.cell (by exact hlU) (by simp)).trans (HC3.out _ (bthen hb1 hbU))
  have q4 : ∀ q : Dc.Past [] U, q.val.cell? ⟨w.heap.size, 4, none⟩ = some (.int .i64 pn) := fun q => (q.ok.cell (by exact hlU) (by simp)).trans (HC4.out _ (bthen hb1 hbU))
  have HU := Lib.hid hU
  clear hU
  go_wp2
  refine Dc.wp_region_segs 9 [] [([0, 1, 2, 5, 6], 3), ([4], 7)] [8, 9] (by kernel_rfl) (by kernel_rfl) (by kernel_rfl) (by kernel_rfl) (by kernel_rfl) (by intro c a d v w h; cases d <;> exact h) ?_
  rw [← HU.out]
  refine Dc.wpSegs_more ?_
  simp only [Dc.pick, List.getElem?_cons_zero, List.getElem?_cons_succ]
  repeat (first | go_big_quiet_step (fail) | quiet_step (fail))
  refine wpQuiet_nil ?_
  refine Dc.wpOp_heavy rfl (by rfl) (fun K hK => ?_)
  go_simp
  refine (refText_mk U pp (by omega)).mono ?_
  rintro y w4 ⟨rfl, hb4⟩
  refine hK _ _ (fun _ => Dc.But.of_below hb4) ?_
  clear hK K
  refine Dc.wpSegs_more ?_
  simp only [Dc.pick, List.getElem?_cons_zero, List.getElem?_cons_succ]
  repeat (first | go_big_quiet_step (fail) | quiet_step (fail))
  refine wpQuiet_nil ?_
  refine Dc.wpOp_heavy rfl (by rfl) (fun K hK => ?_)
  go_simp
  refine (number2_mk w4 pn hi64).mono ?_
  rintro y w5 ⟨rfl, hb5⟩
  refine hK _ _ (fun _ => Dc.But.of_below hb5) ?_
  clear hK K
  have hbb := bthen hbW (bthen hb1 (bthen hbU (bthen hb4 hb5)))
  refine Dc.wpSegs_last ?_
  simp only [Dc.pick, List.getElem?_cons_zero, List.getElem?_cons_succ]
  repeat (first | go_big_quiet_step (fail) | quiet_step (fail))
  refine wpQuiet_nil ?_
  rw [HV.out]
  go_wp2
  go_loopw [3] (fun s wr => ∃ j : Nat, s = .string (mk (C ++ List.replicate j 0)) ∧ C.length + j ≤ 252 ∧ Below w.heap.size w wr) (fun s _ => 252 - (match s with | .string t => t.size | _ => 0))
  case atStart => exact ⟨0, by rw [List.replicate_zero, List.append_nil], by omega, hbb⟩
  case round =>
    obtain ⟨j, rfl, hj, hbj⟩ := hrel
    have hsz : (mk (C ++ List.replicate j 0)).size = C.length + j := by rw [mk_size, List.length_append, List.length_replicate]
    have hadd : mk (C ++ List.replicate j 0) ++ mk [0] = mk (C ++ List.replicate (j + 1) 0) := by
      rw [mk_add, List.append_assoc, List.replicate_succ']
    generalize hS : mk (C ++ List.replicate j 0) = S at *
    have HS := Lib.hid hS
    have HADD := Lib.hid hadd
    clear hS hadd
    by_cases hlt : C.length + j < 252
    · go_wp2
      refine ⟨⟨j + 1, ?_, by omega, hbj⟩, ?_⟩
      · rw [mk_0, HADD.out]
      · simp only
        rw [mk_0, HADD.out, mk_size, List.length_append, List.length_replicate, hsz]
        omega
    · have hfin : (mk (C ++ List.replicate j 0)).data.toList = Y := by
        rw [mk_list, HCB.out]
        have : j = 252 - C.length := by omega
        rw [this]
      rw [HS.out] at hfin
      have HF := Lib.hid hfin
      clear hfin
      go_wp2_with fail
      refine (refSeal_any S _ (by omega)).mono ?_
      rintro e w9 ⟨rfl, hb9⟩
      rw [HF.out]
      have hb10 := bthen hbj hb9
      go_wp2
      go_ret
      exact ⟨rfl, hb10⟩

theorem refBytes_any (p : PP) (A B : Option Addr) (a b : Nat) (w : World) (hA : Ls pcC w A p.cells) (hB : Ls pcK w B p.kids) (hbd : Bd p) (hp : okPage p) :
    Calls Tryd.prog 22 #[pageV p A a B b] w fun e w' => e = .returned (.string (mk (encL p))) ∧ Below w.heap.size w w' := by
  rcases hp with ⟨h, hp⟩ | ⟨h, hp⟩ | ⟨h, hp⟩
  · exact refBytes_leaf p A B a b w hA hbd h hp
  · exact refBytes_branch p A B a b w hB hbd h hp
  · exact refBytes_chain p A B a b w hbd h hp

/-- The string and the number that the document's Encode answers. -/
def refEncS (p : PP) : ByteArray := if okPage p then mk (encL p) else ByteArray.empty
def refEncN (p : PP) : Int := if okPage p then 0 else 1

set_option maxHeartbeats 1000000 in
set_option maxRecDepth 100000 in
theorem refEncode_any (p : PP) (A B : Option Addr) (a b : Nat) (w : World) (hA : Ls pcC w A p.cells) (hB : Ls pcK w B p.kids) (hbd : Bd p) :
    Calls Tryd.prog 13 #[pageV p A a B b] w fun e w' => e = .returned (.tuple #[.string (refEncS p), .int .i64 (refEncN p)]) ∧ Below w.heap.size w w' := by
  have hr := refRight_any p A B a b
  have hy := refBytes_any p A B a b
  have hx : Below w.heap.size w (w.alloc (.cells #[.int .i64 p.kind, .slice A p.cells.length a, .slice B p.kids.length b, .string p.piece, .int .i64 p.next] 25)) := (Below.refl _ _).alloc (Nat.le_refl _) _
  unfold pageV at *
  by_cases hok : okPage p
  · rw [show refEncS p = mk (encL p) from if_pos hok, show refEncN p = 0 from if_pos hok]
    generalize p.cells.length = n at *
    generalize p.kids.length = m at *
    generalize hpk : p.kind = pk at *
    generalize hpp : p.piece = pp at *
    generalize hpn : p.next = pn at *
    go_enter Tryd.func13, Tryd.ntmps13
    go_wp2_with fail
    refine (hr _ (hA.below hx) (hB.below hx) hbd).mono ?_
    rintro e w1 ⟨rfl, hb1⟩
    have hbw := bthen hx hb1
    have c0 := box_at hb1 0 (.int .i64 pk) rfl
    have c1 := box_at hb1 1 (.slice A n a) rfl
    have c2 := box_at hb1 2 (.slice B m b) rfl
    have c3 := box_at hb1 3 (.string pp) rfl
    have c4 := box_at hb1 4 (.int .i64 pn) rfl
    rw [decide_eq_true hok]
    clear hb1 hx
    go_wp2_with fail
    refine (hy w1 (hA.below hbw) (hB.below hbw) hbd hok).mono ?_
    rintro e w2 ⟨rfl, hb2⟩
    have hb3 := bthen hbw hb2
    go_wp2
    go_ret2
    exact ⟨rfl, hb3⟩
  · rw [show refEncS p = ByteArray.empty from if_neg hok, show refEncN p = 1 from if_neg hok]
    generalize p.cells.length = n at *
    generalize p.kids.length = m at *
    generalize hpk : p.kind = pk at *
    generalize hpp : p.piece = pp at *
    generalize hpn : p.next = pn at *
    go_enter Tryd.func13, Tryd.ntmps13
    go_wp2_with fail
    refine (hr _ (hA.below hx) (hB.below hx) hbd).mono ?_
    rintro e w1 ⟨rfl, hb1⟩
    have hbw := bthen hx hb1
    rw [decide_eq_false hok]
    clear hb1 hx
    go_wp2
    go_ret2
    exact ⟨rfl, hbw⟩

end Go.Proofs.YtgicomadlhnkjaaDoor
