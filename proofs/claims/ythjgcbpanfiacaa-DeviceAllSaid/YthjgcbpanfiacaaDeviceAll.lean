/-
  DeviceAll: with all kept, and none torn, a crash is as a sync; with none kept it is as if nothing had been written; for every script; no condition beyond the row's.
-/
import Derived.Test.YthjgcbpanfiacaaDevMany
namespace Go.Proofs.Ythjgcbpanfiacaa
open Go.RowKit Go.Sort Go.ChangeShapes Go.WideShapes
set_option linter.unusedVariables false
set_option linter.unusedSimpArgs false

set_option maxRecDepth 100000 in
set_option maxHeartbeats 8000000 in
theorem deviceAll_walk (A : Option Addr) (n c : Nat) (l : List OP) (part : Int) (w : World) (ha : ArgO w A n c l) (hpt : (Lit.int .i64 part).wf = true) :
    Calls Try.prog 6 #[.slice A n c, .int .i64 part] w fun e w' => e = .returned (.bool true) ∧ Below w.heap.size w w' := by
  clear hpt
  obtain ⟨hlen, hcap, hsm, hls, hok⟩ := ha
  have HL := Lib.hid hlen
  have HLS := Lib.hid hls
  have HOK := Lib.hid hok
  clear hlen hls hok
  obtain ⟨hf2, hhf⟩ : ∃ h : Nat, h = n / 2 := ⟨_, rfl⟩
  have hq1 : (n : Int).tdiv 2 = (hf2 : Int) := by rw [Int.tdiv_eq_ediv_of_nonneg (by omega)]; omega
  have hq2 : (n : Int) / 2 = (hf2 : Int) := by omega
  have hq3 : hf2 ≤ n := by omega
  clear hhf
  go_enter Try.func6, Try.ntmps6
  go_wp2_with fail
  refine (devAwake_any w).mono ?_
  rintro e w1 ⟨rfl, hb1⟩
  go_wp2_with fail
  refine (fewO_any A n c l w1 (HLS.out.below hb1) HL.out hsm (fun z hz => (HOK.out z hz).b)).mono ?_
  rintro e w2 ⟨rfl, rfl⟩
  by_cases hf : FewO l
  case neg =>
    rw [decide_eq_false hf]
    go_wp2_with fail
    refine (devAwake_any _).mono ?_
    rintro e w3 ⟨rfl, hb3⟩
    go_wp2
    go_ret
    exact ⟨rfl, bthen hb1 hb3⟩
  rw [decide_eq_true hf]
  have hn : n ≤ 150 := by rw [← HL.out]; exact hf.1
  have hw1 := hb1.size
  have HB1 := Lib.hid hb1
  clear hf hb1
  go_wp2_with fail
  refine (newM_any 8 (Devs.nil w2)).mono ?_
  rintro e w3 ⟨da, rfl, hd3, hb3⟩
  have HD3 := Lib.hid hd3
  have HB3 := Lib.hid (HB1.out.trans (hb3.mono hw1))
  clear hd3 hb3 HB1
  go_wp2_with fail
  refine (newM_any 8 HD3.out).mono ?_
  rintro e w4 ⟨db, rfl, hd4, hb4⟩
  have HD4 := Lib.hid hd4
  have HB4 := Lib.hid (HB3.out.trans (hb4.mono hw1))
  clear hd4 hb4 HB3 HD3
  go_wp2_with fail
  refine (newM_any 8 HD4.out).mono ?_
  rintro e w5 ⟨dc, rfl, hd5, hb5⟩
  rw [show pagesN 8 = 8 from rfl] at hd5
  generalize List.replicate (8 * 256) (0 : UInt8) = st at hd5
  have HD5 := Lib.hid (show Devs w2.heap.size (fun _ => False) w5 [⟨da, 8, st, []⟩, ⟨db, 8, st, []⟩, ⟨dc, 8, st, []⟩] from hd5)
  have HB5 := Lib.hid (HB4.out.trans (hb5.mono hw1))
  clear hd5 hb5 HB4 HD4
  go_wp2
  go_loopw [39] (fun i wr => ∃ k : Nat, k ≤ n ∧ i = .int .i64 k ∧ Hid (∃ X s p s' p', Devs w2.heap.size X wr [⟨da, 8, s, p⟩, ⟨db, 8, s, p⟩, ⟨dc, 8, s', p'⟩] ∧ p.length ≤ k ∧ p'.length ≤ k) ∧ Hid (Below w.heap.size w wr)) (fun i _ => n - (intOf i).toNat)
  case atStart => exact ⟨0, Nat.zero_le _, rfl, Lib.hid ⟨_, _, _, _, _, HD5.out, by simp, by simp⟩, HB5⟩
  case round =>
    obtain ⟨k, hk, rfl, HD, HB⟩ := hrel
    clear HD5 HB5
    obtain ⟨X, s, p, s', p', hd, hpl, hpl'⟩ := HD.out
    have HDD := Lib.hid hd
    clear hd HD
    by_cases hlt : k < n
    · obtain ⟨ad, x, rfl, hx, hl, h0, h1, h2, _, _⟩ := HLS.out.atO (i := k) (by rw [HL.out]; exact hlt)
      have hl' : (ad.add (k * 5)).block < w.heap.size := by rw [block_of_add]; exact hl
      have H1 := Lib.hid (show ∀ w', Below w.heap.size w w' → w'.cell? ⟨(ad.add (k * 5)).block, (ad.add (k * 5)).off + 1, none⟩ = some (.int .i64 x.i) from fun w' hb => (hb.cell (p := ⟨(ad.add (k * 5)).block, (ad.add (k * 5)).off + 1, none⟩) hl').trans h1)
      have H2 := Lib.hid (show ∀ w', Below w.heap.size w w' → w'.cell? ⟨(ad.add (k * 5)).block, (ad.add (k * 5)).off + 2, none⟩ = some (.int .i64 x.n) from fun w' hb => (hb.cell (p := ⟨(ad.add (k * 5)).block, (ad.add (k * 5)).off + 2, none⟩) hl').trans h2)
      have g0 := (HB.out.cell hl').trans h0
      clear h0 h1 h2 hx
      have ha7 := and7 x.i
      have hq7 := p7_lt x.i
      by_cases hkd : x.kind = 3
      · rw [hkd] at g0
        go_wp2_with fail
        refine (syncM_any HDD.out (j := 0) rfl (by omega)).mono ?_
        rintro e w6 ⟨rfl, hd6, hb6⟩
        have HD6 := Lib.hid (show Devs w2.heap.size X w6 [⟨da, 8, allN s p p.length, []⟩, ⟨db, 8, s, p⟩, ⟨dc, 8, s', p'⟩] from hd6)
        have HB6 := Lib.hid (HB.out.trans ((hb6.belowX HDD.out.1).mono hw1))
        clear hd6 hb6 HDD HB g0
        go_wp2_with fail
        refine (syncM_any HD6.out (j := 1) rfl (by omega)).mono ?_
        rintro e w7 ⟨rfl, hd7, hb7⟩
        have HD7 := Lib.hid (show Devs w2.heap.size X w7 [⟨da, 8, allN s p p.length, []⟩, ⟨db, 8, allN s p p.length, []⟩, ⟨dc, 8, s', p'⟩] from hd7)
        have HB7 := Lib.hid (HB6.out.trans ((hb7.belowX HD6.out.1).mono hw1))
        clear hd7 hb7 HD6 HB6
        go_wp2_with fail
        refine (syncM_any HD7.out (j := 2) rfl (by omega)).mono ?_
        rintro e w8 ⟨rfl, hd8, hb8⟩
        have HDD := Lib.hid (show Devs w2.heap.size X w8 [⟨da, 8, allN s p p.length, []⟩, ⟨db, 8, allN s p p.length, []⟩, ⟨dc, 8, allN s' p' p'.length, []⟩] from hd8)
        have HB := Lib.hid (HB7.out.trans ((hb8.belowX HD7.out.1).mono hw1))
        clear hd8 hb8 HD7 HB7
        obtain ⟨t, ht⟩ : ∃ t, t = allN s p p.length := ⟨_, rfl⟩
        obtain ⟨t', ht'⟩ : ∃ t', t' = allN s' p' p'.length := ⟨_, rfl⟩
        rw [← ht, ← ht'] at HDD
        clear ht ht' hpl hpl'
        obtain ⟨p, hp⟩ : ∃ p : List WR, p = [] := ⟨_, rfl⟩
        rw [← hp] at HDD
        have hpl : p.length ≤ k := by rw [hp]; simp
        have hpl' : p.length ≤ k := hpl
        clear hp
        generalize w8 = wr at *
        have g2 := H2.out _ HB.out
        go_wp2_with fail
        refine (full8 x.n wr).mono ?_
        rintro e w9 ⟨g9, rfl, hg9, hrow9, hb9⟩
        have HD9 := Lib.hid (HDD.out.fresh hb9)
        have HB9 := Lib.hid (bthen HB.out hb9)
        have HR9 := Lib.hid hrow9
        have HX := Lib.hid (show wr.heap.size ≤ g9 ∧ g9 < w9.heap.size from ⟨hg9, lt_of_block hrow9⟩)
        clear hrow9 hb9 HDD HB g2 hg9
        have g1 := H1.out _ HB9.out
        go_wp2_with fail
        refine (writeFullM_any HD9.out (j := 0) rfl (p7 x.i) (b8 x.n) g9 256 (by omega) HR9.out (by omega)).mono ?_
        rintro e w10 ⟨rfl, hd10, hk10⟩
        have HR10 := Lib.hid ((hk10.block g9 (lt_of_block HR9.out) (fun h => h.2 HX.out)).trans HR9.out)
        have HB10 := Lib.hid (HB9.out.trans ((hk10.belowX HD9.out.1).mono hw1))
        have HD10 := Lib.hid hd10
        simp only [List.set_cons_zero, List.set_cons_succ] at HD10
        clear hd10 hk10 HR9 HB9 HD9 g1
        have g1 := H1.out _ HB10.out
        go_wp2_with fail
        refine (writeFullM_any HD10.out (j := 1) rfl (p7 x.i) (b8 x.n) g9 256 (by omega) HR10.out (by omega)).mono ?_
        rintro e w11 ⟨rfl, hd11, hk11⟩
        have HR11 := Lib.hid ((hk11.block g9 (lt_of_block HR10.out) (fun h => h.2 HX.out)).trans HR10.out)
        have HB11 := Lib.hid (HB10.out.trans ((hk11.belowX HD10.out.1).mono hw1))
        have HD11 := Lib.hid hd11
        simp only [List.set_cons_zero, List.set_cons_succ] at HD11
        clear hd11 hk11 HR10 HB10 HD10 g1
        have g1 := H1.out _ HB11.out
        by_cases hh : k < hf2
        · go_wp2_with fail
          refine (writeFullM_any HD11.out (j := 2) rfl (p7 x.i) (b8 x.n) g9 256 (by omega) HR11.out (by omega)).mono ?_
          rintro e w12 ⟨rfl, hd12, hk12⟩
          have HB12 := Lib.hid (HB11.out.trans ((hk12.belowX HD11.out.1).mono hw1))
          have HD12 := Lib.hid hd12
          simp only [List.set_cons_zero, List.set_cons_succ] at HD12
          clear hd12 hk12 HR11 HB11 HD11 g1
          go_wp2
          exact ⟨⟨k + 1, by omega, by go_num, Lib.hid ⟨_, _, _, _, _, HD12.out, by rw [List.length_append, List.length_singleton]; omega, by rw [List.length_append, List.length_singleton]; omega⟩, HB12⟩, by simp [intOf]; omega⟩
        · go_wp2
          exact ⟨⟨k + 1, by omega, by go_num, Lib.hid ⟨_, _, _, _, _, HD11.out, by rw [List.length_append, List.length_singleton]; omega, by omega⟩, HB11⟩, by simp [intOf]; omega⟩
      · have hkb : (x.kind == 3) = false := by simp [hkd]
        clear hkd
        have g2 := H2.out _ HB.out
        go_wp2_with fail
        refine (full8 x.n wr).mono ?_
        rintro e w9 ⟨g9, rfl, hg9, hrow9, hb9⟩
        have HD9 := Lib.hid (HDD.out.fresh hb9)
        have HB9 := Lib.hid (bthen HB.out hb9)
        have HR9 := Lib.hid hrow9
        have HX := Lib.hid (show wr.heap.size ≤ g9 ∧ g9 < w9.heap.size from ⟨hg9, lt_of_block hrow9⟩)
        clear hrow9 hb9 HDD HB g2 hg9
        have g1 := H1.out _ HB9.out
        go_wp2_with fail
        refine (writeFullM_any HD9.out (j := 0) rfl (p7 x.i) (b8 x.n) g9 256 (by omega) HR9.out (by omega)).mono ?_
        rintro e w10 ⟨rfl, hd10, hk10⟩
        have HR10 := Lib.hid ((hk10.block g9 (lt_of_block HR9.out) (fun h => h.2 HX.out)).trans HR9.out)
        have HB10 := Lib.hid (HB9.out.trans ((hk10.belowX HD9.out.1).mono hw1))
        have HD10 := Lib.hid hd10
        simp only [List.set_cons_zero, List.set_cons_succ] at HD10
        clear hd10 hk10 HR9 HB9 HD9 g1
        have g1 := H1.out _ HB10.out
        go_wp2_with fail
        refine (writeFullM_any HD10.out (j := 1) rfl (p7 x.i) (b8 x.n) g9 256 (by omega) HR10.out (by omega)).mono ?_
        rintro e w11 ⟨rfl, hd11, hk11⟩
        have HR11 := Lib.hid ((hk11.block g9 (lt_of_block HR10.out) (fun h => h.2 HX.out)).trans HR10.out)
        have HB11 := Lib.hid (HB10.out.trans ((hk11.belowX HD10.out.1).mono hw1))
        have HD11 := Lib.hid hd11
        simp only [List.set_cons_zero, List.set_cons_succ] at HD11
        clear hd11 hk11 HR10 HB10 HD10 g1
        have g1 := H1.out _ HB11.out
        by_cases hh : k < hf2
        · go_wp2_with fail
          refine (writeFullM_any HD11.out (j := 2) rfl (p7 x.i) (b8 x.n) g9 256 (by omega) HR11.out (by omega)).mono ?_
          rintro e w12 ⟨rfl, hd12, hk12⟩
          have HB12 := Lib.hid (HB11.out.trans ((hk12.belowX HD11.out.1).mono hw1))
          have HD12 := Lib.hid hd12
          simp only [List.set_cons_zero, List.set_cons_succ] at HD12
          clear hd12 hk12 HR11 HB11 HD11 g1
          go_wp2
          exact ⟨⟨k + 1, by omega, by go_num, Lib.hid ⟨_, _, _, _, _, HD12.out, by rw [List.length_append, List.length_singleton]; omega, by rw [List.length_append, List.length_singleton]; omega⟩, HB12⟩, by simp [intOf]; omega⟩
        · go_wp2
          exact ⟨⟨k + 1, by omega, by go_num, Lib.hid ⟨_, _, _, _, _, HD11.out, by rw [List.length_append, List.length_singleton]; omega, by omega⟩, HB11⟩, by simp [intOf]; omega⟩
    obtain rfl : k = n := by omega
    go_wp2_with fail
    refine (bytesM_any HDD.out (j := 2) rfl (by omega)).mono ?_
    rintro e w6 ⟨g6, rfl, hg6, hrow6, hb6⟩
    have hln := allN_len (HDD.out.lens (j := 2) rfl).1 (HDD.out.lens (j := 2) rfl).2.2 p'.length
    simp only at hln
    have cv6 := conv_rd (c := 8 * 256) (rd_whole hrow6) hln
    obtain ⟨f, hf⟩ : ∃ f, f = allN s' p' p'.length := ⟨_, rfl⟩
    rw [← hf] at cv6 hln
    obtain ⟨fs, hfs⟩ : ∃ x : ByteArray, x = ⟨f.toArray⟩ := ⟨_, rfl⟩
    rw [← hfs] at cv6
    have HF := Lib.hid hln
    have HFS := Lib.hid hfs
    have HD6 := Lib.hid (HDD.out.below hb6)
    have HB6 := Lib.hid (bthen HB.out hb6)
    clear hrow6 hb6 HDD HB hg6 hln hf hfs
    go_wp2
    go_loopw [11] (fun i wr => ∃ j : Nat, hf2 ≤ j ∧ j ≤ k ∧ i = .int .i64 j ∧ Hid (∃ X p'', Devs w2.heap.size X wr [⟨da, 8, s, p⟩, ⟨db, 8, s, p⟩, ⟨dc, 8, s', p''⟩] ∧ p''.length ≤ k + j) ∧ Hid (Below w.heap.size w wr)) (fun i _ => k - (intOf i).toNat)
    case atStart => exact ⟨hf2, Nat.le_refl _, hq3, rfl, Lib.hid ⟨_, _, HD6.out, by omega⟩, HB6⟩
    case round =>
      clear cv6 HD6 HB6
      obtain ⟨j, hj0, hj, rfl, HD, HB⟩ := hrel
      obtain ⟨X2, p2, hd, hpl2⟩ := HD.out
      have HDD := Lib.hid hd
      clear hd HD
      by_cases hlt : j < k
      · obtain ⟨ad, x, rfl, hx, hl, h0, h1, h2, _, _⟩ := (HLS.out.below HB.out).atO (i := j) (by rw [HL.out]; exact hlt)
        have h1' : ∀ q' : Dc.Past [] wr.drew, q'.val.cell? ⟨(ad.add (j * 5)).block, (ad.add (j * 5)).off + 1, none⟩ = some (.int .i64 x.i) := fun q' => (q'.ok.cell (by rw [block_of_add]; exact hl) (by simp)).trans h1
        have h2' : ∀ q' : Dc.Past [] wr.drew, q'.val.cell? ⟨(ad.add (j * 5)).block, (ad.add (j * 5)).off + 2, none⟩ = some (.int .i64 x.n) := fun q' => (q'.ok.cell (by rw [block_of_add]; exact hl) (by simp)).trans h2
        have ha7 := and7 x.i
        have hq7 := p7_lt x.i
        clear h0 h1 h2 hx
        go_wp2
        refine Dc.wp_region_segs 14 [] [([0, 1, 2, 3, 4, 5, 6, 7, 8, 9, 10, 11, 12], 13), ([], 14)] [] (by kernel_rfl) (by kernel_rfl) (by kernel_rfl) (by kernel_rfl) (by kernel_rfl) (by intro c a d v w h; cases d <;> exact h) ?_
        refine Dc.wpSegs_more ?_
        simp only [Dc.pick, List.getElem?_cons_zero, List.getElem?_cons_succ]
        repeat (first | go_big_quiet_step (fail) | quiet_step (fail))
        refine wpQuiet_nil ?_
        refine Dc.wpOp_heavy rfl (by rfl) (fun K hK => ?_)
        go_simp
        refine (full8 x.n wr.drew).mono ?_
        rintro e w7 ⟨g7, rfl, hg7, hrow7, hb7⟩
        have HD7 := Lib.hid (HDD.out.drew.below hb7)
        have HB7 := Lib.hid (bthen (bthen HB.out (Below.refl _ _).drew) hb7)
        have HR7 := Lib.hid hrow7
        refine hK _ _ (fun _ => Dc.But.of_below hb7) ?_
        clear hK K hrow7 hb7 HDD HB hg7 h1' h2'
        refine Dc.wpSegs_more ?_
        simp only [Dc.pick]
        refine wpQuiet_nil ?_
        refine Dc.wpOp_heavy rfl (by rfl) (fun K hK => ?_)
        go_simp
        refine (writeFullM_any HD7.out (j := 2) rfl (p7 x.i) (b8 x.n) g7 256 (by omega) HR7.out (by omega)).mono ?_
        rintro e w8 ⟨rfl, hd8, hk8⟩
        have HB8 := Lib.hid (HB7.out.trans ((hk8.belowX HD7.out.1).mono hw1))
        have HD8 := Lib.hid hd8
        simp only [List.set_cons_zero, List.set_cons_succ] at HD8
        refine hK _ _ (fun h => absurd rfl h) ?_
        clear hK K hd8 hk8 HD7 HB7 HR7
        refine Dc.wpSegs_last ?_
        simp only [Dc.pick]
        refine wpQuiet_nil ?_
        go_wp2
        exact ⟨⟨j + 1, by omega, by omega, by go_num, Lib.hid ⟨_, _, HD8.out, by rw [List.length_append, List.length_singleton]; omega⟩, HB8⟩, by simp [intOf]; omega⟩
      obtain rfl : j = k := by omega
      go_wp2_with fail
      refine (bytesM_any HDD.out (j := 0) rfl (by omega)).mono ?_
      rintro e w7 ⟨g7, rfl, hg7, hrow7, hb7⟩
      have hln7 := allN_len (HDD.out.lens (j := 0) rfl).1 (HDD.out.lens (j := 0) rfl).2.2 p.length
      simp only at hln7
      have cv7 := conv_rd (c := 8 * 256) (rd_whole hrow7) hln7
      have hca := crash_all part s p p.length
      obtain ⟨t, ht⟩ : ∃ t, t = allN s p p.length := ⟨_, rfl⟩
      rw [← ht] at cv7 hln7 hca
      obtain ⟨ts, hts⟩ : ∃ x : ByteArray, x = ⟨t.toArray⟩ := ⟨_, rfl⟩
      rw [← hts] at cv7
      have HT := Lib.hid ht
      have HCA := Lib.hid hca
      have HTL := Lib.hid hln7
      have HTS := Lib.hid hts
      have HD7 := Lib.hid (HDD.out.below hb7)
      have HB7 := Lib.hid (bthen HB.out hb7)
      clear hrow7 hb7 HDD HB hg7 hln7 hca ht hts
      go_wp2_with fail
      refine (syncM_any HD7.out (j := 0) rfl (by omega)).mono ?_
      rintro e w8 ⟨rfl, hd8, hk8⟩
      have HB8 := Lib.hid (HB7.out.trans ((hk8.belowX HD7.out.1).mono hw1))
      rw [← HT.out] at hd8
      have HD8 := Lib.hid hd8
      simp only [List.set_cons_zero, List.set_cons_succ] at HD8
      clear hd8 hk8 HB7 HD7 cv7
      go_wp2_with fail
      refine (crashM_any HD8.out (j := 1) rfl 18446744073709551615 (-1) part (by omega) (by omega)).mono ?_
      rintro e w9 ⟨rfl, hd9, hk9⟩
      have HB9 := Lib.hid (HB8.out.trans ((hk9.belowX HD8.out.1).mono hw1))
      rw [HCA.out] at hd9
      have HD9 := Lib.hid hd9
      simp only [List.set_cons_zero, List.set_cons_succ] at HD9
      clear hd9 hk9 HB8 HD8 HCA HT
      obtain ⟨C, F, hcv, hF⟩ := bytes_of fs
      have hFd : fs.data.toList = f := by rw [HFS.out]
      have hFz : fs.size = 2048 := by rw [HFS.out]; show f.toArray.size = _; rw [List.size_toArray, HF.out]
      have hF9 := hF w9
      rw [hFd] at hF9
      rw [hFz] at hcv
      have HF9 := Lib.hid hF9
      clear hF hF9 hFd hFz
      go_wp2_with fail
      refine (imageM_any (HD9.out.below HF9.out.2.2) _ 2048 (C w9) f HF9.out.1 HF.out (by omega)).mono ?_
      rintro e w10 ⟨dd, rfl, hd10, hb10⟩
      rw [show pagesOf 2048 = 8 from rfl, show 8 * 256 - 2048 = 0 from rfl, List.replicate_zero, List.append_nil] at hd10
      have HB10 := Lib.hid ((bthen HB9.out HF9.out.2.2).trans (hb10.mono hw1))
      have HD10 := Lib.hid hd10
      simp only [List.cons_append, List.nil_append] at HD10
      clear hd10 hb10 HB9 HD9 hcv HF9
      go_wp2
      go_loopw [143] (fun i wr => ∃ q : Nat, q ≤ j ∧ i = .int .i64 q ∧ Hid (∃ X p3, Devs w2.heap.size X wr [⟨da, 8, t, []⟩, ⟨db, 8, t, []⟩, ⟨dc, 8, s', p2⟩, ⟨dd, 8, f, p3⟩] ∧ p3.length ≤ q) ∧ Hid (Below w.heap.size w wr)) (fun i _ => j - (intOf i).toNat)
      case atStart => exact ⟨0, Nat.zero_le _, rfl, Lib.hid ⟨_, _, HD10.out, by simp⟩, HB10⟩
      case round =>
        clear HD10 HB10
        obtain ⟨q, hq, rfl, HD, HB⟩ := hrel
        obtain ⟨X3, p3, hd, hpl3⟩ := HD.out
        have HDD := Lib.hid hd
        clear hd HD
        by_cases hlt : q < j
        · obtain ⟨ad, x, rfl, hx, hl, h0, h1, h2, _, _⟩ := (HLS.out.below HB.out).atO (i := q) (by rw [HL.out]; exact hlt)
          have h1' : ∀ q' : Dc.Past [] wr.drew, q'.val.cell? ⟨(ad.add (q * 5)).block, (ad.add (q * 5)).off + 1, none⟩ = some (.int .i64 x.i) := fun q' => (q'.ok.cell (by rw [block_of_add]; exact hl) (by simp)).trans h1
          have h2' : ∀ q' : Dc.Past [] wr.drew, q'.val.cell? ⟨(ad.add (q * 5)).block, (ad.add (q * 5)).off + 2, none⟩ = some (.int .i64 x.n) := fun q' => (q'.ok.cell (by rw [block_of_add]; exact hl) (by simp)).trans h2
          have ha7 := and7 x.i
          have hq7 := p7_lt x.i
          clear h0 h1 h2 hx
          go_wp2
          refine Dc.wp_region_segs 14 [] [([0, 1, 2, 3, 4, 5, 6, 7, 8, 9, 10, 11, 12], 13), ([], 14)] [] (by kernel_rfl) (by kernel_rfl) (by kernel_rfl) (by kernel_rfl) (by kernel_rfl) (by intro c a d v w h; cases d <;> exact h) ?_
          refine Dc.wpSegs_more ?_
          simp only [Dc.pick, List.getElem?_cons_zero, List.getElem?_cons_succ]
          repeat (first | go_big_quiet_step (fail) | quiet_step (fail))
          refine wpQuiet_nil ?_
          refine Dc.wpOp_heavy rfl (by rfl) (fun K hK => ?_)
          go_simp
          refine (full8 x.n wr.drew).mono ?_
          rintro e w7 ⟨g7, rfl, hg7, hrow7, hb7⟩
          have HD7 := Lib.hid (HDD.out.drew.below hb7)
          have HB7 := Lib.hid (bthen (bthen HB.out (Below.refl _ _).drew) hb7)
          have HR7 := Lib.hid hrow7
          refine hK _ _ (fun _ => Dc.But.of_below hb7) ?_
          clear hK K hrow7 hb7 HDD HB hg7 h1' h2'
          refine Dc.wpSegs_more ?_
          simp only [Dc.pick]
          refine wpQuiet_nil ?_
          refine Dc.wpOp_heavy rfl (by rfl) (fun K hK => ?_)
          go_simp
          refine (writeFullM_any HD7.out (j := 3) rfl (p7 x.i) (b8 x.n) g7 256 (by omega) HR7.out (by omega)).mono ?_
          rintro e w8 ⟨rfl, hd8, hk8⟩
          have HB8 := Lib.hid (HB7.out.trans ((hk8.belowX HD7.out.1).mono hw1))
          have HD8 := Lib.hid hd8
          simp only [List.set_cons_zero, List.set_cons_succ] at HD8
          refine hK _ _ (fun h => absurd rfl h) ?_
          clear hK K hd8 hk8 HD7 HB7 HR7
          refine Dc.wpSegs_last ?_
          simp only [Dc.pick]
          refine wpQuiet_nil ?_
          go_wp2
          exact ⟨⟨q + 1, by omega, by go_num, Lib.hid ⟨_, _, HD8.out, by rw [List.length_append, List.length_singleton]; omega⟩, HB8⟩, by simp [intOf]; omega⟩
        obtain rfl : q = j := by omega
        go_wp2_with fail
        refine (crashM_any HDD.out (j := 3) rfl 0 0 part (by omega) (by omega)).mono ?_
        rintro e w11 ⟨rfl, hd11, hk11⟩
        have HB11 := Lib.hid (HB.out.trans ((hk11.belowX HDD.out.1).mono hw1))
        rw [crash_none] at hd11
        have HD11 := Lib.hid hd11
        simp only [List.set_cons_zero, List.set_cons_succ] at HD11
        clear hd11 hk11 HB HDD
        go_wp2_with fail
        refine (bytesM_any HD11.out (j := 0) rfl (by simp)).mono ?_
        rintro e w12 ⟨g12, rfl, hg12, hrow12, hb12⟩
        have cv12 := conv_rd (c := 8 * 256) (rd_whole hrow12) HTL.out
        rw [show (⟨(allN t [] ([] : List WR).length).toArray⟩ : ByteArray) = ts from HTS.out.symm] at cv12
        have HD12 := Lib.hid (HD11.out.below hb12)
        have HB12 := Lib.hid (bthen HB11.out hb12)
        clear hrow12 hb12 HD11 HB11 hg12
        go_wp2_with fail
        refine (bytesM_any HD12.out (j := 1) rfl (by simp)).mono ?_
        rintro e w13 ⟨g13, rfl, hg13, hrow13, hb13⟩
        have cv13 := conv_rd (c := 8 * 256) (rd_whole hrow13) HTL.out
        rw [show (⟨(allN t [] ([] : List WR).length).toArray⟩ : ByteArray) = ts from HTS.out.symm] at cv13
        have HD13 := Lib.hid (HD12.out.below hb13)
        have HB13 := Lib.hid (bthen HB12.out hb13)
        clear hrow13 hb13 HD12 HB12 hg13 cv12
        go_wp2_with fail
        refine (bytesM_any HD13.out (j := 3) rfl (by simp)).mono ?_
        rintro e w14 ⟨g14, rfl, hg14, hrow14, hb14⟩
        have cv14 := conv_rd (c := 8 * 256) (rd_whole hrow14) HF.out
        rw [show (⟨(allN f [] ([] : List WR).length).toArray⟩ : ByteArray) = fs from HFS.out.symm] at cv14
        have HB14 := Lib.hid (bthen HB13.out hb14)
        clear hrow14 hb14 HD13 HB13 hg14 cv13
        go_wp2
        go_ret
        exact ⟨rfl, HB14.out⟩

end Go.Proofs.Ythjgcbpanfiacaa

namespace Go.Proofs.Ythjgcbpanfiacaa.deviceAll
open Go.ChangeShapes Go.WideShapes Go.ChangeAt Go.RowKit
open Go.ChangeMaps (open_string shut_string)
set_option linter.unusedVariables false

theorem own : ownKnob Try.prog.godebug = none := by kernel_rfl
theorem laidOut : laidOutB Try.prog = true := by kernel_rfl

set_option maxRecDepth 100000 in
theorem lifted (os : Os) (started : os.Started) (H : Type) (enc : TypeId × Value → H) :
    ReturnsInHanded {} Try.checked os 6 .any (Rows.deviceAllSpec.pre6 enc Try.prog Try.f6 Rows.deviceAllRow.domain false) (Rows.deviceAllSpec.post enc Try.prog Try.f6 false true false false) := by
  refine returnsInHanded_of_change_sized (C := Try.checked) own started (by kernel_rfl) Try.func6
    (ChangeSpec.witness6 (enc := enc) (C := Try.checked) false ⟨#[], #[.slice none 0 0, .int .i64 0], []⟩ 8 (by kernel_rfl) (by kernel_rfl) (by kernel_rfl) (by kernel_rfl)) ?_
  intro W base args ds gs before hval0 hW hcnd hsz0 _
  have hval : ∀ (j : Nat) t v, Try.f6.params[j]? = some t → args[j]? = some v → Value.okWide Try.prog W .any base t v := hval0
  have hsz : (DataW.weightsEach Try.prog (Try.f6.params.toList ++ Rows.deviceAllSpec.plain.varTypes Try.prog) (ds ++ gs)).all (· ≤ reachBytes) = true := hsz0
  have hW' := hW
  obtain ⟨p, q, hA0, hV, rfl, hfz, hnd⟩ := hW
  have hA : DataW.TrodAll enc Try.prog W 0 (fun _ => true) true Try.f6.params.toList args.toList ds p := hA0
  rw [Try.params6] at hA hval hsz
  obtain ⟨v0, vs0, d0, ds0, p0, q0, hargs, rfl, rfl, h0, r0⟩ := trodAll_cons hA
  obtain ⟨v1, vs1, d1, ds1, p1, q1, rfl, rfl, rfl, h1, r1⟩ := trodAll_cons r0
  obtain ⟨rfl, rfl, rfl⟩ := trodAll_nil r1
  obtain rfl : args = #[v0, v1] := by cases args; simp_all
  obtain ⟨rfl, rfl⟩ := trodVars_none hV
  obtain ⟨A0, n0, c0, rfl⟩ := okWide_slice Try.underlying22 (hval 0 22 v0 rfl rfl)
  have k0 := h0
  have lt0 : ∀ x ∈ p0, x.block < W.heap.size := by obtain ⟨m, hm⟩ := k0; exact DataW.trod_lt m _ _ _ hm
  obtain ⟨l0, w0⟩ := open_ops h0 (fun m hm => of_decide_eq_true (List.all_eq_true.1 hsz _ (DataW.weights_mem_each (j := 0) (t := 22) rfl rfl m hm)))
  obtain ⟨a1, rfl, rfl, rfl, w1⟩ := open_int Try.underlying3 (hval 1 3 v1 rfl rfl) h1
  clear hA0 hval0 hsz hsz0
  refine (deviceAll_walk A0 n0 c0 l0 a1 W w0 w1).mono fun e W' ⟨he, bel⟩ => ?_
  subst he
  exact ⟨_, rfl, _, _, _, [], _, [], hW', trodAll_mk1 (shut_bool Try.underlying4 _), (trodAll_cons_mk (Below.trod laidOut (by kernel_rfl) (of_decide_eq_true (by kernel_rfl)) k0 bel lt0) (trodAll_cons_mk (shut_int Try.underlying3 w1) trodAll_mk0)), rfl, bel.frame _, fun h => by cases h⟩

theorem over : Rows.deviceAllRow.holds Try.pinned (OpenSpec.ofChange Rows.deviceAllSpec) :=
  OpenClaim.holds_of_wide 6 Try.f6 rfl rfl rfl rfl rfl rfl rfl ⟨rfl, rfl, rfl, rfl, rfl⟩ rfl rfl rfl rfl rfl (by kernel_rfl) Try.func6 (by kernel_rfl)
    (of_decide_eq_true (by kernel_rfl)) (by unfold Func.isWrapper; first | (rw [if_pos (by decide +kernel)]; kernel_rfl) | (rw [if_neg (by decide +kernel)]; exact ⟨rfl, rfl⟩))
    (fun os started H enc _ => lifted os started H enc)

theorem proved : Rows.DeviceAllSaid := over
#print axioms proved

end Go.Proofs.Ythjgcbpanfiacaa.deviceAll
