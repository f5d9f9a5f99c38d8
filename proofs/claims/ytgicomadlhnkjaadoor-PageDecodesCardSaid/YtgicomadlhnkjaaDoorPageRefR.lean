/-
  The contracts of the document's answers cells, kids and Right: whether a page can be; conditions: its slices can be read, its numbers and strings are as Bd says.
-/
import Derived.Test.YtgicomadlhnkjaaDoorPageMade
namespace Go.Proofs.YtgicomadlhnkjaaDoor
open Go.RowKit Go.Sort
set_option linter.unusedVariables false

theorem geq_eq (a b : ByteArray) : Op.bytesLess a.toList b.toList = decide (kl a b) := less_eq a b

set_option maxHeartbeats 4000000 in
set_option maxRecDepth 100000 in
theorem refCells_any (A : Option Addr) (n c : Nat) (l : List PC) (w : World) (hr : Ls pcC w A l) (hn : l.length = n) (hb : n ≤ 100000000000) (hs : ∀ e ∈ l, BdC e) :
    Calls Tryd.prog 26 #[.slice A n c] w fun e w' => e = .returned (.bool (decide (okCells l))) ∧ Below w.heap.size w w' := by
  have Hn := Lib.hid hn
  have HS := Lib.hid hs
  clear hn hs
  by_cases g4 : 4 < n
  · rw [show decide (okCells l) = false from decide_eq_false fun h => by have := h.1; rw [Hn.out] at this; omega]
    go_enter Tryd.func26, Tryd.ntmps26
    go_wp2
    go_ret
    exact ⟨rfl, Below.refl _ _⟩
  go_enter Tryd.func26, Tryd.ntmps26
  go_wp2
  go_loopw [12] (fun i wr => ∃ k : Nat, k ≤ n ∧ i = .int .i64 k ∧ Below w.heap.size w wr ∧ (∀ j e, j < k → l[j]? = some e → okBody e ∧ okKey e.k) ∧ (∀ j d e, j + 1 < k → l[j]? = some d → l[j + 1]? = some e → kl d.k e.k)) (fun i _ => n - (intOf i).toNat)
  case atStart => exact ⟨0, Nat.zero_le _, rfl, Below.refl _ _, fun j _ hj => absurd hj (by omega), fun j _ _ hj => absurd hj (by omega)⟩
  case round =>
    obtain ⟨k, hk, rfl, hbw, hall, hadj⟩ := hrel
    have HA := Lib.hid hall
    have HJ := Lib.hid hadj
    clear hall hadj
    by_cases hlt : k < n
    · obtain ⟨ad, x, rfl, hx, hl, c0, c1, c2, c3⟩ := (hr.below hbw).atC (i := k) (by rw [Hn.out]; exact hlt)
      have hxs := HS.out x (List.mem_of_getElem? hx)
      have hxk := hxs.k
      have hxv := hxs.v
      have Hx := Lib.hid hx
      clear hx
      obtain ⟨W, hW⟩ : ∃ W, W = (wr.alloc (.cells #[.string x.k, .string x.v, .int .i64 x.sz, .int .i64 x.st] 52)).drew := ⟨_, rfl⟩
      have hb0 : Below wr.heap.size wr W := by rw [hW]; exact ((Below.refl _ _).alloc (Nat.le_refl _) _).drew
      have hbx : Below (wr.alloc (.cells #[.string x.k, .string x.v, .int .i64 x.sz, .int .i64 x.st] 52)).heap.size (wr.alloc (.cells #[.string x.k, .string x.v, .int .i64 x.sz, .int .i64 x.st] 52)) W := by rw [hW]; exact (Below.refl _ _).drew
      have hbe := bthen hbw hb0
      have hlW := box_lt hbx
      have w0 := box_at hbx 0 (.string x.k) rfl
      have w1 := box_at hbx 1 (.string x.v) rfl
      have w2 := box_at hbx 2 (.int .i64 x.sz) rfl
      have w3 := box_at hbx 3 (.int .i64 x.st) rfl
      have q0 : ∀ q : Dc.Past [] W, q.val.cell? ⟨wr.heap.size, 0, none⟩ = some (.string x.k) := fun q => (q.ok.cell (by exact hlW) (by simp)).trans w0
      have HWd := Lib.hid hW
      clear hW
      have hkok : keyNo x.k = 0 → okKey x.k := (keyNo_ok x.k).1
      have hnext : okKey x.k → okBody x → ∀ j e, j < k + 1 → l[j]? = some e → okBody e ∧ okKey e.k := fun h1 h2 j e hj he => by
        rcases Nat.lt_or_ge j k with h | h
        · exact HA.out j e h he
        · have : j = k := by omega
          subst this
          rw [Hx.out] at he
          cases he
          exact ⟨h2, h1⟩
      have HNX := Lib.hid hnext
      have HKO := Lib.hid hkok
      clear hnext hkok
      by_cases hkey : keyNo x.k = 0
      · have HN2 : Hid (okBody x → ∀ j e, j < k + 1 → l[j]? = some e → okBody e ∧ okKey e.k) := HNX.out (HKO.out hkey)
        clear HNX HKO
        by_cases hk0 : k = 0
        · have HJ2 : Hid (∀ j d e, j + 1 < k + 1 → l[j]? = some d → l[j + 1]? = some e → kl d.k e.k) := fun j _ _ hj => absurd hj (by omega)
          have HG0 : Hid (decide (0 < k) = false) := decide_eq_false (by omega)
          clear hk0
          go_wp2
          refine Dc.wp_region_segs 18 [] [([0, 1], 2)] [3, 4, 5, 6, 7, 8, 9, 10, 11, 12, 13, 14, 15, 16, 17, 18] (by kernel_rfl) (by kernel_rfl) (by kernel_rfl) (by kernel_rfl) (by kernel_rfl) (by intro c a d v w h; cases d <;> exact h) ?_
          rw [← HWd.out]
          refine Dc.wpSegs_more ?_
          simp only [Dc.pick, List.getElem?_cons_zero, List.getElem?_cons_succ]
          repeat (first | go_big_quiet_step (fail) | quiet_step (fail))
          refine wpQuiet_nil ?_
          refine Dc.wpOp_heavy rfl (by rfl) (fun K hK => ?_)
          go_simp
          refine (refKey_any x.k W hxk).mono ?_
          rintro y W2 ⟨rfl, rfl⟩
          rw [hkey]
          refine hK _ _ (fun _ => Dc.But.refl _ _) ?_
          clear hK K
          refine Dc.wpSegs_last ?_
          have hgt := HG0.out
          simp only [Dc.pick, List.getElem?_cons_zero, List.getElem?_cons_succ]
          repeat (first | go_big_quiet_step (fail) | quiet_step (fail))
          refine wpQuiet_nil ?_
          have he := empty_eq x.v
          by_cases hv : x.v.size = 0
          · rw [decide_eq_true hv] at he
            by_cases hz : x.sz = 0
            · by_cases hs : x.st = 0
              · have hgood : okBody x := .inl ⟨hz, hs, by omega⟩
                go_wp2
                refine ⟨⟨k + 1, by omega, by go_num, hbe, ?_, ?_⟩, by simp [intOf]; omega⟩
                · exact HN2.out hgood
                · exact HJ2.out
              · have hbad : ¬ okBody x := by intro h; rcases h with ⟨h1, h2, h3⟩ | ⟨h1, h2, h3, h4⟩ <;> omega
                have hsb : (x.st == 0) = false := by simpa using hs
                go_wp2
                go_ret
                rw [show decide (okCells l) = false from decide_eq_false fun h => hbad (h.2.1 x (List.mem_of_getElem? Hx.out))]
                exact ⟨rfl, hbe⟩
            · by_cases hz1 : x.sz < 25
              · have hbad : ¬ okBody x := by intro h; rcases h with ⟨h1, h2, h3⟩ | ⟨h1, h2, h3, h4⟩ <;> omega
                go_wp2
                go_ret
                rw [show decide (okCells l) = false from decide_eq_false fun h => hbad (h.2.1 x (List.mem_of_getElem? Hx.out))]
                exact ⟨rfl, hbe⟩
              · by_cases hz2 : 400 < x.sz
                · have hbad : ¬ okBody x := by intro h; rcases h with ⟨h1, h2, h3⟩ | ⟨h1, h2, h3, h4⟩ <;> omega
                  go_wp2
                  go_ret
                  rw [show decide (okCells l) = false from decide_eq_false fun h => hbad (h.2.1 x (List.mem_of_getElem? Hx.out))]
                  exact ⟨rfl, hbe⟩
                · go_wp2_with fail
                  refine (refNumber_any x.st _ hxs.st).mono ?_
                  rintro e w9 ⟨rfl, rfl⟩
                  by_cases hnm : okNum x.st
                  · rw [decide_eq_true hnm]
                    have hgood : okBody x := .inr ⟨hv, by omega, by omega, hnm⟩
                    go_wp2
                    refine ⟨⟨k + 1, by omega, by go_num, hbe, ?_, ?_⟩, by simp [intOf]; omega⟩
                    · exact HN2.out hgood
                    · exact HJ2.out
                  · rw [decide_eq_false hnm]
                    have hbad : ¬ okBody x := by
                      intro h
                      rcases h with ⟨h1, h2, h3⟩ | ⟨h1, h2, h3, h4⟩
                      · omega
                      · exact hnm h4
                    go_wp2
                    go_ret
                    rw [show decide (okCells l) = false from decide_eq_false fun h => hbad (h.2.1 x (List.mem_of_getElem? Hx.out))]
                    exact ⟨rfl, hbe⟩
          · rw [decide_eq_false hv] at he
            by_cases hv2 : x.v.size ≤ 24
            · by_cases hz : x.sz = 0
              · by_cases hs : x.st = 0
                · have hgood : okBody x := .inl ⟨hz, hs, hv2⟩
                  go_wp2
                  refine ⟨⟨k + 1, by omega, by go_num, hbe, ?_, ?_⟩, by simp [intOf]; omega⟩
                  · exact HN2.out hgood
                  · exact HJ2.out
                · have hbad : ¬ okBody x := by intro h; rcases h with ⟨h1, h2, h3⟩ | ⟨h1, h2, h3, h4⟩ <;> omega
                  have hsb : (x.st == 0) = false := by simpa using hs
                  go_wp2
                  go_ret
                  rw [show decide (okCells l) = false from decide_eq_false fun h => hbad (h.2.1 x (List.mem_of_getElem? Hx.out))]
                  exact ⟨rfl, hbe⟩
              · have hbad : ¬ okBody x := by intro h; rcases h with ⟨h1, h2, h3⟩ | ⟨h1, h2, h3, h4⟩ <;> omega
                go_wp2
                go_ret
                rw [show decide (okCells l) = false from decide_eq_false fun h => hbad (h.2.1 x (List.mem_of_getElem? Hx.out))]
                exact ⟨rfl, hbe⟩
            · have hbad : ¬ okBody x := by intro h; rcases h with ⟨h1, h2, h3⟩ | ⟨h1, h2, h3, h4⟩ <;> omega
              go_wp2
              go_ret
              rw [show decide (okCells l) = false from decide_eq_false fun h => hbad (h.2.1 x (List.mem_of_getElem? Hx.out))]
              exact ⟨rfl, hbe⟩
        · obtain ⟨i, rfl⟩ : ∃ i, k = i + 1 := ⟨k - 1, by omega⟩
          obtain ⟨ad', d, e', hd, hl', p0, _, _, _⟩ := (hr.below hbe).atC (i := i) (by rw [Hn.out]; omega)
          cases e'
          have Hd := Lib.hid hd
          have hadW : ad.block < W.heap.size := hl'
          have qp : ∀ q : Dc.Past [] W, q.val.cell? (ad.add (i * 4)) = some (.string d.k) := fun q => (q.ok.cell (by rw [block_of_add]; exact hadW) (by simp)).trans p0
          have hle := less_eq d.k x.k
          clear hd hk0
          by_cases hord : kl d.k x.k
          · have HJ2 : Hid (∀ j d e, j + 1 < i + 1 + 1 → l[j]? = some d → l[j + 1]? = some e → kl d.k e.k) := fun j d' e hj h1 h2 => by
              rcases Nat.lt_or_ge (j + 1) (i + 1) with h | h
              · exact HJ.out j d' e h h1 h2
              · have : j = i := by omega
                subst this
                rw [Hd.out] at h1
                rw [Hx.out] at h2
                cases h1; cases h2
                exact hord
            rw [decide_eq_true hord] at hle
            go_wp2
            refine Dc.wp_region_segs 18 [] [([0, 1], 2)] [3, 4, 5, 6, 7, 8, 9, 10, 11, 12, 13, 14, 15, 16, 17, 18] (by kernel_rfl) (by kernel_rfl) (by kernel_rfl) (by kernel_rfl) (by kernel_rfl) (by intro c a d v w h; cases d <;> exact h) ?_
            rw [← HWd.out]
            refine Dc.wpSegs_more ?_
            simp only [Dc.pick, List.getElem?_cons_zero, List.getElem?_cons_succ]
            repeat (first | go_big_quiet_step (fail) | quiet_step (fail))
            refine wpQuiet_nil ?_
            refine Dc.wpOp_heavy rfl (by rfl) (fun K hK => ?_)
            go_simp
            refine (refKey_any x.k W hxk).mono ?_
            rintro y W2 ⟨rfl, rfl⟩
            rw [hkey]
            refine hK _ _ (fun _ => Dc.But.refl _ _) ?_
            clear hK K
            refine Dc.wpSegs_last ?_
            simp only [Dc.pick, List.getElem?_cons_zero, List.getElem?_cons_succ]
            repeat (first | go_big_quiet_step (fail) | quiet_step (fail))
            refine wpQuiet_nil ?_
            have he := empty_eq x.v
            by_cases hv : x.v.size = 0
            · rw [decide_eq_true hv] at he
              by_cases hz : x.sz = 0
              · by_cases hs : x.st = 0
                · have hgood : okBody x := .inl ⟨hz, hs, by omega⟩
                  go_wp2
                  refine ⟨⟨i + 1 + 1, by omega, by go_num, hbe, ?_, ?_⟩, by simp [intOf]; omega⟩
                  · exact HN2.out hgood
                  · exact HJ2.out
                · have hbad : ¬ okBody x := by intro h; rcases h with ⟨h1, h2, h3⟩ | ⟨h1, h2, h3, h4⟩ <;> omega
                  have hsb : (x.st == 0) = false := by simpa using hs
                  go_wp2
                  go_ret
                  rw [show decide (okCells l) = false from decide_eq_false fun h => hbad (h.2.1 x (List.mem_of_getElem? Hx.out))]
                  exact ⟨rfl, hbe⟩
              · by_cases hz1 : x.sz < 25
                · have hbad : ¬ okBody x := by intro h; rcases h with ⟨h1, h2, h3⟩ | ⟨h1, h2, h3, h4⟩ <;> omega
                  go_wp2
                  go_ret
                  rw [show decide (okCells l) = false from decide_eq_false fun h => hbad (h.2.1 x (List.mem_of_getElem? Hx.out))]
                  exact ⟨rfl, hbe⟩
                · by_cases hz2 : 400 < x.sz
                  · have hbad : ¬ okBody x := by intro h; rcases h with ⟨h1, h2, h3⟩ | ⟨h1, h2, h3, h4⟩ <;> omega
                    go_wp2
                    go_ret
                    rw [show decide (okCells l) = false from decide_eq_false fun h => hbad (h.2.1 x (List.mem_of_getElem? Hx.out))]
                    exact ⟨rfl, hbe⟩
                  · go_wp2_with fail
                    refine (refNumber_any x.st _ hxs.st).mono ?_
                    rintro e w9 ⟨rfl, rfl⟩
                    by_cases hnm : okNum x.st
                    · rw [decide_eq_true hnm]
                      have hgood : okBody x := .inr ⟨hv, by omega, by omega, hnm⟩
                      go_wp2
                      refine ⟨⟨i + 1 + 1, by omega, by go_num, hbe, ?_, ?_⟩, by simp [intOf]; omega⟩
                      · exact HN2.out hgood
                      · exact HJ2.out
                    · rw [decide_eq_false hnm]
                      have hbad : ¬ okBody x := by
                        intro h
                        rcases h with ⟨h1, h2, h3⟩ | ⟨h1, h2, h3, h4⟩
                        · omega
                        · exact hnm h4
                      go_wp2
                      go_ret
                      rw [show decide (okCells l) = false from decide_eq_false fun h => hbad (h.2.1 x (List.mem_of_getElem? Hx.out))]
                      exact ⟨rfl, hbe⟩
            · rw [decide_eq_false hv] at he
              by_cases hv2 : x.v.size ≤ 24
              · by_cases hz : x.sz = 0
                · by_cases hs : x.st = 0
                  · have hgood : okBody x := .inl ⟨hz, hs, hv2⟩
                    go_wp2
                    refine ⟨⟨i + 1 + 1, by omega, by go_num, hbe, ?_, ?_⟩, by simp [intOf]; omega⟩
                    · exact HN2.out hgood
                    · exact HJ2.out
                  · have hbad : ¬ okBody x := by intro h; rcases h with ⟨h1, h2, h3⟩ | ⟨h1, h2, h3, h4⟩ <;> omega
                    have hsb : (x.st == 0) = false := by simpa using hs
                    go_wp2
                    go_ret
                    rw [show decide (okCells l) = false from decide_eq_false fun h => hbad (h.2.1 x (List.mem_of_getElem? Hx.out))]
                    exact ⟨rfl, hbe⟩
                · have hbad : ¬ okBody x := by intro h; rcases h with ⟨h1, h2, h3⟩ | ⟨h1, h2, h3, h4⟩ <;> omega
                  go_wp2
                  go_ret
                  rw [show decide (okCells l) = false from decide_eq_false fun h => hbad (h.2.1 x (List.mem_of_getElem? Hx.out))]
                  exact ⟨rfl, hbe⟩
              · have hbad : ¬ okBody x := by intro h; rcases h with ⟨h1, h2, h3⟩ | ⟨h1, h2, h3, h4⟩ <;> omega
                go_wp2
                go_ret
                rw [show decide (okCells l) = false from decide_eq_false fun h => hbad (h.2.1 x (List.mem_of_getElem? Hx.out))]
                exact ⟨rfl, hbe⟩
          · rw [decide_eq_false hord] at hle
            go_wp2
            refine Dc.wp_region_segs 18 [] [([0, 1], 2)] [3, 4, 5, 6, 7, 8, 9, 10, 11, 12, 13, 14, 15, 16, 17, 18] (by kernel_rfl) (by kernel_rfl) (by kernel_rfl) (by kernel_rfl) (by kernel_rfl) (by intro c a d v w h; cases d <;> exact h) ?_
            rw [← HWd.out]
            refine Dc.wpSegs_more ?_
            simp only [Dc.pick, List.getElem?_cons_zero, List.getElem?_cons_succ]
            repeat (first | go_big_quiet_step (fail) | quiet_step (fail))
            refine wpQuiet_nil ?_
            refine Dc.wpOp_heavy rfl (by rfl) (fun K hK => ?_)
            go_simp
            refine (refKey_any x.k W hxk).mono ?_
            rintro y W2 ⟨rfl, rfl⟩
            rw [hkey]
            refine hK _ _ (fun _ => Dc.But.refl _ _) ?_
            clear hK K
            refine Dc.wpSegs_last ?_
            simp only [Dc.pick, List.getElem?_cons_zero, List.getElem?_cons_succ]
            repeat (first | go_big_quiet_step (fail) | quiet_step (fail))
            refine wpQuiet_nil ?_
            go_wp2
            go_ret
            rw [show decide (okCells l) = false from decide_eq_false fun h => hord (by
              have hs := h.2.2.2
              exact sorted_lt hs (Nat.lt_succ_self i) (by rw [List.getElem?_map, Hd.out]; rfl) (by rw [List.getElem?_map, Hx.out]; rfl))]
            exact ⟨rfl, hbe⟩
      · go_wp2
        refine Dc.wp_region_segs 18 [] [([0, 1], 2)] [3, 4, 5, 6, 7, 8, 9, 10, 11, 12, 13, 14, 15, 16, 17, 18] (by kernel_rfl) (by kernel_rfl) (by kernel_rfl) (by kernel_rfl) (by kernel_rfl) (by intro c a d v w h; cases d <;> exact h) ?_
        rw [← HWd.out]
        refine Dc.wpSegs_more ?_
        simp only [Dc.pick, List.getElem?_cons_zero, List.getElem?_cons_succ]
        repeat (first | go_big_quiet_step (fail) | quiet_step (fail))
        refine wpQuiet_nil ?_
        refine Dc.wpOp_heavy rfl (by rfl) (fun K hK => ?_)
        go_simp
        refine (refKey_any x.k W hxk).mono ?_
        rintro y W2 ⟨rfl, rfl⟩
        refine hK _ _ (fun _ => Dc.But.refl _ _) ?_
        clear hK K
        refine Dc.wpSegs_last ?_
        simp only [Dc.pick, List.getElem?_cons_zero, List.getElem?_cons_succ]
        repeat (first | go_big_quiet_step (fail) | quiet_step (fail))
        refine wpQuiet_nil ?_
        go_wp2
        go_ret
        rw [show decide (okCells l) = false from decide_eq_false fun h => hkey ((keyNo_ok x.k).2 (okKeys_cells h.2.2 (List.mem_of_getElem? Hx.out)))]
        exact ⟨rfl, hbe⟩
    · have he : k = n := by omega
      subst he
      go_wp2
      go_ret
      rw [show decide (okCells l) = true from decide_eq_true ⟨by rw [Hn.out]; omega, fun c hc => by
        obtain ⟨j, hj⟩ := List.getElem?_of_mem hc
        exact (HA.out j c (by have := (List.getElem?_eq_some_iff.1 hj).1; rw [Hn.out] at this; exact this) hj).1, fun e he => by
        obtain ⟨c, hc, rfl⟩ := List.mem_map.1 he
        obtain ⟨j, hj⟩ := List.getElem?_of_mem hc
        exact (HA.out j c (by have := (List.getElem?_eq_some_iff.1 hj).1; rw [Hn.out] at this; exact this) hj).2, sorted_of_adj fun j d e hd he => by
        rw [List.getElem?_map] at hd he
        obtain ⟨d', hd', rfl⟩ := Option.map_eq_some_iff.1 hd
        obtain ⟨e', he', rfl⟩ := Option.map_eq_some_iff.1 he
        exact HJ.out j d' e' (by have := (List.getElem?_eq_some_iff.1 he').1; rw [Hn.out] at this; exact this) hd' he'⟩]
      exact ⟨rfl, hbw⟩

end Go.Proofs.YtgicomadlhnkjaaDoor
