/-
  The contracts of the document's answers kids and Right: whether a page can be; conditions: its slices can be read, its numbers and strings are as Bd says.
-/
import Derived.Test.YtgicomadlhnkjaaDoorPageMade
namespace Go.Proofs.YtgicomadlhnkjaaDoor
open Go.RowKit Go.Sort
set_option linter.unusedVariables false

set_option maxHeartbeats 4000000 in
set_option maxRecDepth 100000 in
theorem refKids_any (A : Option Addr) (n c : Nat) (l : List PK) (w : World) (hr : Ls pcK w A l) (hn : l.length = n) (hb : n ≤ 100000000000) (hs : ∀ e ∈ l, BdK e) :
    Calls Tryd.prog 27 #[.slice A n c] w fun e w' => e = .returned (.bool (decide (okKids l))) ∧ Below w.heap.size w w' := by
  have Hn := Lib.hid hn
  have HS := Lib.hid hs
  clear hn hs
  by_cases g2 : n < 2
  · rw [show decide (okKids l) = false from decide_eq_false fun h => by have := h.1; rw [Hn.out] at this; omega]
    go_enter Tryd.func27, Tryd.ntmps27
    go_wp2
    go_ret
    exact ⟨rfl, Below.refl _ _⟩
  by_cases g6 : 6 < n
  · rw [show decide (okKids l) = false from decide_eq_false fun h => by have := h.2.1; rw [Hn.out] at this; omega]
    go_enter Tryd.func27, Tryd.ntmps27
    go_wp2
    go_ret
    exact ⟨rfl, Below.refl _ _⟩
  go_enter Tryd.func27, Tryd.ntmps27
  go_wp2
  go_loopw [14] (fun i wr => ∃ k : Nat, k ≤ n ∧ i = .int .i64 k ∧ Below w.heap.size w wr ∧ (∀ j e, j < k → l[j]? = some e → okNum e.pg ∧ okKey e.k) ∧ (∀ j d e, j + 1 < k → l[j]? = some d → l[j + 1]? = some e → kl d.k e.k)) (fun i _ => n - (intOf i).toNat)
  case atStart => exact ⟨0, Nat.zero_le _, rfl, Below.refl _ _, fun j _ hj => absurd hj (by omega), fun j _ _ hj => absurd hj (by omega)⟩
  case round =>
    obtain ⟨k, hk, rfl, hbw, hall, hadj⟩ := hrel
    have HA := Lib.hid hall
    have HJ := Lib.hid hadj
    clear hall hadj
    by_cases hlt : k < n
    · obtain ⟨ad, x, rfl, hx, hl, c0, c1⟩ := (hr.below hbw).atK (i := k) (by rw [Hn.out]; exact hlt)
      have hxs := HS.out x (List.mem_of_getElem? hx)
      have hxk := hxs.k
      have Hx := Lib.hid hx
      clear hx
      obtain ⟨W, hW⟩ : ∃ W, W = wr.drew := ⟨_, rfl⟩
      have hbe : Below w.heap.size w W := by rw [hW]; exact hbw.drew
      have hadW : ad.block < W.heap.size := by rw [hW]; exact hl
      have q0 : ∀ q : Dc.Past [] W, q.val.cell? (ad.add (k * 2)) = some (.string x.k) := fun q => (q.ok.cell (by rw [block_of_add]; exact hadW) (by simp)).trans (by rw [hW]; exact c0)
      have q1 : ∀ q : Dc.Past [] W, q.val.cell? ⟨(ad.add (k * 2)).block, (ad.add (k * 2)).off + 1, none⟩ = some (.int .i64 x.pg) := fun q => (q.ok.cell (by simp only [block_of_add]; exact hadW) (by simp)).trans (by rw [hW]; exact c1)
      have HWd := Lib.hid hW
      clear hW
      have hkok : keyNo x.k = 0 → okKey x.k := (keyNo_ok x.k).1
      have hnext : okKey x.k → okNum x.pg → ∀ j e, j < k + 1 → l[j]? = some e → okNum e.pg ∧ okKey e.k := fun h1 h2 j e hj he => by
        rcases Nat.lt_or_ge j k with h | h
        · exact HA.out j e h he
        · have : j = k := by omega
          subst this
          rw [Hx.out] at he
          cases he
          exact ⟨h2, h1⟩
      have HNX := Lib.hid hnext
      have HKO := Lib.hid hkok
      clear hnext hkok
      by_cases hkey : keyNo x.k = 0
      · have HN2 : Hid (okNum x.pg → ∀ j e, j < k + 1 → l[j]? = some e → okNum e.pg ∧ okKey e.k) := HNX.out (HKO.out hkey)
        clear HNX HKO
        by_cases hk0 : k = 0
        · have HJ2 : Hid (∀ j d e, j + 1 < k + 1 → l[j]? = some d → l[j + 1]? = some e → kl d.k e.k) := fun j _ _ hj => absurd hj (by omega)
          have HG0 : Hid (decide (0 < k) = false) := decide_eq_false (by omega)
          clear hk0
          go_wp2
          refine Dc.wp_region_segs 33 [] [([0, 1, 2, 3, 4], 5), ([6, 7, 8, 9, 10, 11, 12, 13, 14, 15, 16, 17, 18, 19, 20, 21, 22, 23, 24, 25, 26, 27, 28, 29, 30], 31)] [32, 33] (by kernel_rfl) (by kernel_rfl) (by kernel_rfl) (by kernel_rfl) (by kernel_rfl) (by intro c a d v w h; cases d <;> exact h) ?_
          rw [← HWd.out]
          refine Dc.wpSegs_more ?_
          simp only [Dc.pick, List.getElem?_cons_zero, List.getElem?_cons_succ]
          repeat (first | go_big_quiet_step (fail) | quiet_step (fail))
          refine wpQuiet_nil ?_
          refine Dc.wpOp_heavy rfl (by rfl) (fun K hK => ?_)
          go_simp
          refine (refKey_any x.k W hxk).mono ?_
          rintro y W2 ⟨rfl, rfl⟩
          rw [hkey]
          refine hK _ _ (fun _ => Dc.But.refl _ _) ?_
          clear hK K
          refine Dc.wpSegs_more ?_
          have hgt := HG0.out
          simp only [Dc.pick, List.getElem?_cons_zero, List.getElem?_cons_succ]
          repeat (first | go_big_quiet_step (fail) | quiet_step (fail))
          refine wpQuiet_nil ?_
          refine Dc.wpOp_heavy rfl (by rfl) (fun K hK => ?_)
          go_simp
          refine (refNumber_any x.pg W hxs.pg).mono ?_
          rintro y W2 ⟨rfl, rfl⟩
          refine hK _ _ (fun _ => Dc.But.refl _ _) ?_
          clear hK K
          refine Dc.wpSegs_last ?_
          simp only [Dc.pick, List.getElem?_cons_zero, List.getElem?_cons_succ]
          repeat (first | go_big_quiet_step (fail) | quiet_step (fail))
          refine wpQuiet_nil ?_
          by_cases hnm : okNum x.pg
          · simp only [decide_eq_true hnm] at *
            go_wp2
            refine ⟨⟨k + 1, by omega, by go_num, hbe, ?_, ?_⟩, by simp [intOf]; omega⟩
            · exact HN2.out hnm
            · exact HJ2.out
          · simp only [decide_eq_false hnm] at *
            go_wp2
            go_ret
            rw [show decide (okKids l) = false from decide_eq_false fun h => hnm (h.2.2.1 x (List.mem_of_getElem? Hx.out))]
            exact ⟨rfl, hbe⟩
        · obtain ⟨i, rfl⟩ : ∃ i, k = i + 1 := ⟨k - 1, by omega⟩
          obtain ⟨ad', d, e', hd, hl', p0, _⟩ := (hr.below hbe).atK (i := i) (by rw [Hn.out]; omega)
          cases e'
          have Hd := Lib.hid hd
          have qp : ∀ q : Dc.Past [] W, q.val.cell? (ad.add (i * 2)) = some (.string d.k) := fun q => (q.ok.cell (by rw [block_of_add]; exact hadW) (by simp)).trans p0
          have hle := less_eq d.k x.k
          clear hd hk0
          by_cases hord : kl d.k x.k
          · have HJ2 : Hid (∀ j d e, j + 1 < i + 1 + 1 → l[j]? = some d → l[j + 1]? = some e → kl d.k e.k) := fun j d' e hj h1 h2 => by
              rcases Nat.lt_or_ge (j + 1) (i + 1) with h | h
              · exact HJ.out j d' e h h1 h2
              · have : j = i := by omega
                subst this
                rw [Hd.out] at h1
                rw [Hx.out] at h2
                cases h1; cases h2
                exact hord
            rw [decide_eq_true hord] at hle
            go_wp2
            refine Dc.wp_region_segs 33 [] [([0, 1, 2, 3, 4], 5), ([6, 7, 8, 9, 10, 11, 12, 13, 14, 15, 16, 17, 18, 19, 20, 21, 22, 23, 24, 25, 26, 27, 28, 29, 30], 31)] [32, 33] (by kernel_rfl) (by kernel_rfl) (by kernel_rfl) (by kernel_rfl) (by kernel_rfl) (by intro c a d v w h; cases d <;> exact h) ?_
            rw [← HWd.out]
            refine Dc.wpSegs_more ?_
            simp only [Dc.pick, List.getElem?_cons_zero, List.getElem?_cons_succ]
            repeat (first | go_big_quiet_step (fail) | quiet_step (fail))
            refine wpQuiet_nil ?_
            refine Dc.wpOp_heavy rfl (by rfl) (fun K hK => ?_)
            go_simp
            refine (refKey_any x.k W hxk).mono ?_
            rintro y W2 ⟨rfl, rfl⟩
            rw [hkey]
            refine hK _ _ (fun _ => Dc.But.refl _ _) ?_
            clear hK K
            refine Dc.wpSegs_more ?_
            simp only [Dc.pick, List.getElem?_cons_zero, List.getElem?_cons_succ]
            repeat (first | go_big_quiet_step (fail) | quiet_step (fail))
            refine wpQuiet_nil ?_
            refine Dc.wpOp_heavy rfl (by rfl) (fun K hK => ?_)
            go_simp
            refine (refNumber_any x.pg W hxs.pg).mono ?_
            rintro y W2 ⟨rfl, rfl⟩
            refine hK _ _ (fun _ => Dc.But.refl _ _) ?_
            clear hK K
            refine Dc.wpSegs_last ?_
            simp only [Dc.pick, List.getElem?_cons_zero, List.getElem?_cons_succ]
            repeat (first | go_big_quiet_step (fail) | quiet_step (fail))
            refine wpQuiet_nil ?_
            by_cases hnm : okNum x.pg
            · simp only [decide_eq_true hnm] at *
              go_wp2
              refine ⟨⟨i + 1 + 1, by omega, by go_num, hbe, ?_, ?_⟩, by simp [intOf]; omega⟩
              · exact HN2.out hnm
              · exact HJ2.out
            · simp only [decide_eq_false hnm] at *
              go_wp2
              go_ret
              rw [show decide (okKids l) = false from decide_eq_false fun h => hnm (h.2.2.1 x (List.mem_of_getElem? Hx.out))]
              exact ⟨rfl, hbe⟩
          · rw [decide_eq_false hord] at hle
            go_wp2
            refine Dc.wp_region_segs 33 [] [([0, 1, 2, 3, 4], 5), ([6, 7, 8, 9, 10, 11, 12, 13, 14, 15, 16, 17, 18, 19, 20, 21, 22, 23, 24, 25, 26, 27, 28, 29, 30], 31)] [32, 33] (by kernel_rfl) (by kernel_rfl) (by kernel_rfl) (by kernel_rfl) (by kernel_rfl) (by intro c a d v w h; cases d <;> exact h) ?_
            rw [← HWd.out]
            refine Dc.wpSegs_more ?_
            simp only [Dc.pick, List.getElem?_cons_zero, List.getElem?_cons_succ]
            repeat (first | go_big_quiet_step (fail) | quiet_step (fail))
            refine wpQuiet_nil ?_
            refine Dc.wpOp_heavy rfl (by rfl) (fun K hK => ?_)
            go_simp
            refine (refKey_any x.k W hxk).mono ?_
            rintro y W2 ⟨rfl, rfl⟩
            rw [hkey]
            refine hK _ _ (fun _ => Dc.But.refl _ _) ?_
            clear hK K
            refine Dc.wpSegs_more ?_
            simp only [Dc.pick, List.getElem?_cons_zero, List.getElem?_cons_succ]
            repeat (first | go_big_quiet_step (fail) | quiet_step (fail))
            refine wpQuiet_nil ?_
            refine Dc.wpOp_idle rfl (by rfl) ?_
            go_simp
            refine Dc.wpSegs_last ?_
            simp only [Dc.pick, List.getElem?_cons_zero, List.getElem?_cons_succ]
            repeat (first | go_big_quiet_step (fail) | quiet_step (fail))
            refine wpQuiet_nil ?_
            go_wp2
            go_ret
            rw [show decide (okKids l) = false from decide_eq_false fun h => hord (by
              have hs := h.2.2.2.2
              exact sorted_lt hs (Nat.lt_succ_self i) (by rw [List.getElem?_map, Hd.out]; rfl) (by rw [List.getElem?_map, Hx.out]; rfl))]
            exact ⟨rfl, hbe⟩
      · go_wp2
        refine Dc.wp_region_segs 33 [] [([0, 1, 2, 3, 4], 5), ([6, 7, 8, 9, 10, 11, 12, 13, 14, 15, 16, 17, 18, 19, 20, 21, 22, 23, 24, 25, 26, 27, 28, 29, 30], 31)] [32, 33] (by kernel_rfl) (by kernel_rfl) (by kernel_rfl) (by kernel_rfl) (by kernel_rfl) (by intro c a d v w h; cases d <;> exact h) ?_
        rw [← HWd.out]
        refine Dc.wpSegs_more ?_
        simp only [Dc.pick, List.getElem?_cons_zero, List.getElem?_cons_succ]
        repeat (first | go_big_quiet_step (fail) | quiet_step (fail))
        refine wpQuiet_nil ?_
        refine Dc.wpOp_heavy rfl (by rfl) (fun K hK => ?_)
        go_simp
        refine (refKey_any x.k W hxk).mono ?_
        rintro y W2 ⟨rfl, rfl⟩
        refine hK _ _ (fun _ => Dc.But.refl _ _) ?_
        clear hK K
        refine Dc.wpSegs_more ?_
        simp only [Dc.pick, List.getElem?_cons_zero, List.getElem?_cons_succ]
        repeat (first | go_big_quiet_step (fail) | quiet_step (fail))
        refine wpQuiet_nil ?_
        refine Dc.wpOp_idle rfl (by rfl) ?_
        go_simp
        refine Dc.wpSegs_last ?_
        simp only [Dc.pick, List.getElem?_cons_zero, List.getElem?_cons_succ]
        repeat (first | go_big_quiet_step (fail) | quiet_step (fail))
        refine wpQuiet_nil ?_
        go_wp2
        go_ret
        rw [show decide (okKids l) = false from decide_eq_false fun h => hkey ((keyNo_ok x.k).2 (okKeys_kids h.2.2.2 (List.mem_of_getElem? Hx.out)))]
        exact ⟨rfl, hbe⟩
    · have he : k = n := by omega
      subst he
      go_wp2
      go_ret
      rw [show decide (okKids l) = true from decide_eq_true ⟨by rw [Hn.out]; omega, by rw [Hn.out]; omega, fun c hc => by
        obtain ⟨j, hj⟩ := List.getElem?_of_mem hc
        exact (HA.out j c (by have := (List.getElem?_eq_some_iff.1 hj).1; rw [Hn.out] at this; exact this) hj).1, fun e he => by
        obtain ⟨c, hc, rfl⟩ := List.mem_map.1 he
        obtain ⟨j, hj⟩ := List.getElem?_of_mem hc
        exact (HA.out j c (by have := (List.getElem?_eq_some_iff.1 hj).1; rw [Hn.out] at this; exact this) hj).2, sorted_of_adj fun j d e hd he => by
        rw [List.getElem?_map] at hd he
        obtain ⟨d', hd', rfl⟩ := Option.map_eq_some_iff.1 hd
        obtain ⟨e', he', rfl⟩ := Option.map_eq_some_iff.1 he
        exact HJ.out j d' e' (by have := (List.getElem?_eq_some_iff.1 he').1; rw [Hn.out] at this; exact this) hd' he'⟩]
      exact ⟨rfl, hbw⟩

end Go.Proofs.YtgicomadlhnkjaaDoor
