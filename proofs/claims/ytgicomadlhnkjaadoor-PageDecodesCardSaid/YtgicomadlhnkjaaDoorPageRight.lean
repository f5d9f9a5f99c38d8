/-
  The contracts of page.rightCells, rightKids and Right: whether a page can be; conditions: its slices can be read, its numbers and strings are as Bd says.
-/
import Derived.Test.YtgicomadlhnkjaaDoorPageMem
import Derived.Test.YtgicomadlhnkjaaDoorPairRef
namespace Go.Proofs.YtgicomadlhnkjaaDoor
open Go.RowKit Go.Sort
set_option linter.unusedVariables false

theorem own_none (W : World) : Own (W.alloc (.cells #[] 88)) W.heap.size (.slice (some ⟨W.heap.size, 0, none⟩) 0 0) [] :=
  ⟨rfl, .inr ⟨W.heap.size, 0, _, rfl, Nat.le_refl _, heap_alloc_new W _, Nat.le_refl _, by simp [maxLen], rfl, rfl⟩⟩
theorem take_snocA {α : Type} {l : List α} {k : Nat} {x : α} (h : l[k]? = some x) : l.take (k + 1) = l.take k ++ [x] := by
  have hk := (List.getElem?_eq_some_iff.1 h).1
  rw [List.take_add_one, h]
  rfl

set_option maxHeartbeats 400000 in
theorem rightCells_any (A : Option Addr) (n c : Nat) (l : List PC) (w : World) (hr : Ls pcC w A l) (hn : l.length = n) (hb : n ≤ 100000000000) (hs : ∀ e ∈ l, BdC e) :
    Calls Tryd.prog 23 #[.slice A n c] w fun e w' => e = .returned (.bool (decide (okCells l))) ∧ Below w.heap.size w w' := by
  have Hn := Lib.hid hn
  have HS := Lib.hid hs
  clear hn hs
  by_cases h4 : 4 < n
  · rw [show decide (okCells l) = false from decide_eq_false fun h => by have := h.1; rw [Hn.out] at this; omega]
    go_enter Tryd.func23, Tryd.ntmps23
    go_wp2
    go_ret
    exact ⟨rfl, Below.refl _ _⟩
  · have h0 := own_none w
    have hb0 : Below w.heap.size w (w.alloc (.cells #[] 88)) := (Below.refl _ _).alloc (Nat.le_refl _) _
    have H0 := Lib.hid h0
    clear h0
    go_enter Tryd.func23, Tryd.ntmps23
    go_wp2
    go_loopw [3, 12] (fun s3 i wr => ∃ k : Nat, k ≤ n ∧ i = .int .i64 k ∧ Own wr w.heap.size s3 ((l.take k).map PC.key) ∧ Below w.heap.size w wr ∧ ∀ j e, j < k → l[j]? = some e → okBody e) (fun _ i _ => n - (intOf i).toNat)
    case atStart => exact ⟨0, Nat.zero_le _, rfl, H0.out, hb0, fun j _ hj => absurd hj (by omega)⟩
    case round =>
      obtain ⟨k, hk, rfl, hown, hbw, hall⟩ := hrel
      have HA := Lib.hid hall
      have HO := Lib.hid hown
      clear hall hown
      by_cases hlt : k < n
      · obtain ⟨ad, x, rfl, hx, hl, c1, c2, c3, c4⟩ := (hr.below hbw).atC (i := k) (by rw [Hn.out]; exact hlt)
        have hxs := HS.out x (List.mem_of_getElem? hx)
        have Hx := Lib.hid hx
        clear hx
        go_wp2_with fail
        have hb1 : Below w.heap.size w (wr.alloc (.cells #[.string x.k, .string x.v, .int .i64 x.sz, .int .i64 x.st] 57)) := hbw.alloc hbw.size _
        have hc0 : (wr.alloc (.cells #[.string x.k, .string x.v, .int .i64 x.sz, .int .i64 x.st] 57)).cell? ⟨wr.heap.size, 0, none⟩ = some (.string x.k) := new_row wr #[.string x.k, .string x.v, .int .i64 x.sz, .int .i64 x.st] 57 0 _ rfl
        have hb01 : Below wr.heap.size wr (wr.alloc (.cells #[.string x.k, .string x.v, .int .i64 x.sz, .int .i64 x.st] 57)) := (Below.refl _ _).alloc (Nat.le_refl _) _
        refine (rightContent_any x _ hxs).mono ?_
        rintro e w1 ⟨rfl, hb2⟩
        have hc1 : w1.cell? ⟨wr.heap.size, 0, none⟩ = some (.string x.k) := (hb2.cell (by simp)).trans hc0
        have hb3 := bthen hb1 hb2
        have HO1 : Hid (Own w1 w.heap.size u3 ((l.take k).map PC.key)) := HO.out.below (bthen hb01 hb2)
        clear hc0 hb1 hb2 c1 c2 c3 c4 hb01
        by_cases hd : okBody x
        · rw [decide_eq_true hd]
          obtain ⟨v', w2, hrun, hown2, hbw2, hsz2⟩ := append_one HO1.out hb3 hb3.size x.key (by rw [List.length_map, List.length_take]; omega)
          have HR := Lib.hid hrun
          have HO2 := Lib.hid hown2
          clear hrun hown2
          go_wp2_with (at_builtin; refine wpList_append_ran rfl (.tmp 19) (.tmp 23) 85 rfl _ _ _ _ rfl rfl HR.out ?_)
          refine ⟨⟨k + 1, by omega, by go_num, ?_, hbw2, fun j e hj he => ?_⟩, by simp [intOf]; omega⟩
          · rw [take_snocA Hx.out, List.map_append]
            exact HO2.out
          · rcases Nat.lt_or_ge j k with h | h
            · exact HA.out j e h he
            · have : j = k := by omega
              subst this
              rw [Hx.out] at he
              cases he
              exact hd
        · rw [decide_eq_false hd]
          go_wp2
          go_ret
          rw [show decide (okCells l) = false from decide_eq_false fun h => hd (h.2.1 x (List.mem_of_getElem? Hx.out))]
          exact ⟨rfl, hb3⟩
      · have he : k = n := by omega
        subst he
        have HO1 : Hid (Own wr w.heap.size u3 (l.map PC.key)) := by
          have := HO.out
          rwa [List.take_of_length_le (by rw [Hn.out]; exact Nat.le_refl _)] at this
        obtain ⟨A', c', rfl, hc', hes⟩ := HO1.out.form
        have hlen : (l.map PC.key).length = k := by rw [List.length_map, Hn.out]
        rw [hlen] at hc' ⊢
        go_wp2_with fail
        refine (rightKeys_any A' k c' (l.map PC.key) wr hes (by rw [List.length_map, Hn.out]) hb (fun e he => ?_)).mono ?_
        · obtain ⟨x, hx, rfl⟩ := List.mem_map.1 he
          exact (HS.out x hx).k
        rintro e w1 ⟨rfl, hb1⟩
        go_wp2
        go_ret
        rw [show decide (okCells l) = decide (okKeys (l.map PC.key)) from decide_eq_decide.2 ⟨fun h => h.2.2, fun h => ⟨by rw [Hn.out]; omega, fun e he => by
          obtain ⟨j, hj⟩ := List.getElem?_of_mem he
          exact HA.out j e (by have := (List.getElem?_eq_some_iff.1 hj).1; rw [Hn.out] at this; exact this) hj, h⟩⟩]
        exact ⟨rfl, bthen hbw hb1⟩

set_option maxHeartbeats 400000 in
theorem rightKids_any (A : Option Addr) (n c : Nat) (l : List PK) (w : World) (hr : Ls pcK w A l) (hn : l.length = n) (hb : n ≤ 100000000000) (hs : ∀ e ∈ l, BdK e) :
    Calls Tryd.prog 24 #[.slice A n c] w fun e w' => e = .returned (.bool (decide (okKids l))) ∧ Below w.heap.size w w' := by
  have Hn := Lib.hid hn
  have HS := Lib.hid hs
  clear hn hs
  by_cases h2 : n < 2
  · rw [show decide (okKids l) = false from decide_eq_false fun h => by have := h.1; rw [Hn.out] at this; omega]
    go_enter Tryd.func24, Tryd.ntmps24
    go_wp2
    go_ret
    exact ⟨rfl, Below.refl _ _⟩
  by_cases h4 : 6 < n
  · rw [show decide (okKids l) = false from decide_eq_false fun h => by have := h.2.1; rw [Hn.out] at this; omega]
    go_enter Tryd.func24, Tryd.ntmps24
    go_wp2
    go_ret
    exact ⟨rfl, Below.refl _ _⟩
  · have h0 := own_none w
    have hb0 : Below w.heap.size w (w.alloc (.cells #[] 88)) := (Below.refl _ _).alloc (Nat.le_refl _) _
    have H0 := Lib.hid h0
    clear h0
    go_enter Tryd.func24, Tryd.ntmps24
    go_wp2
    go_loopw [3, 17] (fun s3 i wr => ∃ k : Nat, k ≤ n ∧ i = .int .i64 k ∧ Own wr w.heap.size s3 ((l.take k).map PK.key) ∧ Below w.heap.size w wr ∧ ∀ j e, j < k → l[j]? = some e → okNum e.pg) (fun _ i _ => n - (intOf i).toNat)
    case atStart => exact ⟨0, Nat.zero_le _, rfl, H0.out, hb0, fun j _ hj => absurd hj (by omega)⟩
    case round =>
      obtain ⟨k, hk, rfl, hown, hbw, hall⟩ := hrel
      have HA := Lib.hid hall
      have HO := Lib.hid hown
      clear hall hown
      by_cases hlt : k < n
      · obtain ⟨ad, x, rfl, hx, hl, c1, c2⟩ := (hr.below hbw).atK (i := k) (by rw [Hn.out]; exact hlt)
        have hxs := HS.out x (List.mem_of_getElem? hx)
        have Hx := Lib.hid hx
        clear hx
        go_wp2_with fail
        have hb1 : Below w.heap.size w (wr.alloc (.cells #[.string x.k, .int .i64 x.pg] 58)) := hbw.alloc hbw.size _
        have hc0 : (wr.alloc (.cells #[.string x.k, .int .i64 x.pg] 58)).cell? ⟨wr.heap.size, 0, none⟩ = some (.string x.k) := new_row wr #[.string x.k, .int .i64 x.pg] 58 0 _ rfl
        have hb01 : Below wr.heap.size wr (wr.alloc (.cells #[.string x.k, .int .i64 x.pg] 58)) := (Below.refl _ _).alloc (Nat.le_refl _) _
        refine (isNumber_any x.pg _ hxs.pg).mono ?_
        rintro e w0 ⟨rfl, rfl⟩
        obtain ⟨w1, hw1⟩ : ∃ w1, w1 = wr.alloc (.cells #[.string x.k, .int .i64 x.pg] 58) := ⟨_, rfl⟩
        rw [← hw1] at hc0 hb1 hb01 ⊢
        have HW := Lib.hid hw1
        clear hw1
        have hb3 := hb1
        have HO1 : Hid (Own w1 w.heap.size u3 ((l.take k).map PK.key)) := HO.out.below hb01
        clear hb1 c1 c2 hb01
        by_cases hd : okNum x.pg
        · rw [decide_eq_true hd]
          obtain ⟨v', w2, hrun, hown2, hbw2, hsz2⟩ := append_one HO1.out hb3 hb3.size x.key (by rw [List.length_map, List.length_take]; omega)
          have HR := Lib.hid hrun
          have HO2 := Lib.hid hown2
          clear hrun hown2
          go_wp2_with (at_builtin; refine wpList_append_ran rfl (.tmp 25) (.tmp 29) 85 rfl _ _ _ _ rfl rfl HR.out ?_)
          refine ⟨⟨k + 1, by omega, by go_num, ?_, hbw2, fun j e hj he => ?_⟩, by simp [intOf]; omega⟩
          · rw [take_snocA Hx.out, List.map_append]
            exact HO2.out
          · rcases Nat.lt_or_ge j k with h | h
            · exact HA.out j e h he
            · have : j = k := by omega
              subst this
              rw [Hx.out] at he
              cases he
              exact hd
        · rw [decide_eq_false hd]
          go_wp2
          go_ret
          rw [show decide (okKids l) = false from decide_eq_false fun h => hd (h.2.2.1 x (List.mem_of_getElem? Hx.out))]
          exact ⟨rfl, hb3⟩
      · have he : k = n := by omega
        subst he
        have HO1 : Hid (Own wr w.heap.size u3 (l.map PK.key)) := by
          have := HO.out
          rwa [List.take_of_length_le (by rw [Hn.out]; exact Nat.le_refl _)] at this
        obtain ⟨A', c', rfl, hc', hes⟩ := HO1.out.form
        have hlen : (l.map PK.key).length = k := by rw [List.length_map, Hn.out]
        rw [hlen] at hc' ⊢
        go_wp2_with fail
        refine (rightKeys_any A' k c' (l.map PK.key) wr hes (by rw [List.length_map, Hn.out]) hb (fun e he => ?_)).mono ?_
        · obtain ⟨x, hx, rfl⟩ := List.mem_map.1 he
          exact (HS.out x hx).k
        rintro e w1 ⟨rfl, hb1⟩
        go_wp2
        go_ret
        rw [show decide (okKids l) = decide (okKeys (l.map PK.key)) from decide_eq_decide.2 ⟨fun h => h.2.2.2, fun h => ⟨by rw [Hn.out]; omega, by rw [Hn.out]; omega, fun e he => by
          obtain ⟨j, hj⟩ := List.getElem?_of_mem he
          exact HA.out j e (by have := (List.getElem?_eq_some_iff.1 hj).1; rw [Hn.out] at this; exact this) hj, h⟩⟩]
        exact ⟨rfl, bthen hbw hb1⟩

def pageV (p : PP) (A : Option Addr) (a : Nat) (B : Option Addr) (b : Nat) : Value := .agg #[.int .i64 p.kind, .slice A p.cells.length a, .slice B p.kids.length b, .string p.piece, .int .i64 p.next]

theorem ok_kind1 {p : PP} (h : okPage p) (hk : p.kind = 1) : okLeaf p := by
  rcases h with ⟨_, h⟩ | ⟨h, _⟩ | ⟨h, _⟩
  · exact h
  · omega
  · omega
theorem ok_kind2 {p : PP} (h : okPage p) (hk : p.kind = 2) : okBranch p := by
  rcases h with ⟨h, _⟩ | ⟨_, h⟩ | ⟨h, _⟩
  · omega
  · exact h
  · omega
theorem ok_kind3 {p : PP} (h : okPage p) (hk : p.kind = 3) : okChain p := by
  rcases h with ⟨h, _⟩ | ⟨h, _⟩ | ⟨_, h⟩
  · omega
  · omega
  · exact h

set_option maxHeartbeats 1000000 in
theorem right_any (p : PP) (A B : Option Addr) (a b : Nat) (w : World) (hA : Ls pcC w A p.cells) (hB : Ls pcK w B p.kids) (hp : Bd p) :
    Calls Tryd.prog 14 #[pageV p A a B b] w fun e w' => e = .returned (.bool (decide (okPage p))) ∧ Below w.heap.size w w' := by
  obtain ⟨pk, pc, pd, pp, pn⟩ := p
  obtain ⟨b1, b2, b3, b4, b5, b6, b7⟩ := hp
  unfold pageV
  simp only at *
  have he := empty_eq pp
  obtain ⟨n, hn⟩ : ∃ n, n = pc.length := ⟨_, rfl⟩
  obtain ⟨m, hm⟩ : ∃ m, m = pd.length := ⟨_, rfl⟩
  rw [← hn] at b4 ⊢
  rw [← hm] at b5 ⊢
  have Hn := Lib.hid hn
  have Hm := Lib.hid hm
  have H6 := Lib.hid b6
  have H7 := Lib.hid b7
  have hno : True := trivial
  clear hn hm b6 b7
  by_cases k1 : pk = 1
  · subst k1
    by_cases g1 : m = 0
    · by_cases g2 : pp.size = 0
      · rw [decide_eq_true g2] at he
        by_cases g3 : pn = 0
        · rw [show decide (okPage ⟨_, pc, pd, pp, pn⟩) = decide (okCells pc) from decide_eq_decide.2 ⟨fun h => (ok_kind1 h rfl).2.2.2, fun h => .inl ⟨rfl, Hm.out.symm.trans g1, g2, g3, h⟩⟩]
          clear hno
          go_enter Tryd.func14, Tryd.ntmps14
          go_wp2_with fail
          refine (rightCells_any A n a pc _ (hA.below ((Below.refl _ _).alloc (Nat.le_refl _) _)) Hn.out.symm b4 H6.out).mono ?_
          rintro e w1 ⟨rfl, hb1⟩
          go_wp2
          go_ret
          exact ⟨rfl, bthen ((Below.refl _ _).alloc (Nat.le_refl _) _) hb1⟩
        · rw [show decide (okPage ⟨_, pc, pd, pp, pn⟩) = false from decide_eq_false fun h => g3 (ok_kind1 h rfl).2.2.1]
          go_enter Tryd.func14, Tryd.ntmps14
          go_wp2
          go_ret
          exact ⟨rfl, (Below.refl _ _).alloc (Nat.le_refl _) _⟩
      · rw [decide_eq_false g2] at he
        rw [show decide (okPage ⟨_, pc, pd, pp, pn⟩) = false from decide_eq_false fun h => g2 (ok_kind1 h rfl).2.1]
        go_enter Tryd.func14, Tryd.ntmps14
        go_wp2
        go_ret
        exact ⟨rfl, (Below.refl _ _).alloc (Nat.le_refl _) _⟩
    · rw [show decide (okPage ⟨_, pc, pd, pp, pn⟩) = false from decide_eq_false fun h => g1 (Hm.out.trans (ok_kind1 h rfl).1)]
      go_enter Tryd.func14, Tryd.ntmps14
      go_wp2
      go_ret
      exact ⟨rfl, (Below.refl _ _).alloc (Nat.le_refl _) _⟩
  by_cases k2 : pk = 2
  · subst k2
    by_cases g1 : n = 0
    · by_cases g2 : pp.size = 0
      · rw [decide_eq_true g2] at he
        by_cases g3 : pn = 0
        · rw [show decide (okPage ⟨_, pc, pd, pp, pn⟩) = decide (okKids pd) from decide_eq_decide.2 ⟨fun h => (ok_kind2 h rfl).2.2.2, fun h => .inr (.inl ⟨rfl, Hn.out.symm.trans g1, g2, g3, h⟩)⟩]
          clear hno
          go_enter Tryd.func14, Tryd.ntmps14
          go_wp2_with fail
          refine (rightKids_any B m b pd _ (hB.below ((Below.refl _ _).alloc (Nat.le_refl _) _)) Hm.out.symm b5 H7.out).mono ?_
          rintro e w1 ⟨rfl, hb1⟩
          go_wp2
          go_ret
          exact ⟨rfl, bthen ((Below.refl _ _).alloc (Nat.le_refl _) _) hb1⟩
        · rw [show decide (okPage ⟨_, pc, pd, pp, pn⟩) = false from decide_eq_false fun h => g3 (ok_kind2 h rfl).2.2.1]
          go_enter Tryd.func14, Tryd.ntmps14
          go_wp2
          go_ret
          exact ⟨rfl, (Below.refl _ _).alloc (Nat.le_refl _) _⟩
      · rw [decide_eq_false g2] at he
        rw [show decide (okPage ⟨_, pc, pd, pp, pn⟩) = false from decide_eq_false fun h => g2 (ok_kind2 h rfl).2.1]
        go_enter Tryd.func14, Tryd.ntmps14
        go_wp2
        go_ret
        exact ⟨rfl, (Below.refl _ _).alloc (Nat.le_refl _) _⟩
    · rw [show decide (okPage ⟨_, pc, pd, pp, pn⟩) = false from decide_eq_false fun h => g1 (Hn.out.trans (ok_kind2 h rfl).1)]
      go_enter Tryd.func14, Tryd.ntmps14
      go_wp2
      go_ret
      exact ⟨rfl, (Below.refl _ _).alloc (Nat.le_refl _) _⟩
  by_cases k3 : pk = 3
  · subst k3
    by_cases g1 : n = 0
    · by_cases g2 : m = 0
      · rw [show decide (okPage ⟨_, pc, pd, pp, pn⟩) = decide (okPiece pp pn) from decide_eq_decide.2 ⟨fun h => (ok_kind3 h rfl).2.2, fun h => .inr (.inr ⟨rfl, Hn.out.symm.trans g1, Hm.out.symm.trans g2, h⟩)⟩]
        clear hno
        go_enter Tryd.func14, Tryd.ntmps14
        go_wp2_with fail
        refine (rightPiece_any pp pn _ b3 b2).mono ?_
        rintro e w1 ⟨rfl, rfl⟩
        go_wp2
        go_ret
        exact ⟨rfl, (Below.refl _ _).alloc (Nat.le_refl _) _⟩
      · rw [show decide (okPage ⟨_, pc, pd, pp, pn⟩) = false from decide_eq_false fun h => g2 (Hm.out.trans (ok_kind3 h rfl).2.1)]
        go_enter Tryd.func14, Tryd.ntmps14
        go_wp2
        go_ret
        exact ⟨rfl, (Below.refl _ _).alloc (Nat.le_refl _) _⟩
    · rw [show decide (okPage ⟨_, pc, pd, pp, pn⟩) = false from decide_eq_false fun h => g1 (Hn.out.trans (ok_kind3 h rfl).1)]
      go_enter Tryd.func14, Tryd.ntmps14
      go_wp2
      go_ret
      exact ⟨rfl, (Below.refl _ _).alloc (Nat.le_refl _) _⟩
  rw [show decide (okPage ⟨_, pc, pd, pp, pn⟩) = false from decide_eq_false fun h => by rcases h with ⟨h, _⟩ | ⟨h, _⟩ | ⟨h, _⟩ <;> simp only at h <;> omega]
  go_enter Tryd.func14, Tryd.ntmps14
  go_wp2
  go_ret
  exact ⟨rfl, (Below.refl _ _).alloc (Nat.le_refl _) _⟩

end Go.Proofs.YtgicomadlhnkjaaDoor
