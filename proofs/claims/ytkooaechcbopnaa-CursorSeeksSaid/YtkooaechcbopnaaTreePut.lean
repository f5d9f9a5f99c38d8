/-
  The contracts of tree.Put and tree.Del; conditions: the tree is valid and lies in memory, or is nil; strings of a size that can be.
-/
import Derived.Test.YtkooaechcbopnaaTreeGet
namespace Go.Proofs.Ytkooaechcbopnaa
open Go.RowKit Go.Sort
set_option linter.unusedVariables false

set_option maxHeartbeats 2000000 in
set_option maxRecDepth 100000 in
theorem with_nil (w : World) (e : Ent) :
    Calls Try.prog 37 #[.pointer none, .agg #[.string e.k, .string e.v]] w fun r w' => ∃ v, r = .returned v ∧ Parts w' 0 v (put [] e) 1 [] 0 ∧ Below w.heap.size w w' := by
  obtain ⟨W, hW⟩ : ∃ W, W = (w.alloc (.cells #[.string e.k, .string e.v] 39)).alloc (.cells #[.slice none 0 0, .slice none 0 0] 65) := ⟨_, rfl⟩
  obtain ⟨hbW, k0, k1, hsz⟩ := two_new w #[.string e.k, .string e.v] #[.slice none 0 0, .slice none 0 0] 39 65
  rw [← hW] at hbW k0 k1 hsz
  have HW := Lib.hid hW
  have HBW := Lib.hid hbW
  have K0 := Lib.hid k0
  have K1 := Lib.hid k1
  have KS := Lib.hid hsz
  clear hW hbW k0 k1 hsz
  go_enter Try.func37, Try.ntmps37
  go_wp2_with fail
  rw [← HW.out]
  refine (partsOf_nil W).mono ?_
  rintro r w1 ⟨rfl, hb1⟩
  obtain ⟨hb2, hg⟩ := box_new w1 (.slice none (0 : Nat) 0) (.slice none (0 : Nat) 0) 65
  have hb12 := bthen hb1 hb2
  have hWB : WB w w1.heap.size e (.slice none (0 : Nat) 0) (.slice none (0 : Nat) 0) (w1.alloc (.cells #[.slice none (0 : Nat) 0, .slice none (0 : Nat) 0] 65)) := by
    refine ⟨(hb12.block _ (lt_of_block K0.out)).trans K0.out, (hb12.block _ (lt_of_block K1.out)).trans K1.out, hg, by have := hb1.size; rw [KS.out] at this; omega, bthen HBW.out hb12⟩
  have HWB := Lib.hid hWB
  clear hb1 hb2 hb12 hWB hg
  go_wp2_with fail
  generalize hw2 : w1.alloc (.cells #[.slice none (0 : Nat) 0, .slice none (0 : Nat) 0] 65) = w2 at *
  refine (ofLeaf_any _ none none 0 0 0 0).mono ?_
  rintro r w3 ⟨rfl, hb3⟩
  generalize w1.heap.size = g at *
  have hWB3 := HWB.out.next hb3
  have q50 := cell_at hWB3.h5 0 _ rfl
  have q30 := cell_at hWB3.h3 0 _ rfl
  have q31 := cell_at hWB3.h3 1 _ rfl
  have HWB3 := Lib.hid hWB3
  clear hb3 hWB3 hw2
  go_wp2_with fail
  refine (with_any none 0 0 [] e w3 (Es.nil _ _) rfl (Nat.le_refl _) (by omega)).mono ?_
  rintro r w4 ⟨i, f, v, rfl, hpl, ho4, hb4⟩
  rw [hpl.wth List.Pairwise.nil] at ho4
  have hWB4 := HWB3.out.next hb4
  obtain ⟨A4, c4, rfl, hc4, hes4⟩ := ho4.form
  have hblk := hWB4.h4
  have HT := Lib.hid (set_two hblk (.slice A4 (put [] e).length c4) (.slice none 0 0))
  have HB := Lib.hid (two_below hWB4.below (Nat.le_succ _) (.slice A4 (put [] e).length c4) (.slice none 0 0))
  have HE4 := Lib.hid (hes4.off (Off.two hblk (.slice A4 (put [] e).length c4) (.slice none 0 0)))
  have hd0 := cell_at hblk 0 _ rfl
  have hd1 := cell_at hblk 1 _ rfl
  have hf0 := free_at hblk 0
  have hf1 := free_at hblk 1
  clear q50 q30 q31 ho4 hes4 hb4 hWB4 hblk
  go_wp2
  refine bodyPost_ret (v := .agg #[.slice A4 (put [] e).length c4, .slice none 0 0]) ?_ rfl ⟨_, rfl, ⟨⟨A4, c4, none, 0, rfl, hc4, Nat.le_refl _, HE4.out, Ls.nil _ _⟩, rfl⟩, HB.out⟩
  have k0 := cell_at HT.out 0 _ rfl
  have k1 := cell_at HT.out 1 _ rfl
  simp [results, Try.results37, go_sem, k0, k1]

/-- The height of a tree. -/
def th : TO → Nat
  | none => 0
  | some x => x.1 + 1
def errOf (e : Ent) : Int := if keyNo e.k ≠ 0 then keyNo e.k else valNo e.v
theorem errOf_ok (e : Ent) : okE e = decide (errOf e = 0) := by
  unfold okE errOf
  by_cases hk : keyNo e.k = 0
  · simp [hk]
  · simp [hk]
theorem tr_size_two {w : World} {h : Nat} {s : ST} (t : Tr w (h + 1) s) : 2 ≤ s.size := by
  obtain ⟨ks, hk⟩ := t.kids
  unfold ST.size
  rw [hk.br.en, hk.br.kn, nbs_len]
  have := hk.two
  omega
theorem root_any {w : World} {h : Nat} {v : Value} {l : List Ent} {n q : Nat} {old : List Nat} (hp : Parts w h v l n old q) (hh : h ≤ 90000) (h0 : h = 0 → n ≤ 8) (h1 : h ≠ 0 → 1 ≤ n ∧ n ≤ 12) (hs : Sorted l) (ho : ∀ e ∈ l, okE e = true) :
    Calls Try.prog 34 #[v] w (RootPost w h l n old q) := by
  cases h with
  | zero => exact root_leaf hp (h0 rfl) hs ho
  | succ h => exact root_branch hp (by omega) (h1 (by omega)).1 (h1 (by omega)).2 hs ho
/-- What with and root answer together. -/
theorem with_tree {w : World} {T : TO} {e : Ent} (ht : TreeIs w T) (hl : Low T) (he : okE e = true) :
    Calls Try.prog 37 #[tb T, .agg #[.string e.k, .string e.v]] w fun r w' => ∃ v h n, r = .returned v ∧ Parts w' h v (put (tl T) e) n (tids T) (2 * h) ∧ h ≤ 90000 ∧ h ≤ th T ∧ (h = 0 → n ≤ 8) ∧ (h ≠ 0 → 2 ≤ n ∧ n ≤ 12) ∧ Below w.heap.size w w' := by
  cases T with
  | none =>
    refine (with_nil w e).mono ?_
    rintro r w1 ⟨v, rfl, hp, hb⟩
    exact ⟨v, 0, 1, rfl, hp, by omega, Nat.zero_le _, fun _ => by omega, fun h => absurd rfl h, hb⟩
  | some x =>
    have t := ht x rfl
    refine (with_tr he x.1 w x.2 (hl x rfl) t).mono ?_
    rintro r w1 ⟨v, n, rfl, hp, h1, h2, hb⟩
    have h3 := t.size_le
    refine ⟨v, x.1, n, rfl, hp, hl x rfl, Nat.le_succ _, fun _ => by omega, fun h0 => ?_, hb⟩
    obtain ⟨h, s⟩ := x
    cases h with
    | zero => exact absurd rfl h0
    | succ h =>
      have h4 : 2 ≤ s.size := tr_size_two t
      simp only at h1 h2 h3
      omega
/-- What tree.Put answers. -/
def PutPost (w : World) (T : TO) (e : Ent) (r : Ending) (w' : World) : Prop :=
  ∃ T', r = .returned (.tuple #[tb T', .int .i64 (errOf e)]) ∧ TreeIs w' T' ∧ Below w.heap.size w w' ∧ (okE e = false → T' = none) ∧
    (okE e = true → tl T' = put (tl T) e ∧ FewNew (tids T) (3 * th T + 3) (tids T') ∧ ((look (tl T) e.k = some e.v ∧ T' = T) ∨ (look (tl T) e.k ≠ some e.v ∧ ∃ x, T' = some x ∧ w.heap.size ≤ x.2.b)))

set_option maxHeartbeats 2000000 in
set_option maxRecDepth 100000 in
theorem put_any {w : World} {T : TO} {e : Ent} (ht : TreeIs w T) (hl : Low T) (hk : e.k.size ≤ 140737488351232) (hv : e.v.size ≤ 140737488351232) :
    Calls Try.prog 23 #[tb T, .agg #[.string e.k, .string e.v]] w (PutPost w T e) := by
  have HT := Lib.hid ht
  have hb0 : Below w.heap.size w (w.alloc (.cells #[.string e.k, .string e.v] 39)) := (Below.refl _ _).alloc (Nat.le_refl _) _
  have hbx := heap_alloc_new w (.cells #[.string e.k, .string e.v] 39)
  clear ht
  obtain ⟨tv, htv⟩ : ∃ tv, tv = tb T := ⟨_, rfl⟩
  rw [← htv]
  have HTV := Lib.hid htv
  clear htv
  go_enter Try.func23, Try.ntmps23
  go_wp2_with fail
  generalize hw0 : w.alloc (.cells #[.string e.k, .string e.v] 39) = w0 at *
  have c0 := cell_at hbx 0 _ rfl
  have c1 := cell_at hbx 1 _ rfl
  refine (key_any e.k w0 hk).mono ?_
  rintro r w1 ⟨rfl, rfl⟩
  by_cases hkn : keyNo e.k = 0
  · have HKN := Lib.hid hkn
    rw [hkn]
    clear hkn
    go_wp2_with fail
    refine (value_any e.v w0 hv).mono ?_
    rintro r w1 ⟨rfl, rfl⟩
    by_cases hvn : valNo e.v = 0
    · have HVN := Lib.hid hvn
      have HOK := Lib.hid (show okE e = true by unfold okE; rw [HKN.out, hvn]; rfl)
      have HER := Lib.hid (show errOf e = 0 by unfold errOf; rw [HKN.out, hvn]; rfl)
      rw [hvn]
      clear hvn
      go_wp2_with fail
      rw [HTV.out]
      refine (get_any (HT.out.below hb0) hl).mono ?_
      rintro r w2 ⟨rfl, hb2⟩
      rw [← HTV.out]
      have hbx2 := (hb2.block _ (lt_of_block hbx)).trans hbx
      have hb02 := bthen hb0 hb2
      have d0 := cell_at hbx2 0 _ rfl
      have d1 := cell_at hbx2 1 _ rfl
      have HB2 := Lib.hid hb02
      have HT2 := Lib.hid (HT.out.below hb02)
      clear hb0 hbx c0 c1 hb2 hb02 hbx2 hw0
      obtain ⟨o, ho⟩ : ∃ o, o = look (tl T) e.k := ⟨_, rfl⟩
      rw [← ho]
      have HO := Lib.hid ho
      clear ho
      have stay : Hid (o = some e.v → PutPost w T e (.returned (.tuple #[tv, .int .i64 0])) w2) := Lib.hid fun h1 => ⟨T, by rw [HTV.out, HER.out], HT2.out, HB2.out, (fun h => by rw [HOK.out] at h; cases h), fun _ => ⟨(put_same HT.out.sorted (look_mem (by rw [← HO.out, h1]))).symm, FewNew.of (fun x hx => hx) _, .inl ⟨by rw [← HO.out, h1], rfl⟩⟩⟩
      have go : Hid (o ≠ some e.v → Calls Try.prog 37 #[tv, .agg #[.string e.k, .string e.v]] w2 fun r w' => ∃ v h n, r = .returned v ∧ Hid (Parts w' h v (put (tl T) e) n (tids T) (2 * h) ∧ h ≤ 90000 ∧ h ≤ th T ∧ (h = 0 → n ≤ 8) ∧ (h ≠ 0 → 2 ≤ n ∧ n ≤ 12) ∧ Below w2.heap.size w2 w')) := Lib.hid fun h1 => by
        rw [HTV.out]
        exact (with_tree HT2.out hl HOK.out).mono fun r w' ⟨v, h, n, h2, h3⟩ => ⟨v, h, n, h2, Lib.hid h3⟩
      have fin : Hid (o ≠ some e.v → ∀ (w3 : World) (v : Value) (h n : Nat), Hid (Parts w3 h v (put (tl T) e) n (tids T) (2 * h) ∧ h ≤ 90000 ∧ h ≤ th T ∧ (h = 0 → n ≤ 8) ∧ (h ≠ 0 → 2 ≤ n ∧ n ≤ 12) ∧ Below w2.heap.size w2 w3) →
          Calls Try.prog 34 #[v] w3 fun r w' => ∃ u, r = .returned u ∧ PutPost w T e (.returned (.tuple #[u, .int .i64 0])) w') := Lib.hid fun h1 w3 v h n hp => by
        obtain ⟨hpa, hh, hth, hn0, hn1, hb3⟩ := hp.out
        refine (root_any hpa hh hn0 (fun h0 => by have := hn1 h0; omega) (sorted_put HT.out.sorted e) (fun x hx => by
          rcases mem_put.1 hx with rfl | ⟨hx, _⟩
          · exact HOK.out
          · exact HT.out.okE x hx)).mono ?_
        rintro r w4 ⟨T', rfl, ht', hl', hf', hx', hb4⟩
        refine ⟨_, rfl, T', by rw [HER.out], ht', bthen HB2.out (bthen hb3 hb4), (fun h => by rw [HOK.out] at h; cases h), fun _ => ⟨hl', hf'.more (by omega), .inr ⟨by rw [← HO.out]; exact h1, ?_⟩⟩⟩
        cases T' with
        | none => exact absurd (show (e : Ent) ∈ tl none by rw [hl']; exact mem_put.2 (.inl rfl)) (by simp [tl])
        | some x => exact ⟨x, rfl, Nat.le_trans (bthen HB2.out hb3).size (hx' x rfl (by by_cases h0 : h = 0; exact .inl h0; exact .inr (by have := hn1 h0; omega)))⟩
      unfold lookV
      cases o with
      | none =>
        simp only [Option.getD_none, Option.isSome_none]
        go_wp2_with fail
        refine (go.out (by simp)).mono ?_
        rintro r w3 ⟨v, h, n, rfl, hp⟩
        go_wp2_with fail
        refine (fin.out (by simp) w3 v h n hp).mono ?_
        rintro r w4 ⟨u, rfl, hpost⟩
        have HPO := Lib.hid hpost
        clear hpost
        go_wp2
        go_ret2
        exact HPO.out
      | some v0 =>
        simp only [Option.getD_some, Option.isSome_some]
        have hsm := same_eq v0 e.v
        by_cases hv0 : v0 = e.v
        · rw [decide_eq_true hv0] at hsm
          have HPO := Lib.hid (stay.out (by rw [hv0]))
          clear hv0
          go_wp2
          go_ret2
          exact HPO.out
        · rw [decide_eq_false hv0] at hsm
          have hne : some v0 ≠ some e.v := fun h => hv0 (Option.some.inj h)
          have HNE := Lib.hid hne
          clear hne hv0
          go_wp2_with fail
          refine (go.out HNE.out).mono ?_
          rintro r w3 ⟨v, h, n, rfl, hp⟩
          go_wp2_with fail
          refine (fin.out HNE.out w3 v h n hp).mono ?_
          rintro r w4 ⟨u, rfl, hpost⟩
          have HPO := Lib.hid hpost
          clear hpost
          go_wp2
          go_ret2
          exact HPO.out
    · have HPO : Hid (PutPost w T e (.returned (.tuple #[.pointer none, .int .i64 (valNo e.v)])) w0) := Lib.hid ⟨none, by unfold errOf; rw [HKN.out]; rfl, TreeIs.none _, hb0, (fun _ => rfl), fun h => by unfold okE at h; rw [HKN.out, decide_eq_false hvn] at h; cases h⟩
      go_wp2
      go_ret2
      exact HPO.out
  · have HPO : Hid (PutPost w T e (.returned (.tuple #[.pointer none, .int .i64 (keyNo e.k)])) w0) := Lib.hid ⟨none, by unfold errOf; rw [if_pos hkn]; rfl, TreeIs.none _, hb0, (fun _ => rfl), fun h => by unfold okE at h; rw [decide_eq_false hkn] at h; cases h⟩
    go_wp2
    go_ret2
    exact HPO.out

/-- What tree.Del answers. -/
def DelPost (w : World) (T : TO) (key : ByteArray) (r : Ending) (w' : World) : Prop :=
  ∃ T', r = .returned (.tuple #[tb T', .bool (look (tl T) key).isSome]) ∧ TreeIs w' T' ∧ Below w.heap.size w w' ∧ tl T' = del (tl T) key ∧ FewNew (tids T) (3 * th T + 3) (tids T') ∧ ((look (tl T) key).isSome = false → T' = T)

set_option maxHeartbeats 2000000 in
set_option maxRecDepth 100000 in
theorem del_any {w : World} {T : TO} {key : ByteArray} (ht : TreeIs w T) (hl : Low T) :
    Calls Try.prog 22 #[tb T, .string key] w (DelPost w T key) := by
  have HT := Lib.hid ht
  clear ht
  obtain ⟨tv, htv⟩ : ∃ tv, tv = tb T := ⟨_, rfl⟩
  rw [← htv]
  have HTV := Lib.hid htv
  clear htv
  go_enter Try.func22, Try.ntmps22
  go_wp2_with fail
  rw [HTV.out]
  refine (get_any HT.out hl).mono ?_
  rintro r w2 ⟨rfl, hb2⟩
  rw [← HTV.out]
  have HB2 := Lib.hid hb2
  have HT2 := Lib.hid (HT.out.below hb2)
  clear hb2
  obtain ⟨o, ho⟩ : ∃ o, o = look (tl T) key := ⟨_, rfl⟩
  rw [← ho]
  have HO := Lib.hid ho
  clear ho
  unfold lookV
  cases o with
  | none =>
    simp only [Option.getD_none, Option.isSome_none]
    have HPO : Hid (DelPost w T key (.returned (.tuple #[tv, .bool false])) w2) := Lib.hid ⟨T, by rw [HTV.out, ← HO.out]; rfl, HT2.out, HB2.out, (del_none HT.out.sorted (look_none_iff.1 HO.out.symm)).symm, FewNew.of (fun x hx => hx) _, fun _ => rfl⟩
    go_wp2
    go_ret2
    exact HPO.out
  | some v0 =>
    simp only [Option.getD_some, Option.isSome_some]
    cases T with
    | none => exact absurd HO.out (by simp [tl, look])
    | some x =>
      obtain ⟨h, s⟩ := x
      have t := HT2.out (h, s) rfl
      have hh : h ≤ 90000 := hl (h, s) rfl
      have htv : tv = pn s.b := HTV.out
      subst htv
      have HTR := Lib.hid t
      clear t
      go_wp2_with fail
      refine (without_tr h w2 s hh HTR.out).mono ?_
      rintro r w3 ⟨v, n, rfl, hp, h1, h2, hb3⟩
      have h3 := HTR.out.size_le
      have HB3 := Lib.hid (bthen HB2.out hb3)
      have HP := Lib.hid hp
      have hn1 : h ≠ 0 → 1 ≤ n ∧ n ≤ 12 := fun h0 => by
        have : 2 ≤ s.size := by
          cases h with
          | zero => exact absurd rfl h0
          | succ h => exact tr_size_two HTR.out
        omega
      clear hp hb3
      go_wp2_with fail
      refine (root_any HP.out hh (fun _ => by omega) hn1 (sorted_del HTR.out.sorted key) (fun y hy => HTR.out.okE y (mem_del.1 hy).1)).mono ?_
      rintro r w4 ⟨T', rfl, ht', hl', hf', hx', hb4⟩
      have HPO : Hid (DelPost w (some (h, s)) key (.returned (.tuple #[tb T', .bool true])) w4) := Lib.hid ⟨T', by rw [← HO.out]; rfl, ht', bthen HB3.out hb4, hl', hf'.more (by show 2 * h + 3 ≤ 3 * (h + 1) + 3; omega), fun h => by rw [← HO.out] at h; cases h⟩
      clear ht' hl' hf' hx' hb4
      generalize tb T' = tv' at *
      go_wp2
      go_ret2
      exact HPO.out

end Go.Proofs.Ytkooaechcbopnaa
