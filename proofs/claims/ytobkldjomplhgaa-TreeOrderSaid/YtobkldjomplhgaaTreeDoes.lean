/-
  The contracts of the document's Put and Del for layer 10, and of does: a call on the tree and on the list; conditions stand at each.
-/
import Derived.Test.YtobkldjomplhgaaTreeRefs
import Derived.BigQuiet
namespace Go.Proofs.Ytobkldjomplhgaa
open Go.RowKit Go.Sort
set_option linter.unusedVariables false
set_option linter.unusedSimpArgs false

theorem look_del_len {l : List Ent} (h : Sorted l) (key : ByteArray) : decide ((del l key).length < l.length) = (look l key).isSome := by
  cases hl : look l key with
  | none =>
    rw [del_none h (look_none_iff.1 hl)]
    simp
  | some v =>
    have h1 := look_mem hl
    have h2 : put (del l key) ⟨key, v⟩ = l := by
      rw [put_del l ⟨key, v⟩]
      exact put_same h h1
    have h3 := del_length key h
    have h4 : (del l key).length ≠ l.length := fun e => by
      have h5 : key ∉ (del l key).map (·.k) := by
        simp only [List.mem_map, not_exists, not_and]
        exact fun e he => (mem_del.1 he).2
      have h6 : (del l key) = l := List.Sublist.eq_of_length (by
        have : del l key = l.filter fun e => decide (e.k ≠ key) := sorted_ext (sorted_del h key) (h.filter _) fun e => by rw [mem_del]; simp
        rw [this]
        exact List.filter_sublist) e
      rw [h6] at h5
      exact h5 (List.mem_map.2 ⟨_, h1, rfl⟩)
    simp only [Option.isSome_some, decide_eq_true_eq]
    omega

/-- What the reference's Put answers. -/
def RPut (w : World) (l : List Ent) (e : Ent) (r : Ending) (w' : World) : Prop :=
  ∃ v, r = .returned (.tuple #[v, .int .i64 (errOf e)]) ∧ Below w.heap.size w w' ∧ (okE e = true → Own w' w.heap.size v (put l e)) ∧ (okE e = false → v = .slice none 0 0)

set_option maxHeartbeats 1000000 in
set_option maxRecDepth 100000 in
theorem refPut10_any (A : Option Addr) (n c : Nat) (l : List Ent) (e : Ent) (w : World) (hs : Sorted l) (hr : Es w A l) (hn : l.length = n) (hb : n ≤ 300) (hk : e.k.size ≤ 140737488351232) (hv : e.v.size ≤ 140737488351232) :
    Calls Try.prog 33 #[.slice A n c, .agg #[.string e.k, .string e.v]] w (RPut w l e) := by
  have HS := Lib.hid hs
  have HR := Lib.hid hr
  have Hn := Lib.hid hn
  have hb0 : Below w.heap.size w (w.alloc (.cells #[.string e.k, .string e.v] 30)) := (Below.refl _ _).alloc (Nat.le_refl _) _
  have hbx := heap_alloc_new w (.cells #[.string e.k, .string e.v] 30)
  clear hs hr hn
  go_enter Try.func33, Try.ntmps33
  go_wp2_with fail
  generalize hw0 : w.alloc (.cells #[.string e.k, .string e.v] 30) = w0 at *
  have c0 := cell_at hbx 0 _ rfl
  have c1 := cell_at hbx 1 _ rfl
  refine (refKey_any e.k w0 hk).mono ?_
  rintro r w1 ⟨rfl, rfl⟩
  by_cases hkn : keyNo e.k = 0
  · have HKN := Lib.hid hkn
    rw [hkn]
    clear hkn
    go_wp2_with fail
    refine (refValue_any e.v w0 hv).mono ?_
    rintro r w1 ⟨rfl, rfl⟩
    by_cases hvn : valNo e.v = 0
    · have HOK := Lib.hid (show okE e = true by unfold okE; rw [HKN.out, hvn]; rfl)
      have HER := Lib.hid (show errOf e = 0 by unfold errOf; rw [HKN.out, hvn]; rfl)
      rw [hvn]
      clear hvn
      go_wp2_with fail
      refine (refWith_any A n c l e w0 HS.out (HR.out.below hb0) Hn.out hb).mono ?_
      rintro r w2 ⟨v, rfl, ho, hb2⟩
      have HPO : Hid (RPut w l e (.returned (.tuple #[v, .int .i64 0])) w2) := Lib.hid ⟨v, by rw [HER.out], bthen hb0 hb2, (fun _ => ho.mono hb0.size), fun h => by rw [HOK.out] at h; cases h⟩
      clear hb0 hbx c0 c1 ho hb2 hw0
      go_wp2
      go_ret2
      exact HPO.out
    · have HPO : Hid (RPut w l e (.returned (.tuple #[.slice none 0 0, .int .i64 (valNo e.v)])) w0) := Lib.hid ⟨_, by unfold errOf; rw [HKN.out]; rfl, hb0, (fun h => by unfold okE at h; rw [HKN.out, decide_eq_false hvn] at h; cases h), fun _ => rfl⟩
      go_wp2
      go_ret2
      exact HPO.out
  · have HPO : Hid (RPut w l e (.returned (.tuple #[.slice none 0 0, .int .i64 (keyNo e.k)])) w0) := Lib.hid ⟨_, by unfold errOf; rw [if_pos hkn], hb0, (fun h => by unfold okE at h; rw [decide_eq_false hkn] at h; cases h), fun _ => rfl⟩
    go_wp2
    go_ret2
    exact HPO.out
theorem refDel10_any (A : Option Addr) (n c : Nat) (l : List Ent) (key : ByteArray) (w : World) (hs : Sorted l) (hr : Es w A l) (hn : l.length = n) (hb : n ≤ 300) :
    Calls Try.prog 32 #[.slice A n c, .string key] w (RefOut w l key) := by
  go_enter Try.func32, Try.ntmps32
  go_wp2_with fail
  refine (refOut_any A n c l key w hs hr hn hb).mono ?_
  rintro r w1 ⟨v, rfl, ho, hb1⟩
  have HPO : Hid (RefOut w l key (.returned (.tuple #[v, .bool (decide ((del l key).length < l.length))])) w1) := Lib.hid ⟨v, rfl, ho, hb1⟩
  clear ho hb1 hr hs
  generalize decide ((del l key).length < l.length) = q at *
  go_wp2
  go_ret2
  exact HPO.out

/-- What does answers. -/
def DoesPost (w : World) (T : TO) (o : TOp) (r : Ending) (w' : World) : Prop :=
  ∃ T' A n c, r = .returned (.tuple #[tb T', .slice A n c, .bool true]) ∧ TreeIs w' T' ∧ tl T' = play (tl T) o ∧ Es w' A (tl T') ∧ (tl T').length = n ∧ n ≤ c ∧ Below w.heap.size w w'
theorem DoesPost.drewN {w : World} {T : TO} {o : TOp} {r : Ending} {w' : World} (h : DoesPost w T o r w') (m : Nat) : DoesPost w T o r (w'.drewN m) := by
  obtain ⟨T', A, n, c, h1, h2, h3, h4, h5, h6, h7⟩ := h
  have hb := below_drewN (Below.refl w'.heap.size w') m
  exact ⟨T', A, n, c, h1, h2.below hb, h3, h4.below hb, h5, h6, below_drewN h7 m⟩

set_option maxHeartbeats 2000000 in
set_option maxRecDepth 100000 in
theorem does_any {w : World} {T : TO} {o : TOp} {A : Option Addr} {n c : Nat} (ht : TreeIs w T) (he : Es w A (tl T)) (hn : (tl T).length = n) (hc : n ≤ c) (hb : n ≤ 300) (hok : OkT o) :
    Calls Try.prog 13 #[tb T, .slice A n c, topV o] w (DoesPost w T o) := by
  obtain ⟨od, oe⟩ := o
  have hkey := hok.key
  have hval := hok.val
  simp only at hkey hval
  have HT := Lib.hid ht
  have HE := Lib.hid he
  have Hn := Lib.hid hn
  have hl : Low T := ht.low (by omega)
  obtain ⟨tp, htv⟩ : ∃ tp, Value.pointer tp = tb T := ⟨_, rfl⟩
  rw [← htv]
  have HTV := Lib.hid htv
  have hb0 : Below w.heap.size w (w.alloc (.cells #[.bool od, .string oe.k, .string oe.v] 32)) := (Below.refl _ _).alloc (Nat.le_refl _) _
  have hbx := heap_alloc_new w (.cells #[.bool od, .string oe.k, .string oe.v] 32)
  clear ht hok htv he hn
  unfold topV
  cases od with
  | true =>
    go_enter Try.func13, Try.ntmps13
    go_wp2_with fail
    generalize hw0 : w.alloc (.cells #[.bool true, .string oe.k, .string oe.v] 32) = w0 at *
    rw [HTV.out]
    refine (del_any (HT.out.below hb0) hl).mono ?_
    rintro r w1 ⟨T', rfl, ht', hb1, hl', _, hsame⟩
    rw [← HTV.out]
    obtain ⟨tp', htv'⟩ : ∃ tp', Value.pointer tp' = tb T' := ⟨_, rfl⟩
    rw [← htv']
    have HTV' := Lib.hid htv'
    have hbx1 := (hb1.block _ (lt_of_block hbx)).trans hbx
    have d1 := cell_at hbx1 1 _ rfl
    have HT1 := Lib.hid ht'
    have HL1 := Lib.hid hl'
    have HSM := Lib.hid hsame
    have HB1 := Lib.hid (bthen hb0 hb1)
    clear hb0 hbx hb1 hbx1 ht' hl' hsame hw0 htv'
    go_wp2_with fail
    refine (refDel10_any A n c (tl T) oe.k w1 HT.out.sorted (HE.out.below HB1.out) Hn.out hb).mono ?_
    rintro r w2 ⟨v, rfl, ho, hb2⟩
    rw [look_del_len HT.out.sorted]
    obtain ⟨A2, c2, rfl, hc2, hes2⟩ := ho.form
    have HPO : Hid (DoesPost w T ⟨true, oe⟩ (.returned (.tuple #[.pointer tp', .slice A2 (del (tl T) oe.k).length c2, .bool true])) w2) := Lib.hid ⟨T', A2, _, c2, by rw [HTV'.out], HT1.out.below hb2, by rw [HL1.out]; rfl, by rw [HL1.out]; exact hes2, by rw [HL1.out], hc2, bthen HB1.out hb2⟩
    clear ho hc2 hes2 hb2 d1
    cases hlk : look (tl T) oe.k with
    | some v0 =>
      rw [Option.isSome_some]
      clear hlk
      go_wp2
      go_ret3
      exact HPO.out
    | none =>
      rw [Option.isSome_none]
      have hT := HSM.out (by rw [hlk]; rfl)
      have hq : (binOp .eql 25 (.pointer tp') (.pointer tp)).run Try.prog w2 = .ok (.bool true) w2 := by
        rw [HTV'.out, HTV.out, hT]
        exact eql_tb_same _ _
      clear hlk hT
      go_wp2
      go_ret3
      exact HPO.out
  | false =>
    go_enter Try.func13, Try.ntmps13
    go_wp2_with fail
    generalize hw0 : w.alloc (.cells #[.bool false, .string oe.k, .string oe.v] 32) = w0 at *
    rw [HTV.out]
    have HLT := Lib.hid (treeIs_lt (HT.out.below hb0))
    refine (put_any (HT.out.below hb0) hl hkey hval).mono ?_
    rintro r w1 ⟨T', rfl, ht', hb1, hno, hyes⟩
    rw [← HTV.out]
    obtain ⟨tp', htv'⟩ : ∃ tp', Value.pointer tp' = tb T' := ⟨_, rfl⟩
    rw [← htv']
    have HTV' := Lib.hid htv'
    have HX1 := Lib.hid ((hb1.block _ (lt_of_block hbx)).trans hbx)
    have d1 := cell_at HX1.out 1 _ rfl
    have d2 := cell_at HX1.out 2 _ rfl
    have HT1 := Lib.hid ht'
    have HTo1 := Lib.hid ((HT.out.below hb0).below hb1)
    have HNO := Lib.hid hno
    have HYES := Lib.hid hyes
    have HB1 := Lib.hid (bthen hb0 hb1)
    clear hb0 hbx hb1 ht' hno hyes hw0 htv'
    go_wp2_with fail
    refine (refPut10_any A n c (tl T) oe w1 HT.out.sorted (HE.out.below HB1.out) Hn.out hb hkey hval).mono ?_
    rintro r w2 ⟨v, rfl, hb2, hown, hnil⟩
    have HX2 := Lib.hid ((hb2.block _ (lt_of_block HX1.out)).trans HX1.out)
    have HT2 := Lib.hid (HT1.out.below hb2)
    have HTo2 := Lib.hid (HTo1.out.below hb2)
    have HB2 := Lib.hid (bthen HB1.out hb2)
    have e1 := cell_at HX2.out 1 _ rfl
    have e2 := cell_at HX2.out 2 _ rfl
    clear d1 d2 hb2
    by_cases hok : okE oe = true
    · obtain ⟨hput, _, hcase⟩ := HYES.out hok
      rw [okE_err hok]
      obtain ⟨A2, c2, rfl, hc2, hes2⟩ := (hown hok).form
      have HES2 := Lib.hid hes2
      have HPUT := Lib.hid hput
      have HCASE := Lib.hid hcase
      have HOK := Lib.hid hok
      clear hown hnil hput hcase hok hes2
      go_wp2_with fail
      refine (refGet_any A n c (tl T) oe.k w2 HT.out.sorted (HE.out.below HB2.out) Hn.out (by omega)).mono ?_
      rintro r w3 ⟨rfl, hb3⟩
      have HX3 := Lib.hid ((hb3.block _ (lt_of_block HX2.out)).trans HX2.out)
      have f2 := cell_at HX3.out 2 _ rfl
      have HPO : Hid (DoesPost w T ⟨false, oe⟩ (.returned (.tuple #[.pointer tp', .slice A2 (put (tl T) oe).length c2, .bool true])) w3) := Lib.hid ⟨T', A2, _, c2, by rw [HTV'.out], HT2.out.below hb3, by rw [HPUT.out]; unfold play; simp [HOK.out], by rw [HPUT.out]; exact HES2.out.below hb3, by rw [HPUT.out], hc2, bthen HB2.out hb3⟩
      have HT3 := Lib.hid (HT2.out.below hb3)
      have HTo3 := Lib.hid (HTo2.out.below hb3)
      obtain ⟨o, ho⟩ : ∃ o, o = look (tl T) oe.k := ⟨_, rfl⟩
      rw [← ho]
      have HO := Lib.hid ho
      unfold lookV
      clear e1 e2 hb3 hc2 ho
      cases o with
      | none =>
        have hq : ∀ m, (binOp .eql 25 (.pointer tp') (.pointer tp)).run Try.prog (w3.drewN m) = .ok (.bool false) (w3.drewN m) := fun m => by
          rcases HCASE.out with ⟨h, _⟩ | ⟨_, x, rfl, hx⟩
          · rw [← HO.out] at h
            cases h
          · rw [HTV'.out, HTV.out]
            exact eql_tb_new (HTo3.out.below (below_drewN (Below.refl _ _) m)) (HT3.out.below (below_drewN (Below.refl _ _) m)) HLT.out hx
        simp only [Option.getD_none, Option.isSome_none]
        go_wp2
        go_quiet (fail)
        go_wp2
        go_ret3
        exact HPO.out.drewN _
      | some v0 =>
        simp only [Option.getD_some, Option.isSome_some]
        have hsm := same_eq v0 oe.v
        by_cases hv0 : v0 = oe.v
        · rw [decide_eq_true hv0] at hsm
          have hq : ∀ m, (binOp .eql 25 (.pointer tp') (.pointer tp)).run Try.prog (w3.drewN m) = .ok (.bool true) (w3.drewN m) := fun m => by
            rcases HCASE.out with ⟨_, h⟩ | ⟨h, _⟩
            · rw [HTV'.out, HTV.out, h]
              exact eql_tb_same _ _
            · exact absurd (by rw [← HO.out, hv0]) h
          clear hv0
          go_wp2
          go_quiet (fail)
          go_wp2
          go_ret3
          exact HPO.out.drewN _
        · rw [decide_eq_false hv0] at hsm
          have hq : ∀ m, (binOp .eql 25 (.pointer tp') (.pointer tp)).run Try.prog (w3.drewN m) = .ok (.bool false) (w3.drewN m) := fun m => by
            rcases HCASE.out with ⟨h, _⟩ | ⟨_, x, rfl, hx⟩
            · rw [← HO.out] at h
              exact absurd (Option.some.inj h) hv0
            · rw [HTV'.out, HTV.out]
              exact eql_tb_new (HTo3.out.below (below_drewN (Below.refl _ _) m)) (HT3.out.below (below_drewN (Below.refl _ _) m)) HLT.out hx
          clear hv0
          go_wp2
          go_quiet (fail)
          go_wp2
          go_ret3
          exact HPO.out.drewN _
    · have hT := HNO.out (by simpa using hok)
      have hz := okE_no hok
      have hV := hnil (by simpa using hok)
      subst hV
      have htp : tp' = none := by
        have := HTV'.out
        rw [hT] at this
        simpa [tb, ptr] using this
      subst htp
      have HPO : Hid (DoesPost w T ⟨false, oe⟩ (.returned (.tuple #[.pointer tp, .slice A n c, .bool true])) w2) := Lib.hid ⟨T, A, n, c, by rw [HTV.out], HTo2.out, by unfold play; simp [hok], HE.out.below HB2.out, Hn.out, hc, HB2.out⟩
      generalize errOf oe = er at *
      clear hown hnil hok hT e1 e2
      go_wp2
      go_ret3
      exact HPO.out

end Go.Proofs.Ytobkldjomplhgaa
