/-
  TreeShares: a tree that was put into, or taken from, has few nodes that the old one hasn't; for every script and call; no condition beyond the row's.
-/
import Derived.Test.YtobkldjomplhgaaTreeTools
import Derived.Test.YtobkldjomplhgaaTreeNodes
namespace Go.Proofs.Ytobkldjomplhgaa
open Go.RowKit Go.Sort Go.ChangeShapes Go.WideShapes
set_option linter.unusedVariables false
set_option linter.unusedSimpArgs false

/-- A box of a call. -/
def Bs (g : Nat) (o : TOp) (w : World) : Prop := w.heap[g]? = some (.cells #[.bool o.d, .string o.e.k, .string o.e.v] 32 (0, 0))
theorem Bs.next {g : Nat} {o : TOp} {w w' : World} (h : Bs g o w) (hb : Below w.heap.size w w') : Bs g o w' := (hb.block _ (lt_of_block h)).trans h
theorem Bs.c0 {g : Nat} {o : TOp} {w : World} (h : Bs g o w) : w.cell? ⟨g, 0, none⟩ = some (.bool o.d) := cell_at h 0 _ rfl
theorem Bs.c1 {g : Nat} {o : TOp} {w : World} (h : Bs g o w) : w.cell? ⟨g, 1, none⟩ = some (.string o.e.k) := cell_at h 1 _ rfl
theorem Bs.c2 {g : Nat} {o : TOp} {w : World} (h : Bs g o w) : w.cell? ⟨g, 2, none⟩ = some (.string o.e.v) := cell_at h 2 _ rfl
theorem argT_one (w : World) (a : TOp) (ha : OkT a) : ArgT (w.alloc (.cells #[.bool a.d, .string a.e.k, .string a.e.v] 32)) (some ⟨w.heap.size, 0, none⟩) 1 1 [a] :=
  ⟨rfl, Nat.le_refl _, by omega, fun _ => ⟨_, rfl, by simp, fun j u hu => new_row w _ _ j u (by simpa [pcT] using hu)⟩, fun o ho => by
    rw [List.mem_singleton.1 ho]
    exact ha⟩
theorem filter_split (p : Nat → Bool) : ∀ l : List Nat, (l.filter p).length + (l.filter fun x => !p x).length = l.length
  | [] => rfl
  | x :: l => by
    have := filter_split p l
    rw [List.filter_cons, List.filter_cons]
    cases p x <;> simp <;> omega
theorem few_left {old ids bs : List Nat} {m : Nat} (h : FewNew old m ids) (hn : bs.Nodup) (hm : ∀ x ∈ bs, x ∈ ids) : bs.length ≤ (bs.filter fun x => decide (x ∈ old)).length + m := by
  obtain ⟨new, hl, hnew⟩ := h
  have h1 := filter_split (fun x => decide (x ∈ old)) bs
  have h2 := nodup_sub (l := bs.filter fun x => !decide (x ∈ old)) (m := new) (hn.filter _) fun x hx => by
    obtain ⟨hx1, hx2⟩ := List.mem_filter.1 hx
    exact (hnew x (hm x hx1)).resolve_left (by simpa using hx2)
  omega
theorem height_tb {w : World} {T : TO} (ht : TreeIs w T) : Calls Try.prog 23 #[tb T] w fun e w' => e = .returned (.int .i64 (th T : Nat)) ∧ w = w' := by
  cases T with
  | none => exact height_nil w
  | some x =>
    have := height_any (ht x rfl).at_
    rw [(ht x rfl).high] at this
    exact this

set_option maxRecDepth 100000 in
set_option maxHeartbeats 4000000 in
theorem treeShares_walk (A : Option Addr) (n c : Nat) (l : List TOp) (a : TOp) (w : World) (ha : ArgT w A n c l) (hoa : OkT a) :
    Calls Try.prog 5 #[.slice A n c, topV a] w fun r w' => r = .returned (.bool true) ∧ Below w.heap.size w w' := by
  have HA := Lib.hid ha
  have HOA := Lib.hid hoa
  clear ha hoa
  have hbW : Below w.heap.size w (w.alloc (.cells #[.bool a.d, .string a.e.k, .string a.e.v] 32)) := (Below.refl _ _).alloc (Nat.le_refl _) _
  have k0 : Bs w.heap.size a (w.alloc (.cells #[.bool a.d, .string a.e.k, .string a.e.v] 32)) := heap_alloc_new w _
  unfold topV
  go_enter Try.func5, Try.ntmps5
  go_wp2_with fail
  generalize hw0 : w.alloc (.cells #[.bool a.d, .string a.e.k, .string a.e.v] 32) = w0 at *
  refine (trAwake_any w0).mono ?_
  rintro r w1 ⟨rfl, hb1⟩
  have HX1 := Lib.hid (Bs.next k0 hb1)
  have HB1 := Lib.hid (bthen hbW hb1)
  clear hbW k0 hb1 hw0
  go_wp2_with fail
  refine (fewT_any A n c l w1 (HA.out.below HB1.out)).mono ?_
  rintro r w2 ⟨hb2, few, rfl, hfew⟩
  have HX2 := Lib.hid (HX1.out.next hb2)
  have HB2 := Lib.hid (bthen HB1.out hb2)
  have x0 := HX2.out.c0
  have x1 := HX2.out.c1
  have x2 := HX2.out.c2
  clear hb2
  cases few with
  | false =>
    go_wp2_with fail
    refine (trAwake_any w2).mono ?_
    rintro r w3 ⟨rfl, hb3⟩
    have hb := bthen HB2.out hb3
    clear hb3
    go_wp2
    go_ret
    exact ⟨rfl, hb⟩
  | true =>
    have hl200 := hfew rfl
    rw [HA.out.len] at hl200
    clear hfew
    go_wp2_with fail
    have hbn : Below w2.heap.size w2 (w2.alloc (.cells #[.bool a.d, .string a.e.k, .string a.e.v] 32)) := (Below.refl _ _).alloc (Nat.le_refl _) _
    refine (fewT_any _ 1 1 [a] _ (argT_one w2 a HOA.out)).mono ?_
    rintro r w3 ⟨hb3, few2, rfl, _⟩
    have hb23 := bthen hbn hb3
    have HX3 := Lib.hid (HX2.out.next hb23)
    have HB3 := Lib.hid (bthen HB2.out hb23)
    clear hbn hb3 hb23 x0 x1 x2
    cases few2 with
    | false =>
      go_wp2_with fail
      refine (trAwake_any w3).mono ?_
      rintro r w4 ⟨rfl, hb4⟩
      have hb := bthen HB3.out hb4
      clear hb4
      go_wp2
      go_ret
      exact ⟨rfl, hb⟩
    | true =>
      go_wp2_with fail
      refine (built_any A n c l w3 (HA.out.below HB3.out) (by omega)).mono ?_
      rintro r w4 ⟨T, rfl, ht, _, hlen, hb4⟩
      have HT4 := Lib.hid ht
      have HX4 := Lib.hid (HX3.out.next hb4)
      have HB4 := Lib.hid (bthen HB3.out hb4)
      have hlow : Low T := ht.low (by omega)
      have hso := ht.sorted
      have x0 := HX4.out.c0
      have x1 := HX4.out.c1
      have x2 := HX4.out.c2
      obtain ⟨tp, htv⟩ : ∃ tp, Value.pointer tp = tb T := ⟨_, rfl⟩
      rw [← htv]
      have HTV := Lib.hid htv
      have hth : th T ≤ 200 := by
        cases T with
        | none => exact Nat.zero_le _
        | some x =>
          have := (ht x rfl).len
          show x.1 + 1 ≤ 200
          have h2 : x.2.l.length ≤ n := hlen
          omega
      clear hb4 ht htv
      cases hd : a.d with
      | true =>
        rw [hd] at x0
        go_wp2_with fail
        rw [HTV.out]
        refine (del_any HT4.out hlow).mono ?_
        rintro r w5 ⟨T', rfl, ht5, hb5, hdel, hfn, _⟩
        rw [← HTV.out]
        have hlen' : (tl T').length ≤ 201 := by
          rw [hdel]
          have := del_length a.e.k hso
          omega
        obtain ⟨tq, htq⟩ : ∃ tq, Value.pointer tq = tb T' := ⟨_, rfl⟩
        rw [← htq]
        have HTQ := Lib.hid htq
        have HN5 := Lib.hid ht5
        have HO5 := Lib.hid (HT4.out.below hb5)
        have HB5 := Lib.hid (bthen HB4.out hb5)
        have HFN := Lib.hid hfn
        have HL5 := Lib.hid hlen'
        have HL4 := Lib.hid hlen
        clear ht5 hb5 hfn htq hlen'
        go_wp2_with fail
        rw [HTQ.out, HTV.out]
        refine (nodes_two HN5.out HO5.out (by have := HL5.out; omega)).mono ?_
        rintro r w6 ⟨bs, rfl, hn6, hm6, hle6, hb6⟩
        rw [← HTQ.out, ← HTV.out]
        have hq := few_left HFN.out hn6 fun x hx => (hm6 x).1 hx
        have hsl := List.length_filter_le (fun x => decide (x ∈ tids T)) bs
        have hil : bs.length ≤ 1000000 := by
          have h1 := tids_len HN5.out
          have h2 := HL5.out
          omega
        obtain ⟨a1, ha1⟩ : ∃ a1, a1 = bs.length := ⟨_, rfl⟩
        obtain ⟨s1, hs1⟩ : ∃ s1, s1 = (bs.filter fun x => decide (x ∈ tids T)).length := ⟨_, rfl⟩
        rw [← ha1, ← hs1] at hq hsl ⊢
        rw [← ha1] at hil
        have HO6 := Lib.hid (HO5.out.below hb6)
        have HB6 := Lib.hid (bthen HB5.out hb6)
        clear hn6 hm6 hle6 hb6 ha1 hs1
        go_wp2_with fail
        rw [HTV.out]
        refine (nodes_two HO6.out HO6.out (by have := HL4.out; omega)).mono ?_
        rintro r w7 ⟨cs, rfl, hn7, hm7, hle7, hb7⟩
        rw [← HTV.out]
        have hall : (cs.filter fun x => decide (x ∈ tids T)) = cs := List.filter_eq_self.2 fun x hx => decide_eq_true ((hm7 x).1 hx)
        rw [hall]
        obtain ⟨a2, ha2⟩ : ∃ a2, a2 = cs.length := ⟨_, rfl⟩
        rw [← ha2]
        have HO7 := Lib.hid (HO6.out.below hb7)
        have HB7 := Lib.hid (bthen HB6.out hb7)
        clear hn7 hm7 hle7 hb7 ha2 hall
        go_wp2_with fail
        rw [HTV.out]
        refine (height_tb HO7.out).mono ?_
        rintro r w8 ⟨rfl, rfl⟩
        rw [← HTV.out]
        obtain ⟨q, hqe⟩ : ∃ q, q = th T := ⟨_, rfl⟩
        rw [← hqe] at hq hth ⊢
        have hfin : (a1 : Int) - s1 ≤ 3 * q + 3 := by omega
        clear hqe
        go_wp2
        go_ret
        exact ⟨rfl, HB7.out⟩
      | false =>
        rw [hd] at x0
        go_wp2_with fail
        rw [HTV.out]
        refine (put_any HT4.out hlow HOA.out.key HOA.out.val).mono ?_
        rintro r w5 ⟨T', rfl, ht5, hb5, hno, hyes⟩
        rw [← HTV.out]
        by_cases hok : okE a.e = true
        · obtain ⟨hput, hfn, _⟩ := hyes hok
          rw [okE_err hok]
          have hlen' : (tl T').length ≤ 201 := by
            rw [hput]
            rcases put_length hso a.e with h | h <;> omega
          clear hno hyes hok hput
          obtain ⟨tq, htq⟩ : ∃ tq, Value.pointer tq = tb T' := ⟨_, rfl⟩
          rw [← htq]
          have HTQ := Lib.hid htq
          have HN5 := Lib.hid ht5
          have HO5 := Lib.hid (HT4.out.below hb5)
          have HB5 := Lib.hid (bthen HB4.out hb5)
          have HFN := Lib.hid hfn
          have HL5 := Lib.hid hlen'
          have HL4 := Lib.hid hlen
          clear ht5 hb5 hfn htq hlen'
          go_wp2_with fail
          rw [HTQ.out, HTV.out]
          refine (nodes_two HN5.out HO5.out (by have := HL5.out; omega)).mono ?_
          rintro r w6 ⟨bs, rfl, hn6, hm6, hle6, hb6⟩
          rw [← HTQ.out, ← HTV.out]
          have hq := few_left HFN.out hn6 fun x hx => (hm6 x).1 hx
          have hsl := List.length_filter_le (fun x => decide (x ∈ tids T)) bs
          have hil : bs.length ≤ 1000000 := by
            have h1 := tids_len HN5.out
            have h2 := HL5.out
            omega
          obtain ⟨a1, ha1⟩ : ∃ a1, a1 = bs.length := ⟨_, rfl⟩
          obtain ⟨s1, hs1⟩ : ∃ s1, s1 = (bs.filter fun x => decide (x ∈ tids T)).length := ⟨_, rfl⟩
          rw [← ha1, ← hs1] at hq hsl ⊢
          rw [← ha1] at hil
          have HO6 := Lib.hid (HO5.out.below hb6)
          have HB6 := Lib.hid (bthen HB5.out hb6)
          clear hn6 hm6 hle6 hb6 ha1 hs1
          go_wp2_with fail
          rw [HTV.out]
          refine (nodes_two HO6.out HO6.out (by have := HL4.out; omega)).mono ?_
          rintro r w7 ⟨cs, rfl, hn7, hm7, hle7, hb7⟩
          rw [← HTV.out]
          have hall : (cs.filter fun x => decide (x ∈ tids T)) = cs := List.filter_eq_self.2 fun x hx => decide_eq_true ((hm7 x).1 hx)
          rw [hall]
          obtain ⟨a2, ha2⟩ : ∃ a2, a2 = cs.length := ⟨_, rfl⟩
          rw [← ha2]
          have HO7 := Lib.hid (HO6.out.below hb7)
          have HB7 := Lib.hid (bthen HB6.out hb7)
          clear hn7 hm7 hle7 hb7 ha2 hall
          go_wp2_with fail
          rw [HTV.out]
          refine (height_tb HO7.out).mono ?_
          rintro r w8 ⟨rfl, rfl⟩
          rw [← HTV.out]
          obtain ⟨q, hqe⟩ : ∃ q, q = th T := ⟨_, rfl⟩
          rw [← hqe] at hq hth ⊢
          have hfin : (a1 : Int) - s1 ≤ 3 * q + 3 := by omega
          clear hqe
          go_wp2
          go_ret
          exact ⟨rfl, HB7.out⟩
        · have hT := hno (by simpa using hok)
          subst hT
          have hne := okE_no hok
          have hb := bthen HB4.out hb5
          obtain ⟨ee, hee⟩ : ∃ ee, ee = errOf a.e := ⟨_, rfl⟩
          rw [← hee] at hne ⊢
          rw [show tb none = Value.pointer none from rfl]
          have henn := eql_nil_nil
          clear hno hyes hok hee hb5 ht5
          go_wp2
          go_ret
          exact ⟨rfl, hb⟩

end Go.Proofs.Ytobkldjomplhgaa

namespace Go.Proofs.Ytobkldjomplhgaa.treeShares
open Go.ChangeShapes Go.WideShapes Go.ChangeAt Go.RowKit
open Go.ChangeMaps (open_string shut_string)
set_option linter.unusedVariables false

theorem own : ownKnob Try.prog.godebug = none := by kernel_rfl
theorem laidOut : laidOutB Try.prog = true := by kernel_rfl

set_option maxRecDepth 100000 in
theorem lifted (os : Os) (started : os.Started) (H : Type) (enc : TypeId × Value → H) :
    ReturnsInHanded {} Try.checked os 5 .any (Rows.treeSharesSpec.pre6 enc Try.prog Try.f5 Rows.treeSharesRow.domain false) (Rows.treeSharesSpec.post enc Try.prog Try.f5 false true false false) := by
  refine returnsInHanded_of_change_sized (C := Try.checked) own started (by kernel_rfl) Try.func5
    (ChangeSpec.witness6 (enc := enc) (C := Try.checked) false ⟨#[], #[.slice none 0 0, .agg #[.bool false, .string ByteArray.empty, .string ByteArray.empty]], []⟩ 8 (by kernel_rfl) (by kernel_rfl) (by kernel_rfl) (by kernel_rfl)) ?_
  intro W base args ds gs before hval0 hW hcnd hsz0 _
  have hval : ∀ (j : Nat) t v, Try.f5.params[j]? = some t → args[j]? = some v → Value.okWide Try.prog W .any base t v := hval0
  have hsz : (DataW.weightsEach Try.prog (Try.f5.params.toList ++ Rows.treeSharesSpec.plain.varTypes Try.prog) (ds ++ gs)).all (· ≤ reachBytes) = true := hsz0
  have hW' := hW
  obtain ⟨p, q, hA0, hV, rfl, hfz, hnd⟩ := hW
  have hA : DataW.TrodAll enc Try.prog W 0 (fun _ => true) true Try.f5.params.toList args.toList ds p := hA0
  rw [Try.params5] at hA hval hsz
  obtain ⟨v0, vs0, d0, ds0, p0, q0, hargs, rfl, rfl, h0, r0⟩ := trodAll_cons hA
  obtain ⟨v1, vs1, d1, ds1, p1, q1, rfl, rfl, rfl, h1, r1⟩ := trodAll_cons r0
  obtain ⟨rfl, rfl, rfl⟩ := trodAll_nil r1
  obtain rfl : args = #[v0, v1] := by cases args; simp_all
  obtain ⟨rfl, rfl⟩ := trodVars_none hV
  obtain ⟨A0, n0, c0, rfl⟩ := okWide_slice Try.underlying22 (hval 0 22 v0 rfl rfl)
  have k0 := h0
  have lt0 : ∀ x ∈ p0, x.block < W.heap.size := by obtain ⟨m, hm⟩ := k0; exact DataW.trod_lt m _ _ _ hm
  obtain ⟨l0, w0⟩ := open_tops h0 (fun m hm => of_decide_eq_true (List.all_eq_true.1 hsz _ (DataW.weights_mem_each (j := 0) (t := 22) rfl rfl m hm)))
  have k1 := h1
  have lt1 : ∀ x ∈ p1, x.block < W.heap.size := by obtain ⟨m, hm⟩ := k1; exact DataW.trod_lt m _ _ _ hm
  obtain ⟨a1, rfl, w1⟩ := open_top (hval 1 32 v1 rfl rfl) h1 (fun m hm => of_decide_eq_true (List.all_eq_true.1 hsz _ (DataW.weights_mem_each (j := 1) (t := 32) rfl rfl m hm)))
  clear hA0 hval0 hsz hsz0
  refine (treeShares_walk A0 n0 c0 l0 a1 W w0 w1).mono fun e W' ⟨he, bel⟩ => ?_
  subst he
  exact ⟨_, rfl, _, _, _, [], _, [], hW', trodAll_mk1 (shut_bool Try.underlying4 _), (trodAll_cons_mk (Below.trod laidOut (by kernel_rfl) (of_decide_eq_true (by kernel_rfl)) k0 bel lt0) (trodAll_cons_mk (Below.trod laidOut (by kernel_rfl) (of_decide_eq_true (by kernel_rfl)) k1 bel lt1) trodAll_mk0)), rfl, bel.frame _, fun h => by cases h⟩

theorem over : Rows.treeSharesRow.holds Try.pinned (OpenSpec.ofChange Rows.treeSharesSpec) :=
  OpenClaim.holds_of_wide 5 Try.f5 rfl rfl rfl rfl rfl rfl rfl ⟨rfl, rfl, rfl, rfl, rfl⟩ rfl rfl rfl rfl rfl (by kernel_rfl) Try.func5 (by kernel_rfl)
    (of_decide_eq_true (by kernel_rfl)) (by unfold Func.isWrapper; first | (rw [if_pos (by decide +kernel)]; kernel_rfl) | (rw [if_neg (by decide +kernel)]; exact ⟨rfl, rfl⟩))
    (fun os started H enc _ => lifted os started H enc)

theorem proved : Rows.TreeSharesSaid := over
#print axioms proved

end Go.Proofs.Ytobkldjomplhgaa.treeShares
