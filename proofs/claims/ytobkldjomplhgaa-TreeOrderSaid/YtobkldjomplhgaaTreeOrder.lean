/-
  TreeOrder: keys that are put in whatever order, each once, make trees of the same entries; and taken all again they make none; for every list and turn; no condition beyond the row's.
-/
import Derived.Test.YtobkldjomplhgaaTreeDoes
import Derived.BigQuiet
namespace Go.Proofs.Ytobkldjomplhgaa
open Go.RowKit Go.Sort Go.ChangeShapes Go.WideShapes
set_option linter.unusedVariables false
set_option linter.unusedSimpArgs false

/-- Keys that all differ. -/
abbrev Apart (l : List Ent) : Prop := l.Pairwise fun a b => a.k ≠ b.k
theorem Apart.inj {l : List Ent} (h : Apart l) {a b : Ent} (ha : a ∈ l) (hb : b ∈ l) (hk : a.k = b.k) : a = b := by
  induction l with
  | nil => cases ha
  | cons x l ih =>
    obtain ⟨h1, h2⟩ := List.pairwise_cons.1 h
    rcases List.mem_cons.1 ha with e1 | ha'
    · rcases List.mem_cons.1 hb with e2 | hb'
      · rw [e1, e2]
      · exact absurd hk (by rw [e1]; exact h1 b hb')
    · rcases List.mem_cons.1 hb with e2 | hb'
      · exact absurd hk.symm (by rw [e2]; exact h1 a ha')
      · exact ih h2 ha' hb'
theorem Apart.take_one {l : List Ent} {k : Nat} {e : Ent} (h : Apart (l.take k)) (he : l[k]? = some e) (hn : ∀ j x, j < k → l[j]? = some x → x.k ≠ e.k) : Apart (l.take (k + 1)) := by
  rw [List.take_add_one, he]
  refine List.pairwise_append.2 ⟨h, by simp, fun a ha b hb => ?_⟩
  have : b = e := by simpa using hb
  subst this
  obtain ⟨j, hj⟩ := List.getElem?_of_mem ha
  have hjk : j < k := by
    have := (List.getElem?_eq_some_iff.1 hj).1
    rw [List.length_take] at this
    omega
  exact hn j a hjk (by rwa [List.getElem?_take_of_lt hjk] at hj)
theorem put_len_none {l : List Ent} (h : Sorted l) {e : Ent} (hn : ∀ x ∈ l, x.k ≠ e.k) : (put l e).length = l.length + 1 := by
  rcases put_length h e with h1 | h1
  · exfalso
    have h2 := del_one (sorted_put h e) e.k
    have h3 : del (put l e) e.k = l := del_back h (look_none hn)
    have h4 := look_del_len (sorted_put h e) e.k
    rw [look_put h e, h3] at h4
    simp at h4
    omega
  · exact h1
/-- The tree of the entries so far, put in their order. -/
structure Ord1 (w wr : World) (l : List Ent) (i : Nat) (T : TO) : Prop where
  tr : TreeIs wr T
  mem : ∀ x, x ∈ tl T ↔ x ∈ l.take i
  apart : Apart (l.take i)
  ok : ∀ x ∈ l.take i, okE x = true
  len : (tl T).length = i
  below : Below w.heap.size w wr
theorem Ord1.next {w wr wq : World} {l : List Ent} {i : Nat} {T : TO} (h : Ord1 w wr l i T) (hb : Below wr.heap.size wr wq) : Ord1 w wq l i T := ⟨h.tr.below hb, h.mem, h.apart, h.ok, h.len, bthen h.below hb⟩
/-- The tree of the entries from a place on, put the other way round, from a turned place. -/
structure Ord3 (w wr : World) (l : List Ent) (n k q : Nat) (T : TO) : Prop where
  tr : TreeIs wr T
  mem : ∀ x, x ∈ tl T ↔ ∃ j, q ≤ j ∧ j < n ∧ l[(j + k) % n]? = some x
  len : (tl T).length ≤ n - q
  below : Below w.heap.size w wr
/-- The tree of the entries whose keys were not taken so far. -/
structure Ord4 (w wr : World) (l : List Ent) (i : Nat) (T : TO) : Prop where
  tr : TreeIs wr T
  mem : ∀ x, x ∈ tl T ↔ x ∈ l ∧ ∀ j y, j < i → l[j]? = some y → y.k ≠ x.k
  len : (tl T).length ≤ 200
  below : Below w.heap.size w wr
theorem turn_all {n k p : Nat} (hp : p < n) (hk : k < n) : ∃ j, j < n ∧ (j + k) % n = p := by
  by_cases h : k ≤ p
  · exact ⟨p - k, by omega, by rw [Nat.sub_add_cancel h]; exact Nat.mod_eq_of_lt hp⟩
  · refine ⟨p + n - k, by omega, ?_⟩
    rw [show p + n - k + k = p + n by omega, Nat.add_mod_right]
    exact Nat.mod_eq_of_lt hp
theorem mem_put_in {l L : List Ent} {e x : Ent} (h : Apart l) (hL : ∀ y ∈ L, y ∈ l) (he : e ∈ l) : x ∈ put L e ↔ x = e ∨ x ∈ L := by
  rw [mem_put]
  constructor
  · rintro (h1 | ⟨h1, _⟩)
    · exact .inl h1
    · exact .inr h1
  · rintro (h1 | h1)
    · exact .inl h1
    · by_cases hk : x.k = e.k
      · exact .inl (h.inj (hL x h1) he hk)
      · exact .inr ⟨h1, hk⟩

set_option maxRecDepth 100000 in
set_option maxHeartbeats 4000000 in
theorem treeOrder_walk (A : Option Addr) (n c : Nat) (l : List Ent) (by_ : Int) (w : World) (ha : Arg w A n c l) (hby : (Lit.int .u64 by_).wf = true) :
    Calls Try.prog 7 #[.slice A n c, .int .u64 by_] w fun r w' => r = .returned (.bool true) ∧ Below w.heap.size w w' := by
  have HA := Lib.hid ha
  obtain ⟨B, hB, rfl⟩ : ∃ B : Nat, B ≤ 18446744073709551615 ∧ by_ = (B : Int) := by
    have : 0 ≤ by_ ∧ by_ ≤ 18446744073709551615 := by simpa [Lit.wf, IntKind.min, IntKind.max, IntKind.signed, IntKind.bits] using hby
    exact ⟨by_.toNat, by omega, by omega⟩
  clear ha hby
  go_enter Try.func7, Try.ntmps7
  go_wp2_with fail
  refine (trAwake_any w).mono ?_
  rintro r w1 ⟨rfl, hb1⟩
  have HB1 := Lib.hid hb1
  clear hb1
  by_cases h100 : 100 < n
  · go_wp2_with fail
    refine (trAwake_any w1).mono ?_
    rintro r w3 ⟨rfl, hb3⟩
    have hb := bthen HB1.out hb3
    clear hb3
    go_wp2
    go_ret
    exact ⟨rfl, hb⟩
  by_cases h0 : n = 0
  · subst h0
    go_wp2_with fail
    refine (trAwake_any w1).mono ?_
    rintro r w3 ⟨rfl, hb3⟩
    have hb := bthen HB1.out hb3
    clear hb3
    go_wp2
    go_ret
    exact ⟨rfl, hb⟩
  have hd1 : decide ((100 : Int) < (n : Int)) = false := decide_eq_false (by omega)
  have hd2 : ((n : Int) == 0) = false := beq_eq_false_iff_ne.2 (by omega)
  obtain ⟨k, hk⟩ : ∃ k, k = B % n := ⟨_, rfl⟩
  have hkn : k < n := by rw [hk]; exact Nat.mod_lt _ (by omega)
  have hmod : (B : Int).tmod (n : Int) = (k : Int) := by rw [hk]; rfl
  have HLEN := Lib.hid HA.out.len
  have HES := Lib.hid (HA.out.es.below HB1.out)
  clear hk
  go_wp2
  clear hmod
  go_loopw [6, 35] (fun s6 s35 wr => ∃ (i : Nat) (T : TO), i ≤ n ∧ s35 = .int .i64 (i : Nat) ∧ s6 = tb T ∧ Below w1.heap.size w1 wr ∧ Hid (Ord1 w wr l i T)) (fun _ s35 _ => n - (intOf s35).toNat)
  case atStart => exact ⟨0, none, Nat.zero_le _, rfl, rfl, Below.refl _ _, Lib.hid ⟨TreeIs.none _, fun x => by simp [tl], List.Pairwise.nil, fun x hx => by simp at hx, rfl, HB1.out⟩⟩
  case round =>
    obtain ⟨i, T, hi, rfl, rfl, hbr, HP⟩ := hrel
    by_cases hlt : i < n
    · obtain ⟨ad, e, rfl, he, hl, q0, q1⟩ := (HES.out.below hbr).at_ (i := i) (by rw [HLEN.out]; exact hlt)
      obtain ⟨hkey, hval⟩ := HA.out.strs e (List.mem_of_getElem? he)
      have HE := Lib.hid he
      have HBR := Lib.hid hbr
      obtain ⟨tp, htv⟩ : ∃ tp, Value.pointer tp = tb T := ⟨_, rfl⟩
      rw [← htv]
      have HTV := Lib.hid htv
      clear he hbr htv
      go_wp2_with fail
      refine (refKey_any e.k wr hkey).mono ?_
      rintro r w2 ⟨rfl, rfl⟩
      by_cases hkn0 : keyNo e.k = 0
      · rw [hkn0]
        go_wp2_with fail
        refine (refValue_any e.v wr hval).mono ?_
        rintro r w2 ⟨rfl, rfl⟩
        by_cases hvn0 : valNo e.v = 0
        · have HOK := Lib.hid (show okE e = true by unfold okE; rw [hkn0, hvn0]; rfl)
          rw [hvn0]
          clear hkn0 hvn0
          go_wp2
          go_loopw [9] (fun s9 wq => ∃ m : Nat, m ≤ i ∧ s9 = .int .i64 (m : Nat) ∧ Below wr.heap.size wr wq ∧ Hid (∀ j x, j < m → l[j]? = some x → x.k ≠ e.k)) (fun s9 _ => i - (intOf s9).toNat)
          case atStart => exact ⟨0, Nat.zero_le _, rfl, Below.refl _ _, Lib.hid fun j x hj => absurd hj (by omega)⟩
          case round =>
            obtain ⟨m, hm, rfl, hbq, HN⟩ := hrel
            obtain ⟨ad1, e1, ee1, he1, hl1, r0, r1⟩ := (HES.out.below (bthen HBR.out hbq)).at_ (i := i) (by rw [HLEN.out]; exact hlt)
            cases ee1
            rw [HE.out] at he1
            cases he1
            by_cases hlt2 : m < i
            · obtain ⟨ad2, x, ee2, hx, hl2, p0, p1⟩ := (HES.out.below (bthen HBR.out hbq)).at_ (i := m) (by rw [HLEN.out]; omega)
              cases ee2
              have HX := Lib.hid hx
              have hsm := same_eq x.k e.k
              have hmn : m < n := by omega
              have hbf := bthen HP.out.below hbq
              clear hx q0 q1
              by_cases hkk : x.k = e.k
              · rw [decide_eq_true hkk] at hsm
                clear hkk
                go_wp2
                go_quiet (fail)
                go_wp2
                go_ret
                exact ⟨rfl, below_drewN hbf _⟩
              · rw [decide_eq_false hkk] at hsm
                have HNN : Hid (∀ j y, j < m + 1 → l[j]? = some y → y.k ≠ e.k) := Lib.hid fun j y hj hy => by
                  rcases Nat.lt_or_ge j m with h | h
                  · exact HN.out j y h hy
                  · obtain rfl : j = m := by omega
                    rw [HX.out] at hy
                    cases hy
                    exact hkk
                clear hkk
                go_wp2
                go_quiet (fail)
                go_wp2
                exact ⟨⟨m + 1, by omega, by go_num, below_drewN hbq _, HNN⟩, by simp [intOf]; omega⟩
            · have hmi : m = i := by omega
              subst hmi
              have hlow : Low T := HP.out.tr.low (by rw [HP.out.len]; omega)
              have HPq := Lib.hid (HP.out.next hbq)
              have HBRq := Lib.hid (bthen HBR.out hbq)
              clear hbq q0 q1
              go_wp2_with fail
              rw [HTV.out]
              refine (put_any HPq.out.tr hlow hkey hval).mono ?_
              rintro r w5 ⟨T2, rfl, ht2, hb2, _, hyes⟩
              obtain ⟨hl2, _, _⟩ := hyes HOK.out
              have hnk : ∀ x ∈ tl T, x.k ≠ e.k := fun x hx => by
                obtain ⟨j, hj⟩ := List.getElem?_of_mem ((HP.out.mem x).1 hx)
                have hjm : j < m := by
                  have := (List.getElem?_eq_some_iff.1 hj).1
                  rw [List.length_take] at this
                  omega
                exact HN.out j x hjm (by rwa [List.getElem?_take_of_lt hjm] at hj)
              have hap := HP.out.apart.take_one HE.out HN.out
              have HP2 : Hid (Ord1 w w5 l (m + 1) T2) := Lib.hid ⟨ht2, fun x => by
                rw [hl2, mem_put, List.take_add_one, HE.out, List.mem_append]
                have hmx := HP.out.mem x
                constructor
                · rintro (h | ⟨h, _⟩)
                  · exact .inr (by simpa using h)
                  · exact .inl (hmx.1 h)
                · rintro (h | h)
                  · exact .inr ⟨hmx.2 h, hnk x (hmx.2 h)⟩
                  · exact .inl (by simpa using h), hap, fun x hx => by
                rw [List.take_add_one, HE.out, List.mem_append] at hx
                rcases hx with hx | hx
                · exact HP.out.ok x hx
                · rw [show x = e by simpa using hx]
                  exact HOK.out, by rw [hl2, put_len_none HP.out.tr.sorted hnk, HP.out.len], bthen HPq.out.below hb2⟩
              have hbr2 := bthen HBRq.out hb2
              clear ht2 hl2 hb2 hyes hnk hap r0 r1
              go_wp2
              exact ⟨⟨m + 1, T2, by omega, by go_num, rfl, hbr2, HP2⟩, by simp [intOf]; omega⟩
        · have hb := HP.out.below
          clear hkn0
          go_wp2
          go_ret
          exact ⟨rfl, hb⟩
      · have hb := HP.out.below
        go_wp2
        go_ret
        exact ⟨rfl, hb⟩
    · have hin : i = n := by omega
      subst hin
      have hall : l.take i = l := List.take_of_length_le (by rw [HLEN.out]; exact Nat.le_refl _)
      have HAP := Lib.hid (show Apart l by have := HP.out.apart; rwa [hall] at this)
      have HOKS := Lib.hid (show ∀ x ∈ l, okE x = true by have := HP.out.ok; rwa [hall] at this)
      have HM := Lib.hid (show ∀ x, x ∈ tl T ↔ x ∈ l by have := HP.out.mem; rwa [hall] at this)
      obtain ⟨tp, htv⟩ : ∃ tp, Value.pointer tp = tb T := ⟨_, rfl⟩
      rw [← htv]
      have HTV := Lib.hid htv
      clear hall htv
      go_wp2
      go_loopw [7, 10] (fun s7 s10 wq => ∃ (q : Nat) (v : Int) (T3 : TO), q ≤ i ∧ v = (q : Int) - 1 ∧ s10 = .int .i64 v ∧ s7 = tb T3 ∧ Below wr.heap.size wr wq ∧ Hid (Ord3 w wq l i k q T3)) (fun _ s10 _ => (intOf s10 + 1).toNat)
      case atStart => exact ⟨i, (i : Int) - 1, none, Nat.le_refl _, rfl, rfl, rfl, Below.refl _ _, Lib.hid ⟨TreeIs.none _, fun x => ⟨(fun h => by cases h), fun ⟨j, h1, h2, _⟩ => by omega⟩, by simp [tl], HP.out.below⟩⟩
      case round =>
        obtain ⟨q, v, T3, hq, hv, rfl, rfl, hbq, HQ⟩ := hrel
        by_cases hq0 : q = 0
        · have hv1 : v = -1 := by omega
          subst hv1
          subst hq0
          have hmem3 : ∀ x, x ∈ tl T3 ↔ x ∈ l := fun x => by
            rw [HQ.out.mem]
            constructor
            · rintro ⟨j, _, _, hj⟩
              exact List.mem_of_getElem? hj
            · intro hx
              obtain ⟨p, hp⟩ := List.getElem?_of_mem hx
              have hpn : p < i := by have := (List.getElem?_eq_some_iff.1 hp).1; rwa [HLEN.out] at this
              obtain ⟨j, hj, hjk⟩ := turn_all hpn hkn
              exact ⟨j, Nat.zero_le _, hj, by rw [hjk]; exact hp⟩
          have HSAME := Lib.hid (show tl T3 = tl T from sorted_ext HQ.out.tr.sorted HP.out.tr.sorted fun x => by rw [hmem3, HM.out])
          have HTA := Lib.hid (HP.out.tr.below hbq)
          have HTB := Lib.hid HQ.out.tr
          have HBQ := Lib.hid HQ.out.below
          have HBR := Lib.hid (bthen hbr hbq)
          have HLA := Lib.hid HP.out.len
          obtain ⟨tp3, htv3⟩ : ∃ tp3, Value.pointer tp3 = tb T3 := ⟨_, rfl⟩
          rw [← htv3]
          have HTV3 := Lib.hid htv3
          clear hmem3 hbq hbr hv htv3
          go_wp2_with fail
          rw [HTV.out]
          refine (items_any HTA.out (by rw [HLA.out]; omega)).mono ?_
          rintro r w3 ⟨v3, rfl, ho3, hb3⟩
          rw [← HTV.out]
          obtain ⟨A3, c3, rfl, hc3, hes3⟩ := ho3.form
          rw [HLA.out] at hc3 ⊢
          have HES3 := Lib.hid hes3
          have HTA3 := Lib.hid (HTA.out.below hb3)
          have HTB3 := Lib.hid (HTB.out.below hb3)
          have HB3 := Lib.hid (bthen HBQ.out hb3)
          have HBR3 := Lib.hid (bthen HBR.out hb3)
          clear ho3 hes3 hb3
          go_wp2_with fail
          rw [HTV3.out]
          refine (items_any HTB3.out (by rw [HSAME.out, HLA.out]; omega)).mono ?_
          rintro r w4 ⟨v4, rfl, ho4, hb4⟩
          rw [← HTV3.out]
          obtain ⟨A4, c4, rfl, hc4, hes4⟩ := ho4.form
          rw [HSAME.out] at hc4 hes4 ⊢
          rw [HLA.out] at hc4 ⊢
          have HES4 := Lib.hid hes4
          have HES34 := Lib.hid (HES3.out.below hb4)
          have HTA4 := Lib.hid (HTA3.out.below hb4)
          have HTB4 := Lib.hid (HTB3.out.below hb4)
          have HB4 := Lib.hid (bthen HB3.out hb4)
          have HBR4 := Lib.hid (bthen HBR3.out hb4)
          clear ho4 hes4 hb4
          go_wp2_with fail
          refine (same_any A3 A4 i c3 c4 (tl T) w4 HES34.out HES4.out HLA.out (by omega)).mono ?_
          rintro r w5 ⟨rfl, hb5⟩
          have HTA5 := Lib.hid (HTA4.out.below hb5)
          have HTB5 := Lib.hid (HTB4.out.below hb5)
          have HB5 := Lib.hid (bthen HB4.out hb5)
          have HBR5 := Lib.hid (bthen HBR4.out hb5)
          clear hb5
          go_wp2_with fail
          rw [HTV.out]
          refine (items_any HTA5.out (by rw [HLA.out]; omega)).mono ?_
          rintro r w6 ⟨v6, rfl, ho6, hb6⟩
          rw [← HTV.out]
          obtain ⟨A6, c6, rfl, hc6, hes6⟩ := ho6.form
          rw [HLA.out] at hc6 ⊢
          have HTA6 := Lib.hid (HTA5.out.below hb6)
          have HTB6 := Lib.hid (HTB5.out.below hb6)
          have HB6 := Lib.hid (bthen HB5.out hb6)
          have HBR6 := Lib.hid (bthen HBR5.out hb6)
          clear ho6 hes6 hb6
          go_wp2
          go_loopw [6, 117] (fun s6 s117 wz => ∃ (j : Nat) (T4 : TO), j ≤ i ∧ s117 = .int .i64 (j : Nat) ∧ s6 = tb T4 ∧ Below w6.heap.size w6 wz ∧ Hid (Ord4 w wz l j T4)) (fun _ s117 _ => i - (intOf s117).toNat)
          case atStart => exact ⟨0, T, Nat.zero_le _, rfl, HTV.out, Below.refl _ _, Lib.hid ⟨HTA6.out, fun x => ⟨fun h => ⟨(HM.out x).1 h, fun j y hj => absurd hj (by omega)⟩, fun h => (HM.out x).2 h.1⟩, by rw [HLA.out]; omega, HB6.out⟩⟩
          case round =>
            obtain ⟨j, T4, hj, rfl, rfl, hbz, HZ⟩ := hrel
            by_cases hlt4 : j < i
            · obtain ⟨ad, e, rfl, he, hl, q0, q1⟩ := ((HES.out.below HBR6.out).below hbz).at_ (i := j) (by rw [HLEN.out]; exact hlt4)
              have hlow : Low T4 := HZ.out.tr.low (by have := HZ.out.len; omega)
              have HE := Lib.hid he
              have HBZ := Lib.hid hbz
              have hin4 : e ∈ tl T4 := (HZ.out.mem e).2 ⟨List.mem_of_getElem? he, fun j' y hj' hy hk => by
                have h1 := List.pairwise_iff_getElem.1 HAP.out j' j (List.getElem?_eq_some_iff.1 hy).1 (List.getElem?_eq_some_iff.1 he).1 hj'
                rw [(List.getElem?_eq_some_iff.1 hy).2, (List.getElem?_eq_some_iff.1 he).2] at h1
                exact h1 hk⟩
              have HLK := Lib.hid (look_some HZ.out.tr.sorted hin4)
              obtain ⟨tp4, htv4⟩ : ∃ tp4, Value.pointer tp4 = tb T4 := ⟨_, rfl⟩
              rw [← htv4]
              have HTV4 := Lib.hid htv4
              clear he hbz hin4 htv4
              go_wp2_with fail
              rw [HTV4.out]
              refine (del_any HZ.out.tr hlow).mono ?_
              rintro r w7 ⟨T5, rfl, ht5, hb7, hl5, _, _⟩
              rw [HLK.out, Option.isSome_some]
              have HZ2 : Hid (Ord4 w w7 l (j + 1) T5) := Lib.hid ⟨ht5, fun x => by
                rw [hl5, mem_del, HZ.out.mem]
                constructor
                · rintro ⟨⟨h1, h2⟩, h3⟩
                  refine ⟨h1, fun j' y hj' hy => ?_⟩
                  rcases Nat.lt_or_ge j' j with h | h
                  · exact h2 j' y h hy
                  · obtain rfl : j' = j := by omega
                    rw [HE.out] at hy
                    cases hy
                    exact fun hk => h3 hk.symm
                · rintro ⟨h1, h2⟩
                  exact ⟨⟨h1, fun j' y hj' hy => h2 j' y (by omega) hy⟩, fun hk => h2 j e (Nat.lt_succ_self _) HE.out hk.symm⟩, by
                rw [hl5]
                exact Nat.le_trans (del_length _ HZ.out.tr.sorted) HZ.out.len, bthen HZ.out.below hb7⟩
              have hbz2 := bthen HBZ.out hb7
              clear ht5 hl5 hb7 q0 q1
              go_wp2
              exact ⟨⟨j + 1, T5, by omega, by go_num, rfl, hbz2, HZ2⟩, by simp [intOf]; omega⟩
            · have hji : j = i := by omega
              subst hji
              have hT4 : T4 = none := by
                cases T4 with
                | none => rfl
                | some x =>
                  exfalso
                  obtain ⟨h4, s4⟩ := x
                  have t4 := (HZ.out.tr (h4, s4) rfl).len
                  have hne : s4.l ≠ [] := fun e => by rw [e] at t4; simp at t4
                  obtain ⟨y, hy⟩ := List.exists_mem_of_ne_nil _ hne
                  obtain ⟨h1, h2⟩ := (HZ.out.mem y).1 hy
                  obtain ⟨p, hp⟩ := List.getElem?_of_mem h1
                  exact h2 p y (by have := (List.getElem?_eq_some_iff.1 hp).1; rwa [HLEN.out] at this) hp rfl
              subst hT4
              rw [show tb none = Value.pointer none from rfl]
              have HTB7 := Lib.hid (HTB6.out.below hbz)
              have HBZ := Lib.hid HZ.out.below
              clear hbz
              go_wp2_with fail
              rw [HTV3.out]
              refine (items_any HTB7.out (by rw [HSAME.out, HLA.out]; omega)).mono ?_
              rintro r w8 ⟨v8, rfl, ho8, hb8⟩
              obtain ⟨A8, c8, rfl, hc8, hes8⟩ := ho8.form
              rw [HSAME.out, HLA.out]
              have hb := bthen HBZ.out hb8
              clear ho8 hes8 hb8
              go_wp2
              go_ret
              exact ⟨rfl, hb⟩
        · obtain ⟨q', hq'⟩ : ∃ q', q = q' + 1 := ⟨q - 1, by omega⟩
          have hvq : v = (q' : Int) := by omega
          subst hvq
          obtain ⟨p, hp⟩ : ∃ p, p = (q' + k) % i := ⟨_, rfl⟩
          have hpn : p < i := by rw [hp]; exact Nat.mod_lt _ (by omega)
          have hmod : ((q' : Int) + (k : Int)).tmod (i : Int) = (p : Int) := by rw [hp]; rfl
          have HQ' := Lib.hid hq'
          have HPP := Lib.hid hp
          obtain ⟨ad, e, rfl, he, hl, q0, q1⟩ := (HES.out.below (bthen hbr hbq)).at_ (i := p) (by rw [HLEN.out]; exact hpn)
          obtain ⟨hkey, hval⟩ := HA.out.strs e (List.mem_of_getElem? he)
          have HE := Lib.hid he
          have HOK := Lib.hid (HOKS.out e (List.mem_of_getElem? he))
          have hql := HQ.out.len
          have hlow : Low T3 := HQ.out.tr.low (by omega)
          have HBQ := Lib.hid hbq
          have hq1 : q' < i := by omega
          obtain ⟨tp3, htv3⟩ : ∃ tp3, Value.pointer tp3 = tb T3 := ⟨_, rfl⟩
          rw [← htv3]
          have HTV3 := Lib.hid htv3
          clear he hbq hp hq' hv htv3
          go_wp2_with fail
          rw [HTV3.out]
          refine (put_any HQ.out.tr hlow hkey hval).mono ?_
          rintro r w5 ⟨T5, rfl, ht5, hb5, _, hyes⟩
          obtain ⟨hl5, _, _⟩ := hyes HOK.out
          have HQ2 : Hid (Ord3 w w5 l i k q' T5) := Lib.hid ⟨ht5, fun x => by
            rw [hl5, mem_put_in HAP.out (fun y hy => by
              obtain ⟨j, _, _, hj⟩ := (HQ.out.mem y).1 hy
              exact List.mem_of_getElem? hj) (List.mem_of_getElem? HE.out), HQ.out.mem]
            have hqq := HQ'.out
            have hpp := HPP.out
            constructor
            · rintro (rfl | ⟨j, h1, h2, h3⟩)
              · exact ⟨q', Nat.le_refl _, hq1, by rw [← hpp]; exact HE.out⟩
              · exact ⟨j, by omega, h2, h3⟩
            · rintro ⟨j, h1, h2, h3⟩
              rcases Nat.eq_or_lt_of_le h1 with h4 | h4
              · subst h4
                rw [← hpp, HE.out] at h3
                exact .inl (Option.some.inj h3).symm
              · exact .inr ⟨j, by omega, h2, h3⟩, by
            have hqq := HQ'.out
            rw [hl5]
            rcases put_length HQ.out.tr.sorted e with h | h <;> omega, bthen HQ.out.below hb5⟩
          have hbq2 := bthen HBQ.out hb5
          clear ht5 hl5 hb5 hyes q0 q1 hmod
          go_wp2
          exact ⟨⟨q', (q' : Int) - 1, T5, by omega, rfl, rfl, rfl, hbq2, HQ2⟩, by simp [intOf]⟩

end Go.Proofs.Ytobkldjomplhgaa

namespace Go.Proofs.Ytobkldjomplhgaa.treeOrder
open Go.ChangeShapes Go.WideShapes Go.ChangeAt Go.RowKit
open Go.ChangeMaps (open_string shut_string)
set_option linter.unusedVariables false

theorem own : ownKnob Try.prog.godebug = none := by kernel_rfl
theorem laidOut : laidOutB Try.prog = true := by kernel_rfl

set_option maxRecDepth 100000 in
theorem lifted (os : Os) (started : os.Started) (H : Type) (enc : TypeId × Value → H) :
    ReturnsInHanded {} Try.checked os 7 .any (Rows.treeOrderSpec.pre6 enc Try.prog Try.f7 Rows.treeOrderRow.domain false) (Rows.treeOrderSpec.post enc Try.prog Try.f7 false true false false) := by
  refine returnsInHanded_of_change_sized (C := Try.checked) own started (by kernel_rfl) Try.func7
    (ChangeSpec.witness6 (enc := enc) (C := Try.checked) false ⟨#[], #[.slice none 0 0, .int .u64 0], []⟩ 8 (by kernel_rfl) (by kernel_rfl) (by kernel_rfl) (by kernel_rfl)) ?_
  intro W base args ds gs before hval0 hW hcnd hsz0 _
  have hval : ∀ (j : Nat) t v, Try.f7.params[j]? = some t → args[j]? = some v → Value.okWide Try.prog W .any base t v := hval0
  have hsz : (DataW.weightsEach Try.prog (Try.f7.params.toList ++ Rows.treeOrderSpec.plain.varTypes Try.prog) (ds ++ gs)).all (· ≤ reachBytes) = true := hsz0
  have hW' := hW
  obtain ⟨p, q, hA0, hV, rfl, hfz, hnd⟩ := hW
  have hA : DataW.TrodAll enc Try.prog W 0 (fun _ => true) true Try.f7.params.toList args.toList ds p := hA0
  rw [Try.params7] at hA hval hsz
  obtain ⟨v0, vs0, d0, ds0, p0, q0, hargs, rfl, rfl, h0, r0⟩ := trodAll_cons hA
  obtain ⟨v1, vs1, d1, ds1, p1, q1, rfl, rfl, rfl, h1, r1⟩ := trodAll_cons r0
  obtain ⟨rfl, rfl, rfl⟩ := trodAll_nil r1
  obtain rfl : args = #[v0, v1] := by cases args; simp_all
  obtain ⟨rfl, rfl⟩ := trodVars_none hV
  obtain ⟨A0, n0, c0, rfl⟩ := okWide_slice Try.underlying26 (hval 0 26 v0 rfl rfl)
  have k0 := h0
  have lt0 : ∀ x ∈ p0, x.block < W.heap.size := by obtain ⟨m, hm⟩ := k0; exact DataW.trod_lt m _ _ _ hm
  obtain ⟨l0, w0⟩ := open_ents h0 (fun m hm => of_decide_eq_true (List.all_eq_true.1 hsz _ (DataW.weights_mem_each (j := 0) (t := 26) rfl rfl m hm)))
  obtain ⟨a1, rfl, rfl, rfl, w1⟩ := open_int Try.underlying58 (hval 1 58 v1 rfl rfl) h1
  clear hA0 hval0 hsz hsz0
  refine (treeOrder_walk A0 n0 c0 l0 a1 W w0 w1).mono fun e W' ⟨he, bel⟩ => ?_
  subst he
  exact ⟨_, rfl, _, _, _, [], _, [], hW', trodAll_mk1 (shut_bool Try.underlying4 _), (trodAll_cons_mk (Below.trod laidOut (by kernel_rfl) (of_decide_eq_true (by kernel_rfl)) k0 bel lt0) (trodAll_cons_mk (shut_int Try.underlying58 w1) trodAll_mk0)), rfl, bel.frame _, fun h => by cases h⟩

theorem over : Rows.treeOrderRow.holds Try.pinned (OpenSpec.ofChange Rows.treeOrderSpec) :=
  OpenClaim.holds_of_wide 7 Try.f7 rfl rfl rfl rfl rfl rfl rfl ⟨rfl, rfl, rfl, rfl, rfl⟩ rfl rfl rfl rfl rfl (by kernel_rfl) Try.func7 (by kernel_rfl)
    (of_decide_eq_true (by kernel_rfl)) (by unfold Func.isWrapper; first | (rw [if_pos (by decide +kernel)]; kernel_rfl) | (rw [if_neg (by decide +kernel)]; exact ⟨rfl, rfl⟩))
    (fun os started H enc _ => lifted os started H enc)

theorem proved : Rows.TreeOrderSaid := over
#print axioms proved

end Go.Proofs.Ytobkldjomplhgaa.treeOrder
