/-
  The contracts of pair.Find, of pair.cut and of the reference's Find: a key's place; conditions: the slice can be read.
-/
import Derived.Test.YtkooaechcbopnaaPairPure
namespace Go.Proofs.Ytkooaechcbopnaa
open Go.RowKit Go.Sort
set_option linter.unusedVariables false

/-- Half-way of a search. -/
structure Mid (l : List Ent) (key : ByteArray) (lo hi : Nat) : Prop where
  under : Sorted l → ∀ j e, j < lo → l[j]? = some e → kl e.k key
  above : Sorted l → ∀ j e, hi ≤ j → l[j]? = some e → ¬ kl e.k key
theorem Mid.up {l : List Ent} {key : ByteArray} {lo hi m : Nat} {e : Ent} (h : Mid l key lo hi) (he : l[m]? = some e) (hk : kl e.k key) : Mid l key (m + 1) hi where
  under := fun hs j x hj hx => by
    rcases Nat.lt_or_ge j m with hjm | hjm
    · exact kl_trans (sorted_lt hs hjm hx he) hk
    · have : j = m := by omega
      subst this
      rw [he] at hx
      cases hx
      exact hk
  above := h.above
theorem Mid.down {l : List Ent} {key : ByteArray} {lo hi m : Nat} {e : Ent} (h : Mid l key lo hi) (he : l[m]? = some e) (hk : ¬ kl e.k key) : Mid l key lo m where
  under := h.under
  above := fun hs j x hj hx => by
    rcases Nat.lt_or_ge m j with hjm | hjm
    · exact fun hx2 => hk (kl_trans (sorted_lt hs hjm he hx) hx2)
    · have : j = m := by omega
      subst this
      rw [he] at hx
      cases hx
      exact hk
theorem Mid.place {l : List Ent} {key : ByteArray} {i : Nat} (h : Mid l key i i) (hi : i ≤ l.length) {f : Bool} (hf : f = true ↔ ∃ e, l[i]? = some e ∧ e.k = key) : Place l key i f := ⟨hi, hf, h.under, h.above⟩

/-- What a search answers. -/
def FindPost (w : World) (l : List Ent) (key : ByteArray) (e : Ending) (w' : World) : Prop :=
  ∃ (i : Nat) (f : Bool), e = .returned (.tuple #[.int .i64 i, .bool f]) ∧ Place l key i f ∧ Below w.heap.size w w'

set_option maxHeartbeats 400000 in
theorem find_any (A : Option Addr) (n c : Nat) (l : List Ent) (key : ByteArray) (w : World) (hr : Es w A l) (hn : l.length = n) (hb : n ≤ 100000000000) :
    Calls Try.prog 47 #[.slice A n c, .string key] w (FindPost w l key) := by
  have Hn := Lib.hid hn
  clear hn
  go_enter Try.func47, Try.ntmps47
  go_wp2
  go_loop [6, 7] (fun s6 s7 => ∃ lo hi : Nat, s6 = .int .i64 lo ∧ s7 = .int .i64 hi ∧ lo ≤ hi ∧ hi ≤ n ∧ Mid l key lo hi) (fun s6 s7 => (intOf s7).toNat - (intOf s6).toNat)
  case atStart => exact ⟨0, n, rfl, rfl, Nat.zero_le _, Nat.le_refl _, ⟨fun _ j _ hj => absurd hj (by omega), fun _ j e hj he => by have := (List.getElem?_eq_some_iff.1 he).1; rw [Hn.out] at this; omega⟩⟩
  case round =>
    obtain ⟨lo, hi, rfl, rfl, hle, hin, hmid⟩ := hrel
    have HM := Lib.hid hmid
    clear hmid
    by_cases hlt : lo < hi
    · obtain ⟨m, hm⟩ : ∃ m, m = lo + (hi - lo) / 2 := ⟨_, rfl⟩
      have hm1 : lo ≤ m := by omega
      have hm2 : m < hi := by omega
      have hmi : (lo : Int) + ((hi : Int) - lo).tdiv 2 = (m : Int) := by
        have h2 : ((hi : Int) - lo).tdiv 2 = ((hi - lo : Nat) / 2 : Nat) := by
          rw [show ((hi : Int) - lo) = ((hi - lo : Nat) : Int) by omega]
          rfl
        rw [h2]
        omega
      obtain ⟨ad, x, rfl, hx, hl, h1, h2⟩ := hr.at_ (i := m) (by rw [Hn.out]; omega)
      have Hx := Lib.hid hx
      clear hx hm
      have hle2 := less_eq x.k key
      by_cases hd : kl x.k key
      · rw [decide_eq_true hd] at hle2
        go_wp2
        exact ⟨⟨m + 1, hi, by go_num, rfl, by omega, hin, HM.out.up Hx.out hd⟩, by simp [intOf]; omega⟩
      · rw [decide_eq_false hd] at hle2
        go_wp2
        exact ⟨⟨lo, m, rfl, rfl, hm1, by omega, HM.out.down Hx.out hd⟩, by simp [intOf]; omega⟩
    · have he : lo = hi := by omega
      subst he
      clear hle hlt
      by_cases hln : lo < n
      · obtain ⟨ad, x, rfl, hx, hl, h1, h2⟩ := hr.at_ (i := lo) (by rw [Hn.out]; omega)
        have Hx := Lib.hid hx
        clear hx
        have hln' : (lo : Int) < n := by omega
        have hd : decide ((lo : Int) < n) = true := decide_eq_true hln'
        have hsm := same_eq x.k key
        by_cases hk : x.k = key
        · rw [decide_eq_true hk] at hsm
          clear hln'
          go_wp2
          go_quiet (fail)
          go_wp2
          go_ret2
          exact ⟨lo, true, rfl, HM.out.place (by rw [Hn.out]; exact hin) ⟨fun _ => ⟨x, Hx.out, hk⟩, fun _ => rfl⟩, below_drewN (Below.refl _ _) _⟩
        · rw [decide_eq_false hk] at hsm
          clear hln'
          go_wp2
          go_quiet (fail)
          go_wp2
          go_ret2
          exact ⟨lo, false, rfl, HM.out.place (by rw [Hn.out]; exact hin) ⟨fun h => (by cases h), fun ⟨y, hy, hyk⟩ => by rw [Hx.out] at hy; cases hy; exact absurd hyk hk⟩, below_drewN (Below.refl _ _) _⟩
      · have hd : decide ((lo : Int) < n) = false := decide_eq_false (by omega)
        go_wp2
        go_quiet (fail)
        go_wp2
        go_ret2
        exact ⟨lo, false, rfl, HM.out.place (by rw [Hn.out]; exact hin) ⟨fun h => (by cases h), fun ⟨y, hy, _⟩ => by have := (List.getElem?_eq_some_iff.1 hy).1; rw [Hn.out] at this; omega⟩, below_drewN (Below.refl _ _) _⟩

/-- Half-way of the reference's search. -/
structure Run (l : List Ent) (key : ByteArray) (n i : Nat) : Prop where
  le : n ≤ i
  under : ∀ j e, j < n → l[j]? = some e → kl e.k key
  above : ∀ j e, n ≤ j → j < i → l[j]? = some e → kl key e.k

set_option maxHeartbeats 400000 in
theorem refFind_any (A : Option Addr) (n c : Nat) (l : List Ent) (key : ByteArray) (w : World) (hs : Sorted l) (hr : Es w A l) (hn : l.length = n) (hb : n ≤ 100000000000) :
    Calls Try.prog 38 #[.slice A n c, .string key] w (FindPost w l key) := by
  have Hn := Lib.hid hn
  clear hn
  go_enter Try.func38, Try.ntmps38
  go_wp2
  go_loop [6, 10] (fun s6 s10 => ∃ m i : Nat, s6 = .int .i64 m ∧ s10 = .int .i64 i ∧ i ≤ n ∧ m ≤ i ∧ Run l key m i) (fun _ s10 => n - (intOf s10).toNat)
  case atStart => exact ⟨0, 0, rfl, rfl, Nat.zero_le _, Nat.le_refl _, ⟨Nat.le_refl _, fun j _ hj => absurd hj (by omega), fun j _ _ hj => absurd hj (by omega)⟩⟩
  case round =>
    obtain ⟨m, i, rfl, rfl, hin, hmi, hrun⟩ := hrel
    have HR := Lib.hid hrun
    clear hrun
    by_cases hlt : i < n
    · obtain ⟨ad, x, rfl, hx, hl, h1, h2⟩ := hr.at_ (i := i) (by rw [Hn.out]; omega)
      have Hx := Lib.hid hx
      clear hx
      have hsm := same_eq x.k key
      have hle2 := less_eq x.k key
      by_cases hk : x.k = key
      · rw [decide_eq_true hk] at hsm
        clear hle2
        have HP : Hid (Place l key i true) := by
          have := place_self hs Hx.out
          rw [hk] at this
          exact this
        clear hk
        go_wp2
        go_ret2
        exact ⟨i, true, rfl, HP.out, Below.refl _ _⟩
      · rw [decide_eq_false hk] at hsm
        have Hk := Lib.hid hk
        clear hk
        by_cases hd : kl x.k key
        · rw [decide_eq_true hd] at hle2
          have hmi2 : m = i := by
            rcases Nat.lt_or_ge m i with h | h
            · have hml : m < l.length := by rw [Hn.out]; omega
              have h3 := HR.out.above m _ (Nat.le_refl _) h (List.getElem?_eq_getElem hml)
              have h4 := sorted_lt hs h (List.getElem?_eq_getElem hml) Hx.out
              exact absurd (kl_trans h3 (kl_trans h4 hd)) (kl_irrefl _)
            · omega
          subst hmi2
          go_wp2
          refine ⟨⟨m + 1, m + 1, by go_num, by go_num, by omega, Nat.le_refl _, ⟨Nat.le_refl _, fun j e hj he => ?_, fun j _ h3 h4 => absurd h4 (by omega)⟩⟩, by simp [intOf]; omega⟩
          rcases Nat.lt_or_ge j m with h | h
          · exact HR.out.under j e h he
          · have : j = m := by omega
            subst this
            rw [Hx.out] at he
            cases he
            exact hd
        · rw [decide_eq_false hd] at hle2
          go_wp2
          refine ⟨⟨m, i + 1, rfl, by go_num, by omega, by omega, ⟨by omega, HR.out.under, fun j e h3 h4 he => ?_⟩⟩, by simp [intOf]; omega⟩
          rcases Nat.lt_or_ge j i with h | h
          · exact HR.out.above j e h3 h he
          · have : j = i := by omega
            subst this
            rw [Hx.out] at he
            cases he
            rcases Decidable.em (kl key x.k) with hk2 | hk2
            · exact hk2
            · exact absurd (kl_tri hd hk2) Hk.out
    · have he : i = n := by omega
      subst he
      go_wp2
      go_ret2
      refine ⟨m, false, rfl, ⟨by rw [Hn.out]; exact hmi, ⟨fun h => (by cases h), fun ⟨y, hy, hyk⟩ => ?_⟩, fun _ => HR.out.under, fun _ j e hj he => ?_⟩, Below.refl _ _⟩
      · have h3 := HR.out.above m y (Nat.le_refl _) (by have := (List.getElem?_eq_some_iff.1 hy).1; rw [Hn.out] at this; omega) hy
        rw [hyk] at h3
        exact absurd h3 (kl_irrefl _)
      · exact kl_asymm (HR.out.above j e hj (by have := (List.getElem?_eq_some_iff.1 he).1; rw [Hn.out] at this; omega) he)

end Go.Proofs.Ytkooaechcbopnaa
