/-
  The contracts of the statement's list (meta pages of the document's type) and of the reference's Same for lists that are alike; conditions: the slices can be read.
-/
import Derived.Test.YtcgmaiadipiegaaDoorMetaNewC
import Derived.Test.YtcgmaiadipiegaaDoorMetaRefD
namespace Go.Proofs.YtcgmaiadipiegaaDoor
open Go.RowKit Go.Sort
set_option linter.unusedVariables false
set_option linter.unusedSimpArgs false

theorem infoRM : (Tryd.prog.info? 23).map (fun i => (i.zero, i.size, i.bytes)) = some (some (.agg #[.int .i64 0, .int .i64 0]), 2, 16) := by kernel_rfl
/-- append(l, m), of meta pages of the document's type. -/
theorem append_rmeta (ty : TypeId) {W : World} {base : Nat} {v : Value} {l : List MT} (h : OwnL pcM 23 2 W base v l) (hs : base ≤ W.heap.size) (x y : Int) (hl : l.length ≤ 1000000) :
    ∃ v' w', (Builtin.append_ #[40, 40] ty #[v, .slice (some ⟨W.heap.size, 0, none⟩) 1 1]).run Tryd.prog (W.alloc (.cells #[.int .i64 x, .int .i64 y] 23)) = .ok v' w' ∧ OwnL pcM 23 2 w' base v' (l ++ [⟨x, y⟩]) ∧ (W.alloc (.cells #[.int .i64 x, .int .i64 y] 23)).grownBy w' v.ownBlock :=
  run_append_one encPM 40 23 ty (.agg #[.int .i64 0, .int .i64 0]) 16 ⟨_, Tryd.underlying40, rfl⟩ infoRM rfl (by omega) (by omega) (by omega) h ⟨x, y⟩ hl hs
theorem take_snoc2 {α : Type} {l : List α} {k : Nat} {x : α} (h : l[k]? = some x) : l.take (k + 1) = l.take k ++ [x] := by
  obtain ⟨hk, hx⟩ := List.getElem?_eq_some_iff.1 h
  rw [List.take_succ_eq_append_getElem hk, hx]

set_option maxRecDepth 100000 in
set_option maxHeartbeats 1000000 in
theorem mtList_any (A : Option Addr) (n c : Nat) (l : List MT) (w : World) (hr : Ls pcM w A l) (hn : l.length = n) (hb : n ≤ 100000) :
    Calls Tryd.prog 21 #[.slice A n c] w fun e w' => ∃ v, e = .returned v ∧ OwnL pcM 23 2 w' w.heap.size v l ∧ Below w.heap.size w w' := by
  have Hn := Lib.hid hn
  clear hn
  go_enter Tryd.func21, Tryd.ntmps21
  go_wp2
  go_loopw [3, 7] (fun v i wr => ∃ k : Nat, k ≤ n ∧ i = .int .i64 k ∧ Hid (OwnL pcM 23 2 wr w.heap.size v (l.take k)) ∧ Below w.heap.size w wr) (fun _ i _ => n - (intOf i).toNat)
  case atStart => exact ⟨0, Nat.zero_le _, rfl, OwnL.nil_ _ _ _, Below.refl _ _⟩
  case round =>
    obtain ⟨k, hkn, rfl, HO, hbw⟩ := hrel
    by_cases hlt : k < n
    · obtain ⟨ad, x, rfl, hx, hlb, c1, c2⟩ := (hr.below hbw).atM (i := k) (by rw [Hn.out]; exact hlt)
      obtain ⟨xe, xr⟩ := x
      simp only at c1 c2
      have HX := Lib.hid hx
      obtain ⟨v', w2, hrun, ho2, hg2⟩ := append_rmeta 40 HO.out hbw.size xe xr (by rw [List.length_take]; omega)
      have hba : Below wr.heap.size wr (wr.alloc (.cells #[.int .i64 xe, .int .i64 xr] 23)) := (Below.refl _ _).alloc (Nat.le_refl _) _
      have hbwa := bthen hbw hba
      have HG := Lib.hid ((HO.out.below hba).grow_below hbwa hbwa.size hg2)
      have HR := Lib.hid hrun
      have HO2 : Hid (OwnL pcM 23 2 w2 w.heap.size v' (l.take (k + 1))) := by rw [take_snoc2 HX.out]; exact ho2
      clear hrun ho2 hg2 hba hbwa HO hx
      go_wp2_with (at_builtin; refine wpList_append_ran rfl (.tmp 10) (.tmp 15) 40 rfl _ _ _ _ rfl rfl HR.out ?_)
      exact ⟨⟨k + 1, by omega, by go_num, HO2, HG.out⟩, by simp [intOf]; omega⟩
    · have hkn' : k = n := by omega
      subst hkn'
      have htl : l.take k = l := List.take_of_length_le (by rw [Hn.out]; exact Nat.le_refl _)
      rw [htl] at HO
      go_wp2
      go_ret
      exact ⟨_, rfl, HO.out, hbw⟩

set_option maxRecDepth 100000 in
set_option maxHeartbeats 1000000 in
theorem mtSame_any (A B : Option Addr) (n c d : Nat) (l : List MT) (w : World) (hr : Ls pcM w A l) (hs : Ls pcM w B l) (hn : l.length = n) (hb : n ≤ 100000) :
    Calls Tryd.prog 20 #[.slice A n c, .slice B n d] w fun e w' => e = .returned (.bool true) ∧ Below w.heap.size w w' := by
  have Hn := Lib.hid hn
  clear hn
  go_enter Tryd.func20, Tryd.ntmps20
  go_wp2
  go_loopw [13] (fun i wr => ∃ k : Nat, k ≤ n ∧ i = .int .i64 k ∧ Below w.heap.size w wr) (fun i _ => n - (intOf i).toNat)
  case atStart => exact ⟨0, Nat.zero_le _, rfl, Below.refl _ _⟩
  case round =>
    obtain ⟨k, hk, rfl, hb⟩ := hrel
    by_cases hlt : k < n
    · obtain ⟨ad, x, rfl, hx, hl, c1, c2⟩ := (hr.below hb).atM (i := k) (by rw [Hn.out]; exact hlt)
      obtain ⟨ad2, x2, rfl, hx2, hl2, d1, d2⟩ := (hs.below hb).atM (i := k) (by rw [Hn.out]; exact hlt)
      rw [hx] at hx2
      obtain rfl : x = x2 := Option.some.inj hx2
      obtain ⟨xe, xr⟩ := x
      simp only at c1 c2 d1 d2
      clear hx hx2
      go_wp2
      go_quiet (fail)
      go_wp2
      exact ⟨⟨k + 1, by omega, by go_num, below_drewN hb _⟩, by simp [intOf]; omega⟩
    · go_wp2
      go_ret
      exact ⟨rfl, hb⟩

end Go.Proofs.YtcgmaiadipiegaaDoor
