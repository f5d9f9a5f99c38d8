/-
  slices.Backward over strings: it yields each with its place, the last one first; conditions: the slice can be read, few elements.
-/
import Derived.Test.YtelenboncejdaaaGreatDoorShPlace
namespace Go.Proofs.YtelenboncejdaaaGreatDoor
open Go.RowKit Go.Sort Go.Shelf Rt
set_option linter.unusedVariables false
attribute [local go_sem] Oper.semAt_some wide_fn wide_depth

theorem Ls.strAt {w : World} {A : Option Addr} {l : List ByteArray} (h : Ls strC w A l) {i : Nat} (hi : i < l.length) :
    ∃ ad x, A = some ad ∧ l[i]? = some x ∧ ad.block < w.heap.size ∧ w.cell? (ad.add i) = some (.string x) := by
  obtain ⟨ad, x, rfl, hx, hlt, hc⟩ := h.at_ strC_enc hi
  have := hc 0 _ (by omega) rfl
  rw [Nat.mul_one] at this
  exact ⟨ad, x, rfl, hx, hlt, this⟩
theorem backS_made (w : World) (A : Option Addr) (n c : Nat) : Calls Tryz.prog 170 #[.slice A n c] w fun e w' =>
    e = .returned (.func (.func 185) #[] #[pb w.heap.size]) ∧ w' = w.alloc (.cells #[.slice A n c] 176) := by
  go_enter Tryz.func170, Tryz.ntmps170
  go_wp2
  go_ret
  exact ⟨rfl, rfl⟩
def valS (l : List ByteArray) (i : Nat) : Value := .string (l[i]?.getD ByteArray.empty)
set_option maxHeartbeats 4000000 in
set_option maxRecDepth 100000 in
theorem backS_gives {W : World} {bs n c : Nat} {A : Option Addr} {l0 : List ByteArray} (hbs : W.cell? ⟨bs, 0, none⟩ = some (.slice A n c)) (hls : Ls strC W A l0) (hn : l0.length = n) (hb : n ≤ 1000000) :
    Gives Tryz.prog 185 #[pb bs] (encI (valS l0)) (List.range n).reverse (Kb bs A) W := by
  intro l J Jx T hT hJ hJx hY h0
  have HT := Lib.hid hT
  have HJ := Lib.hid hJ
  have HJx := Lib.hid hJx
  have HY := Lib.hid hY
  have H0 := Lib.hid h0
  have HLS := Lib.hid hls
  have Hn := Lib.hid hn
  have HBS := Lib.hid hbs
  clear hT hJ hJx hY h0 hls hn
  refine callsIn_of_wp_marks Tryz.func185 rfl trivial ?_ rfl
  simp only [Tryz.ntmps185, List.size_toArray, List.length_cons, List.length_nil, Nat.reduceAdd, Nat.reduceSub, Array.replicate_succ, Array.replicate_zero, List.push_toArray, List.append_toArray, List.nil_append, List.cons_append]
  gi_wp2_with fail
  gi_loopw [3] (fun s3 wr => ∃ (d : Nat) (T1 : BS), d ≤ n ∧ s3 = .int .i64 ((n : Int) - 1 - d) ∧ Hid (InRev J W T ((List.range n).reverse.take d) T1 wr)) (fun s3 _ => (intOf s3 + 1).toNat)
  case atStart => exact ⟨0, T, Nat.zero_le _, by simp, Lib.hid ⟨.refl fun k hk => (HT.out k hk).1, H0.out⟩⟩
  case round =>
    obtain ⟨d, T1, hd, rfl, HI⟩ := hrel
    have hbr := HI.out.st.cell HBS.out fun h => (HT.out _ h).2 (.inl rfl)
    by_cases hlt : d < n
    · obtain ⟨ad, p, rfl, hp, hadl, hc⟩ := (HLS.out.keepB (fun ad e => HI.out.st.same _ (by
          obtain ⟨ad', e', hl, _⟩ := HLS.out (by rw [Hn.out]; omega)
          rw [e] at e'
          cases e'
          exact hl) fun h => (HT.out _ h).2 (.inr ⟨ad, e, rfl⟩)) HI.out.st.fx.size).strAt (i := n - 1 - d) (by rw [Hn.out]; omega)
      obtain ⟨i, hi⟩ : ∃ i, n - 1 - d = i := ⟨_, rfl⟩
      have hii : (n : Int) - 1 - d = (i : Int) := by omega
      have hin : i < n := by omega
      rw [hi] at hp hc
      rw [hii]
      have HPre : Hid ((List.range n).reverse.take d ++ [i] <+: (List.range n).reverse) := Lib.hid (by rw [← hi]; exact rev_prefix hlt)
      have HTk : Hid ((List.range n).reverse.take (d + 1) = (List.range n).reverse.take d ++ [i]) := Lib.hid (by rw [← hi]; exact rev_take hlt)
      have hv : valS l0 i = .string p := by unfold valS; rw [hp]; rfl
      obtain ⟨fn, tmps, assign, body, hy, hR⟩ := HY.out _ i T1 wr HPre.out HI.out.j
      simp only [encI, hv] at hy
      have HRR := Lib.hid hR
      have HII := Lib.hid hii
      have HIN := Lib.hid hi
      clear hR hp hv hi hii
      gi_wp2_with fail
      refine HRR.out.mono ?_
      rintro r W3 ⟨T3, hst3, ⟨rfl, hj3⟩ | ⟨rfl, hj3⟩⟩
      · have HI3 : Hid (InRev J W T ((List.range n).reverse.take (d + 1)) T3 W3) := Lib.hid ⟨HI.out.st.trans hst3, by rw [HTk.out]; exact hj3⟩
        clear hst3 hj3 hy HRR hbr hc
        gi_wp2_with fail
        exact ⟨⟨d + 1, T3, by omega, by have := HII.out; go_num, HI3⟩, by simp [intOf]⟩
      · have HS3 := Lib.hid (HI.out.st.trans hst3)
        have HJ3 := Lib.hid hj3
        clear hst3 hj3 hy HRR hbr hc
        gi_wp2_with fail
        exact ⟨_, results_none rfl _ _ _, ⟨_, rfl⟩, T3, HS3.out, .inr ⟨_, by simp, HPre.out, HJ3.out⟩⟩
    · have he : d = n := by omega
      subst he
      have HJ3 := Lib.hid HI.out.j
      rw [List.take_of_length_le (by simp)] at HJ3
      gi_wp2_with fail
      exact ⟨_, results_none rfl _ _ _, ⟨_, rfl⟩, T1, HI.out.st, .inl HJ3.out⟩

end Go.Proofs.YtelenboncejdaaaGreatDoor
