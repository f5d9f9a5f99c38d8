/-
  The contracts of chain.fit and chain.Join: the value that the document says, or its error; conditions stand at each.
-/
import Derived.Test.YtalhnmaecnielaaChainCut
import Derived.Lib.AppendStr
namespace Go.Proofs.Ytalhnmaecnielaa
open Go.RowKit Go.Sort
set_option linter.unusedVariables false

theorem min_le {a : Int} (h : a ≤ 240) : min a 240 = a := by omega
theorem min_ge {a : Int} (h : 240 < a) : min a 240 = 240 := by omega

set_option maxHeartbeats 800000 in
theorem chFit_any (A : Option Addr) (n c m : Nat) (l : List ByteArray) (w : World) (hr : Ss w A l) (hn : l.length = n) (hb : n ≤ 100) (hm : Long m) (hs : ∀ s ∈ l, s.size ≤ 140737488351232) :
    Calls Try.prog 17 #[.slice A n c, .int .i64 m] w fun e w' => e = .returned (.bool (decide (Fit l m))) ∧ w = w' := by
  have Hn := Lib.hid hn
  have HM := Lib.hid hm
  have HS := Lib.hid hs
  have hm4 : m ≤ 400 := by have := hm.2; omega
  clear hn hm hs
  go_enter Try.func17, Try.ntmps17
  go_wp2_with fail
  refine (chCount_any m w hm4).mono ?_
  rintro e w1 ⟨rfl, rfl⟩
  by_cases hc : n = (m + 239) / 240
  · rw [← hc]
    have Hc := Lib.hid hc
    clear hc
    go_wp2
    go_loopw [1, 15] (fun z i wr => ∃ (k : Nat) (sz : Int), k ≤ n ∧ i = .int .i64 k ∧ z = .int .i64 sz ∧ sz = max (m - 240 * k) 0 ∧ (Fits l m ↔ Fits (l.drop k) sz) ∧ wr = w) (fun _ i _ => n - (intOf i).toNat)
    case atStart => exact ⟨0, m, Nat.zero_le _, rfl, rfl, by omega, by rw [List.drop_zero], rfl⟩
    case round =>
      obtain ⟨k, sz, hk, rfl, rfl, hsz, hiff, rfl⟩ := hrel
      have HI := Lib.hid hiff
      have HZ := Lib.hid hsz
      have hz0 : 0 ≤ sz ∧ sz ≤ 400 := by omega
      clear hiff hsz
      by_cases hlt : k < n
      · obtain ⟨ad, x, rfl, hx, hl, h1⟩ := hr.at_ (i := k) (by rw [Hn.out]; exact hlt)
        have hs1 := HS.out x (List.mem_of_getElem? hx)
        have hdrop : l.drop k = x :: l.drop (k + 1) := by
          obtain ⟨hlk, hxe⟩ := List.getElem?_eq_some_iff.1 hx
          rw [← hxe]
          exact List.drop_eq_getElem_cons hlk
        have Hd := Lib.hid hdrop
        clear hx hdrop
        by_cases h2 : sz ≤ 240
        · have hmin := min_le h2
          by_cases hd : (x.size : Int) = sz
          · go_wp2
            refine ⟨⟨k + 1, 0, by omega, by go_num, ?_, ?_, ?_, by trivial⟩, by simp [intOf]; omega⟩
            · rfl
            · have := HZ.out
              omega
            · refine HI.out.trans ?_
              rw [Hd.out]
              show (_ ∧ Fits _ (sz - min sz 240)) ↔ _
              rw [hmin, Int.sub_self]
              exact and_iff_right hd
          · go_wp2
            go_ret
            rw [show decide (Fit l m) = false from decide_eq_false fun h => by
              have := HI.out.1 h.2
              rw [Hd.out] at this
              have := this.1
              omega]
            exact ⟨rfl, rfl⟩
        · have hmin := min_ge (by omega : 240 < sz)
          by_cases hd : (x.size : Int) = 240
          · go_wp2
            refine ⟨⟨k + 1, sz - 240, by omega, by go_num, ?_, ?_, ?_, by trivial⟩, by simp [intOf]; omega⟩
            · rfl
            · have := HZ.out
              omega
            · refine HI.out.trans ?_
              rw [Hd.out]
              show (_ ∧ Fits _ (sz - min sz 240)) ↔ _
              rw [hmin]
              exact and_iff_right hd
          · go_wp2
            go_ret
            rw [show decide (Fit l m) = false from decide_eq_false fun h => by
              have := HI.out.1 h.2
              rw [Hd.out] at this
              have := this.1
              omega]
            exact ⟨rfl, rfl⟩
      · have he : k = n := by omega
        subst he
        go_wp2
        go_ret
        rw [show decide (Fit l m) = true from decide_eq_true ⟨by rw [Hn.out]; have := Hc.out; omega, HI.out.2 (by
          rw [List.drop_of_length_le (by rw [Hn.out]; exact Nat.le_refl _)]
          show sz = 0
          have := Hc.out
          have := HZ.out
          omega)⟩]
        exact ⟨rfl, rfl⟩
  · go_wp2
    go_ret
    rw [show decide (Fit l m) = false from decide_eq_false fun h => by
      have := h.1
      rw [Hn.out] at this
      omega]
    exact ⟨rfl, rfl⟩

theorem wpList_append_ran2 {ops : Array Oper} {rest : List Oper} {o : Oper} {a : Act} {w : World} {Q : Exit → Act → World → Prop} (hgd : o.guard = none) (s x : Operand) (t t2 : TypeId)
    (ho : o.op = .call { callee := .builtin .append, args := #[s, x], argTypes := #[t, t2] }) (v u v' : Value) (w' : World) (hs : a.eval s = v) (hx : a.eval x = u)
    (hrun : (Builtin.append_ #[t, t2] o.type #[v, u]).run Try.prog w = .ok v' w') (h : wpList Try.prog ops Q rest (a.put o.dst v') w') : wpList Try.prog ops Q (o :: rest) a w :=
  wpList_plain hgd fun _ hK => by
    unfold Oper.wp execOp
    simp only [ho, resolve, invoke, builtin, Sem.run_bind, Sem.run_pure, Result.andThen_ok, List.map_toArray, List.map_cons, List.map_nil, hs, hx, hrun]
    exact hK _ _ h

/-- Bytes in a row of the call's own. -/
def OwnB (w : World) (base : Nat) (v : Value) (l : List UInt8) : Prop := w.ownsRow base 5 1 v l.length (bcells l)
theorem OwnB.form {w : World} {base : Nat} {v : Value} {l : List UInt8} (h : OwnB w base v l) : ∃ A c, v = .slice A l.length c ∧ l.length ≤ c ∧ Rd w A l := by
  rcases h.2 with ⟨rfl, h0⟩ | ⟨g, cap, cur, rfl, hg, hh, hc, _⟩
  · exact ⟨none, 0, by rw [h0], by omega, fun hl => by omega⟩
  · exact ⟨_, _, rfl, hc, fun _ => ⟨_, rfl, lt_of_block hh, h.cells (g := g) rfl⟩⟩
theorem OwnB.at_block {w : World} {base : Nat} {v : Value} {l : List UInt8} (h : OwnB w base v l) : ∀ g, v.ownBlock = some g → base ≤ g := by
  intro g hg
  rcases h.2 with ⟨rfl, h0⟩ | ⟨g', cap, cur, rfl, hb, _⟩
  · simp [Value.ownBlock] at hg
  · have : g' = g := by simpa [Value.ownBlock] using hg
    omega
/-- append(v, s...): onto a row of the call's own. -/
theorem run_append_text {w : World} {base : Nat} {v : Value} {l : List UInt8} (ty : TypeId) (h : OwnB w base v l) (s : ByteArray) (hb : l.length + s.size ≤ 140737488351232) (hbase : base ≤ w.heap.size) :
    ∃ v' w', (Builtin.append_ #[36, 9] ty #[v, .string s]).run Try.prog w = .ok v' w' ∧ OwnB w' base v' (l ++ s.data.toList) ∧ w.grownBy w' v.ownBlock := by
  obtain ⟨i0, hi0, hz0, hz1, hz2⟩ := info_parts u8info
  obtain ⟨v', w', h1, h2, h3, _⟩ := Lib.run_append_own_string (P := Try.prog) w base 36 9 ty 5 i0 Try.underlying36 Try.underlying9 hi0 hz0 hz1 hz2 v l.length (bcells l) h s (by simp only [maxLen]; omega) (by omega) hbase
  refine ⟨v', w', h1, ?_, h3⟩
  unfold OwnB
  rw [List.length_append, bcells_append]
  exact h2

/-- The bytes of pieces. -/
def catL (l : List ByteArray) : List UInt8 := l.flatMap fun s => s.data.toList
theorem catL_snoc {l : List ByteArray} {k : Nat} {x : ByteArray} (h : l[k]? = some x) : catL (l.take (k + 1)) = catL (l.take k) ++ x.data.toList := by
  rw [List.take_add_one, h]
  simp [catL]
theorem catL_le (l : List ByteArray) (k : Nat) : (catL (l.take k)).length ≤ (catL l).length := by
  have h : catL l = catL (l.take k) ++ catL (l.drop k) := by
    unfold catL
    rw [← List.flatMap_append, List.take_append_drop]
  rw [h, List.length_append]
  omega

/-- What Join answers. -/
def ChJoinPost (w : World) (l : List ByteArray) (n : Int) (e : Ending) (w' : World) : Prop := e = .returned (.tuple #[.string (joinS l n), .int .i64 (joinE l n)]) ∧ Below w.heap.size w w'

set_option maxHeartbeats 1600000 in
set_option maxRecDepth 100000 in
theorem chJoin_any (A : Option Addr) (n c : Nat) (z : Int) (l : List ByteArray) (w : World) (hr : Ss w A l) (hn : l.length = n) (hb : n ≤ 140737488351232) (hs : ∀ s ∈ l, s.size ≤ 140737488351232) :
    Calls Try.prog 9 #[.slice A n c, .int .i64 z] w (ChJoinPost w l z) := by
  have Hn := Lib.hid hn
  have HS := Lib.hid hs
  clear hn hs
  go_enter Try.func9, Try.ntmps9
  go_wp2_with fail
  refine (chIsLong_any z w).mono ?_
  rintro e w1 ⟨rfl, rfl⟩
  by_cases hz : Long z
  · rw [decide_eq_true hz]
    have HZ := Lib.hid hz
    obtain ⟨m, rfl⟩ : ∃ m : Nat, z = m := ⟨z.toNat, by have := hz.1; omega⟩
    have hm4 : m ≤ 400 := by have := hz.2; omega
    clear hz
    go_wp2_with fail
    refine (chCount_any 400 w (by omega)).mono ?_
    rintro e w1 ⟨rfl, rfl⟩
    by_cases h2 : n ≤ 2
    · go_wp2_with fail
      refine (chFit_any A n c m l w hr Hn.out (by omega) HZ.out HS.out).mono ?_
      rintro e w1 ⟨rfl, rfl⟩
      by_cases hf : Fit l m
      · rw [decide_eq_true hf]
        have hcl : (catL l).length = m := by
          have := (cut_cat HZ.out hf).2
          have e : (cat l).size = (catL l).length := by
            show (catL l).toArray.size = _
            simp
          omega
        have HF := Lib.hid hf
        have HCL := Lib.hid hcl
        clear hf hcl
        have hmk : ∀ W : World, (Instr.makeSlice 36 (.int .i64 0) (.int .i64 m)).run Try.prog W = .ok (.slice (some ⟨W.heap.size, 0, none⟩) 0 m) (W.alloc (.cells (madeCells #[.int .u8 0] m) 5)) := run_make_bytes 0 m (Nat.zero_le _) (by omega)
        go_wp2
        go_loopw [6, 26] (fun v i wr => ∃ k : Nat, k ≤ n ∧ i = .int .i64 k ∧ OwnB wr w.heap.size v (catL (l.take k)) ∧ Below w.heap.size w wr) (fun _ i _ => n - (intOf i).toNat)
        case atStart => exact ⟨0, Nat.zero_le _, rfl, ⟨by simp [catL, bcells], .inr ⟨_, _, _, rfl, Nat.le_refl _, heap_alloc_new w _, Nat.zero_le _, by simp only [maxLen]; omega, by simp [size_madeCells], by simp [catL, bcells]⟩⟩, (Below.refl _ _).alloc (Nat.le_refl _) _⟩
        case round =>
          obtain ⟨k, hk, rfl, hown, hbw⟩ := hrel
          by_cases hlt : k < n
          · obtain ⟨ad, x, rfl, hx, hl, h1⟩ := (hr.below hbw).at_ (i := k) (by rw [Hn.out]; exact hlt)
            have hle := catL_le l (k + 1)
            rw [catL_snoc hx, List.length_append, HCL.out] at hle
            obtain ⟨v', w2, hrun, hown2, hg2⟩ := run_append_text 36 hown x (by have : x.data.toList.length = x.size := rfl; omega) hbw.size
            rw [← catL_snoc hx] at hown2
            have HG := Lib.hid (hbw.grown hg2 hbw.size (fun q hq => hown.at_block q hq))
            have HR := Lib.hid hrun
            have HO2 := Lib.hid hown2
            clear hrun hown2 hg2 hown hle hx
            go_wp2_with (at_builtin; refine wpList_append_ran2 rfl (.tmp 30) (.tmp 31) 36 9 rfl _ _ _ _ rfl rfl HR.out ?_)
            exact ⟨⟨k + 1, by omega, by go_num, HO2.out, HG.out⟩, by simp [intOf]; omega⟩
          · have he : k = n := by omega
            subst he
            rw [List.take_of_length_le (by rw [Hn.out]; exact Nat.le_refl _)] at hown
            obtain ⟨B, d, rfl, hcd, hrd⟩ := hown.form
            have hcv := conv_rd (c := d) hrd rfl
            clear hown hrd
            go_wp2
            go_ret2
            refine ⟨?_, hbw⟩
            rw [show joinS l m = cat l from if_pos ⟨HZ.out, by rw [Hn.out]; exact h2, HF.out⟩, show joinE l m = 0 from (if_pos ⟨HZ.out, by rw [Hn.out]; exact h2⟩).trans (if_pos HF.out)]
            rfl
      · rw [decide_eq_false hf]
        go_wp2
        go_ret2
        refine ⟨?_, Below.refl _ _⟩
        rw [show joinS l m = ByteArray.empty from if_neg fun h => hf h.2.2, show joinE l m = 3 from (if_pos ⟨HZ.out, by rw [Hn.out]; exact h2⟩).trans (if_neg hf)]
        rfl
    · go_wp2
      go_ret2
      refine ⟨?_, Below.refl _ _⟩
      rw [show joinS l m = ByteArray.empty from if_neg fun h => h2 (by have := h.2.1; rw [Hn.out] at this; exact this), show joinE l m = 4 from if_neg fun h => h2 (by have := h.2; rw [Hn.out] at this; exact this)]
      rfl
  · rw [decide_eq_false hz]
    go_wp2
    go_ret2
    refine ⟨?_, Below.refl _ _⟩
    rw [show joinS l z = ByteArray.empty from if_neg fun h => hz h.1, show joinE l z = 4 from if_neg fun h => hz h.1]
    rfl

end Go.Proofs.Ytalhnmaecnielaa
