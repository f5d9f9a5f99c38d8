/-
  The contract of meta.content: the thirteen bytes that a meta page begins with, in a new row; conditions: numbers of 64 bits.
-/
import Derived.Test.YtcgmaiadipiegaaDoorMetaSmall
import Derived.Lib.OthersKept
namespace Go.Proofs.YtcgmaiadipiegaaDoor
open Go.RowKit Go.Sort
set_option linter.unusedVariables false

theorem wpList_append_ran {ops : Array Oper} {rest : List Oper} {o : Oper} {a : Act} {w : World} {Q : Exit → Act → World → Prop} (hgd : o.guard = none) (s x : Operand) (t : TypeId)
    (ho : o.op = .call { callee := .builtin .append, args := #[s, x], argTypes := #[t, t] }) (v u v' : Value) (w' : World) (hs : a.eval s = v) (hx : a.eval x = u)
    (hrun : (Builtin.append_ #[t, t] o.type #[v, u]).run Tryd.prog w = .ok v' w') (h : wpList Tryd.prog ops Q rest (a.put o.dst v') w') : wpList Tryd.prog ops Q (o :: rest) a w :=
  wpList_plain hgd fun _ hK => by
    unfold Oper.wp execOp
    simp only [ho, resolve, invoke, builtin, Sem.run_bind, Sem.run_pure, Result.andThen_ok, List.map_toArray, List.map_cons, List.map_nil, hs, hx, hrun]
    exact hK _ _ h

/-- A string's iterator is no row. -/
theorem OB.not_iter {w : World} {base k : Nat} {v : Value} {l : List UInt8} {s : ByteArray} {p : Nat} (h : OB w base v l) (hk : w.heap[k]? = some (.stringIter s p)) : v.ownBlock ≠ some k := by
  intro hv
  rcases h.2 with ⟨rfl, _⟩ | ⟨g, cap, cur, rfl, _, hh, _⟩
  · simp [Value.ownBlock] at hv
  · have : g = k := by simpa [Value.ownBlock] using hv
    subst this
    rw [hk] at hh
    cases hh
theorem OB.iterAt {w : World} {base k : Nat} {v : Value} {l : List UInt8} {s : ByteArray} {p : Nat} (h : OB w base v l) (hk : w.heap[k]? = some (.stringIter s p)) (q : Nat) : OB (w.iterAt k s q) base v l := by
  have hne := h.not_iter hk
  refine ⟨h.1, ?_⟩
  rcases h.2 with hv | ⟨g, cap, cur, h1, h2, h3, h4⟩
  · exact .inl hv
  · refine .inr ⟨g, cap, cur, h1, h2, ?_, h4⟩
    rw [Lib.iterAt_other w k g s q (by
      rintro rfl
      exact hne (by rw [h1]; rfl))]
    exact h3
theorem iterPos_of {w : World} {k : Nat} {s : ByteArray} {p : Nat} (h : w.heap[k]? = some (.stringIter s p)) : w.iterPos k = p := by simp [World.iterPos, h]

def wordB : ByteArray := ⟨#[115, 97, 112, 119, 111, 111, 100]⟩
theorem word_at (i : Nat) (h : i < 7) : ∃ b : UInt8, (wordB[i]'h) = b ∧ b.toNat < 128 ∧ wordL.take (i + 1) = wordL.take i ++ [b] := by
  match i, h with
  | 0, _ => exact ⟨115, rfl, by decide, by decide⟩
  | 1, _ => exact ⟨97, rfl, by decide, by decide⟩
  | 2, _ => exact ⟨112, rfl, by decide, by decide⟩
  | 3, _ => exact ⟨119, rfl, by decide, by decide⟩
  | 4, _ => exact ⟨111, rfl, by decide, by decide⟩
  | 5, _ => exact ⟨111, rfl, by decide, by decide⟩
  | 6, _ => exact ⟨100, rfl, by decide, by decide⟩

set_option maxRecDepth 100000 in
set_option maxHeartbeats 1000000 in
theorem mtContent_any (m : MT) (w : World) (hm : MI m) :
    Calls Tryd.prog 26 #[metaV m] w fun e w' => ∃ v, e = .returned v ∧ OB w' w.heap.size v (contM m) ∧ Below w.heap.size w w' := by
  obtain ⟨x, y⟩ := m
  unfold metaV contM
  simp only
  have hx : I64 x := hm.1
  have hy : I64 y := hm.2
  clear hm
  have hb0 : Below w.heap.size w (w.alloc (.cells #[.int .i64 x, .int .i64 y] 29)) := (Below.refl _ _).alloc (Nat.le_refl _) _
  have HX := Lib.hid hx
  have HY := Lib.hid hy
  clear hx hy
  go_enter Tryd.func26, Tryd.ntmps26
  go_wp2_with fail
  refine (put32_ob none 0 0 [] x _ (Rd.nil _ _) rfl (by omega) HX.out).mono ?_
  rintro e w1 ⟨v1, rfl, ho1, hb1⟩
  have hy1 := box_at hb1 1 (.int .i64 y) rfl
  have hbw := bthen hb0 hb1
  have hs1 := box_lt hb1
  clear hb0 hb1
  have HO1 := Lib.hid (ho1.mono (b' := w.heap.size + 1) (by simp))
  clear ho1
  rw [List.nil_append] at HO1
  change Hid (OB w1 (w.heap.size + 1) v1 (be32 x)) at HO1
  go_wp2
  go_loopw [3] (fun v wr => ∃ k, k ≤ 7 ∧ wr.heap[w1.heap.size]? = some (.stringIter wordB k) ∧ Hid (OB wr (w.heap.size + 1) v (be32 x ++ wordL.take k)) ∧ Below (w.heap.size + 1) w1 wr) (fun _ wr => 7 - wr.iterPos w1.heap.size)
  case atStart => exact ⟨0, Nat.zero_le _, World.iter_heap w1 _ 0, by
    show OB _ _ _ _
    rw [List.take_zero, List.append_nil]
    exact HO1.out.below ((Below.refl _ _).alloc (Nat.le_refl _) _), (Below.refl _ _).alloc hs1 _⟩
  case round =>
    obtain ⟨k, hk, hit, HO, hbr⟩ := hrel
    have hpos0 := iterPos_of hit
    have hsr : w1.heap.size < wr.heap.size := lt_of_block hit
    have hyr : wr.cell? ⟨w.heap.size, 1, none⟩ = some (.int .i64 y) := (hbr.cell (p := ⟨w.heap.size, 1, none⟩) (by simp)).trans hy1
    by_cases hlt : k < 7
    · obtain ⟨b, hb, hb128, htk⟩ := word_at k hlt
      have hnx : ∀ ty, (Instr.next (.pointer (some ⟨w1.heap.size, 0, none⟩)) true ty).run Tryd.prog wr = .ok (.tuple #[.bool true, .int .i64 k, .int .i32 (b.toNat : Int)]) (wr.iterAt w1.heap.size wordB (k + 1)) := fun ty => by
        have := Lib.run_next_ascii_at (P := Tryd.prog) wr w1.heap.size wordB k ty hit hlt (by rw [hb]; exact hb128)
        rwa [hb] at this
      have hit2 := Lib.iterAt_heap wr w1.heap.size wordB k (k + 1) hit
      have HO2 := Lib.hid (HO.out.iterAt hit (k + 1))
      have hbr2 : Below (w.heap.size + 1) w1 (wr.iterAt w1.heap.size wordB (k + 1)) := Lib.below_iterAt hbr (by omega) _ _
      obtain ⟨W, hW⟩ : ∃ W, W = wr.iterAt w1.heap.size wordB (k + 1) := ⟨_, rfl⟩
      rw [← hW] at hnx hit2 HO2 hbr2
      have hsW : w1.heap.size < W.heap.size := lt_of_block hit2
      have hzz : ∃ z : Int, z = (b.toNat : Int) := ⟨_, rfl⟩
      obtain ⟨z, hz⟩ := hzz
      have hz0 : 0 ≤ z := by omega
      have hz1 : z < 128 := by omega
      have Hu : Hid (Value.int .u8 z = u8 b) := by rw [hz]; rfl
      rw [← hz] at hnx
      obtain ⟨v', w2, hrun, ho2, hg2⟩ := append_byte 25 HO2.out (by omega) b (.int .u8 z) Hu.out (by rw [List.length_append, be32_len, List.length_take]; omega)
      have hba : Below W.heap.size W (W.alloc (.cells #[.int .u8 z] 5)) := (Below.refl _ _).alloc (Nat.le_refl _) _
      have HG := Lib.hid (OB.grow_below (HO2.out.below hba) (hbr2.alloc (by omega) _) (by simp; omega) hg2)
      have HI : Hid (w2.heap[w1.heap.size]? = some (.stringIter wordB (k + 1))) := by
        show w2.heap[w1.heap.size]? = _
        rw [hg2.block w1.heap.size (by simp; omega) (fun h => HO2.out.not_iter hit2 h.symm), Below.heap_alloc _ _ _ hsW]
        exact hit2
      have HR := Lib.hid hrun
      have HO3 : Hid (OB w2 (w.heap.size + 1) v' (be32 x ++ wordL.take (k + 1))) := by
        show OB _ _ _ _
        rw [htk, ← List.append_assoc]
        exact ho2
      clear hW hit HO hbr hyr hz hb hb128 htk hrun ho2 hg2 hba hit2
      go_wp2_with (at_builtin; refine wpList_append_ran rfl (.tmp 13) (.tmp 16) 25 rfl _ _ _ _ rfl rfl HR.out ?_)
      go_roundw
      case rel => exact ⟨k + 1, by omega, HI.out, HO3.out, HG.out⟩
      case measure => rw [iterPos_of HI.out, hpos0]; omega
    · have hk7 : k = 7 := by omega
      subst hk7
      have hnx : ∀ ty, (Instr.next (.pointer (some ⟨w1.heap.size, 0, none⟩)) true ty).run Tryd.prog wr = .ok (.tuple #[.bool false]) wr := fun ty => Lib.run_next_end_at (P := Tryd.prog) wr w1.heap.size wordB 7 ty hit (by decide)
      obtain ⟨A, n, c, rfl, hn, hc, hr⟩ := HO.out.named
      have Hn := Lib.hid hn
      have HB : Hid (Below w.heap.size w wr) := Lib.hid (hbw.trans (hbr.mono (by omega)))
      have hn2 : n ≤ 1000000 := by rw [← hn, List.length_append, be32_len, List.length_take]; omega
      clear hn hit HO hbr hpos0
      go_wp2_with fail
      refine (put16_ob A n c _ y wr hr Hn.out hn2 HY.out).mono ?_
      rintro e w2 ⟨v2, rfl, ho2, hb2⟩
      have HO2 := Lib.hid ho2
      clear ho2
      go_wp2
      go_ret
      exact ⟨v2, rfl, HO2.out.mono HB.out.size, bthen HB.out hb2⟩

end Go.Proofs.YtcgmaiadipiegaaDoor
