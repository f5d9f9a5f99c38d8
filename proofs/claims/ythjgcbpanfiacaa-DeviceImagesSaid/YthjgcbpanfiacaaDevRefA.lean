/-
  The contracts of the reference's Write, Read and Bytes; conditions stand at each.
-/
import Derived.Test.YthjgcbpanfiacaaDevRef
namespace Go.Proofs.Ythjgcbpanfiacaa
open Go.RowKit Go.Sort
set_option linter.unusedVariables false
set_option linter.unusedSimpArgs false

theorem refWrite_no {w : World} {b n : Nat} {st : List UInt8} {pd : List WR} {F : Nat → Prop} (i : Int) (s : ByteArray) (hd : Ref w b n st pd F) (hno : ¬ (0 ≤ i ∧ i < n ∧ s.size = 256)) (hs : s.size ≤ 140737488351232) :
    Calls Try.prog 15 #[.pointer (some ⟨b, 0, none⟩), .int .i64 i, .string s] w fun e w' => e = .returned (.int .i64 1) ∧ w' = w := by
  obtain ⟨vP, vW, A, B, c, d, rfl, rfl, hat, hF⟩ := hd.form
  have h0 := cell_at hat.box 0 (.slice A n c) rfl
  clear hat hF hd
  by_cases h1 : i < 0
  · go_enter Try.func15, Try.ntmps15
    go_wp2
    go_ret
    exact ⟨rfl, by trivial⟩
  by_cases h2 : (n : Int) ≤ i
  · go_enter Try.func15, Try.ntmps15
    go_wp2
    go_ret
    exact ⟨rfl, by trivial⟩
  have h3 : ((s.size : Int) == 256) = false := by simp; omega
  have h4 : ¬ ((s.size : Int) = 256) := by omega
  go_enter Try.func15, Try.ntmps15
  go_wp2
  go_ret
  exact ⟨rfl, by trivial⟩

set_option maxHeartbeats 1600000 in
set_option maxRecDepth 100000 in
theorem refWrite_any {w : World} {b n : Nat} {st : List UInt8} {pd : List WR} {F : Nat → Prop} (x : WR) (hd : Ref w b n st pd F) (hx : x.page < n) (hfew : pd.length ≤ 1000000) :
    Calls Try.prog 15 #[.pointer (some ⟨b, 0, none⟩), .int .i64 (x.page : Int), .string (str x.bytes)] w fun e w' =>
      e = .returned (.int .i64 0) ∧ Ref w' b n st (pd ++ [x]) (Grew F w.heap.size) ∧ Keep F w w' := by
  have hsz : (str x.bytes).size = 256 := by rw [str_size, x.len]
  obtain ⟨vP, vW, A, B, c, d, hvP, hvW, hat, hF⟩ := hd.form
  obtain ⟨v', w2, hrun, hown2, hg2, hblk⟩ := run_append_blk renc 43 67 43 _ 24 Try.underlying43 winfo rfl (by omega) (by omega) hat.ownW x hfew
  obtain ⟨A4, n4, c4, hv4⟩ : ∃ A n c, v' = Value.slice A n c := by
    obtain ⟨A', c', h, _⟩ := hown2.form
    exact ⟨_, _, _, h⟩
  have hbA : Below w.heap.size w (w.alloc (.cells (rcells x).toArray 67)) := (Below.refl _ _).alloc (Nat.le_refl _) _
  have hk2 : ∀ i, i < w.heap.size → vW.ownBlock ≠ some i → w2.heap[i]? = w.heap[i]? := fun i hi hne => by
    rw [hg2.block i (Nat.lt_of_lt_of_le hi hbA.size) (fun e => hne e.symm), hbA.block i hi]
  have hs2 : w.heap.size + 1 ≤ w2.heap.size := by have := hg2.size; simp at this; exact this
  have hbl := (hF b (.inl rfl)).2
  have hbox2 := (hk2 b hbl hat.bW).trans hat.box
  have h0 := cell_at hat.box 0 vP rfl
  have h1 := cell_at hat.box 1 vW rfl
  have h12 := cell_at hbox2 1 vW rfl
  have hf12 := free_at hbox2 1
  have HLN := Lib.hid hd.1
  have HAT := Lib.hid hat
  have HF := Lib.hid hF
  have HR := Lib.hid hrun
  have HO := Lib.hid hown2
  have HG := Lib.hid hg2
  have HBL := Lib.hid hblk
  have HK := Lib.hid hk2
  have HX := Lib.hid hbox2
  have HZ := Lib.hid hs2
  have HVP := Lib.hid hvP
  have HVW := Lib.hid hvW
  subst hvP hvW hv4
  obtain ⟨p, hp⟩ : ∃ p, p = x.page := ⟨_, rfl⟩
  have Hp := Lib.hid hp
  unfold rcells at HR
  rw [← hp] at hx HR ⊢
  obtain ⟨s, hs⟩ : ∃ s, s = str x.bytes := ⟨_, rfl⟩
  rw [← hs] at hsz HR ⊢
  clear hat hF hrun hown2 hg2 hblk hk2 hbox2 hs2 hd hp hs hbA hbl
  go_enter Try.func15, Try.ntmps15
  go_wp2_with (at_builtin; refine wpList_append_ran rfl (.tmp 27) (.tmp 31) 43 rfl _ _ _ _ rfl rfl HR.out ?_)
  go_ret
  have hbs := blk_set HX.out 1 (.slice A4 n4 c4)
  have hbl := (HF.out b (.inl rfl)).2
  have hs2 := HZ.out
  have hne : ∀ i, (Value.slice A4 n4 c4).ownBlock = some i → (Value.slice B pd.length d).ownBlock = some i ∨ w.heap.size < i := fun i hi => by
    rcases HBL.out with h | h
    · exact .inl (by rw [← h]; exact hi)
    · rw [h] at hi
      cases hi
      exact .inr (by omega)
  have hnb : (Value.slice A4 n4 c4).ownBlock ≠ some b := fun e => by
    rcases hne b e with h | h
    · exact HAT.out.bW h
    · omega
  have hz : (w2.setCell ⟨b, 1, none⟩ (.slice A4 n4 c4)).heap.size = w2.heap.size := by simp [World.setCell]
  refine ⟨rfl, ⟨⟨HLN.out.1, HLN.out.2.1, ?_⟩, .slice A n c, .slice A4 n4 c4, ⟨hbs, ?_, ?_, HAT.out.bP, hnb, ?_⟩, ?_⟩, ?_⟩
  · intro y hy
    rcases List.mem_append.1 hy with h | h
    · exact HLN.out.2.2 y h
    · rw [List.mem_singleton.1 h, ← Hp.out]
      exact hx
  · exact OwnL.keep HAT.out.ownP fun i hi hl => by
      rw [Below.heap_setCell _ _ _ _ (fun e => HAT.out.bP (hi.trans (congrArg some e)))]
      exact HK.out i hl (HAT.out.pW i hi)
  · exact HO.out.keep fun i hi _ => Below.heap_setCell _ _ _ _ (fun e => hnb (hi.trans (congrArg some e)))
  · intro i hi h
    rcases hne i h with h | h
    · exact HAT.out.pW i hi h
    · have := (HF.out i (.inr (.inl hi))).2
      omega
  · rintro i (rfl | h | h)
    · exact ⟨.inl (HF.out _ (.inl rfl)).1, by omega⟩
    · exact ⟨.inl (HF.out i (.inr (.inl h))).1, by have := (HF.out i (.inr (.inl h))).2; omega⟩
    · refine ⟨?_, by have := HO.out.lt i h; omega⟩
      rcases hne i h with h | h
      · exact .inl (HF.out i (.inr (.inr h))).1
      · exact .inr (by omega)
  · have hk : Keep F w w2 := ⟨HG.out.os, HG.out.tape, HG.out.output, by omega, fun i hi hn => HK.out i hi (fun e => hn (HF.out i (.inr (.inr e))).1)⟩
    exact hk.set (.inl (HF.out b (.inl rfl)).1) _

theorem refRead_no {w : World} {b n : Nat} {st : List UInt8} {pd : List WR} {F : Nat → Prop} (i : Int) (hd : Ref w b n st pd F) (hno : ¬ (0 ≤ i ∧ i < n)) :
    Calls Try.prog 17 #[.pointer (some ⟨b, 0, none⟩), .int .i64 i] w fun e w' => e = .returned (.tuple #[.string ⟨#[]⟩, .int .i64 1]) ∧ w' = w := by
  obtain ⟨vP, vW, A, B, c, d, rfl, rfl, hat, hF⟩ := hd.form
  have h0 := cell_at hat.box 0 (.slice A n c) rfl
  clear hat hF hd
  by_cases h1 : i < 0
  · go_enter Try.func17, Try.ntmps17
    go_wp2
    go_ret2
    exact ⟨rfl, by trivial⟩
  · go_enter Try.func17, Try.ntmps17
    go_wp2
    go_ret2
    exact ⟨rfl, by trivial⟩

set_option maxHeartbeats 1600000 in
set_option maxRecDepth 100000 in
theorem refRead_any {w : World} {b n : Nat} {st : List UInt8} {pd : List WR} {F : Nat → Prop} (p : Nat) (hd : Ref w b n st pd F) (hp : p < n) (hfew : pd.length ≤ 1000000) :
    Calls Try.prog 17 #[.pointer (some ⟨b, 0, none⟩), .int .i64 (p : Int)] w fun e w' => e = .returned (.tuple #[.string (str (curN st pd p pd.length)), .int .i64 0]) ∧ w' = w := by
  obtain ⟨vP, vW, A, B, c, d, hvP, hvW, hat, hF⟩ := hd.form
  obtain ⟨q, cq, e1, hq, hcell, _⟩ := hat.ownP.cell (pagesS_at (st := st) hp)
  rw [hvP, pagesS_len] at e1
  have h0 := cell_at hat.box 0 vP rfl
  have h1 := cell_at hat.box 1 vW rfl
  have HAT := Lib.hid hat
  have HVW := Lib.hid hvW
  subst hvP hvW
  cases e1
  have hsm := hd.1.2.1
  obtain ⟨m, hm⟩ : ∃ m, m = pd.length := ⟨_, rfl⟩
  rw [← hm] at h1 hfew ⊢
  have Hm := Lib.hid hm
  clear hat hF hd hm
  go_enter Try.func17, Try.ntmps17
  go_wp2
  go_loopw [6, 31] (fun s i wr => ∃ k : Nat, k ≤ m ∧ i = .int .i64 k ∧ s = .string (str (curN st pd p k)) ∧ wr = w) (fun _ i _ => m - (intOf i).toNat)
  case atStart => exact ⟨0, Nat.zero_le _, rfl, rfl, rfl⟩
  case round =>
    obtain ⟨k, hk, rfl, rfl, rfl⟩ := hrel
    by_cases hlt : k < m
    · obtain ⟨q2, c2, x, hv, hx, hqb, hql, hc1, hc2⟩ := HAT.out.wr (i := k) (by rw [← Hm.out]; exact hlt)
      rw [← Hm.out] at hv
      cases hv
      have HS := Lib.hid (show curN st pd p (k + 1) = if x.page = p then x.bytes else curN st pd p k from by unfold curN; rw [foldN_succ hx])
      clear hx
      by_cases hpg : x.page = p
      · rw [hpg] at hc1
        rw [if_pos hpg] at HS
        clear hpg
        go_wp2
        exact ⟨⟨k + 1, by omega, by go_num, by rw [HS.out], by trivial⟩, by simp [intOf]; omega⟩
      · rw [if_neg hpg] at HS
        have hpi : ((x.page : Int) == (p : Int)) = false := by simp; omega
        clear hpg
        go_wp2
        exact ⟨⟨k + 1, by omega, by go_num, by rw [HS.out], by trivial⟩, by simp [intOf]; omega⟩
    · obtain rfl : k = m := by omega
      go_wp2
      go_ret2
      exact ⟨rfl, by trivial⟩

theorem str_add (a b : List UInt8) : str a ++ str b = str (a ++ b) := by
  apply ByteArray.ext
  rw [ByteArray.data_append]
  simp [str]
theorem take_page {s : List UInt8} {n k : Nat} (hs : s.length = n * 256) (hk : k < n) : s.take ((k + 1) * 256) = s.take (k * 256) ++ pageOf s k := by
  unfold pageOf
  rw [Nat.add_mul, Nat.one_mul, List.take_add]

set_option maxHeartbeats 1600000 in
set_option maxRecDepth 100000 in
theorem refBytes_any {w : World} {b n : Nat} {st : List UInt8} {pd : List WR} {F : Nat → Prop} (hd : Ref w b n st pd F) (hfew : pd.length ≤ 1000000) :
    Calls Try.prog 24 #[.pointer (some ⟨b, 0, none⟩)] w fun e w' => e = .returned (.string (str (allN st pd pd.length))) ∧ w' = w := by
  obtain ⟨vP, vW, A, B, c, d, rfl, rfl, hat, hF⟩ := hd.form
  have h0 := cell_at hat.box 0 (.slice A n c) rfl
  have hsm := hd.1.2.1
  have HD := Lib.hid hd
  have HL := Lib.hid (allN_len hd.1.1 hd.1.2.2 pd.length)
  have HPG := Lib.hid (fun (i : Nat) (hi : i < n) => page_all hd.1.1 hd.1.2.2 hi pd.length)
  obtain ⟨t, ht⟩ : ∃ t, t = allN st pd pd.length := ⟨_, rfl⟩
  rw [← ht] at HL HPG ⊢
  clear hat hF hd ht
  go_enter Try.func24, Try.ntmps24
  go_wp2
  go_loopw [3, 12] (fun s i wr => ∃ k : Nat, k ≤ n ∧ i = .int .i64 k ∧ s = .string (str (t.take (k * 256))) ∧ wr = w) (fun _ i _ => n - (intOf i).toNat)
  case atStart => exact ⟨0, Nat.zero_le _, rfl, by rw [Nat.zero_mul, List.take_zero]; rfl, rfl⟩
  case round =>
    obtain ⟨k, hk, rfl, rfl, rfl⟩ := hrel
    by_cases hlt : k < n
    · have hs1 : (str (t.take (k * 256))).size ≤ 140737488351232 := by
        rw [str_size, List.length_take, HL.out]
        omega
      have hs2 : (str (curN st pd k pd.length)).size = 256 := by
        rw [str_size, cur_len HD.out.1.1 hlt]
      have HE := Lib.hid (show str (t.take (k * 256)) ++ str (curN st pd k pd.length) = str (t.take ((k + 1) * 256)) by rw [str_add, take_page HL.out hlt, HPG.out k hlt])
      go_wp2_with fail
      refine (refRead_any k HD.out hlt hfew).mono ?_
      rintro e w1 ⟨rfl, rfl⟩
      go_wp2
      exact ⟨⟨k + 1, by omega, by go_num, by rw [HE.out], by trivial⟩, by simp [intOf]; omega⟩
    · obtain rfl : k = n := by omega
      have HE := Lib.hid (show t.take (k * 256) = t from List.take_of_length_le (by rw [HL.out]; omega))
      rw [HE.out]
      go_wp2
      go_ret
      exact ⟨rfl, by trivial⟩

end Go.Proofs.Ythjgcbpanfiacaa
