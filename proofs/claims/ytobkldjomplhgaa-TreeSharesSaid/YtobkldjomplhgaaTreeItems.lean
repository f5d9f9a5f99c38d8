/-
  The contracts of tree.Items and tree.Right; conditions: the tree is valid and lies in memory, or is nil; few entries.
-/
import Derived.Test.YtobkldjomplhgaaTreePut
namespace Go.Proofs.Ytobkldjomplhgaa
open Go.RowKit Go.Sort
set_option linter.unusedVariables false

theorem ownP_ls {w : World} {base n c : Nat} {A : Option Addr} {p : List (Option Nat)} (h : OwnP w base (.slice A n c) p) : Ls pcP w A p := by
  obtain ⟨A', c', e, _, hl⟩ := h.form
  cases e
  exact hl
/-- Rows of unlike types lie apart. -/
theorem own_apart {w : World} {base base' : Nat} {v v' : Value} {l : List Ent} {p : List (Option Nat)} (h : Own w base v l) (k : OwnP w base' v' p) : ∀ g, v.ownBlock = some g → v'.ownBlock ≠ some g := by
  intro g h1 h2
  rcases h.2 with ⟨rfl, _⟩ | ⟨g1, cap, cur, rfl, _, hh, _⟩
  · simp [Value.ownBlock] at h1
  · rcases k.2 with ⟨rfl, _⟩ | ⟨g2, cap2, cur2, rfl, _, kk, _⟩
    · simp [Value.ownBlock] at h2
    · have e1 : g1 = g := by simpa [Value.ownBlock] using h1
      have e2 : g2 = g := by simpa [Value.ownBlock] using h2
      subst e1
      subst e2
      rw [hh] at kk
      simp at kk
/-- What tree.Items answers. -/
def ItPost (w : World) (l : List Ent) (r : Ending) (w' : World) : Prop := ∃ v, r = .returned v ∧ Own w' w.heap.size v l ∧ Below w.heap.size w w'

set_option maxHeartbeats 2000000 in
set_option maxRecDepth 100000 in
theorem items_gen {w : World} {b : Nat} {N : NR} {l0 : List Ent} {ks : List ST} {n : Nat} (hN : NodeAt w b N) (he : Es w N.ea l0) (hl : l0.length = N.en) (h1 : N.en ≤ 1000) (hp : Ls pcP w N.ka (ptrS ks)) (hn : ks.length = n) (hk : N.kn = n) (h2 : n ≤ 1000)
    (hall : ∀ k ∈ ks, ∀ w', Below w.heap.size w w' → Calls Try.prog 16 #[pn k.b] w' (ItPost w' k.l)) (hlen : (l0 ++ flat ks).length ≤ 80000) :
    Calls Try.prog 16 #[pn b] w (ItPost w (l0 ++ flat ks)) := by
  have HN := Lib.hid hN
  have HP := Lib.hid hp
  have Hn := Lib.hid hn
  have HK := Lib.hid hk
  have HALL := Lib.hid hall
  have HE := Lib.hid he
  have HL := Lib.hid hl
  have hsub : ∀ j k, ks[j]? = some k → (l0 ++ flat (ks.take j)).length + k.l.length ≤ 80000 := by
    intro j k hj
    have h3 := flat_take_succ hj
    have h4 : flat ks = flat (ks.take (j + 1)) ++ flat (ks.drop (j + 1)) := by rw [← flat_append, List.take_append_drop]
    rw [h4, h3] at hlen
    simp at hlen ⊢
    omega
  have HS := Lib.hid hsub
  clear hN hp hn hk hall he hl hsub hlen
  go_enter Try.func16, Try.ntmps16
  go_wp2_with fail
  refine (entries_any HN.out HE.out HL.out (by omega)).mono ?_
  rintro r w1 ⟨v1, rfl, ho1, hb1⟩
  have HB1 := Lib.hid hb1
  have HO1 := Lib.hid ho1
  clear hb1 ho1
  go_wp2_with fail
  refine (kids_any (HN.out.below HB1.out) (HP.out.below HB1.out) (by rw [HK.out, ptrS_len, Hn.out]) (by rw [HK.out]; omega)).mono ?_
  rintro r w2 ⟨v2, rfl, ho2, hb2⟩
  obtain ⟨A2, c2, rfl, hc2, hls2⟩ := ho2.form
  rw [ptrS_len, Hn.out] at hc2 ⊢
  have HB2 := Lib.hid (bthen HB1.out hb2)
  have HO2 := Lib.hid (HO1.out.below hb2)
  rw [ptrS_len, Hn.out] at ho2
  have HLS2 := Lib.hid (ho2.mono HB1.out.size)
  clear ho2 hls2 hb2
  go_wp2
  go_loopw [3, 11] (fun s3 s11 wr => ∃ j : Nat, j ≤ n ∧ s11 = .int .i64 j ∧ Own wr w.heap.size s3 (l0 ++ flat (ks.take j)) ∧ OwnP wr w.heap.size (.slice A2 n c2) (ptrS ks) ∧ Below w.heap.size w wr) (fun _ s11 _ => n - (intOf s11).toNat)
  case atStart => exact ⟨0, Nat.zero_le _, rfl, by simpa [flat] using HO2.out, HLS2.out, HB2.out⟩
  case round =>
    obtain ⟨j, hj, rfl, hown, hop, hbw⟩ := hrel
    by_cases hlt : j < n
    · obtain ⟨k, hk⟩ : ∃ k, ks[j]? = some k := ⟨_, List.getElem?_eq_getElem (by rw [Hn.out]; exact hlt)⟩
      obtain ⟨ad, x, rfl, hx, hadl, hcx⟩ := Ls.node_at (ownP_ls hop) (i := j) (by rw [nbs_len, Hn.out]; exact hlt)
      rw [nbs_at hk] at hx
      cases hx
      have HKJ := Lib.hid hk
      have HBW := Lib.hid hbw
      have HOW := Lib.hid hown
      have HOP := Lib.hid hop
      clear hk hbw hown hop
      go_wp2_with fail
      refine (HALL.out k (List.mem_of_getElem? HKJ.out) wr HBW.out).mono ?_
      rintro r w3 ⟨v3, rfl, ho3, hb3⟩
      obtain ⟨A3, c3, rfl, hc3, hes3⟩ := ho3.form
      have hbw3 := bthen HBW.out hb3
      have hsm := HS.out j k HKJ.out
      obtain ⟨v', w4, hrun, hown4, hg4⟩ := run_append_ents 26 (HOW.out.below hb3) k.l.length c3 hes3 rfl (by omega) hbw3.size
      have hb4 := (HOW.out.below hb3).grow_below hbw3 hbw3.size hg4
      have hap := own_apart (HOW.out.below hb3) (HOP.out.below hb3)
      have hop4 := (HOP.out.below hb3).keep fun g hg hlt => hg4.block g hlt fun e => hap g e.symm hg
      rw [List.append_assoc, ← flat_take_succ HKJ.out] at hown4
      have HR := Lib.hid hrun
      have HO4 := Lib.hid hown4
      have HB4 := Lib.hid hb4
      have HOP4 := Lib.hid hop4
      clear ho3 hes3 hb3 hbw3 hrun hown4 hg4 hb4 hap hop4 hcx
      go_wp2_with (at_builtin; refine wpList_append_ran rfl (.tmp 15) (.tmp 17) 26 rfl _ _ _ _ rfl rfl HR.out ?_)
      exact ⟨⟨j + 1, by omega, by go_num, HO4.out, HOP4.out, HB4.out⟩, by simp [intOf]; omega⟩
    · have he : j = n := by omega
      subst he
      rw [List.take_of_length_le (by rw [Hn.out]; exact Nat.le_refl _)] at hown
      clear hop
      go_wp2
      go_ret
      exact ⟨_, rfl, hown, hbw⟩

theorem items_tr : ∀ (h : Nat) (w : World) (s : ST), Tr w h s → s.l.length ≤ 80000 → Calls Try.prog 16 #[pn s.b] w (ItPost w s.l)
  | 0, w, s, ⟨hN, hL, hE, hok, hid⟩, hb => by
    have hl := okLeaf_len hok
    have := items_gen (ks := []) (n := 0) hN hE hL.en.symm (by rw [hL.en]; omega) (Ls.nil (f := pcP) _ _) rfl hL.kn (by omega) (fun k hk => by cases hk) (by simpa [flat] using hb)
    simpa [flat] using this
  | h + 1, w, s, ⟨ks, hN, hB, hP, hk2, hk6, hso, hks, hfl, hid⟩, hb => by
    have := items_gen (l0 := []) (n := ks.length) hN (Es.nil _ _) hB.en.symm (by rw [hB.en]; omega) hP rfl (by rw [hB.kn, nbs_len]) (by omega) (fun k hk w' hb' => items_tr h w' k ((hks k hk).1.below hb') (by
      have := flat_len_mem hk
      rw [hfl] at hb
      omega)) (by rw [List.nil_append, ← hfl]; exact hb)
    rw [List.nil_append, ← hfl] at this
    exact this
set_option maxHeartbeats 1000000 in
set_option maxRecDepth 100000 in
theorem items_nil (w : World) : Calls Try.prog 16 #[.pointer none] w (ItPost w []) := by
  go_enter Try.func16, Try.ntmps16
  go_wp2_with fail
  refine (entries_nil w).mono ?_
  rintro r w1 ⟨rfl, rfl⟩
  go_wp2_with fail
  refine (kids_nil w).mono ?_
  rintro r w1 ⟨rfl, rfl⟩
  go_wp2
  go_loopw [3, 11] (fun s3 s11 wr => s11 = .int .i64 0 ∧ s3 = .slice none 0 0 ∧ w = wr) (fun _ s11 _ => 0)
  case atStart => exact ⟨rfl, rfl, rfl⟩
  case round =>
    obtain ⟨rfl, rfl, rfl⟩ := hrel
    go_wp2
    go_ret
    exact ⟨_, rfl, Own.nil_ _ _, Below.refl _ _⟩
theorem items_any {w : World} {T : TO} (ht : TreeIs w T) (hl : (tl T).length ≤ 80000) : Calls Try.prog 16 #[tb T] w (ItPost w (tl T)) := by
  cases T with
  | none => exact items_nil w
  | some x => exact items_tr x.1 w x.2 (ht x rfl) hl

set_option maxHeartbeats 1000000 in
set_option maxRecDepth 100000 in
theorem right_tr {w : World} {h : Nat} {s : ST} (ht : Tr w h s) : Calls Try.prog 14 #[pn s.b] w fun r w' => r = .returned (.bool true) ∧ Below w.heap.size w w' := by
  have HT := Lib.hid ht
  have HB : Hid ((s.N.h : Int) > 0) := Lib.hid (by rw [ht.high]; omega)
  clear ht
  go_enter Try.func14, Try.ntmps14
  go_wp2_with fail
  refine (height_any HT.out.at_).mono ?_
  rintro r w1 ⟨rfl, rfl⟩
  have hh : (0 : Int) < (s.N.h : Int) := HB.out
  go_wp2_with fail
  refine (full_any HT.out.at_).mono ?_
  rintro r w1 ⟨rfl, rfl⟩
  rw [HT.out.lk]
  go_wp2
  go_ret
  exact ⟨rfl, Below.refl _ _⟩
theorem right_nil (w : World) : Calls Try.prog 14 #[.pointer none] w fun r w' => r = .returned (.bool true) ∧ Below w.heap.size w w' := by
  go_enter Try.func14, Try.ntmps14
  go_wp2
  go_ret
  exact ⟨rfl, Below.refl _ _⟩
theorem right_tree {w : World} {T : TO} (ht : TreeIs w T) : Calls Try.prog 14 #[tb T] w fun r w' => r = .returned (.bool true) ∧ Below w.heap.size w w' := by
  cases T with
  | none => exact right_nil w
  | some x => exact right_tr (ht x rfl)

end Go.Proofs.Ytobkldjomplhgaa
