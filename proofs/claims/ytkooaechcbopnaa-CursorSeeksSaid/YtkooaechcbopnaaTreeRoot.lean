/-
  The contract of parts.root; conditions: the parts can be read, and fit into two nodes.
-/
import Derived.Test.YtkooaechcbopnaaTreeOut
namespace Go.Proofs.Ytkooaechcbopnaa
open Go.RowKit Go.Sort
set_option linter.unusedVariables false

/-- A tree, or none: its level and its root. -/
abbrev TO := Option (Nat × ST)
def TreeIs (w : World) (T : TO) : Prop := ∀ x, T = some x → Tr w x.1 x.2
def tb (T : TO) : Value := ptr (T.map (·.2.b))
def tl : TO → List Ent
  | none => []
  | some x => x.2.l
def tids : TO → List Nat
  | none => []
  | some x => x.2.ids
theorem TreeIs.below {w w' : World} {T : TO} (h : TreeIs w T) (hb : Below w.heap.size w w') : TreeIs w' T := fun x hx => (h x hx).below hb
theorem TreeIs.none (w : World) : TreeIs w none := fun x hx => by cases hx
theorem TreeIs.some {w : World} {h : Nat} {s : ST} (t : Tr w h s) : TreeIs w (some (h, s)) := fun x hx => by cases hx; exact t
theorem TreeIs.sorted {w : World} {T : TO} (h : TreeIs w T) : Sorted (tl T) := by
  cases T with
  | none => exact List.Pairwise.nil
  | some x => exact (h x rfl).sorted
theorem TreeIs.okE {w : World} {T : TO} (h : TreeIs w T) : ∀ e ∈ tl T, okE e = true := by
  cases T with
  | none => intro e he; cases he
  | some x => exact (h x rfl).okE

/-- What parts.root answers. -/
def RootPost (w : World) (h : Nat) (l : List Ent) (n : Nat) (old : List Nat) (q : Nat) (r : Ending) (w' : World) : Prop :=
  ∃ T, r = .returned (tb T) ∧ TreeIs w' T ∧ tl T = l ∧ FewNew old (q + 3) (tids T) ∧ (∀ x, T = some x → (h = 0 ∨ n ≠ 1) → w.heap.size ≤ x.2.b) ∧ Below w.heap.size w w'

set_option maxHeartbeats 2000000 in
set_option maxRecDepth 100000 in
theorem root_leaf {w : World} {v : Value} {l : List Ent} {n q : Nat} {old : List Nat} (hp : Parts w 0 v l n old q) (hn : n ≤ 8) (hs : Sorted l) (ho : ∀ e ∈ l, okE e = true) :
    Calls Try.prog 34 #[v] w (RootPost w 0 l n old q) := by
  have HP := Lib.hid hp
  have HS := Lib.hid hs
  have HO := Lib.hid ho
  obtain ⟨⟨A, c, B, d, rfl, hc, hd, he, hl⟩, hn2⟩ := hp
  rw [hn2] at hc ⊢
  rw [hn2] at HP
  simp only [List.length_nil] at hd ⊢
  simp only [List.length_nil] at HP
  have HN := Lib.hid hn2
  clear he hl hs ho hn2
  go_enter Try.func34, Try.ntmps34
  go_wp2_with fail
  have hb0 : Below w.heap.size w (w.alloc (.cells #[.slice A n c, .slice B (0 : Nat) d] 65)) := (Below.refl _ _).alloc (Nat.le_refl _) _
  have hbx := Bx.new w (.slice A n c) (.slice B (0 : Nat) d)
  refine (ofLeaf_any _ A B n c 0 d).mono ?_
  rintro r w1 ⟨rfl, hb1⟩
  have hbx1 := hbx.next hb1
  have q0 := hbx1.c0
  have q1 := hbx1.c1
  have HBW := Lib.hid (bthen hb0 hb1)
  have HP1 := Lib.hid (HP.out.below HBW.out)
  clear hb0 hbx hb1 hbx1
  by_cases h0 : n = 0
  · subst h0
    go_wp2
    go_ret
    refine ⟨none, rfl, TreeIs.none _, ?_, FewNew.of (fun x hx => by cases hx) _, (fun x hx => by cases hx), HBW.out⟩
    exact (List.eq_nil_of_length_eq_zero HN.out).symm
  · have h0' : ¬ (n : Int) = 0 := by omega
    go_wp2_with fail
    refine (nodes_any HP1.out (show fits 0 n from ⟨by omega, hn⟩) (by omega) HS.out HO.out).mono ?_
    rintro r w2 ⟨u, rfl, hu, hb1⟩
    obtain ⟨ms, A3, c3, rfl, hc3, hl3, hm3, hk3, hf3, hw3⟩ := hu.older HBW.out.size
    have HL3 := Lib.hid hl3
    have HK3 := Lib.hid hk3
    have HF3 := Lib.hid hf3
    have HW3 := Lib.hid hw3
    have HB3 := Lib.hid (bthen HBW.out hb1)
    by_cases hmost : n ≤ most 0
    · rw [if_pos hmost] at hm3
      obtain ⟨k, rfl⟩ : ∃ k, ms = [k] := by
        cases ms with
        | nil => cases hm3
        | cons k r => exact ⟨k, by cases r with | nil => rfl | cons _ _ => cases hm3⟩
      obtain ⟨ad, x, rfl, hx, hadl, hcx⟩ := Ls.node_at (L := nbs [k]) hl3 (i := 0) (by simp [nbs])
      cases hx
      have hcx : w2.cell? ad = some (pn k.b) := by simpa [Addr.add] using hcx
      have hkm := HK3.out k (List.mem_singleton.2 rfl)
      have HKM := Lib.hid hkm
      clear hu hl3 hm3 hk3 hf3 hw3 hb1 hkm
      simp only [List.length_singleton] at hc3 ⊢
      go_wp2
      go_ret
      refine ⟨some (0, k), rfl, TreeIs.some HKM.out.1, ?_, ?_, fun x hx _ => by cases hx; exact HKM.out.2.1, HB3.out⟩
      · rw [← HF3.out]
        simp [tl, flat]
      · exact ((HW3.out).more (by omega)).sub fun x hx => by simpa [idsOf, tids] using hx
    · rw [if_neg hmost] at hm3
      have hgood : ∀ k ∈ ms, Tr w2 0 k ∧ k.good = true := fun k hk => ⟨(hk3 k hk).1, (hk3 k hk).2.2 (by unfold least; unfold most at hmost; split at hmost <;> split <;> omega)⟩
      have hso : Sorted (flat ms) := by rw [hf3]; exact HS.out
      have hok := krs_ok hgood hso (by omega) (by omega)
      have HG := Lib.hid hgood
      have HSO := Lib.hid hso
      have HOK := Lib.hid hok
      have HM := Lib.hid hm3
      rw [hm3] at hc3 ⊢
      clear hu hl3 hm3 hk3 hf3 hw3 hb1 hgood hso hok
      go_wp2_with fail
      refine (branch_any A3 2 c3 (nbs ms) w2 HL3.out (by rw [nbs_len]; exact HM.out) hc3 (by omega) (all_of HG.out) (tame_of HG.out (by omega))).mono ?_
      rintro r w4 ⟨hb4, ⟨_, b, N, rfl, hbb, hN, hL, hE, _⟩ | ⟨h, _⟩⟩
      · obtain ⟨ht, _⟩ := made_tr hN hL hE (by rw [HM.out]; omega) (by rw [HM.out]; omega) HSO.out HG.out hb4
        have HT := Lib.hid ht
        have HB4 := Lib.hid (bthen HB3.out hb4)
        have HBB := Lib.hid (show w.heap.size ≤ b from Nat.le_trans HB3.out.size hbb)
        clear ht hN hL hE hb4 hbb
        go_wp2
        go_ret
        refine ⟨some (0 + 1, ⟨b, N, flat ms, b :: idsOf ms⟩), rfl, TreeIs.some HT.out, HF3.out, ?_, fun x hx _ => by cases hx; exact HBB.out, HB4.out⟩
        exact (HW3.out.new b).more (by omega)
      · rw [HOK.out] at h
        cases h

set_option maxHeartbeats 2000000 in
set_option maxRecDepth 100000 in
theorem root_branch {w : World} {h : Nat} {v : Value} {l : List Ent} {n q : Nat} {old : List Nat} (hp : Parts w (h + 1) v l n old q) (hh : h ≤ 90000) (hn1 : 1 ≤ n) (hn : n ≤ 12) (hs : Sorted l) (ho : ∀ e ∈ l, okE e = true) :
    Calls Try.prog 34 #[v] w (RootPost w (h + 1) l n old q) := by
  have HP := Lib.hid hp
  have HS := Lib.hid hs
  have HO := Lib.hid ho
  obtain ⟨ks, ⟨A, c, B, d, rfl, hc, hd, he, hl⟩, hn2, hks, hfl, hq⟩ := hp
  rw [ptrS_len, hn2] at hd ⊢
  rw [ptrS_len, hn2] at HP
  simp only [List.length_nil] at hc ⊢
  simp only [List.length_nil] at HP
  have HL := Lib.hid hl
  have HN := Lib.hid hn2
  have HKS := Lib.hid hks
  have HFL := Lib.hid hfl
  have HQ := Lib.hid hq
  clear he hl hs ho hn2 hks hfl hq
  go_enter Try.func34, Try.ntmps34
  go_wp2_with fail
  have hb0 : Below w.heap.size w (w.alloc (.cells #[.slice A (0 : Nat) c, .slice B n d] 65)) := (Below.refl _ _).alloc (Nat.le_refl _) _
  have hbx := Bx.new w (.slice A (0 : Nat) c) (.slice B n d)
  refine (ofLeaf_any _ A B 0 c n d).mono ?_
  rintro r w1 ⟨rfl, hb1⟩
  have hbx1 := hbx.next hb1
  have q0 := hbx1.c0
  have q1 := hbx1.c1
  have HBW := Lib.hid (bthen hb0 hb1)
  have HP1 := Lib.hid (HP.out.below HBW.out)
  have hl1 := HL.out.below HBW.out
  have hn0 : ¬ n = 0 := by omega
  clear hb0 hbx hb1 hbx1
  by_cases h1 : n = 1
  · subst h1
    obtain ⟨k, hk⟩ : ∃ k, ks = [k] := by
      have := HN.out
      cases ks with
      | nil => cases this
      | cons k r => exact ⟨k, by cases r with | nil => rfl | cons _ _ => cases this⟩
    subst hk
    obtain ⟨ad, x, rfl, hx, hadl, hcx⟩ := Ls.node_at (L := nbs [k]) hl1 (i := 0) (by simp [nbs])
    cases hx
    have hcx : w1.cell? ad = some (pn k.b) := by simpa [Addr.add] using hcx
    clear hl1
    go_wp2
    go_ret
    refine ⟨some (h, k), rfl, TreeIs.some ((HKS.out k (List.mem_singleton.2 rfl)).1.below HBW.out), ?_, ?_, fun x hx hc => by rcases hc with hc | hc <;> omega, HBW.out⟩
    · rw [← HFL.out]
      simp [tl, flat]
    · exact ((HQ.out).more (by omega)).sub fun x hx => by simpa [idsOf, tids] using hx
  · have h1' : ¬ (n : Int) = 1 := by omega
    clear hl1
    go_wp2_with fail
    refine (nodes_any HP1.out (show fits (h + 1) n by unfold fits; rw [if_neg (by omega)]; omega) (by omega) HS.out HO.out).mono ?_
    rintro r w2 ⟨u, rfl, hu, hb1⟩
    obtain ⟨ms, A3, c3, rfl, hc3, hl3, hm3, hk3, hf3, hw3⟩ := hu.older HBW.out.size
    have HL3 := Lib.hid hl3
    have HK3 := Lib.hid hk3
    have HF3 := Lib.hid hf3
    have HW3 := Lib.hid hw3
    have HB3 := Lib.hid (bthen HBW.out hb1)
    by_cases hmost : n ≤ most (h + 1)
    · rw [if_pos hmost] at hm3
      obtain ⟨k, rfl⟩ : ∃ k, ms = [k] := by
        cases ms with
        | nil => cases hm3
        | cons k r => exact ⟨k, by cases r with | nil => rfl | cons _ _ => cases hm3⟩
      obtain ⟨ad, x, rfl, hx, hadl, hcx⟩ := Ls.node_at (L := nbs [k]) hl3 (i := 0) (by simp [nbs])
      cases hx
      have hcx : w2.cell? ad = some (pn k.b) := by simpa [Addr.add] using hcx
      have hkm := HK3.out k (List.mem_singleton.2 rfl)
      have HKM := Lib.hid hkm
      clear hu hl3 hm3 hk3 hf3 hw3 hb1 hkm
      simp only [List.length_singleton] at hc3 ⊢
      go_wp2
      go_ret
      refine ⟨some ((h + 1), k), rfl, TreeIs.some HKM.out.1, ?_, ?_, fun x hx _ => by cases hx; exact HKM.out.2.1, HB3.out⟩
      · rw [← HF3.out]
        simp [tl, flat]
      · exact ((HW3.out).more (by omega)).sub fun x hx => by simpa [idsOf, tids] using hx
    · rw [if_neg hmost] at hm3
      have hgood : ∀ k ∈ ms, Tr w2 (h + 1) k ∧ k.good = true := fun k hk => ⟨(hk3 k hk).1, (hk3 k hk).2.2 (by unfold least; unfold most at hmost; split at hmost <;> split <;> omega)⟩
      have hso : Sorted (flat ms) := by rw [hf3]; exact HS.out
      have hok := krs_ok hgood hso (by omega) (by omega)
      have HG := Lib.hid hgood
      have HSO := Lib.hid hso
      have HOK := Lib.hid hok
      have HM := Lib.hid hm3
      rw [hm3] at hc3 ⊢
      clear hu hl3 hm3 hk3 hf3 hw3 hb1 hgood hso hok
      go_wp2_with fail
      refine (branch_any A3 2 c3 (nbs ms) w2 HL3.out (by rw [nbs_len]; exact HM.out) hc3 (by omega) (all_of HG.out) (tame_of HG.out (by omega))).mono ?_
      rintro r w4 ⟨hb4, ⟨_, b, N, rfl, hbb, hN, hL, hE, _⟩ | ⟨h, _⟩⟩
      · obtain ⟨ht, _⟩ := made_tr hN hL hE (by rw [HM.out]; omega) (by rw [HM.out]; omega) HSO.out HG.out hb4
        have HT := Lib.hid ht
        have HB4 := Lib.hid (bthen HB3.out hb4)
        have HBB := Lib.hid (show w.heap.size ≤ b from Nat.le_trans HB3.out.size hbb)
        clear ht hN hL hE hb4 hbb
        go_wp2
        go_ret
        refine ⟨some ((h + 1) + 1, ⟨b, N, flat ms, b :: idsOf ms⟩), rfl, TreeIs.some HT.out, HF3.out, ?_, fun x hx _ => by cases hx; exact HBB.out, HB4.out⟩
        exact (HW3.out.new b).more (by omega)
      · rw [HOK.out] at h
        cases h

end Go.Proofs.Ytkooaechcbopnaa
