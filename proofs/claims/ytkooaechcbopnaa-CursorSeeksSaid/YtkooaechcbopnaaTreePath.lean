/-
  The contracts of tree.Path and tree.Get; conditions: the tree is valid and lies in memory, or is nil.
-/
import Derived.Test.YtkooaechcbopnaaTreeRoot
namespace Go.Proofs.Ytkooaechcbopnaa
open Go.RowKit Go.Sort
set_option linter.unusedVariables false

/-- The kids of a branch. -/
structure KidsOf (w : World) (h : Nat) (s : ST) (ks : List ST) : Prop where
  br : BranchR s.N (nbs ks)
  ls : Ls pcP w s.N.ka (ptrS ks)
  two : 2 ≤ ks.length
  six : ks.length ≤ 6
  so : Sorted (flat ks)
  all : ∀ k ∈ ks, Tr w h k ∧ k.good = true
  l : s.l = flat ks
/-- A way from a node down to a leaf, each time by the kid for the key. -/
def Way (w : World) (key : ByteArray) : Nat → ST → List ST → Prop
  | 0, s, ps => ps = [s]
  | h + 1, s, ps => ∃ ks i k r, KidsOf w h s ks ∧ Kid ks key i ∧ ks[i]? = some k ∧ ps = s :: r ∧ Way w key h k r
theorem Way.length {w : World} {key : ByteArray} : ∀ {h : Nat} {s : ST} {ps : List ST}, Way w key h s ps → ps.length = h + 1
  | 0, s, ps, hp => by subst hp; rfl
  | h + 1, s, ps, ⟨ks, i, k, r, _, _, _, e, hr⟩ => by rw [e, List.length_cons, Way.length hr]
theorem Way.head {w : World} {key : ByteArray} {h : Nat} {s : ST} {ps : List ST} (hp : Way w key h s ps) : ps[0]? = some s := by
  cases h with
  | zero => rw [show ps = [s] from hp]; rfl
  | succ h =>
    obtain ⟨ks, i, k, r, _, _, _, e, _⟩ := hp
    rw [e]
    rfl
theorem Way.last {w : World} {key : ByteArray} : ∀ {h : Nat} {s : ST} {ps : List ST}, Way w key h s ps → Tr w h s → ∃ k, ps[h]? = some k ∧ Tr w 0 k ∧ look k.l key = look s.l key
  | 0, s, ps, hp, t => ⟨s, by rw [show ps = [s] from hp]; rfl, t, rfl⟩
  | h + 1, s, ps, ⟨ks, i, k, r, hk, hi, hki, e, hr⟩, t => by
    obtain ⟨k', hk', hs, hlo, hhi⟩ := hi.split hk.all hk.so
    rw [hki] at hk'
    cases hk'
    obtain ⟨x, hx, tx, hl⟩ := Way.last hr (hk.all k (List.mem_of_getElem? hki)).1
    refine ⟨x, by rw [e]; exact hx, tx, ?_⟩
    rw [hl, hk.l]
    conv => rhs; rw [hs]
    rw [flat_append, flat_append, show flat [k] = k.l ++ [] from rfl, List.append_nil, look_mid hlo hhi]
theorem Tr.kids {w : World} {h : Nat} {s : ST} (t : Tr w (h + 1) s) : ∃ ks, KidsOf w h s ks := by
  obtain ⟨ks, hN, hB, hP, hk2, hk6, hso, hks, hfl, hid⟩ := t
  exact ⟨ks, hB, hP, hk2, hk6, hfl ▸ hso, hks, hfl⟩
def lenOf : Value → Nat
  | .slice _ n _ => n
  | _ => 0
/-- Half-way down. -/
structure Down (w wr : World) (key : ByteArray) (h : Nat) (s : ST) (h' : Nat) (s' : ST) (v : Value) (done : List ST) : Prop where
  tr : Tr w h' s'
  own : OwnP wr w.heap.size v (ptrS done)
  rest : ∀ r, Way w key h' s' r → Way w key h s (done ++ r)
  len : done.length + h' = h
  below : Below w.heap.size w wr
theorem Way.step {w : World} {key : ByteArray} {h : Nat} {s : ST} {h' : Nat} {s' k : ST} {ks done : List ST} {i : Nat} (hr : ∀ r, Way w key (h' + 1) s' r → Way w key h s (done ++ r)) (hk : KidsOf w h' s' ks) (hi : Kid ks key i) (hki : ks[i]? = some k) :
    ∀ r, Way w key h' k r → Way w key h s (done ++ [s'] ++ r) := fun r h1 => by
  rw [List.append_assoc]
  exact hr (s' :: r) ⟨ks, i, k, r, hk, hi, hki, rfl, h1⟩
/-- What tree.Path answers. -/
def PathPost (w : World) (key : ByteArray) (h : Nat) (s : ST) (r : Ending) (w' : World) : Prop :=
  ∃ v ps, r = .returned v ∧ OwnP w' w.heap.size v (ptrS ps) ∧ Way w key h s ps ∧ Below w.heap.size w w'

set_option maxHeartbeats 2000000 in
set_option maxRecDepth 100000 in
theorem path_tr {w : World} {h : Nat} {s : ST} {key : ByteArray} (ht : Tr w h s) (hh : h ≤ 90000) :
    Calls Try.prog 46 #[pn s.b, .string key] w (PathPost w key h s) := by
  have HT := Lib.hid ht
  clear ht
  go_enter Try.func46, Try.ntmps46
  go_wp2
  go_loopw [0, 5] (fun s0 s5 wr => ∃ h' s' done, s0 = pn s'.b ∧ Hid (Down w wr key h s h' s' s5 done)) (fun _ s5 _ => h + 1 - lenOf s5)
  case atStart => exact ⟨h, s, [], rfl, Lib.hid ⟨HT.out, OwnL.nil_ _ _ _, fun r hr => hr, by simp, Below.refl _ _⟩⟩
  case round =>
    obtain ⟨h', s', done, rfl, HD⟩ := hrel
    obtain ⟨A, c, hv, hc, hls⟩ := HD.out.own.form
    subst hv
    have hb1 : Below wr.heap.size wr (wr.alloc (.cells #[pn s'.b] 26)) := (Below.refl _ _).alloc (Nat.le_refl _) _
    have hbw1 := bthen HD.out.below hb1
    obtain ⟨v', w2, hrun, hown2, hg2⟩ := run_append_ls encP 63 26 63 _ _ ⟨_, Try.underlying63, rfl⟩ ptrInfo rfl (by omega) (by omega) (HD.out.own.below hb1) 1 1 (ls_one wr s'.b 26) rfl (by rw [ptrS_len]; have := HD.out.len; omega) hbw1.size
    have hb2 := (HD.out.own.below hb1).grow_below hbw1 hbw1.size hg2
    obtain ⟨A2, c2, hv2, hc2, hls2⟩ := hown2.form
    have hlen2 : (ptrS done ++ [some s'.b]).length = done.length + 1 := by rw [List.length_append, ptrS_len]; rfl
    rw [hlen2] at hv2 hc2
    rw [ptrS_len] at hc hrun ⊢
    have hpd : ptrS done ++ [some s'.b] = ptrS (done ++ [s']) := by rw [ptrS_append]; rfl
    rw [hpd] at hown2 hls2
    subst hv2
    have HO2 := Lib.hid hown2
    have HR := Lib.hid hrun
    have HB2 := Lib.hid hb2
    clear hls hb1 hbw1 hrun hown2 hg2 hb2 hls2 hpd hlen2
    go_wp2_with (at_builtin; refine wpList_append_ran rfl (.tmp 9) (.tmp 11) 63 rfl _ _ _ _ rfl rfl HR.out ?_)
    cases h' with
    | zero =>
      have hT := HD.out.tr.below HB2.out
      obtain ⟨hN, hL, hE, hok, hid⟩ := hT
      refine (kids_any hN (Ls.nil (f := pcP) _ _) (by rw [hL.kn]; rfl) (by rw [hL.kn]; omega)).mono ?_
      rintro r w3 ⟨v3, rfl, ho3, hb3⟩
      obtain ⟨A3, c3, rfl, hc3, hls3⟩ := ho3.form
      have HW := Lib.hid (bthen HB2.out hb3)
      have HO3 := Lib.hid (HO2.out.below hb3)
      have hwy : Way w key 0 s' [s'] := rfl
      have HWY := Lib.hid (HD.out.rest [s'] hwy)
      clear hN hL hE hok hid ho3 hc3 hls3 hb3 hwy
      simp only [List.length_nil]
      go_wp2
      go_ret
      exact ⟨_, done ++ [s'], rfl, HO3.out, HWY.out, HW.out⟩
    | succ h' =>
      obtain ⟨ks, hks⟩ := HD.out.tr.kids
      obtain ⟨n, hn⟩ : ∃ n, ks.length = n := ⟨_, rfl⟩
      have h2 := hks.two
      have h6 := hks.six
      rw [hn] at h2 h6
      have HKS := Lib.hid hks
      have Hn := Lib.hid hn
      clear hks hn
      refine (kids_any (HD.out.tr.at_.below HB2.out) (HKS.out.ls.below HB2.out) (by rw [HKS.out.br.kn, ptrS_len, nbs_len]) (by rw [HKS.out.br.kn, nbs_len, Hn.out]; omega)).mono ?_
      rintro r w3 ⟨v3, rfl, ho3, hb3⟩
      obtain ⟨A3, c3, rfl, hc3, hls3⟩ := ho3.form
      rw [ptrS_len, Hn.out] at hc3 ⊢
      have hb13 := bthen HB2.out hb3
      have HA3 := Lib.hid (show All w3 (nbs ks) from (all_of HKS.out.all).below hb13)
      have HLS3 := Lib.hid hls3
      have HW3 := Lib.hid hb13
      have HO3 := Lib.hid (HO2.out.below hb3)
      have hn0 : ¬ (n : Int) = 0 := by omega
      clear ho3 hls3 hb3 hb13
      go_wp2_with fail
      refine (kidFor_any HLS3.out Hn.out (by omega) (by omega) HA3.out).mono ?_
      rintro r w4 ⟨i, rfl, hkid, hb4⟩
      have hilt : i < n := by have := hkid.lt; rw [Hn.out] at this; exact this
      obtain ⟨k, hki⟩ : ∃ k, ks[i]? = some k := ⟨_, List.getElem?_eq_getElem hkid.lt⟩
      obtain ⟨ad, x, rfl, hx, hadl, hcx⟩ := Ls.node_at (HLS3.out.below hb4) (i := i) (by rw [nbs_len, Hn.out]; exact hilt)
      rw [nbs_at hki] at hx
      cases hx
      have HD2 : Hid (Down w w4 key h s h' k (.slice A2 (done.length + 1) c2) (done ++ [s'])) := Lib.hid ⟨(HKS.out.all k (List.mem_of_getElem? hki)).1, HO3.out.below hb4, Way.step HD.out.rest HKS.out hkid hki, by have := HD.out.len; simp; omega, bthen HW3.out hb4⟩
      have hdl := HD.out.len
      clear hkid hb4 hki
      go_wp2
      exact ⟨⟨h', k, done ++ [s'], rfl, HD2⟩, by show h + 1 - (done.length + 1) < h + 1 - done.length; omega⟩

end Go.Proofs.Ytkooaechcbopnaa
