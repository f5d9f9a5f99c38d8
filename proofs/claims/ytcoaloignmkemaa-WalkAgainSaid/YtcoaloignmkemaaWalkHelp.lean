/-
  The functions that the rows of layer 11 call beside the walks: awake, built, first, and the reference's From, Back, BackFrom, Count; conditions stand at each.
-/
import Derived.Test.YtcoaloignmkemaaWalkCount
import Derived.Test.YtcoaloignmkemaaTreeTools
import Derived.BigQuiet
namespace Go.Proofs.Ytcoaloignmkemaa
open Go.RowKit Go.Sort Go.Shelf
set_option linter.unusedVariables false

set_option maxRecDepth 100000 in
set_option maxHeartbeats 4000000 in
theorem wkAwake_any (w : World) : Calls Try.prog 9 #[] w fun r w' => r = .returned (.bool true) ∧ Below w.heap.size w w' := by
  go_enter Try.func9, Try.ntmps9
  go_wp2_with fail
  obtain ⟨e, he⟩ : ∃ e : Ent, e = ⟨⟨#[97]⟩, ⟨#[118]⟩⟩ := ⟨_, rfl⟩
  have hek : (⟨#[97]⟩ : ByteArray) = e.k := by rw [he]
  have hev : (⟨#[118]⟩ : ByteArray) = e.v := by rw [he]
  have hok : okE e = true := by rw [he]; rfl
  have hks : e.k.size = 1 := by rw [he]; rfl
  have hvs : e.v.size = 1 := by rw [he]; rfl
  have hge : [e].filter (ge ⟨#[]⟩) = [e] := by rw [he]; rfl
  have hcn : cnt ⟨#[97]⟩ ⟨#[98]⟩ [e] = 1 := by rw [he]; rfl
  have HCN := Lib.hid hcn
  have HGE := Lib.hid hge
  have HEK := Lib.hid hek
  clear hcn hge
  have HE : Hid ((Value.agg #[.string ⟨#[97]⟩, .string ⟨#[118]⟩]) = .agg #[.string e.k, .string e.v]) := Lib.hid (by rw [hek, hev])
  rw [HE.out]
  refine (put_any (T := none) (TreeIs.none w) (fun x hx => by cases hx) (by omega) (by omega)).mono ?_
  rintro r w1 ⟨T', rfl, ht', hb1, hno, hyes⟩
  obtain ⟨hl', _, hx⟩ := hyes hok
  have hz : errOf e = 0 := by have := hok; rw [errOf_ok] at this; exact of_decide_eq_true this
  rw [hz]
  have hl' : tl T' = [e] := hl'
  have HT := Lib.hid ht'
  have HL := Lib.hid hl'
  have HB1 := Lib.hid hb1
  obtain ⟨pt, hpt⟩ : ∃ pt, tb T' = .pointer pt := ⟨_, rfl⟩
  rw [hpt]
  have HP := Lib.hid hpt
  clear hno hyes hx hb1 hl' hz ht' hok hks hvs he hpt hek hev
  go_wp2_with fail
  refine Calls.mono (by have := take_any HT.out ⟨#[]⟩ 5 (by rw [HL.out]; simp); rw [HP.out] at this; exact this) ?_
  rintro r w2 ⟨v, rfl, ho, hb2⟩
  rw [HL.out, HGE.out, show ks ([e].take (5 : Int).toNat) = [e.k] from rfl] at ho
  obtain ⟨A, c, rfl, hc, hss⟩ := ho.form
  obtain ⟨ad, x, rfl, hx, hadl, hcx⟩ := hss.at_ (i := 0) (by simp)
  have hxe : x = e.k := by simpa using hx.symm
  subst hxe
  have HT2 := Lib.hid (HT.out.below hb2)
  have HB2 := Lib.hid (bthen HB1.out hb2)
  have hcx' : w2.cell? ad = some (.string e.k) := hcx
  have hk0 : (e.k.toList == [97]) = true := by
    rw [← HEK.out, Lib.toList_data]
    rfl
  clear hb2 ho hx hss hcx
  go_wp2_with fail
  refine Calls.mono (by have := count_any HT2.out ⟨#[97]⟩ ⟨#[98]⟩ (by rw [HL.out]; simp); rw [HP.out, HL.out, HCN.out] at this; exact this) ?_
  rintro r w3 ⟨rfl, hb3⟩
  have HB3 := Lib.hid (bthen HB2.out hb3)
  clear hb3
  go_wp2
  go_ret
  exact ⟨rfl, HB3.out⟩

/-- What first answers: a shorter slice of the same. -/
theorem first_any (A : Option Addr) (n c : Nat) (most : Int) (w : World) (hc : n ≤ c) (hn : n ≤ 1000000) :
    Calls Try.prog 14 #[.slice A n c, .int .i64 most] w fun e w' => w = w' ∧ e = .returned (.slice A (min most.toNat n) c) := by
  have HM : Hid ((max 0 (min most (n : Int))).toNat = min most.toNat n) := Lib.hid (by omega)
  go_enter Try.func14, Try.ntmps14
  go_wp2_with fail
  go_ret
  rw [HM.out]
  exact ⟨rfl, rfl⟩

theorem filter_len_take {l : List Ent} {p : Ent → Bool} (m : Nat) : ((l.take m).filter p).length ≤ l.length := Nat.le_trans (List.length_filter_le _ _) (by rw [List.length_take]; omega)
/-- What a maker of a list answers. -/
def ListPost (w : World) (l : List Ent) (e : Ending) (w' : World) : Prop := ∃ v, e = .returned v ∧ Own w' w.heap.size v l ∧ Below w.heap.size w w'

set_option maxRecDepth 100000 in
set_option maxHeartbeats 2000000 in
theorem refFrom_any (A : Option Addr) (n c : Nat) (l : List Ent) (key : ByteArray) (w : World) (hr : Es w A l) (hn : l.length = n) (hb : n ≤ 300) :
    Calls Try.prog 18 #[.slice A n c, .string key] w (ListPost w (l.filter (ge key))) := by
  have Hn := Lib.hid hn
  clear hn
  go_enter Try.func18, Try.ntmps18
  go_wp2
  go_loopw [5, 9] (fun s5 s9 wr => ∃ k : Nat, k ≤ n ∧ s9 = .int .i64 (k : Int) ∧ Hid (Own wr w.heap.size s5 ((l.take k).filter (ge key))) ∧ Below w.heap.size w wr) (fun _ s9 _ => n - (intOf s9).toNat)
  case atStart => exact ⟨0, Nat.zero_le _, rfl, Lib.hid (Own.nil_ _ _), Below.refl _ _⟩
  case round =>
    obtain ⟨k, hk, rfl, HO, hbw⟩ := hrel
    by_cases hlt : k < n
    · obtain ⟨ad, x, rfl, hx, hl, h1, h2⟩ := (hr.below hbw).at_ (i := k) (by rw [Hn.out]; exact hlt)
      have HX := Lib.hid hx
      clear hx
      have hle := less_eq x.k key
      by_cases hd : kl x.k key
      · have HF : Hid ((l.take (k + 1)).filter (ge key) = (l.take k).filter (ge key)) := Lib.hid (filter_take_no HX.out (by simp [ge, hd]))
        rw [decide_eq_true hd] at hle
        go_wp2
        exact ⟨⟨k + 1, by omega, by go_num, Lib.hid (by rw [HF.out]; exact HO.out), hbw⟩, by simp [intOf]; omega⟩
      · have HF : Hid ((l.take (k + 1)).filter (ge key) = (l.take k).filter (ge key) ++ [x]) := Lib.hid (filter_take_yes HX.out (by simp [ge, hd]))
        rw [decide_eq_false hd] at hle
        obtain ⟨v', wc, hrun, hown', hbw', hsz'⟩ := append_one HO.out hbw hbw.size x (by
          have := filter_len_take (l := l) (p := ge key) k
          have := Hn.out
          omega)
        have HR := Lib.hid hrun
        have HO' := Lib.hid hown'
        clear hrun hown'
        go_wp2_with (at_builtin; refine wpList_append_ran rfl (.tmp 19) (.tmp 24) 22 rfl _ _ _ _ rfl rfl HR.out ?_)
        exact ⟨⟨k + 1, by omega, by go_num, Lib.hid (by rw [HF.out]; exact HO'.out), hbw'⟩, by simp [intOf]; omega⟩
    · have he : k = n := by omega
      subst he
      rw [List.take_of_length_le (by rw [Hn.out]; exact Nat.le_refl _)] at HO
      go_wp2
      go_ret
      exact ⟨_, rfl, HO.out, hbw⟩

theorem back_take {l : List Ent} {k : Nat} {x : Ent} (hk : k < l.length) (hx : l[l.length - 1 - k]? = some x) : (l.reverse.take (k + 1)) = l.reverse.take k ++ [x] := by
  have h : l.reverse[k]? = some x := by rw [List.getElem?_reverse hk]; exact hx
  obtain ⟨hi, e⟩ := List.getElem?_eq_some_iff.1 h
  rw [List.take_succ_eq_append_getElem hi, e]
set_option maxRecDepth 100000 in
set_option maxHeartbeats 2000000 in
theorem refBack_any (A : Option Addr) (n c : Nat) (l : List Ent) (w : World) (hr : Es w A l) (hn : l.length = n) (hb : n ≤ 300) :
    Calls Try.prog 15 #[.slice A n c] w (ListPost w l.reverse) := by
  have Hn := Lib.hid hn
  clear hn
  go_enter Try.func15, Try.ntmps15
  go_wp2
  go_loopw [3, 7] (fun s3 s7 wr => ∃ k : Nat, k ≤ n ∧ s7 = .int .i64 (k : Int) ∧ Hid (Own wr w.heap.size s3 (l.reverse.take k)) ∧ Below w.heap.size w wr) (fun _ s7 _ => n - (intOf s7).toNat)
  case atStart => exact ⟨0, Nat.zero_le _, rfl, Lib.hid (Own.nil_ _ _), Below.refl _ _⟩
  case round =>
    obtain ⟨k, hk, rfl, HO, hbw⟩ := hrel
    by_cases hlt : k < n
    · obtain ⟨ad, x, rfl, hx, hl, h1, h2⟩ := (hr.below hbw).at_ (i := n - 1 - k) (by rw [Hn.out]; omega)
      have HF : Hid (l.reverse.take (k + 1) = l.reverse.take k ++ [x]) := Lib.hid (back_take (by rw [Hn.out]; exact hlt) (by rw [Hn.out]; exact hx))
      obtain ⟨i, hi⟩ : ∃ i, n - 1 - k = i := ⟨_, rfl⟩
      have hii : (n : Int) - 1 - k = (i : Int) := by omega
      have hin : i < n := by omega
      rw [hi] at h1 h2
      obtain ⟨v', wc, hrun, hown', hbw', hsz'⟩ := append_one HO.out hbw hbw.size x (by rw [List.length_take, List.length_reverse]; have := Hn.out; omega)
      have HR := Lib.hid hrun
      have HO' := Lib.hid hown'
      clear hrun hown' hx
      go_wp2_with (at_builtin; refine wpList_append_ran rfl (.tmp 10) (.tmp 19) 22 rfl _ _ _ _ rfl rfl HR.out ?_)
      exact ⟨⟨k + 1, by omega, by go_num, Lib.hid (by rw [HF.out]; exact HO'.out), hbw'⟩, by simp [intOf]; omega⟩
    · have he : k = n := by omega
      subst he
      rw [List.take_of_length_le (by rw [List.length_reverse, Hn.out]; exact Nat.le_refl _)] at HO
      go_wp2
      go_ret
      exact ⟨_, rfl, HO.out, hbw⟩

set_option maxRecDepth 100000 in
set_option maxHeartbeats 2000000 in
theorem refBackFrom_any (A : Option Addr) (n c : Nat) (l : List Ent) (key : ByteArray) (w : World) (hr : Es w A l) (hn : l.length = n) (hb : n ≤ 300) :
    Calls Try.prog 19 #[.slice A n c, .string key] w (ListPost w (l.filter (le key)).reverse) := by
  have Hn := Lib.hid hn
  clear hn
  go_enter Try.func19, Try.ntmps19
  go_wp2
  go_loopw [5, 9] (fun s5 s9 wr => ∃ k : Nat, k ≤ n ∧ s9 = .int .i64 (k : Int) ∧ Hid (Own wr w.heap.size s5 ((l.take k).filter (le key))) ∧ Below w.heap.size w wr) (fun _ s9 _ => n - (intOf s9).toNat)
  case atStart => exact ⟨0, Nat.zero_le _, rfl, Lib.hid (Own.nil_ _ _), Below.refl _ _⟩
  case round =>
    obtain ⟨k, hk, rfl, HO, hbw⟩ := hrel
    by_cases hlt : k < n
    · obtain ⟨ad, x, rfl, hx, hl, h1, h2⟩ := (hr.below hbw).at_ (i := k) (by rw [Hn.out]; exact hlt)
      have HX := Lib.hid hx
      clear hx
      have hle := leq_eq x.k key
      by_cases hd : kl key x.k
      · have HF : Hid ((l.take (k + 1)).filter (le key) = (l.take k).filter (le key)) := Lib.hid (filter_take_no HX.out (by simp [le, hd]))
        rw [decide_eq_false (fun h : ¬ kl key x.k => h hd)] at hle
        go_wp2
        exact ⟨⟨k + 1, by omega, by go_num, Lib.hid (by rw [HF.out]; exact HO.out), hbw⟩, by simp [intOf]; omega⟩
      · have HF : Hid ((l.take (k + 1)).filter (le key) = (l.take k).filter (le key) ++ [x]) := Lib.hid (filter_take_yes HX.out (by simp [le, hd]))
        rw [decide_eq_true hd] at hle
        obtain ⟨v', wc, hrun, hown', hbw', hsz'⟩ := append_one HO.out hbw hbw.size x (by
          have := filter_len_take (l := l) (p := le key) k
          have := Hn.out
          omega)
        have HR := Lib.hid hrun
        have HO' := Lib.hid hown'
        clear hrun hown'
        go_wp2_with (at_builtin; refine wpList_append_ran rfl (.tmp 19) (.tmp 24) 22 rfl _ _ _ _ rfl rfl HR.out ?_)
        exact ⟨⟨k + 1, by omega, by go_num, Lib.hid (by rw [HF.out]; exact HO'.out), hbw'⟩, by simp [intOf]; omega⟩
    · have he : k = n := by omega
      subst he
      rw [List.take_of_length_le (by rw [Hn.out]; exact Nat.le_refl _)] at HO
      obtain ⟨A2, c2, rfl, hc2, hes⟩ := HO.out.form
      have hlen : (l.filter (le key)).length ≤ 300 := Nat.le_trans (List.length_filter_le _ _) (by rw [Hn.out]; exact hb)
      clear HO
      go_wp2_with fail
      refine (refBack_any A2 _ c2 _ wr hes rfl hlen).mono ?_
      rintro r w2 ⟨v, rfl, ho, hb2⟩
      have HO := Lib.hid (ho.mono hbw.size)
      have HB := Lib.hid (bthen hbw hb2)
      clear ho hb2
      go_wp2
      go_ret
      exact ⟨_, rfl, HO.out, HB.out⟩

set_option maxRecDepth 100000 in
set_option maxHeartbeats 2000000 in
theorem refCount_any (A : Option Addr) (n c : Nat) (l : List Ent) (a b : ByteArray) (w : World) (hr : Es w A l) (hn : l.length = n) (hb : n ≤ 300) :
    Calls Try.prog 22 #[.slice A n c, .string a, .string b] w fun e w' => e = .returned (.int .i64 (cnt a b l : Int)) ∧ w = w' := by
  have Hn := Lib.hid hn
  clear hn
  go_enter Try.func22, Try.ntmps22
  go_wp2
  go_loop [7, 11] (fun s7 s11 => ∃ k : Nat, k ≤ n ∧ s11 = .int .i64 (k : Int) ∧ s7 = .int .i64 (cnt a b (l.take k) : Int)) (fun _ s11 => n - (intOf s11).toNat)
  case atStart => exact ⟨0, Nat.zero_le _, rfl, rfl⟩
  case round =>
    obtain ⟨k, hk, rfl, rfl⟩ := hrel
    by_cases hlt : k < n
    · obtain ⟨ad, x, rfl, hx, hl, h1, h2⟩ := hr.at_ (i := k) (by rw [Hn.out]; exact hlt)
      have hM : cnt a b (l.take k) ≤ 300 := by
        have h1 := cnt_le a b (l.take k)
        rw [List.length_take] at h1
        omega
      have HS := Lib.hid (cnt_succ (a := a) (b := b) hx)
      obtain ⟨M, HM⟩ : ∃ M, cnt a b (l.take k) = M := ⟨_, rfl⟩
      rw [HM] at HS hM ⊢
      clear hx HM
      have hle := less_eq x.k a
      have hlb := less_eq x.k b
      by_cases hda : kl x.k a
      · rw [decide_eq_true hda] at hle
        have HF : Hid (cnt a b (l.take (k + 1)) = M) := Lib.hid (by rw [HS.out, show cnt a b [x] = 0 by simp [cnt, ge, hda], Nat.add_zero])
        clear HS
        go_wp2
        exact ⟨⟨k + 1, by omega, by go_num, by rw [HF.out]⟩, by simp [intOf]; omega⟩
      · rw [decide_eq_false hda] at hle
        by_cases hdb : kl x.k b
        · rw [decide_eq_true hdb] at hlb
          have HF : Hid (cnt a b (l.take (k + 1)) = M + 1) := Lib.hid (by rw [HS.out, show cnt a b [x] = 1 by simp [cnt, ge, lt, hda, hdb]])
          clear HS
          go_wp2
          exact ⟨⟨k + 1, by omega, by go_num, by rw [HF.out]; go_num⟩, by simp [intOf]; omega⟩
        · rw [decide_eq_false hdb] at hlb
          have HF : Hid (cnt a b (l.take (k + 1)) = M) := Lib.hid (by rw [HS.out, show cnt a b [x] = 0 by simp [cnt, ge, lt, hda, hdb], Nat.add_zero])
          clear HS
          go_wp2
          exact ⟨⟨k + 1, by omega, by go_num, by rw [HF.out]⟩, by simp [intOf]; omega⟩
    · have he : k = n := by omega
      subst he
      rw [List.take_of_length_le (by rw [Hn.out]; exact Nat.le_refl _)]
      go_wp2
      go_ret
      exact ⟨rfl, rfl⟩

/-- What built answers. -/
def BuiltPost (w : World) (r : Ending) (w' : World) : Prop :=
  ∃ T v, (∃ b : Bool, r = .returned (.tuple #[tb T, v, .bool b])) ∧ TreeIs w' T ∧ Own w' w.heap.size v (tl T) ∧ (tl T).length ≤ 150 ∧ Below w.heap.size w w'

set_option maxRecDepth 100000 in
set_option maxHeartbeats 4000000 in
theorem wkBuilt_any (A : Option Addr) (n c : Nat) (l : List Ent) (w : World) (ha : Arg w A n c l) :
    Calls Try.prog 10 #[.slice A n c] w (BuiltPost w) := by
  obtain ⟨hlen, hcap, hsm, hes, hok⟩ := ha
  have HL := Lib.hid hlen
  have HOK := Lib.hid hok
  clear hlen hok
  by_cases h150 : 150 < n
  · go_enter Try.func10, Try.ntmps10
    go_wp2
    go_ret3
    exact ⟨none, _, ⟨false, rfl⟩, TreeIs.none _, Own.nil_ _ _, Nat.zero_le _, Below.refl _ _⟩
  go_enter Try.func10, Try.ntmps10
  go_wp2
  go_loopw [5, 6, 15] (fun s5 s6 s15 wr => ∃ (k : Nat) (T : TO), k ≤ n ∧ s15 = .int .i64 (k : Int) ∧ s5 = tb T ∧ Hid (TreeIs wr T ∧ Own wr w.heap.size s6 (tl T) ∧ (tl T).length ≤ k) ∧ Below w.heap.size w wr) (fun _ _ s15 _ => n - (intOf s15).toNat)
  case atStart => exact ⟨0, none, Nat.zero_le _, rfl, rfl, Lib.hid ⟨TreeIs.none _, Own.nil_ _ _, Nat.zero_le _⟩, Below.refl _ _⟩
  case round =>
    obtain ⟨k, T, hk, rfl, rfl, HI, hbw⟩ := hrel
    obtain ⟨tv, htv⟩ : ∃ tv, tv = tb T := ⟨_, rfl⟩
    rw [← htv]
    have HTV := Lib.hid htv
    clear htv
    by_cases hlt : k < n
    · obtain ⟨ad, x, rfl, hx, hl, h1, h2⟩ := (hes.below hbw).at_ (i := k) (by rw [HL.out]; exact hlt)
      obtain ⟨hks, hvs⟩ := HOK.out x (List.mem_of_getElem? hx)
      have HX := Lib.hid hx
      clear hx
      by_cases hbig : 2000 < x.k.size + x.v.size
      · go_wp2
        go_quiet (fail)
        go_wp2
        go_ret3
        exact ⟨none, _, ⟨false, rfl⟩, TreeIs.none _, Own.nil_ _ _, Nat.zero_le _, below_drewN hbw _⟩
      · go_wp2
        go_quiet (fail)
        obtain ⟨wa, hwd⟩ : ∃ wd, wd = wr.drewN nq := ⟨_, rfl⟩
        rw [← hwd]
        have hbq : Below wr.heap.size wr wa := by rw [hwd]; exact below_drewN (Below.refl _ _) nq
        have hbw2 := bthen hbw hbq
        have HBQ := Lib.hid hbq
        obtain ⟨_, _, e', hx', _, h1', h2'⟩ := (hes.below hbw2).at_ (i := k) (by rw [HL.out]; exact hlt)
        cases e'
        obtain rfl := Option.some.inj (HX.out.symm.trans hx')
        have HT2 := Lib.hid (HI.out.1.below hbq)
        have HO2 := Lib.hid (HI.out.2.1.below hbq)
        have HLen := Lib.hid HI.out.2.2
        clear HI hwd hbq hbw h1 h2 hx'
        go_wp2_with fail
        rw [HTV.out]
        refine (put_any HT2.out (HT2.out.low (by have := HLen.out; omega)) hks hvs).mono ?_
        rintro r w1 ⟨T', rfl, ht', hb1, hno, hyes⟩
        have hb := bthen hbw2 hb1
        by_cases he : okE x = true
        · obtain ⟨hl', _, _⟩ := hyes he
          have hz : errOf x = 0 := by rw [errOf_ok] at he; exact of_decide_eq_true he
          rw [hz]
          obtain ⟨_, _, e', hx', _, h1, h2⟩ := (hes.below hb).at_ (i := k) (by rw [HL.out]; exact hlt)
          cases e'
          obtain rfl := Option.some.inj (HX.out.symm.trans hx')
          obtain ⟨A2, c2, hv2, hc2, hes2⟩ := (HO2.out.below hb1).form
          subst hv2
          have HPL := Lib.hid (put_length HT2.out.sorted x)
          have HTL := Lib.hid hl'
          have HT' := Lib.hid ht'
          have HS := Lib.hid HT2.out.sorted
          obtain ⟨tv', htv'⟩ : ∃ tv, tv = tb T' := ⟨_, rfl⟩
          rw [← htv']
          have HTV' := Lib.hid htv'
          have HBX := Lib.hid hb
          clear hl' hb1 hno hyes hz he ht' hx' h1' h2' htv'
          go_wp2_with fail
          refine (refWith_any A2 _ c2 (tl T) x w1 HS.out hes2 rfl (by have := HLen.out; omega)).mono ?_
          rintro r w2 ⟨v3, rfl, ho3, hb3⟩
          have HO3 := Lib.hid (ho3.mono HBX.out.size)
          have HB3 := Lib.hid (bthen HBX.out hb3)
          have HT3 := Lib.hid (HT'.out.below hb3)
          clear ho3 hb3 h1 h2
          go_wp2
          exact ⟨⟨k + 1, T', by omega, by go_num, HTV'.out, Lib.hid ⟨HT3.out, by rw [HTL.out]; exact HO3.out, by rw [HTL.out]; have := HPL.out; have := HLen.out; omega⟩, HB3.out⟩, by simp [intOf]; omega⟩
        · have hz : errOf x ≠ 0 := by rw [errOf_ok] at he; simpa using he
          have HT3 := Lib.hid (HT2.out.below hb1)
          have HO3 := Lib.hid (HO2.out.below hb1)
          rw [← HTV.out]
          have HB3 := Lib.hid hb
          clear hb1 hno hyes he ht' h1' h2' hb hbw2
          go_wp2
          exact ⟨⟨k + 1, T, by omega, by go_num, HTV.out, Lib.hid ⟨HT3.out, HO3.out, by have := HLen.out; omega⟩, HB3.out⟩, by simp [intOf]; omega⟩
    · have he : k = n := by omega
      subst he
      go_wp2
      go_ret3
      exact ⟨T, _, ⟨true, by rw [← HTV.out]; rfl⟩, HI.out.1, HI.out.2.1, by have := HI.out.2.2; omega, hbw⟩

end Go.Proofs.Ytcoaloignmkemaa
