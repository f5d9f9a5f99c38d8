/-
  The contract of tree.set.add: the nodes of a tree join the set; conditions: the tree is valid and lies in memory, or is nil.
-/
import Derived.Test.YtobkldjomplhgaaTreeSet
namespace Go.Proofs.Ytobkldjomplhgaa
open Go.RowKit Go.Sort
open Go.ChangeMaps (setBlock)
set_option linter.unusedVariables false
set_option linter.unusedSimpArgs false

structure AddPre (w0 w : World) (m : Nat) (bs : List Nat) : Prop where
  below : Below w0.heap.size w0 w
  at_ : SetAt w m bs
  ge : w0.heap.size ≤ m
  nodes : Nodes' w0 bs
def AddPost (w0 w : World) (m : Nat) (bs ids : List Nat) (r : Ending) (w' : World) : Prop :=
  r = .returned (.tuple #[]) ∧ ∃ bs', AddPre w0 w' m bs' ∧ (bs.Nodup → bs'.Nodup) ∧ (∀ x, x ∈ bs' ↔ x ∈ bs ∨ x ∈ ids) ∧ w.grownBy w' (some m)
theorem AddPre.lt {w0 w : World} {m : Nat} {bs : List Nat} (h : AddPre w0 w m bs) : m < w.heap.size := (Array.getElem?_eq_some_iff.1 h.at_).1
theorem AddPre.nodes' {w0 w : World} {m : Nat} {bs : List Nat} (h : AddPre w0 w m bs) : Nodes' w bs := fun x hx => by
  obtain ⟨N, hN⟩ := h.nodes x hx
  exact ⟨N, hN.below h.below⟩
theorem AddPre.next {w0 w w' : World} {m : Nat} {bs : List Nat} (h : AddPre w0 w m bs) (hb : Below w.heap.size w w') : AddPre w0 w' m bs :=
  ⟨bthen h.below hb, (hb.block m h.lt).trans h.at_, h.ge, h.nodes⟩
theorem grown_of_below {w w' : World} (h : Below w.heap.size w w') (r : Option Nat) : w.grownBy w' r := ⟨h.os, h.tape, h.output, h.size, fun k hk _ => h.block k hk⟩
theorem Tr.nodeAt {w : World} : ∀ {h : Nat} {s : ST}, Tr w h s → ∀ x ∈ s.ids, ∃ N, NodeAt w x N
  | 0, s, k, x, hx => by
    rw [k.2.2.2.2, List.mem_singleton] at hx
    exact ⟨_, hx ▸ k.1⟩
  | h + 1, s, ⟨ks, t1, t2, t3, t4, t5, t6, t7, t8, t9⟩, x, hx => by
    rw [t9] at hx
    rcases List.mem_cons.1 hx with rfl | hx
    · exact ⟨_, t1⟩
    · obtain ⟨k, hk, hx⟩ := List.mem_flatMap.1 hx
      exact (t7 k hk).1.nodeAt x hx
theorem idsOf_take_succ {ks : List ST} {j : Nat} {k : ST} (h : ks[j]? = some k) : idsOf (ks.take (j + 1)) = idsOf (ks.take j) ++ k.ids := by
  rw [List.take_add_one, h, idsOf_append]
  simp [idsOf]

set_option maxHeartbeats 2000000 in
set_option maxRecDepth 100000 in
theorem add_gen {w0 w : World} {m b : Nat} {N : NR} {bs : List Nat} {ks : List ST} {n : Nat} (hN : NodeAt w0 b N) (hp : Ls pcP w0 N.ka (ptrS ks)) (hn : ks.length = n) (hk : N.kn = n) (h2 : n ≤ 1000)
    (hall : ∀ k ∈ ks, ∀ w bs, AddPre w0 w m bs → Calls Try.prog 42 #[.map (some m), pn k.b] w (AddPost w0 w m bs k.ids)) (hpre : AddPre w0 w m bs) :
    Calls Try.prog 42 #[.map (some m), pn b] w (AddPost w0 w m bs (b :: idsOf ks)) := by
  have hnw := hN.below hpre.below
  obtain ⟨w1, hput, hs1, hg1⟩ := put_set hpre.at_ hnw hpre.nodes'
  have hpre1 : AddPre w0 w1 m (ins bs b) := ⟨hpre.below.grown hg1 hpre.below.size (fun j hj => by cases hj; exact hpre.ge), hs1, hpre.ge, fun x hx => by
    rcases mem_ins.1 hx with hx | rfl
    · exact hpre.nodes x hx
    · exact ⟨_, hN⟩⟩
  have HN := Lib.hid hN
  have HP := Lib.hid hp
  have Hn := Lib.hid hn
  have HK := Lib.hid hk
  have HALL := Lib.hid hall
  have HPUT := Lib.hid hput
  have HG1 := Lib.hid hg1
  have HPRE1 := Lib.hid hpre1
  clear hN hp hn hk hall hput hg1 hs1 hpre1 hpre hnw
  go_enter Try.func42, Try.ntmps42
  go_wp2_with fail
  rw [HPUT.out]
  go_wp2_with fail
  refine (kids_any (HN.out.below HPRE1.out.below) (HP.out.below HPRE1.out.below) (by rw [HK.out, ptrS_len, Hn.out]) (by rw [HK.out]; omega)).mono ?_
  rintro r w2 ⟨v2, rfl, ho2, hb2⟩
  obtain ⟨A2, c2, rfl, hc2, hls2, hge2⟩ := ho2.slice
  rw [ptrS_len, Hn.out] at hc2 ⊢
  have HPRE2 := Lib.hid (HPRE1.out.next hb2)
  have HG2 := Lib.hid (HG1.out.trans (grown_of_below hb2 (some m)))
  rw [ptrS_len, Hn.out] at ho2
  have HO2 := Lib.hid ho2
  have HLT := Lib.hid HPRE1.out.lt
  clear ho2 hls2 hb2
  go_wp2
  go_loopw [14] (fun s14 wr => ∃ (j : Nat) (bj : List Nat), j ≤ n ∧ s14 = .int .i64 j ∧ AddPre w0 wr m bj ∧ ((ins bs b).Nodup → bj.Nodup) ∧ (∀ x, x ∈ bj ↔ x ∈ ins bs b ∨ x ∈ idsOf (ks.take j)) ∧ OwnP wr w1.heap.size (.slice A2 n c2) (ptrS ks) ∧ w.grownBy wr (some m)) (fun s14 _ => n - (intOf s14).toNat)
  case atStart => exact ⟨0, _, Nat.zero_le _, rfl, HPRE2.out, id, by simp [idsOf], HO2.out, HG2.out⟩
  case round =>
    obtain ⟨j, bj, hj, rfl, hpj, hnd, hmem, hop, hgj⟩ := hrel
    by_cases hlt : j < n
    · obtain ⟨k, hk⟩ : ∃ k, ks[j]? = some k := ⟨_, List.getElem?_eq_getElem (by rw [Hn.out]; exact hlt)⟩
      obtain ⟨ad, x, rfl, hx, hadl, hcx⟩ := Ls.node_at (ownP_ls hop) (i := j) (by rw [nbs_len, Hn.out]; exact hlt)
      rw [nbs_at hk] at hx
      cases hx
      have HKJ := Lib.hid hk
      have HPJ := Lib.hid hpj
      have HND := Lib.hid hnd
      have HMEM := Lib.hid hmem
      have HGJ := Lib.hid hgj
      have HOP := Lib.hid hop
      clear hk hpj hnd hmem hgj hop
      go_wp2_with fail
      refine (HALL.out k (List.mem_of_getElem? HKJ.out) wr bj HPJ.out).mono ?_
      rintro r w3 ⟨rfl, b3, hp3, hnd3, hmem3, hg3⟩
      have hop3 : OwnP w3 w1.heap.size (.slice (some ad) n c2) (ptrS ks) := HOP.out.keep fun g hg hlt => hg3.block g hlt fun e => by
        have h1 : ad.block = g := by simpa [Value.ownBlock] using hg
        have h2 := hge2 ad rfl
        have h3 := HLT.out
        have h4 : g = m := Option.some.inj e
        omega
      have HX := Lib.hid (And.intro hp3 (And.intro (fun h => hnd3 (HND.out h)) (And.intro hop3 (HGJ.out.trans hg3))))
      have HM3 : Hid (∀ x, x ∈ b3 ↔ x ∈ ins bs b ∨ x ∈ idsOf (ks.take (j + 1))) := Lib.hid fun x => by
        rw [hmem3, HMEM.out, idsOf_take_succ HKJ.out, List.mem_append, or_assoc]
      clear hp3 hnd3 hmem3 hg3 hop3 hcx
      go_wp2
      exact ⟨⟨j + 1, b3, by omega, by go_num, HX.out.1, HX.out.2.1, HM3.out, HX.out.2.2.1, HX.out.2.2.2⟩, by simp [intOf]; omega⟩
    · have he : j = n := by omega
      subst he
      rw [List.take_of_length_le (by rw [Hn.out]; exact Nat.le_refl _)] at hmem
      have HPOST : Hid (AddPost w0 w m bs (b :: idsOf ks) (.returned (.tuple #[])) wr) := Lib.hid ⟨rfl, bj, hpj, fun h => hnd (ins_nodup h), fun x => by rw [hmem, mem_ins, List.mem_cons, or_assoc], hgj⟩
      clear hop hmem hnd hpj hgj
      go_wp2
      go_end0
      exact HPOST.out

theorem add_tr {w0 : World} {m : Nat} : ∀ (h : Nat) (w : World) (bs : List Nat) (s : ST), Tr w0 h s → AddPre w0 w m bs → Calls Try.prog 42 #[.map (some m), pn s.b] w (AddPost w0 w m bs s.ids)
  | 0, w, bs, s, ⟨hN, hL, hE, hok, hid⟩, hp => by
    have := add_gen (ks := []) (n := 0) hN (Ls.nil (f := pcP) _ _) rfl hL.kn (by omega) (fun k hk => by cases hk) hp
    rw [hid]
    simpa [idsOf] using this
  | h + 1, w, bs, s, ⟨ks, hN, hB, hP, hk2, hk6, hso, hks, hfl, hid⟩, hp => by
    rw [hid]
    exact add_gen (n := ks.length) hN hP rfl (by rw [hB.kn, nbs_len]) (by omega) (fun k hk w' bs' hp' => add_tr h w' bs' k (hks k hk).1 hp') hp
set_option maxHeartbeats 1000000 in
set_option maxRecDepth 100000 in
theorem add_nil (w : World) (v : Value) : Calls Try.prog 42 #[v, .pointer none] w fun r w' => r = .returned (.tuple #[]) ∧ w' = w := by
  go_enter Try.func42, Try.ntmps42
  go_wp2
  refine bodyPost_ret (results_none rfl _ _ _) rfl ?_
  exact ⟨rfl, rfl⟩
theorem add_any {w0 w : World} {m : Nat} {bs : List Nat} {T : TO} (ht : TreeIs w0 T) (hp : AddPre w0 w m bs) : Calls Try.prog 42 #[.map (some m), tb T] w (AddPost w0 w m bs (tids T)) := by
  cases T with
  | none =>
    refine (add_nil w _).mono ?_
    rintro r w' ⟨rfl, rfl⟩
    exact ⟨rfl, bs, hp, id, fun x => by simp [tids], grown_of_below (Below.refl _ _) _⟩
  | some x => exact add_tr x.1 w bs x.2 (ht x rfl) hp

end Go.Proofs.Ytobkldjomplhgaa
