/-
  Several texts in one: ShRfLeast, ShRfKn, ShRfLay. Each says what it proves, and under which conditions.
-/
import Derived.Test.YtelenboncejdaaaGreatDoorShRfA

/-
  The reference's nodes of a tree while the plan is laid; the contracts of Least and of find (whose answer is what was known); conditions stand at each.
-/
namespace Go.Proofs.YtelenboncejdaaaGreatDoor
open Go.RowKit Go.Sort
open Rt (Fx Stp)
set_option linter.unusedVariables false
set_option linter.unusedSimpArgs false

/-- The reference's nodes of what was told. -/
def RT (wb w : World) (base : Nat) (l : List (Nat × Nat)) : Prop := ∀ x ∈ l, ∃ P, P.b = x.1 ∧ PNAt wb P ∧ RefOk (fun _ => False) w base l x.2 P
theorem RT.pst {wb w w' : World} {base : Nat} {l : List (Nat × Nat)} (h : RT wb w base l) (hp : PstR w w') : RT wb w' base l := fun x hx => by
  obtain ⟨P, h1, h2, A, c, B, d, rs, h3⟩ := h x hx
  exact ⟨P, h1, h2, A, c, B, d, rs, (hp.2 _ _ _ h3.box (by decide) (by decide) (by decide)).trans h3.box, pst_es hp h3.es, h3.len, hp.own h3.ks (by decide) (by decide) (by decide), h3.in_, h3.z0, h3.z1, h3.z2⟩
theorem RT.at_ {wb w : World} {base b r : Nat} {l : List (Nat × Nat)} (h : RT wb w base l) (hx : (b, r) ∈ l) {P : PN} (hP : PNAt wb P) (e : P.b = b) : RefOk (fun _ => False) w base l r P := by
  obtain ⟨Q, h1, h2, h3⟩ := h _ hx
  rw [← hP.unique h2 (e.trans h1.symm)] at h3
  exact h3
theorem TM.rt {wb w : World} {U : List Nat} {Z : Nat → Prop} {sb : Nat} {v : Value} {l : List (Nat × Nat)} (h : TM wb w U Z sb v l) : RT wb w wb.heap.size l := fun x hx => by
  obtain ⟨P, h1, h2, A, c, B, d, rs, h3⟩ := h.ref x hx
  exact ⟨P, h1, h2, A, c, B, d, rs, h3.less fun q _ h => h.elim⟩

set_option maxRecDepth 100000 in
theorem least_leaf {w : World} {r n c d : Nat} {A B : Option Addr} {l : List Ent} {e : Ent} (hr : RefAt w r (.slice A n c) (.slice B 0 d)) (he : Es w A l) (hn : l.length = n) (h0 : l[0]? = some e) :
    Calls Tryz.prog 61 #[.pointer (some ⟨r, 0, none⟩)] w fun x w' => x = .returned (.string e.k) ∧ w' = w := by
  have c0 := cell_at hr 0 _ rfl
  have c1 := cell_at hr 1 _ rfl
  have hn0 : 0 < n := by rw [← hn]; exact (List.getElem?_eq_some_iff.1 h0).1
  have hne : ((n : Int) == 0) = false := by simp; omega
  have hnI : ¬ ((n : Int) = 0) := by omega
  obtain ⟨ad, e', rfl, he', _, q0, _⟩ := he.at_ (i := 0) (by omega)
  rw [h0] at he'
  cases he'
  rw [Nat.zero_mul] at q0
  have ha : ad.add 0 = ad := by unfold Addr.add; simp
  rw [ha] at q0
  clear hr he hn h0 ha
  go_enter Tryz.func61, Tryz.ntmps61
  go_wp2
  go_ret
  exact ⟨rfl, rfl⟩
set_option maxRecDepth 100000 in
theorem least_branch {w : World} {r r0 m d : Nat} {B : Option Addr} {vx : Value} {rs : List Nat} {s : ByteArray} (hr : RefAt w r vx (.slice B m d)) (hk : Ls pcP w B (rs.map some)) (hn : rs.length = m) (h0 : rs[0]? = some r0)
    (hl : Calls Tryz.prog 61 #[.pointer (some ⟨r0, 0, none⟩)] w fun x w' => x = .returned (.string s) ∧ w' = w) :
    Calls Tryz.prog 61 #[.pointer (some ⟨r, 0, none⟩)] w fun x w' => x = .returned (.string s) ∧ w' = w := by
  have c1 := cell_at hr 1 _ rfl
  have hn0 : 0 < m := by rw [← hn]; exact (List.getElem?_eq_some_iff.1 h0).1
  have hnI : ((m : Int) > 0) := by omega
  obtain ⟨ad, p, rfl, hp, _, q0⟩ := hk.ptr_at (i := 0) (by rw [List.length_map]; omega)
  rw [List.getElem?_map, h0] at hp
  cases hp
  have q0 : w.cell? (ad.add 0) = some (.pointer (some ⟨r0, 0, none⟩)) := q0
  have ha : ad.add 0 = ad := by unfold Addr.add; simp
  rw [ha] at q0
  have HL := Lib.hid hl
  clear hr hk hn h0 ha hl
  go_enter Tryz.func61, Tryz.ntmps61
  go_wp2_with fail
  refine HL.out.mono ?_
  rintro x w' ⟨rfl, rfl⟩
  go_wp2
  go_ret
  exact ⟨rfl, rfl⟩
theorem least_tr {wb w : World} {base : Nat} {l : List (Nat × Nat)} (hT : RT wb w base l) : ∀ {h : Nat} {s : ST} {L : List PN}, Pr wb h s L → ∀ {r : Nat}, (s.b, r) ∈ l →
    Calls Tryz.prog 61 #[.pointer (some ⟨r, 0, none⟩)] w fun x w' => x = .returned (.string s.N.lo) ∧ w' = w
  | 0, s, L, hp, r, hr => by
    obtain ⟨t, e⟩ := id hp
    obtain ⟨A, c, B, d, rs, h3⟩ := hT.at_ hr (hp.at_ ⟨s.b, 0, s.l, []⟩ (by rw [e]; exact List.mem_singleton.2 rfl)) rfl
    have hlen := okLeaf_len t.2.2.2.1
    have h0 : s.l[0]? = some s.l[0] := List.getElem?_eq_getElem (by omega)
    rw [t.2.1.lo _ h0]
    exact least_leaf h3.box (es_own h3.es) rfl h0
  | h + 1, s, L, hp, r, hr => by
    obtain ⟨t, ks, Q, t2, t3, t4, t5, t7, t8, t9, hq, hr', e⟩ := id hp
    obtain ⟨A, c, B, d, rs, h3⟩ := hT.at_ hr (hp.at_ ⟨s.b, h + 1, [], kidsP ks⟩ (by rw [e]; simp)) rfl
    have hkl : (kidsP ks).length = ks.length := by simp [kidsP]
    have h3l : rs.length = (kidsP ks).length := h3.len
    have hks0 : ks[0]? = some ks[0] := List.getElem?_eq_getElem (by omega)
    have hrs0 : rs[0]? = some rs[0] := List.getElem?_eq_getElem (by omega)
    have hkp : (kidsP ks)[0]? = some (ks[0].N.lo, ks[0].b) := by simp only [kidsP, List.getElem?_map, hks0, Option.map_some]
    have hin := h3.in_ 0 _ _ hkp hrs0
    obtain ⟨M, hM⟩ := lt_at hq.symm hks0
    have hl := least_tr hT (hr' 0 ks[0] M hks0 hM) hin
    have hlo : s.N.lo = ks[0].N.lo := t2.lo (ks[0].b, ks[0].N) (by simp [nbs, hks0])
    rw [hlo]
    exact least_branch h3.box (row_ls h3.ks) h3.len hrs0 hl

set_option maxHeartbeats 2000000 in
set_option maxRecDepth 100000 in
theorem find_kn {w : World} {A : Option Addr} {n c r : Nat} {K : List KN} {u v : Value} (ha : ArgK w A n K) (hn : n ≤ 100000) (hr : RefAt w r u v) (hk : ∀ x ∈ K, ∃ b u v, x.p = some b ∧ RefAt w b u v) :
    Calls Tryz.prog 59 #[.slice A n c, .pointer (some ⟨r, 0, none⟩)] w fun e w' => ∃ B m d, e = .returned (.slice B m d) ∧ m = (findK K r).length ∧ ((findK K r = [] ∧ m = 0) ∨ ∃ x ∈ K, x.p = some r ∧ B = x.A ∧ findK K r = x.l) ∧ w' = w := by
  have HA := Lib.hid ha
  have HR := Lib.hid hr
  have HK := Lib.hid hk
  clear ha hr hk
  go_enter Tryz.func59, Tryz.ntmps59
  go_wp2
  go_loopw [8] (fun s8 wr => ∃ k : Nat, k ≤ n ∧ s8 = .int .i64 k ∧ Hid (∀ j y, j < k → K[j]? = some y → y.p ≠ some r) ∧ wr = w) (fun s8 _ => n - (intOf s8).toNat)
  case atStart => exact ⟨0, Nat.zero_le _, rfl, Lib.hid (fun j y h => by omega), rfl⟩
  case round =>
    obtain ⟨k, hk, rfl, HL, rfl⟩ := hrel
    by_cases hlt : k < n
    · obtain ⟨ad, x, rfl, hx, hl1, hcx⟩ := HA.out.ls.at_ encKn (i := k) (by rw [HA.out.len]; exact hlt)
      obtain ⟨b, u1, v1, hxp, hb⟩ := HK.out x (List.mem_of_getElem? hx)
      have q0 := hcx 0 (.pointer (x.p.map fun b => ⟨b, 0, none⟩)) (by omega) rfl
      have q1 : wr.cell? ⟨(ad.add (k * 2)).block, (ad.add (k * 2)).off + 1, none⟩ = some (.slice x.A x.l.length x.c) := hcx 1 (.slice x.A x.l.length x.c) (by omega) rfl
      rw [add_of_add] at q0
      rw [hxp] at q0
      simp only [Nat.add_zero, Option.map_some] at q0
      have he := eql_rn hb HR.out
      have HX := Lib.hid hx
      have HXP := Lib.hid hxp
      have HRW := Lib.hid (HA.out.rows x (List.mem_of_getElem? hx))
      obtain ⟨m, hm⟩ : ∃ m, m = x.l.length := ⟨_, rfl⟩
      rw [← hm] at q1
      have HM := Lib.hid hm
      clear hx hcx hxp hb hm
      by_cases hbr : b = r
      · rw [decide_eq_true hbr] at he
        have HF : Hid (findK K r = x.l) := Lib.hid (findK_skip HL.out HX.out (by rw [HXP.out, hbr]))
        have HBR := Lib.hid hbr
        clear hbr
        go_wp2
        go_ret
        exact ⟨_, _, _, rfl, by rw [HF.out]; exact HM.out, .inr ⟨x, List.mem_of_getElem? HX.out, by rw [HXP.out, HBR.out], rfl, HF.out⟩, rfl⟩
      · rw [decide_eq_false hbr] at he
        have HL2 : Hid (∀ j y, j < k + 1 → K[j]? = some y → y.p ≠ some r) := Lib.hid (fun j y hj hy => by
          rcases Nat.lt_or_ge j k with h | h
          · exact HL.out j y h hy
          · have : j = k := by omega
            subst this
            rw [HX.out] at hy
            cases hy
            rw [HXP.out]
            intro e
            exact hbr (by simpa using e))
        clear hbr
        go_wp2
        exact ⟨⟨k + 1, by omega, by go_num, HL2, trivial⟩, by simp [intOf]; omega⟩
    · have HF : Hid (findK K r = []) := Lib.hid (findK_none fun y hy => by
        obtain ⟨j, hj⟩ := List.getElem?_of_mem hy
        have := (List.getElem?_eq_some_iff.1 hj).1
        exact HL.out j y (by rw [HA.out.len] at this; omega) hj)
      go_wp2
      go_ret
      exact ⟨none, 0, 0, rfl, by rw [HF.out]; rfl, .inl ⟨HF.out, rfl⟩, rfl⟩

end Go.Proofs.YtelenboncejdaaaGreatDoor

/-
  Where nodes lie, in the reference's list; what stays of it; what the plan's steps turn; conditions stand at each.
-/
namespace Go.Proofs.YtelenboncejdaaaGreatDoor
open Go.RowKit Go.Sort
open Rt (Fx Stp)
set_option linter.unusedVariables false
set_option linter.unusedSimpArgs false

/-- A known node's pages can be read, and stay. -/
def KRow (R : Option Addr → List Int → Prop) (W : World) (base : Nat) (x : KN) : Prop := OwnI W base (.slice x.A x.l.length x.c) x.l ∨ R x.A x.l
theorem KRow.pst {R : Option Addr → List Int → Prop} {w w' : World} {base : Nat} {x : KN} (h : KRow R w base x) (hp : PstR w w') : KRow R w' base x := h.imp (fun h => hp.own h (by decide) (by decide) (by decide)) id
theorem KRow.mono {R : Option Addr → List Int → Prop} {w : World} {b b' : Nat} {x : KN} (h : KRow R w b x) (hb : b' ≤ b) : KRow R w b' x := h.imp (fun h => OwnL.mono h hb) id
theorem KRow.ls {R : Option Addr → List Int → Prop} {W : World} {base : Nat} {x : KN} (h : KRow R W base x) (hR : ∀ A l, R A l → Ls icell W A l) : Ls icell W x.A x.l := by
  rcases h with h | h
  · exact row_ls h
  · exact hR _ _ h
/-- A known node's pages lie in no row of this value. -/
def KOff (R : Option Addr → List Int → Prop) (W : World) (base : Nat) (v : Value) (x : KN) : Prop := (OwnI W base (.slice x.A x.l.length x.c) x.l ∧ ∀ q, (Value.slice x.A x.l.length x.c).ownBlock = some q → v.ownBlock ≠ some q) ∨ R x.A x.l
theorem KOff.row {R : Option Addr → List Int → Prop} {W : World} {base : Nat} {v : Value} {x : KN} (h : KOff R W base v x) : KRow R W base x := h.imp (fun h => h.1) id
theorem KOff.pst {R : Option Addr → List Int → Prop} {w w' : World} {base : Nat} {v : Value} {x : KN} (h : KOff R w base v x) (hp : PstR w w') : KOff R w' base v x := h.imp (fun h => ⟨hp.own h.1 (by decide) (by decide) (by decide), h.2⟩) id
theorem KRow.off {R : Option Addr → List Int → Prop} {W : World} {base : Nat} {v : Value} {x : KN} (h : KRow R W base x) (hv : ∀ q, v.ownBlock = some q → q < base) : KOff R W base v x := h.imp (fun h => ⟨h, fun q hq hv2 => by
  have := h.at_block q hq
  have := hv q hv2
  omega⟩) id
theorem KOff.mono {R : Option Addr → List Int → Prop} {w : World} {b b' : Nat} {v : Value} {x : KN} (h : KOff R w b v x) (hb : b' ≤ b) : KOff R w b' v x := h.imp (fun h => ⟨OwnL.mono h.1 hb, h.2⟩) id
theorem KOff.grow {R : Option Addr → List Int → Prop} {w w1 w2 : World} {base : Nat} {v v' : Value} {x : KN} (h : KOff R w base v x) (hb : Below w.heap.size w w1) (hg : w1.grownBy w2 v.ownBlock) (hv : v'.ownBlock = v.ownBlock ∨ v'.ownBlock = some w1.heap.size) : KOff R w2 base v' x := h.imp (fun h => ⟨h.1.keep fun g hg2 hl => (hg.block g (Nat.lt_of_lt_of_le hl hb.size) fun e => h.2 g hg2 e.symm).trans (hb.block g hl), fun q hq hv2 => by
  rcases hv with e | e
  · rw [e] at hv2
    exact h.2 q hq hv2
  · rw [e] at hv2
    cases hv2
    have := h.1.lt _ hq
    have := hb.size
    omega⟩) id
/-- The list says where the nodes lie. -/
structure KnOk (R : Option Addr → List Int → Prop) (W : World) (base : Nat) (l : List (Nat × Nat)) (N : List KN) (M : PM) : Prop where
  len : N.length = M.length
  at_ : ∀ (i : Nat) (x : KN) (y : Nat × List Int), N[i]? = some x → M[i]? = some y → ∃ r, (y.1, r) ∈ l ∧ x.p = some r ∧ x.l = y.2
  rows : ∀ x ∈ N, KRow R W base x
theorem KnOk.nil (R : Option Addr → List Int → Prop) (W : World) (base : Nat) (l : List (Nat × Nat)) : KnOk R W base l [] [] := ⟨rfl, fun i x y h => by simp at h, fun x h => by cases h⟩
theorem KnOk.pst {R : Option Addr → List Int → Prop} {w w' : World} {base : Nat} {l : List (Nat × Nat)} {N : List KN} {M : PM} (h : KnOk R w base l N M) (hp : PstR w w') : KnOk R w' base l N M := ⟨h.len, h.at_, fun x hx => (h.rows x hx).pst hp⟩
theorem KnOk.append {R : Option Addr → List Int → Prop} {W W' : World} {b b' : Nat} {l : List (Nat × Nat)} {N N' : List KN} {M M' : PM} (h : KnOk R W b l N M) (h' : KnOk R W' b' l N' M') {W2 : World} {b2 : Nat} (hr : ∀ x ∈ N ++ N', KRow R W2 b2 x) : KnOk R W2 b2 l (N ++ N') (M ++ M') := by
  refine ⟨by simp [h.len, h'.len], fun i y z h1 h2 => ?_, hr⟩
  rcases Nat.lt_or_ge i N.length with hlt | hge
  · rw [List.getElem?_append_left hlt] at h1
    rw [List.getElem?_append_left (by rw [← h.len]; exact hlt)] at h2
    exact h.at_ i y z h1 h2
  · rw [List.getElem?_append_right hge] at h1
    rw [List.getElem?_append_right (by rw [← h.len]; exact hge), ← h.len] at h2
    exact h'.at_ _ y z h1 h2
theorem KnOk.snoc {R : Option Addr → List Int → Prop} {W : World} {base : Nat} {l : List (Nat × Nat)} {N : List KN} {M : PM} (h : KnOk R W base l N M) {x : KN} {b r : Nat} (hb : (b, r) ∈ l) (hp : x.p = some r) (hr : KRow R W base x) : KnOk R W base l (N ++ [x]) (M ++ [(b, x.l)]) :=
  h.append (W' := W) (b' := base) ⟨rfl, fun i y z h1 h2 => by
    cases i with
    | zero =>
      cases h1
      cases h2
      exact ⟨r, hb, hp, rfl⟩
    | succ i => simp at h1, fun y hy => by rw [List.mem_singleton.1 hy]; exact hr⟩ fun y hy => by
    rcases List.mem_append.1 hy with hy | hy
    · exact h.rows y hy
    · rw [List.mem_singleton.1 hy]
      exact hr
/-- A node more is known: the list grows, and is stored. -/
theorem RP.known {wb w w2 w4 : World} {pb nx : Nat} {vo vn vw vn' : Value} {Nw : List KN} {ws : List (Int × List UInt8)} {x : KN} (hb : Below wb.heap.size wb w) (hpb : wb.heap.size ≤ pb) (h : RP w wb.heap.size pb vo vn vw nx Nw ws) (h2 : Below w.heap.size w w2)
    (ho : OwnL pcKn 76 2 w4 wb.heap.size vn' (Nw ++ [x])) (hg : (w2.alloc (.cells (pcKn x).toArray 76)).grownBy w4 vn.ownBlock) :
    (RP (w4.setCell ⟨pb, 1, none⟩ vn') wb.heap.size pb vo vn' vw nx (Nw ++ [x]) ws ∧ Below wb.heap.size wb (w4.setCell ⟨pb, 1, none⟩ vn') ∧ PstR w (w4.setCell ⟨pb, 1, none⟩ vn')) ∧ w4.heap[pb]? = some (.cells #[vo, vn, vw, .int .i64 (nx : Int), .slice none 0 0] 65 (0, 0)) := by
  have hba : Below w2.heap.size w2 (w2.alloc (.cells (pcKn x).toArray 76)) := (Below.refl _ _).alloc (Nat.le_refl _) _
  have hb2 := bthen h2 hba
  have hk4 : ∀ q, q < w.heap.size → vn.ownBlock ≠ some q → w4.heap[q]? = w.heap[q]? := fun q hq hne => (hg.block q (Nat.lt_of_lt_of_le hq hb2.size) fun e => hne e.symm).trans (hb2.block q hq)
  have hpw : vn.ownBlock ≠ some pb := fun e => by
    obtain ⟨cur, hc⟩ := own_cells h.new pb e
    rw [h.box] at hc
    cases hc
  have hb4 := (hk4 pb (lt_of_block h.box) hpw).trans h.box
  have hpw' : vn'.ownBlock ≠ some pb := fun e => by
    obtain ⟨cur, hc⟩ := own_cells ho pb e
    rw [hb4] at hc
    cases hc
  have hz5 : (w4.setCell ⟨pb, 1, none⟩ vn').heap.size = w4.heap.size := by simp [World.setCell]
  have hk5 : ∀ q, q < w.heap.size → q ≠ pb → vn.ownBlock ≠ some q → (w4.setCell ⟨pb, 1, none⟩ vn').heap[q]? = w.heap[q]? := fun q hq h1 h2 => by
    rw [Below.heap_setCell _ _ _ _ h1]
    exact hk4 q hq h2
  have hsz := Nat.le_trans hb2.size hg.size
  refine ⟨⟨⟨blk_set hb4 1 vn', ho.keep fun g hg2 _ => Below.heap_setCell _ _ _ _ fun e => hpw' (by rw [hg2]; exact congrArg some e), h.wr.keep fun g hg2 hl => hk5 g hl (fun e => ?_) fun e => ?_⟩,
    ⟨hg.os.trans (hb2.os.trans hb.os), hg.tape.trans (hb2.tape.trans hb.tape), hg.output.trans (hb2.output.trans hb.output), by rw [hz5]; exact Nat.le_trans hb.size hsz, fun i hi => (hk5 i (Nat.lt_of_lt_of_le hi hb.size) (by omega) fun e => ?_).trans (hb.block i hi)⟩, by rw [hz5]; exact hsz, fun q cs t hq h1 h2 h3 => hk5 q (lt_of_block hq) (fun e => ?_) fun e => ?_⟩, hb4⟩
  · obtain ⟨cur, hc⟩ := own_cells h.wr g hg2
    rw [e, h.box] at hc
    cases hc
  · obtain ⟨cur, hc⟩ := own_cells h.wr g hg2
    obtain ⟨cur2, hc2⟩ := own_cells h.new g e
    rw [hc] at hc2
    cases hc2
  · have := h.new.at_block i e
    omega
  · rw [e, h.box] at hq
    cases hq
    exact h1 rfl
  · obtain ⟨cur, hc⟩ := own_cells h.new q e
    rw [hq] at hc
    cases hc
    exact h2 rfl
/-- What stays while a plan is laid: what was known. -/
structure LC (R : Option Addr → List Int → Prop) (wb : World) (pb : Nat) (vo : Value) (O : List KN) (l : List (Nat × Nat)) (K : PM) (L : List PN) : Prop where
  pb : wb.heap.size ≤ pb
  old : ∃ A n c, vo = .slice A n c ∧ ArgK wb A n O ∧ n ≤ 100000
  refs : ∀ x ∈ O, ∃ b u v, x.p = some b ∧ RefAt wb b u v
  eq : ∀ P ∈ L, ∀ r, (P.b, r) ∈ l → findK O r = pgs K P.b
  rows : ∀ x ∈ O, R x.A x.l
  rd : ∀ A m, R A m → Ls icell wb A m
theorem LC.sub {R : Option Addr → List Int → Prop} {wb : World} {pb : Nat} {vo : Value} {O : List KN} {l : List (Nat × Nat)} {K : PM} {L L' : List PN} (h : LC R wb pb vo O l K L) (hs : ∀ P ∈ L', P ∈ L) : LC R wb pb vo O l K L' := ⟨h.pb, h.old, h.refs, fun P hP => h.eq P (hs P hP), h.rows, h.rd⟩
/-- What Lay answers. -/
def LayT (R : Option Addr → List Int → Prop) (wb w : World) (pb : Nat) (vo : Value) (l : List (Nat × Nat)) (Nw : List KN) (ws : List (Int × List UInt8)) (M : PM) (D : List (Int × PP)) (j : Nat) (own : Int) (e : Ending) (w' : World) : Prop :=
  ∃ vn vw N, e = .returned (.int .i64 own) ∧ RW wb w w' pb vo vn vw (j + 2) (Nw ++ N) (ws ++ D.map encOf) ∧ KnOk R w' w.heap.size l N M

end Go.Proofs.YtelenboncejdaaaGreatDoor

/-
  The contract of Lay of a node whose kids' contract is known; conditions stand at it.
-/
namespace Go.Proofs.YtelenboncejdaaaGreatDoor
open Go.RowKit Go.Sort
open Rt (Fx Stp)
set_option linter.unusedVariables false
set_option linter.unusedSimpArgs false

theorem kid_row_run (w : World) (x : PK) : (Instr.buildSlice 140 1 #[(0, .agg (pcK x).toArray)]).run Tryz.prog w = .ok (.slice (some ⟨w.heap.size, 0, none⟩) 1 1) (w.alloc (.cells (pcK x).toArray 145)) := by
  obtain ⟨i0, hi0, hz0, hz1, hz2⟩ := info_parts infoRfK
  refine run_buildSlice (P := Tryz.prog) w 140 145 1 _ _ i0 _ Tryz.underlying140 hi0 hz0 (by rw [hz1]; omega) (by rw [hz1]; omega) ?_
  have h := Great.fill_whole (s := 2) (by omega) [.agg (pcK x).toArray] ((Array.range (1 * i0.size)).map ((Value.agg #[.string ByteArray.empty, .int .i64 0]).cells[· % (Value.agg #[.string ByteArray.empty, .int .i64 0]).cells.size]!)) (by simp [Value.cells, pcK]) (by simp [hz1])
  rw [hz1] at h ⊢
  simpa [Value.cells] using h
/-- A page in the making, beside the plan: its box, its kids. -/
structure Lk (wb w W : World) (pb xb : Nat) (vo vn vw vc : Value) (nx : Nat) (Nw : List KN) (ws : List (Int × List UInt8)) (cs : List PK) : Prop where
  rw : RW wb w W pb vo vn vw nx Nw ws
  box : W.heap[xb]? = some (.cells #[.int .i64 2, .slice none 0 0, vc, .string ⟨#[]⟩, .int .i64 0] 142 (0, 0))
  cells : OwnL pcK 145 2 W w.heap.size vc cs
  ge : w.heap.size ≤ xb
theorem Lk.below {wb w W W' : World} {pb xb : Nat} {vo vn vw vc : Value} {nx : Nat} {Nw : List KN} {ws : List (Int × List UInt8)} {cs : List PK} (h : Lk wb w W pb xb vo vn vw vc nx Nw ws cs) (hb : Below W.heap.size W W') : Lk wb w W' pb xb vo vn vw vc nx Nw ws cs :=
  ⟨h.rw.below hb, (hb.block _ (lt_of_block h.box)).trans h.box, h.cells.below hb, h.ge⟩
theorem Lk.next {wb w W W' : World} {pb xb : Nat} {vo vn vw vw' vc : Value} {nx nx' : Nat} {Nw : List KN} {ws ws' : List (Int × List UInt8)} {cs : List PK} (h : Lk wb w W pb xb vo vn vw vc nx Nw ws cs) (hr : RP W' wb.heap.size pb vo vn vw' nx' Nw ws') (hb : Below wb.heap.size wb W') (hp : PstR W W') : Lk wb w W' pb xb vo vn vw' vc nx' Nw ws' cs :=
  ⟨h.rw.next hr hb hp, (hp.2 _ _ _ h.box (by decide) (by decide) (by decide)).trans h.box, hp.own h.cells (by decide) (by decide) (by decide), h.ge⟩
/-- A kid more. -/
theorem Lk.step {wb w W W1 w4 : World} {pb xb : Nat} {vo vn vw vc vc' : Value} {nx : Nat} {Nw : List KN} {ws : List (Int × List UInt8)} {cs : List PK} {x : PK} (h : Lk wb w W pb xb vo vn vw vc nx Nw ws cs) (hww : wb.heap.size ≤ w.heap.size) (hb : Below W.heap.size W W1)
    (ho : OwnL pcK 145 2 w4 w.heap.size vc' (cs ++ [x])) (hg : (W1.alloc (.cells (pcK x).toArray 145)).grownBy w4 vc.ownBlock) :
    (Lk wb w (w4.setCell ⟨xb, 2, none⟩ vc') pb xb vo vn vw vc' nx Nw ws (cs ++ [x]) ∧ PstC W (w4.setCell ⟨xb, 2, none⟩ vc')) ∧ w4.heap[xb]? = some (.cells #[.int .i64 2, .slice none 0 0, vc, .string ⟨#[]⟩, .int .i64 0] 142 (0, 0)) := by
  have hba : Below W1.heap.size W1 (W1.alloc (.cells (pcK x).toArray 145)) := (Below.refl _ _).alloc (Nat.le_refl _) _
  have hb2 := bthen hb hba
  have hk4 : ∀ q, q < W.heap.size → vc.ownBlock ≠ some q → w4.heap[q]? = W.heap[q]? := fun q hq hne => (hg.block q (Nat.lt_of_lt_of_le hq hb2.size) fun e => hne e.symm).trans (hb2.block q hq)
  have hxc : vc.ownBlock ≠ some xb := fun e => by
    obtain ⟨cur, hc⟩ := own_cells h.cells xb e
    rw [h.box] at hc
    cases hc
  have hb4 := (hk4 xb (lt_of_block h.box) hxc).trans h.box
  have hxc' : vc'.ownBlock ≠ some xb := fun e => by
    obtain ⟨cur, hc⟩ := own_cells ho xb e
    rw [hb4] at hc
    cases hc
  have h4 := h.rw.grow hww h.cells hb2 hg (by decide) (by decide) (by decide)
  refine ⟨⟨⟨h4.set hww hb4 h.ge (by decide) (by decide) (by decide), blk_set hb4 2 vc', ho.keep fun g hg2 _ => Below.heap_setCell _ _ _ _ fun e => hxc' (by rw [hg2]; exact congrArg some e), h.ge⟩, by simp [World.setCell]; exact Nat.le_trans hb2.size hg.size, fun q cs' t hq h1 _ h2 => ?_⟩, hb4⟩
  rw [Below.heap_setCell _ _ _ _ fun e => by
    simp only at e
    rw [e, h.box] at hq
    cases hq
    exact h1 rfl]
  exact hk4 q (lt_of_block hq) fun e => by
    obtain ⟨cur, hc⟩ := own_cells h.cells q e
    rw [hq] at hc
    cases hc
    exact h2 rfl

set_option maxHeartbeats 8000000 in
set_option maxRecDepth 100000 in
theorem rfLay_gen {R : Option Addr → List Int → Prop} {wb0 wb w : World} {pb rb j base : Nat} {vo vn vw : Value} {Nw O : List KN} {ws : List (Int × List UInt8)} {l : List (Nat × Nat)} {K : PM} {P : PN} (hc : LC R wb pb vo O l K [P]) (hT : RT wb0 w base l) (hPN : PNAt wb0 P) (hr : (P.b, rb) ∈ l) (hb : Below wb.heap.size wb w) (h : RP w wb.heap.size pb vo vn vw (j + 2) Nw ws)
    (Ms Mk : Nat → PM) (Ds Dk : Nat → List (Int × PP)) (Js : Nat → Nat) (og : Nat → Int) (hM0 : Ms 0 = []) (hD0 : Ds 0 = []) (hJ0 : Js 0 = j) (hMs : ∀ i, Ms (i + 1) = Ms i ++ Mk i) (hDs : ∀ i, Ds (i + 1) = Ds i ++ Dk i)
    (hJb : ∀ i ≤ P.ks.length, Js i + P.cost + 3 ≤ 5000) (hDb : ∀ i ≤ P.ks.length, ws.length + (Ds i).length ≤ 4000) (hNb : ∀ i ≤ P.ks.length, Nw.length + (Ms i).length ≤ 100000)
    (hk : ∀ (i : Nat) (k : ByteArray × Nat) (r' : Nat), P.ks[i]? = some k → (k.2, r') ∈ l → ∀ (w1 : World) (vn1 vw1 : Value) (N1 : List KN), Below wb.heap.size wb w1 → RP w1 wb.heap.size pb vo vn1 vw1 (Js i + 2) (Nw ++ N1) (ws ++ (Ds i).map encOf) → N1.length = (Ms i).length → RT wb0 w1 base l →
      Calls Tryz.prog 31 #[.pointer (some ⟨pb, 0, none⟩), .pointer (some ⟨r', 0, none⟩)] w1 (LayT R wb w1 pb vo l (Nw ++ N1) (ws ++ (Ds i).map encOf) (Mk i) (Dk i) (Js (i + 1)) (og k.2)))
    (hlo : ∀ (i : Nat) (k : ByteArray × Nat) (r' : Nat), P.ks[i]? = some k → (k.2, r') ∈ l → ∀ w1 : World, RT wb0 w1 base l → Calls Tryz.prog 61 #[.pointer (some ⟨r', 0, none⟩)] w1 fun x w' => x = .returned (.string k.1) ∧ w' = w1)
    (pg : List Int) (D : List (Int × PP)) (jE : Nat)
    (hpg : (pgs K P.b ≠ [] ∧ pg = pgs K P.b ∧ D = [] ∧ jE = Js P.ks.length) ∨ (pgs K P.b = [] ∧ pg = nodePgs (Js P.ks.length) P ∧ jE = Js P.ks.length + P.cost ∧ (∀ d ∈ D, okPage d.2 ∧ Bd d.2) ∧
      ((P.h = 0 ∧ D = leafD P.l (ups (Js P.ks.length) (pieces P.l)) ++ [(((Js P.ks.length + pieces P.l + 2 : Nat) : Int), leafP P.l (ups (Js P.ks.length) (pieces P.l)))]) ∨
        (P.h ≠ 0 ∧ D = [(((Js P.ks.length + 2 : Nat) : Int), ⟨2, [], P.ks.map fun k => ⟨k.1, og k.2⟩, ByteArray.empty, 0⟩)])))) :
    Calls Tryz.prog 31 #[.pointer (some ⟨pb, 0, none⟩), .pointer (some ⟨rb, 0, none⟩)] w (LayT R wb w pb vo l Nw ws (Ms P.ks.length ++ [(P.b, pg)]) (Ds P.ks.length ++ D) jE (pg.headD 0)) := by
  obtain ⟨oh, hoh⟩ : ∃ oh, oh = pg.headD 0 := ⟨_, rfl⟩
  rw [← hoh]
  have HOH := Lib.hid hoh
  clear hoh
  obtain ⟨Ar, cr, Br, dr, rs, hR⟩ := hT.at_ hr hPN rfl
  obtain ⟨Ao, no, co, hvo, hO, hno⟩ := hc.old
  subst hvo
  obtain ⟨N, hN⟩ := hPN
  have hfew := hN.few
  obtain ⟨mk, hmk⟩ : ∃ mk, P.ks.length = mk := ⟨_, rfl⟩
  obtain ⟨nl, hnl⟩ : ∃ nl, P.l.length = nl := ⟨_, rfl⟩
  have hmk6 : mk ≤ 6 := by rw [← hmk, hN.kn]; exact hfew.2
  have hnl6 : nl ≤ 6 := by rw [← hnl, hN.en]; exact hfew.1
  have hbx := hR.box
  rw [hmk, hnl] at hbx
  have b0 := cell_at h.box 0 _ rfl
  have n0 := cell_at hbx 0 _ rfl
  have n1 := cell_at hbx 1 _ rfl
  have HC := Lib.hid hc
  have HT := Lib.hid hT
  have HR := Lib.hid hr
  have HRI := Lib.hid hR
  have HB := Lib.hid hb
  have HP := Lib.hid h
  have HO := Lib.hid hO
  have HM0 := Lib.hid hM0
  have HD0 := Lib.hid hD0
  have HJ0 := Lib.hid hJ0
  have HMS := Lib.hid hMs
  have HDS := Lib.hid hDs
  have HJB := Lib.hid hJb
  have HDB := Lib.hid hDb
  have HNB := Lib.hid hNb
  have HK := Lib.hid hk
  have HLO := Lib.hid hlo
  have HPGS := Lib.hid hpg
  have HMK := Lib.hid hmk
  have HNL1 := Lib.hid hnl
  have HNA := Lib.hid hN
  have HRF := Lib.hid (fun x hx => by
    obtain ⟨b, u, v, h1, h2⟩ := hc.refs x hx
    exact ⟨b, u, v, h1, h2.below hb⟩ : ∀ x ∈ O, ∃ b u v, x.p = some b ∧ RefAt w b u v)
  have HRB := Lib.hid hR.box
  have HEQ := Lib.hid (hc.eq P (List.mem_singleton.2 rfl) rb hr)
  clear hc hT hr hR hb h hO hM0 hD0 hJ0 hMs hDs hJb hDb hNb hk hlo hpg hmk hnl hN hbx hfew
  go_enter Tryz.func31, Tryz.ntmps31
  go_wp2_with fail
  refine (find_kn (HO.out.below HB.out) hno HRB.out HRF.out).mono ?_
  rintro e w1 ⟨B5, m5, d5, rfl, hm5, hfk, rfl⟩
  have HM5 := Lib.hid hm5
  have HFK := Lib.hid hfk
  clear hm5 hfk
  have HS0 : Hid (∃ (vn1 vw1 : Value) (N1 : List KN), RW wb w1 w1 pb (.slice Ao no co) vn1 vw1 (Js 0 + 2) (Nw ++ N1) (ws ++ (Ds 0).map encOf) ∧ KnOk R w1 w1.heap.size l N1 (Ms 0) ∧ ∀ x ∈ N1, KOff R w1 w1.heap.size (.slice none 0 0) x) := Lib.hid ⟨vn, vw, [], by
    rw [HD0.out, HJ0.out, List.map_nil, List.append_nil, List.append_nil]
    exact ⟨HP.out, HB.out, .refl _⟩, by rw [HM0.out]; exact KnOk.nil _ _ _ _, fun x hx => by cases hx⟩
  go_wp2_with fail
  go_loopw [7, 25] (fun s7 s25 wr => ∃ (i : Nat) (v7 : Value), i ≤ mk ∧ s25 = .int .i64 i ∧ v7 = s7 ∧ Hid (OwnI wr w1.heap.size v7 ((P.ks.take i).map fun k => og k.2)) ∧ Hid (∃ (vn1 vw1 : Value) (N1 : List KN), RW wb w1 wr pb (.slice Ao no co) vn1 vw1 (Js i + 2) (Nw ++ N1) (ws ++ (Ds i).map encOf) ∧ KnOk R wr w1.heap.size l N1 (Ms i) ∧ ∀ x ∈ N1, KOff R wr w1.heap.size v7 x)) (fun _ s25 _ => mk - (intOf s25).toNat)
  case atStart => exact ⟨0, _, Nat.zero_le _, rfl, rfl, Lib.hid (OwnL.nil_ _ _ _), HS0⟩
  case round =>
    clear HS0
    obtain ⟨i, v7, hi, rfl, rfl, HV7, HS⟩ := hrel
    obtain ⟨vn1, vw1, N1, hrw, hko, hof⟩ := HS.out
    have HRW := Lib.hid hrw
    have HKO := Lib.hid hko
    have HOF := Lib.hid hof
    clear HS hrw hko hof
    by_cases hit : i < mk
    · obtain ⟨w2, hw2⟩ : ∃ x, x = wr := ⟨_, rfl⟩
      subst hw2
      have hkr := HRW.out.pst.own HRI.out.ks (by decide) (by decide) (by decide)
      rw [HMK.out] at hkr
      obtain ⟨ad, p, cur, hA, hp, hh, _, hcx⟩ := row_at encP hkr (i := i) (by rw [List.length_map, HRI.out.len, HMK.out]; exact hit)
      subst hA
      rw [List.getElem?_map] at hp
      obtain ⟨r', hr', hpe⟩ := Option.map_eq_some_iff.1 hp
      subst hpe
      obtain ⟨kk, hkk⟩ : ∃ kk, P.ks[i]? = some kk := ⟨_, List.getElem?_eq_getElem (by rw [HMK.out]; exact hit)⟩
      have hin := HRI.out.in_ i kk r' hkk hr'
      have q0 : w2.cell? (ad.add i) = some (.pointer (some ⟨r', 0, none⟩)) := by
        have := hcx 0 _ (by omega) rfl
        rwa [add_of_add, Nat.mul_one, Nat.add_zero] at this
      have hcall := HK.out i kk r' hkk hin w2 vn1 vw1 N1 HRW.out.bel HRW.out.rp HKO.out.len (HT.out.pst HRW.out.pst)
      have HCALL := Lib.hid hcall
      have HKK := Lib.hid hkk
      obtain ⟨A7, c7, hv7, _, _⟩ := HV7.out.form
      rw [List.length_map, List.length_take, HMK.out, Nat.min_eq_left hi] at hv7
      subst hv7
      clear hkr hp hh hcx hr' hkk hin hcall
      go_wp2_with fail
      refine HCALL.out.mono ?_
      rintro e w3 ⟨vn2, vw2, N2, rfl, hrw2, hko2⟩
      have hO2 := hrw2.pst.own HV7.out (by decide) (by decide) (by decide)
      have hba : Below w3.heap.size w3 (w3.alloc (.cells (icell (og kk.2)).toArray 3)) := (Below.refl _ _).alloc (Nat.le_refl _) _
      obtain ⟨v7', w4, hr4, ho4, hg4, hv4⟩ := run_append_at ienc 38 3 38 _ _ ⟨_, Tryz.underlying38, rfl⟩ intInfo rfl (by omega) (by omega) (hO2.below hba) (og kk.2) (heap_alloc_new w3 _) (by rw [List.length_map, List.length_take]; omega) (Nat.le_trans (Nat.le_trans HRW.out.pst.1 hrw2.pst.1) hba.size)
      have h3 : RW wb w1 w3 pb (.slice Ao no co) vn2 vw2 (Js (i + 1) + 2) (Nw ++ (N1 ++ N2)) (ws ++ (Ds (i + 1)).map encOf) := by
        rw [HDS.out, List.map_append, ← List.append_assoc, ← List.append_assoc]
        exact ⟨hrw2.rp, hrw2.bel, HRW.out.pst.trans hrw2.pst⟩
      have h4 := h3.grow HB.out.size hO2 hba hg4 (by decide) (by decide) (by decide)
      have hof4 : ∀ x ∈ N1 ++ N2, KOff R w4 w1.heap.size v7' x := fun x hx => by
        rcases List.mem_append.1 hx with hx | hx
        · exact ((HOF.out x hx).pst hrw2.pst).grow hba hg4 hv4
        · exact (((hko2.rows x hx).off fun q hq => HV7.out.lt q hq).mono HRW.out.pst.1).grow hba hg4 hv4
      have HS4 : Hid (∃ (vn1 vw1 : Value) (N1 : List KN), RW wb w1 w4 pb (.slice Ao no co) vn1 vw1 (Js (i + 1) + 2) (Nw ++ N1) (ws ++ (Ds (i + 1)).map encOf) ∧ KnOk R w4 w1.heap.size l N1 (Ms (i + 1)) ∧ ∀ x ∈ N1, KOff R w4 w1.heap.size v7' x) := Lib.hid ⟨vn2, vw2, N1 ++ N2, h4, by rw [HMS.out]; exact HKO.out.append hko2 fun x hx => (hof4 x hx).row, hof4⟩
      have HV4 : Hid (OwnI w4 w1.heap.size v7' ((P.ks.take (i + 1)).map fun k => og k.2)) := Lib.hid (by
        rw [List.take_add_one, HKK.out, List.map_append]
        exact ho4)
      have HR4 := Lib.hid hr4
      clear hrw2 hko2 hO2 hba hr4 ho4 hg4 hv4 h3 h4 hof4
      go_wp2_with (at_builtin; refine wpList_append_ran rfl (.tmp 28) (.tmp 35) 38 rfl _ _ _ _ rfl rfl HR4.out ?_)
      exact ⟨⟨i + 1, _, by omega, by go_num, rfl, HV4, HS4⟩, by simp [intOf]; omega⟩
    · have hie : i = mk := by omega
      subst hie
      rw [List.take_of_length_le (by rw [HMK.out]; exact Nat.le_refl _)] at HV7
      obtain ⟨w2, hw2⟩ : ∃ x, x = wr := ⟨_, rfl⟩
      subst hw2
      have HNL : Hid ((Nw ++ N1).length ≤ 1000000) := Lib.hid (by
        have h1 := HNB.out i (by rw [HMK.out]; exact Nat.le_refl _)
        have h2 := HKO.out.len
        rw [List.length_append]
        omega)
      rcases HPGS.out with ⟨hne, hpe, hDe, hje⟩ | ⟨he0, hpe, hje, hokD, hcase⟩
      · have hfx : findK O rb = pg := by rw [HEQ.out, hpe]
        have hpl : 0 < pg.length := by
          rw [hpe]
          exact List.length_pos_iff.2 hne
        have hm5 : pg.length = m5 := by rw [← hfx]; exact HM5.out.symm
        have hm50 : 0 < m5 := by omega
        have hm5I : ¬ ((m5 : Int) = 0) := by omega
        have hm5b : ((m5 : Int) == 0) = false := by simp; omega
        obtain ⟨x, hxO, hxp, hB5, hxl⟩ := HFK.out.resolve_left fun h => by have := h.2; omega
        obtain ⟨A5, hA5⟩ : ∃ A5, A5 = B5 := ⟨_, rfl⟩
        obtain ⟨n5, hn5⟩ : ∃ n5, n5 = m5 := ⟨_, rfl⟩
        obtain ⟨c5, hc5⟩ : ∃ c5, c5 = d5 := ⟨_, rfl⟩
        rw [← hA5, ← hn5, ← hc5]
        rw [← hn5] at hm5I hm5b hm5
        obtain ⟨xk, hxk⟩ : ∃ xk : KN, xk = ⟨some rb, A5, c5, pg⟩ := ⟨_, rfl⟩
        have HXK := Lib.hid hxk
        have HN5 := Lib.hid hm5
        have HPG := Lib.hid hpl
        have HKR : Hid (KRow R w2 w1.heap.size xk) := Lib.hid (.inr (by
          rw [hxk, hA5]
          have := HC.out.rows x hxO
          rw [← hB5, ← hxl, hfx] at this
          exact this))
        obtain ⟨W, hW⟩ : ∃ x, x = w2 := ⟨_, rfl⟩
        subst hW
        have HRW2 : Hid (RW wb w1 W pb (.slice Ao no co) vn1 vw1 (jE + 2) (Nw ++ N1) (ws ++ (Ds P.ks.length ++ D).map encOf)) := Lib.hid (by
          rw [hDe, List.append_nil, hje, HMK.out]
          exact HRW.out)
        have HKO2 : Hid (KnOk R W w1.heap.size l N1 (Ms P.ks.length)) := Lib.hid (by rw [HMK.out]; exact HKO.out)
        clear HRW HKO HOF hne hpe hDe hje hfx hpl hm5 hm50 hxO hxp hB5 hxl hA5 hn5 hc5 hxk HPGS HV7
        have HRW := HRW2
        have HKO := HKO2
        clear HRW2 HKO2
        have hWb := HRW.out.bel
        have c1n := cell_at HRW.out.rp.box 1 _ rfl
        have hba : Below W.heap.size W (W.alloc (.cells (pcKn xk).toArray 76)) := (Below.refl _ _).alloc (Nat.le_refl _) _
        obtain ⟨vnx, w4, hr4, ho4, hg4, _⟩ := run_append_at encKn 62 76 62 _ _ ⟨_, Tryz.underlying62, rfl⟩ knInfo rfl (by omega) (by omega) (HRW.out.rp.new.below hba) xk (heap_alloc_new W _) HNL.out (Nat.le_trans hWb.size hba.size)
        obtain ⟨⟨hrp, hbl, hps⟩, hb4⟩ := RP.known (w2 := W) hWb HC.out.pb HRW.out.rp (Below.refl _ _) ho4 hg4
        obtain ⟨An, cn, hvn, _, _⟩ := HRW.out.rp.new.form
        obtain ⟨nn, hnn⟩ : ∃ nn, nn = (Nw ++ N1).length := ⟨_, rfl⟩
        rw [← hnn] at hvn
        obtain ⟨A4, c4, hv4, _, _⟩ := ho4.form
        obtain ⟨n4, hn4⟩ : ∃ n4, n4 = (Nw ++ N1 ++ [xk]).length := ⟨_, rfl⟩
        rw [← hn4] at hv4
        rw [hvn] at c1n hr4 hb4
        have hpk : (pcKn xk).toArray = #[.pointer (some ⟨rb, 0, none⟩), .slice A5 n5 c5] := by rw [HXK.out]; simp only [pcKn, Option.map_some, HN5.out]
        rw [hpk] at hr4
        have d4 := cell_at hb4 1 (.slice An nn cn) rfl
        have f4 := free_at hb4 1
        have HRP := Lib.hid (RW.mk hrp hbl (HRW.out.pst.trans hps) : RW wb w1 _ pb (.slice Ao no co) vnx _ (jE + 2) (Nw ++ N1 ++ [xk]) _)
        have HKX := Lib.hid ((HKO.out.snoc (x := xk) HR.out (by rw [HXK.out]) HKR.out).pst hps)
        have hls := (HKR.out.pst hps).ls fun A m h => (HC.out.rd A m h).below hbl
        rw [HXK.out] at hls
        obtain ⟨a5, z5, hA5, hz5, _, q5⟩ := hls.atI (i := 0) HPG.out
        have hA5 : A5 = some a5 := hA5
        subst hA5
        have ha0 : a5.add 0 = a5 := by unfold Addr.add; simp
        rw [ha0] at q5
        have HZ5 : Hid (oh = z5) := Lib.hid (by
          rw [HOH.out]
          have hz5 : pg[0]? = some z5 := hz5
          cases pg with
          | nil => cases hz5
          | cons y t =>
            simp only [List.getElem?_cons_zero, Option.some.injEq] at hz5
            exact hz5)
        have hn5 : 0 < n5 := by rw [← HN5.out]; exact HPG.out
        have hn5I : ¬ ((n5 : Int) ≤ 0) := by omega
        subst hv4
        have HR4 := Lib.hid hr4
        clear hWb hba hr4 ho4 hg4 hrp hbl hps hb4 hvn hnn hn4 hpk hls hz5 ha0
        go_wp2_with (at_builtin; refine wpList_append_ran rfl (.tmp 82) (.tmp 86) 62 rfl _ _ _ _ rfl rfl HR4.out ?_)
        go_ret
        refine ⟨_, _, N1 ++ [xk], ?_, by rw [← List.append_assoc]; exact HRP.out, ?_⟩
        · rw [HZ5.out]
          rfl
        · have h1 := HKX.out
          rwa [show xk.l = pg by rw [HXK.out]] at h1
      · have hm5 : m5 = 0 := by rw [HM5.out, HEQ.out, he0]; rfl
        subst hm5
        rcases hcase with ⟨hh0, hD⟩ | ⟨hh0, hD⟩
        · have hkind := HNA.out.kind
          have hks : P.ks = [] := by
            rcases hkind with ⟨_, _, h⟩ | ⟨h, _⟩
            · exact h
            · exact absurd hh0 h
          have hi0 : i = 0 := by rw [← HMK.out, hks]; rfl
          subst hi0
          have hcost : P.cost = pieces P.l + 1 := rfl
          have hjb := HJB.out 0 (Nat.zero_le _)
          have hleaf := rfLeaf_any (vk := .slice Br 0 dr) HRW.out.bel HC.out.pb HRW.out.rp (by
              have h1 := HDB.out 0 (Nat.zero_le _)
              rw [List.length_append, List.length_map]
              omega) (by omega) ((HRW.out.pst.2 _ _ _ HRB.out (by decide) (by decide) (by decide)).trans (by
              have h1 := HRB.out
              rw [HMK.out, HNL1.out] at h1
              exact h1)) (by
              have h1 := pst_es HRW.out.pst HRI.out.es
              rw [HNL1.out] at h1
              exact h1) HNL1.out hnl6 HNA.out.val (by
              rw [HMK.out] at hD
              rw [hD] at hokD
              exact hokD)
          have HLEAF := Lib.hid hleaf
          have HHD := Lib.hid hD
          have HPE := Lib.hid hpe
          have HJE := Lib.hid hje
          clear hleaf hD hpe hje hokD hkind hks hh0 hcost hjb he0
          go_wp2_with fail
          refine HLEAF.out.mono ?_
          rintro e W ⟨v5, vw5, rfl, ho5, hrw5⟩
          obtain ⟨A5, c5, hv5, _, _⟩ := ho5.form
          have hpgl : (((Js 0 + pieces P.l + 2 : Nat) : Int) :: ups (Js 0) (pieces P.l)) = pg := by rw [HPE.out, HMK.out]; rfl
          rw [hpgl] at ho5 hv5
          obtain ⟨n5, hn5⟩ : ∃ n5, pg.length = n5 := ⟨_, rfl⟩
          rw [hn5] at hv5
          subst hv5
          obtain ⟨xk, hxk⟩ : ∃ xk : KN, xk = ⟨some rb, A5, c5, pg⟩ := ⟨_, rfl⟩
          have HXK := Lib.hid hxk
          have HN5 := Lib.hid hn5
          have HPG : Hid (0 < pg.length) := Lib.hid (by rw [← hpgl]; simp)
          have HKR : Hid (KRow R W w1.heap.size xk) := Lib.hid (.inl (by
            rw [hxk]
            simp only
            rw [hn5]
            exact ho5.mono HRW.out.pst.1))
          have HRW2 : Hid (RW wb w1 W pb (.slice Ao no co) vn1 vw5 (jE + 2) (Nw ++ N1) (ws ++ (Ds P.ks.length ++ D).map encOf)) := Lib.hid (by
            rw [HJE.out, HHD.out, HMK.out, List.map_append, ← List.append_assoc]
            exact ⟨hrw5.rp, hrw5.bel, HRW.out.pst.trans hrw5.pst⟩)
          have HKO2 : Hid (KnOk R W w1.heap.size l N1 (Ms P.ks.length)) := Lib.hid (by rw [HMK.out]; exact HKO.out.pst hrw5.pst)
          clear HRW HKO HOF HV7 ho5 hrw5 hpgl hn5 hxk HLEAF
          have HRW := HRW2
          have HKO := HKO2
          clear HRW2 HKO2
          have hWb := HRW.out.bel
          have c1n := cell_at HRW.out.rp.box 1 _ rfl
          have hba : Below W.heap.size W (W.alloc (.cells (pcKn xk).toArray 76)) := (Below.refl _ _).alloc (Nat.le_refl _) _
          obtain ⟨vnx, w4, hr4, ho4, hg4, _⟩ := run_append_at encKn 62 76 62 _ _ ⟨_, Tryz.underlying62, rfl⟩ knInfo rfl (by omega) (by omega) (HRW.out.rp.new.below hba) xk (heap_alloc_new W _) HNL.out (Nat.le_trans hWb.size hba.size)
          obtain ⟨⟨hrp, hbl, hps⟩, hb4⟩ := RP.known (w2 := W) hWb HC.out.pb HRW.out.rp (Below.refl _ _) ho4 hg4
          obtain ⟨An, cn, hvn, _, _⟩ := HRW.out.rp.new.form
          obtain ⟨nn, hnn⟩ : ∃ nn, nn = (Nw ++ N1).length := ⟨_, rfl⟩
          rw [← hnn] at hvn
          obtain ⟨A4, c4, hv4, _, _⟩ := ho4.form
          obtain ⟨n4, hn4⟩ : ∃ n4, n4 = (Nw ++ N1 ++ [xk]).length := ⟨_, rfl⟩
          rw [← hn4] at hv4
          rw [hvn] at c1n hr4 hb4
          have hpk : (pcKn xk).toArray = #[.pointer (some ⟨rb, 0, none⟩), .slice A5 n5 c5] := by rw [HXK.out]; simp only [pcKn, Option.map_some, HN5.out]
          rw [hpk] at hr4
          have d4 := cell_at hb4 1 (.slice An nn cn) rfl
          have f4 := free_at hb4 1
          have HRP := Lib.hid (RW.mk hrp hbl (HRW.out.pst.trans hps) : RW wb w1 _ pb (.slice Ao no co) vnx _ (jE + 2) (Nw ++ N1 ++ [xk]) _)
          have HKX := Lib.hid ((HKO.out.snoc (x := xk) HR.out (by rw [HXK.out]) HKR.out).pst hps)
          have hls := (HKR.out.pst hps).ls fun A m h => (HC.out.rd A m h).below hbl
          rw [HXK.out] at hls
          obtain ⟨a5, z5, hA5, hz5, _, q5⟩ := hls.atI (i := 0) HPG.out
          have hA5 : A5 = some a5 := hA5
          subst hA5
          have ha0 : a5.add 0 = a5 := by unfold Addr.add; simp
          rw [ha0] at q5
          have HZ5 : Hid (oh = z5) := Lib.hid (by
            rw [HOH.out]
            have hz5 : pg[0]? = some z5 := hz5
            cases pg with
            | nil => cases hz5
            | cons y t =>
              simp only [List.getElem?_cons_zero, Option.some.injEq] at hz5
              exact hz5)
          have hn5 : 0 < n5 := by rw [← HN5.out]; exact HPG.out
          have hn5I : ¬ ((n5 : Int) ≤ 0) := by omega
          subst hv4
          have HR4 := Lib.hid hr4
          clear hWb hba hr4 ho4 hg4 hrp hbl hps hb4 hvn hnn hn4 hpk hls hz5 ha0
          go_wp2_with (at_builtin; refine wpList_append_ran rfl (.tmp 82) (.tmp 86) 62 rfl _ _ _ _ rfl rfl HR4.out ?_)
          go_ret
          refine ⟨_, _, N1 ++ [xk], ?_, by rw [← List.append_assoc]; exact HRP.out, ?_⟩
          · rw [HZ5.out]
            rfl
          · have h1 := HKX.out
            rwa [show xk.l = pg by rw [HXK.out]] at h1
        · have hkind := HNA.out.kind
          have hks : P.l = [] ∧ 2 ≤ i := by
            rcases hkind with ⟨h, _⟩ | ⟨_, h1, h2, _⟩
            · exact absurd h hh0
            · exact ⟨h1, by rw [← HMK.out]; exact h2⟩
          have hi2 := hks.2
          have hcost : P.cost = 1 := by unfold PN.cost; rw [hks.1]; rfl
          have hjb := HJB.out i (by rw [HMK.out]; exact Nat.le_refl _)
          have hpge : pg = [((Js i + 2 : Nat) : Int)] := by rw [hpe, HMK.out, nodePgs, hks.1]; rfl
          have hiI : ¬ ((i : Int) = 0) := by omega
          have hib : ((i : Int) == 0) = false := by simp; omega
          have hdb := HDB.out i (by rw [HMK.out]; exact Nat.le_refl _)
          rw [hcost] at hjb
          rw [HMK.out] at hD
          have HHD := Lib.hid hD
          have HPE := Lib.hid hpge
          have HJE : Hid (jE = Js i + 1) := Lib.hid (by rw [hje, HMK.out, hcost])
          have HOKD := Lib.hid hokD
          obtain ⟨A7, c7, hv7, _, _⟩ := HV7.out.form
          rw [List.length_map, HMK.out] at hv7
          subst hv7
          obtain ⟨xb, hxb⟩ : ∃ xb, xb = w2.heap.size := ⟨_, rfl⟩
          obtain ⟨w3, hw3⟩ : ∃ w3, w3 = w2.alloc (.cells #[.int .i64 2, .slice none 0 0, .slice none 0 0, .string ⟨#[]⟩, .int .i64 0] 142) := ⟨_, rfl⟩
          have hb3 : Below w2.heap.size w2 w3 := by rw [hw3]; exact (Below.refl _ _).alloc (Nat.le_refl _) _
          have HL0 : Hid (Lk wb w1 w3 pb xb (.slice Ao no co) vn1 vw1 (.slice none 0 0) (Js i + 2) (Nw ++ N1) (ws ++ (Ds i).map encOf) ((P.ks.take 0).map fun k => (⟨k.1, og k.2⟩ : PK))) := Lib.hid ⟨HRW.out.below hb3, by rw [hw3, hxb]; exact heap_alloc_new _ _, OwnL.nil_ _ _ _, by rw [hxb]; exact HRW.out.pst.1⟩
          have HV3 := Lib.hid (HV7.out.below hb3)
          have HK3 := Lib.hid (HKO.out.pst (.of_below hb3))
          have HW3 := Lib.hid hw3
          have HXB := Lib.hid hxb
          clear hkind hks hcost hpge hD hpe hje hokD hh0 he0 HRW HKO HOF HV7 hb3 hw3 hxb
          go_wp2_with fail
          rw [← HW3.out, ← HXB.out]
          go_loopw [50] (fun s50 wr => ∃ (q : Nat) (vc : Value), q ≤ i ∧ s50 = .int .i64 q ∧ Hid (Lk wb w1 wr pb xb (.slice Ao no co) vn1 vw1 vc (Js i + 2) (Nw ++ N1) (ws ++ (Ds i).map encOf) ((P.ks.take q).map fun k => (⟨k.1, og k.2⟩ : PK))) ∧ Hid (OwnI wr w1.heap.size (.slice A7 i c7) (P.ks.map fun k => og k.2)) ∧ Hid (KnOk R wr w1.heap.size l N1 (Ms i))) (fun s50 _ => i - (intOf s50).toNat)
          case atStart => exact ⟨0, _, Nat.zero_le _, rfl, HL0, HV3, HK3⟩
          case round =>
            clear HL0 HV3 HK3 HW3
            obtain ⟨q, vc, hq, rfl, HL, HV, HK3⟩ := hrel
            by_cases hqi : q < i
            · obtain ⟨W, hW⟩ : ∃ W, W = wr.drew := ⟨_, rfl⟩
              have hdW : Below wr.heap.size wr W := by rw [hW]; exact ⟨rfl, rfl, rfl, Nat.le_refl _, fun k _ => rfl⟩
              have HLW := Lib.hid (HL.out.below hdW)
              have HW := Lib.hid hW
              have hkr := HLW.out.rw.pst.own HRI.out.ks (by decide) (by decide) (by decide)
              rw [HMK.out] at hkr
              obtain ⟨ad, p, cur, hA, hp, hh, _, hcx⟩ := row_at encP hkr (i := q) (by rw [List.length_map, HRI.out.len, HMK.out]; exact hqi)
              subst hA
              rw [List.getElem?_map] at hp
              obtain ⟨r', hr', hpe⟩ := Option.map_eq_some_iff.1 hp
              subst hpe
              obtain ⟨kk, hkk⟩ : ∃ kk, P.ks[q]? = some kk := ⟨_, List.getElem?_eq_getElem (by rw [HMK.out]; exact hqi)⟩
              have hin := HRI.out.in_ q kk r' hkk hr'
              have hleast := HLO.out q kk r' hkk hin W (HT.out.pst HLW.out.rw.pst)
              obtain ⟨ad7, z7, cur7, hA7, hz7, hh7, _, hc7⟩ := row_at ienc (HV.out.below hdW) (i := q) (by rw [List.length_map, HMK.out]; exact hqi)
              subst hA7
              rw [List.getElem?_map, hkk] at hz7
              cases hz7
              have q0 : W.cell? (ad.add q) = some (.pointer (some ⟨r', 0, none⟩)) := by
                have := hcx 0 _ (by omega) rfl
                rwa [add_of_add, Nat.mul_one, Nat.add_zero] at this
              have q7 : W.cell? (ad7.add q) = some (.int .i64 (og kk.2)) := by
                have := hc7 0 _ (by omega) rfl
                rwa [add_of_add, Nat.mul_one, Nat.add_zero] at this
              obtain ⟨bs, hbs⟩ : ∃ bs : List Nat, bs = vc.ownBlock.toList := ⟨_, rfl⟩
              have hn1 : xb ∉ bs := fun hx => by
                obtain ⟨cur, hc⟩ := own_cells HLW.out.cells xb (by rw [hbs] at hx; simpa using hx)
                rw [HLW.out.box] at hc
                cases hc
              have hn2 : ad.block ∉ bs := fun hx => by
                obtain ⟨cur, hc⟩ := own_cells HLW.out.cells ad.block (by rw [hbs] at hx; simpa using hx)
                rw [hh] at hc
                cases hc
              have hn7 : ad7.block ∉ bs := fun hx => by
                obtain ⟨cur, hc⟩ := own_cells HLW.out.cells ad7.block (by rw [hbs] at hx; simpa using hx)
                rw [hh7] at hc
                cases hc
              have HBS : Hid (∀ q, q ∉ bs → vc.ownBlock ≠ some q) := Lib.hid (fun q hq hx => hq (by rw [hbs]; simpa using hx))
              obtain ⟨Ac, cc, hvc, _, _⟩ := HLW.out.cells.form
              obtain ⟨nc, hnc⟩ : ∃ nc, nc = ((P.ks.take q).map fun k => (⟨k.1, og k.2⟩ : PK)).length := ⟨_, rfl⟩
              have hnc6 : nc ≤ 6 := by rw [hnc, List.length_map, List.length_take]; omega
              rw [← hnc] at hvc
              have hp0 : ∀ p' : Dc.Past bs W, p'.val.cell? ⟨xb, 2, none⟩ = some (.slice Ac nc cc) := fun p' => (p'.ok.cell (lt_of_block HLW.out.box) hn1).trans (by rw [← hvc]; exact cell_at HLW.out.box 2 vc rfl)
              have hp1 : ∀ p' : Dc.Past bs W, p'.val.cell? (ad.add q) = some (.pointer (some ⟨r', 0, none⟩)) := fun p' => (p'.ok.cell (by rw [block_of_add]; exact lt_of_block hh) (by rw [block_of_add]; exact hn2)).trans q0
              have hp2 : ∀ p' : Dc.Past bs W, p'.val.cell? (ad7.add q) = some (.int .i64 (og kk.2)) := fun p' => (p'.ok.cell (by rw [block_of_add]; exact lt_of_block hh7) (by rw [block_of_add]; exact hn7)).trans q7
              obtain ⟨xk, hxk⟩ : ∃ xk : PK, xk = ⟨kk.1, og kk.2⟩ := ⟨_, rfl⟩
              have hpx : (pcK xk).toArray = #[.string kk.1, .int .i64 (og kk.2)] := by rw [hxk]; rfl
              have hba : Below W.heap.size W (W.alloc (.cells (pcK xk).toArray 145)) := (Below.refl _ _).alloc (Nat.le_refl _) _
              obtain ⟨vc', w4, hr4, ho4, hg4⟩ := run_append_one encK 140 145 140 _ _ ⟨_, Tryz.underlying140, rfl⟩ infoRfK rfl (by omega) (by omega) (by omega) HLW.out.cells xk (by omega) HLW.out.rw.pst.1
              obtain ⟨⟨hst, hpc⟩, hb4⟩ := HLW.out.step HB.out.size (Below.refl _ _) ho4 hg4
              obtain ⟨A4, c4, hv4, _, _⟩ := ho4.form
              obtain ⟨n4, hn4⟩ : ∃ n4, n4 = (((P.ks.take q).map fun k => (⟨k.1, og k.2⟩ : PK)) ++ [xk]).length := ⟨_, rfl⟩
              rw [← hn4] at hv4
              rw [hvc] at hr4 hb4
              rw [hpx] at hr4 hg4 hba
              have d4 := cell_at hb4 2 (.slice Ac nc cc) rfl
              have f4 := free_at hb4 2
              have HST : Hid (Lk wb w1 (w4.setCell ⟨xb, 2, none⟩ vc') pb xb (.slice Ao no co) vn1 vw1 vc' (Js i + 2) (Nw ++ N1) (ws ++ (Ds i).map encOf) ((P.ks.take (q + 1)).map fun k => (⟨k.1, og k.2⟩ : PK))) := Lib.hid (by
                rw [List.take_add_one, hkk, List.map_append]
                rw [hxk] at hst
                exact hst)
              have HOW2 : Hid (OwnI (w4.setCell ⟨xb, 2, none⟩ vc') w1.heap.size (.slice (some ad7) i c7) (P.ks.map fun k => og k.2)) := Lib.hid (hpc.own (HV.out.below hdW) (by decide) (by decide) (by decide))
              have HKN : Hid (KnOk R (w4.setCell ⟨xb, 2, none⟩ vc') w1.heap.size l N1 (Ms i)) := Lib.hid ⟨HK3.out.len, HK3.out.at_, fun x hx => ((HK3.out.rows x hx).pst (.of_below hdW)).imp (fun h => hpc.own h (by decide) (by decide) (by decide)) id⟩
              have HR4 := Lib.hid hr4
              have HG4 := Lib.hid hg4
              have HBA := Lib.hid hba
              have HV4 := Lib.hid hv4
              have HLS := Lib.hid hleast
              have hrw := kid_row_run W xk
              rw [hpx] at hrw
              have HRW := Lib.hid hrw
              clear hrw
              obtain ⟨ks1, hks1⟩ : ∃ s, s = kk.1 := ⟨_, rfl⟩
              obtain ⟨ok2, hok2⟩ : ∃ z, z = og kk.2 := ⟨_, rfl⟩
              rw [← hok2] at hp2
              rw [← hks1, ← hok2] at HR4 HG4 HBA HRW
              rw [← hks1] at HLS
              clear hdW hW hkr hp hh hcx hr' hkk hin hleast hh7 hc7 q0 q7 hbs hn1 hn2 hn7 hvc hnc hxk hpx hba hr4 ho4 hg4 hst hpc hb4 hv4 hn4 hks1 hok2 HL HV HK3
              go_wp2_with fail
              refine Dc.wp_region_segs 15 bs [([0, 1, 2, 3, 4, 5, 7, 8, 9, 10], 6), ([11], 12), ([], 13), ([14], 15)] [] (by kernel_rfl) (by kernel_rfl) (by kernel_rfl) (by kernel_rfl) (by kernel_rfl) (by intro c a d v w h; cases d <;> exact h) ?_
              rw [← HW.out]
              refine Dc.wpSegs_more ?_
              simp only [Dc.pick, List.getElem?_cons_zero, List.getElem?_cons_succ]
              repeat (first | go_big_quiet_step (fail) | quiet_step (fail))
              refine wpQuiet_nil ?_
              refine Dc.wpOp_heavy rfl (by rfl) (fun Q hQ => ?_)
              go_simp
              refine HLS.out.mono ?_
              rintro x w' ⟨rfl, rfl⟩
              refine hQ _ _ (fun _ => Dc.But.refl _ _) ?_
              clear hQ Q hp0 hp1 hp2
              refine Dc.wpSegs_more ?_
              simp only [Dc.pick, List.getElem?_cons_zero, List.getElem?_cons_succ]
              repeat (first | go_big_quiet_step (fail) | quiet_step (fail))
              refine wpQuiet_nil ?_
              refine Dc.wpOp_heavy rfl (by rfl) (fun Q hQ => ?_)
              refine rf_oper_run (.slice (some ⟨w'.heap.size, 0, none⟩) 1 1) (w' := w'.alloc (.cells #[.string ks1, .int .i64 ok2] 145)) ?_ (hQ _ _ (fun _ => Dc.But.of_below HBA.out) ?_)
              · have := HRW.out
                unfold execOp
                simp only [Act.eval, Array.getD_eq_getD_getElem?, List.getElem?_toArray, List.getElem?_cons_succ, List.getElem?_cons_zero, Option.getD_some, Sem.run_bind, Sem.run_pure, Result.andThen_ok, List.map_toArray, List.map_cons, List.map_nil, this]
              simp only [Act.put]
              clear hQ Q
              refine Dc.wpSegs_more ?_
              simp only [Dc.pick]
              refine wpQuiet_nil ?_
              refine Dc.wpOp_heavy rfl (by rfl) (fun Q hQ => ?_)
              refine oper_append_ran (.tmp 54) (.tmp 65) 140 rfl _ _ _ _ rfl rfl HR4.out ?_
              refine hQ _ _ (fun _ => ⟨HG4.out.size, fun q hq hn => HG4.out.block q hq fun e => HBS.out q hn (by rw [← e])⟩) ?_
              clear hQ Q
              refine Dc.wpSegs_more ?_
              simp only [Dc.pick, List.getElem?_cons_zero, List.getElem?_cons_succ]
              repeat (first | go_big_quiet_step (fail) | quiet_step (fail))
              refine wpQuiet_nil ?_
              refine Dc.wpOp_heavy rfl (by rfl) (fun Q hQ => ?_)
              rw [HV4.out] at HST HOW2 HKN ⊢
              go_simp
              refine hQ _ _ (fun h => absurd rfl h) ?_
              clear hQ Q d4 f4
              refine Dc.wpSegs_last ?_
              simp only [Dc.pick]
              refine wpQuiet_nil ?_
              go_wp2
              exact ⟨⟨q + 1, _, by omega, by go_num, HST, HOW2, HKN⟩, by simp [intOf]; omega⟩
            · have hqe : q = i := by omega
              subst hqe
              rw [List.take_of_length_le (by rw [HMK.out]; exact Nat.le_refl _)] at HL
              obtain ⟨w5, hw5⟩ : ∃ x, x = wr := ⟨_, rfl⟩
              subst hw5
              obtain ⟨Ac, cc, hvc, _, _⟩ := HL.out.cells.form
              obtain ⟨nc, hnc⟩ : ∃ nc, nc = (P.ks.map fun k => (⟨k.1, og k.2⟩ : PK)).length := ⟨_, rfl⟩
              rw [← hnc] at hvc
              subst hvc
              go_wp2_with fail
              refine (rfTake_any HL.out.rw.bel HC.out.pb HL.out.rw.rp (by omega)).mono ?_
              rintro e w6 ⟨rfl, hrp, hbl, hps⟩
              obtain ⟨nx, hnx⟩ : ∃ nx : Int, nx = ((Js q + 2 : Nat) : Int) := ⟨_, rfl⟩
              rw [← hnx]
              obtain ⟨pgb, hpgb⟩ : ∃ b, b = w6.heap.size := ⟨_, rfl⟩
              obtain ⟨w7, hw7⟩ : ∃ x, x = w6.alloc (.cells #[.int .i64 nx] 3) := ⟨_, rfl⟩
              obtain ⟨W, hW⟩ : ∃ W, W = w7.drew := ⟨_, rfl⟩
              have hb7 : Below w6.heap.size w6 w7 := by rw [hw7]; exact (Below.refl _ _).alloc (Nat.le_refl _) _
              have hdW : Below w7.heap.size w7 W := by rw [hW]; exact ⟨rfl, rfl, rfl, Nat.le_refl _, fun k _ => rfl⟩
              have hb6 := bthen hb7 hdW
              have hL6 := HL.out.next hrp hbl hps
              have hLW := hL6.below hb6
              have hx := hLW.box
              have hown : OwnI w7 w6.heap.size (.slice (some ⟨pgb, 0, none⟩) 1 1) [nx] := by
                rw [hw7, hpgb]
                exact ownL_new ienc 3 w6 [nx] (by simp) (by omega)
              have hrow7 : w7.heap[pgb]? = some (.cells #[.int .i64 nx] 3 (0, 0)) := by rw [hw7, hpgb]; exact heap_alloc_new _ _
              have hrowW := (hdW.block _ (lt_of_block hrow7)).trans hrow7
              have p0 : ∀ p' : Dc.Past [] W, p'.val.cell? ⟨pgb, 0, none⟩ = some (.int .i64 nx) := fun p' => (p'.ok.cell (lt_of_block hrowW) (by simp)).trans (cell_at hrowW 0 _ rfl)
              have r0 : ∀ p' : Dc.Past [] W, p'.val.cell? ⟨xb, 0, none⟩ = some (.int .i64 2) := fun p' => (p'.ok.cell (lt_of_block hx) (by simp)).trans (cell_at hx 0 _ rfl)
              have r1 : ∀ p' : Dc.Past [] W, p'.val.cell? ⟨xb, 1, none⟩ = some (.slice none 0 0) := fun p' => (p'.ok.cell (lt_of_block hx) (by simp)).trans (cell_at hx 1 _ rfl)
              have r2 : ∀ p' : Dc.Past [] W, p'.val.cell? ⟨xb, 2, none⟩ = some (.slice Ac nc cc) := fun p' => (p'.ok.cell (lt_of_block hx) (by simp)).trans (cell_at hx 2 _ rfl)
              have r3 : ∀ p' : Dc.Past [] W, p'.val.cell? ⟨xb, 3, none⟩ = some (.string ⟨#[]⟩) := fun p' => (p'.ok.cell (lt_of_block hx) (by simp)).trans (cell_at hx 3 _ rfl)
              have r4 : ∀ p' : Dc.Past [] W, p'.val.cell? ⟨xb, 4, none⟩ = some (.int .i64 0) := fun p' => (p'.ok.cell (lt_of_block hx) (by simp)).trans (cell_at hx 4 _ rfl)
              have hok := HOKD.out (nx, ⟨2, [], P.ks.map fun k => ⟨k.1, og k.2⟩, ByteArray.empty, 0⟩) (by rw [HHD.out, hnx]; exact List.mem_singleton.2 rfl)
              have hw := rfWrite_any (i := nx) ⟨2, [], P.ks.map fun k => ⟨k.1, og k.2⟩, ByteArray.empty, 0⟩ none Ac 0 cc hLW.rw.bel HC.out.pb hLW.rw.rp (by
                rw [List.length_append, List.length_map]
                omega) (Ls.nil _ _) (row_ls hLW.cells) hok.2 hok.1
              rw [show pageV ⟨2, [], P.ks.map fun k => ⟨k.1, og k.2⟩, ByteArray.empty, 0⟩ none 0 Ac cc = .agg #[.int .i64 2, .slice none 0 0, .slice Ac nc cc, .string ⟨#[]⟩, .int .i64 0] by rw [hnc]; rfl] at hw
              have HWR := Lib.hid hw
              have HLR := Lib.hid hLW.rw
              have HOWN := Lib.hid (hown.below hdW)
              have HW := Lib.hid hW
              have HW7 := Lib.hid hw7
              have HPB := Lib.hid hpgb
              have HNX := Lib.hid hnx
              have HS6 : Hid (w1.heap.size ≤ w6.heap.size) := Lib.hid hL6.rw.pst.1
              have HKW := Lib.hid ((HK3.out.pst hps).pst (.of_below hb6))
              clear hrp hbl hps hnx hpgb hw7 hW hb7 hdW hb6 hL6 hLW hx hown hrow7 hrowW hok hw hnc HL HV HK3
              go_wp2_with fail
              rw [← HW7.out, ← HPB.out]
              refine Dc.wp_region_segs 5 [] [([0, 1, 2, 3, 4], 5)] [] (by kernel_rfl) (by kernel_rfl) (by kernel_rfl) (by kernel_rfl) (by kernel_rfl) (by intro c a d v w h; cases d <;> exact h) ?_
              rw [← HW.out]
              refine Dc.wpSegs_more ?_
              simp only [Dc.pick, List.getElem?_cons_zero, List.getElem?_cons_succ]
              repeat (first | go_big_quiet_step (fail) | quiet_step (fail))
              refine wpQuiet_nil ?_
              clear p0 r0 r1 r2 r3 r4
              refine Dc.wpOp_heavy rfl (by rfl) (fun Q hQ => ?_)
              refine Dv.wp_call rfl Tryz.func63 (by kernel_rfl) (by kernel_rfl) (show _ = #[.pointer (some ⟨pb, 0, none⟩), .int .i64 nx, .agg #[.int .i64 2, .slice none 0 0, .slice Ac nc cc, .string ⟨#[]⟩, .int .i64 0]] by kernel_rfl) (HWR.out.mono ?_)
              rintro x W2 ⟨rfl, vw3, hrp, hbl, hps⟩
              refine ⟨_, rfl, hQ _ _ (fun h => absurd rfl h) ?_⟩
              simp only [Act.put]
              clear hQ Q
              refine Dc.wpSegs_last ?_
              simp only [Dc.pick]
              refine wpQuiet_nil ?_
              obtain ⟨A5, hA5⟩ : ∃ A5 : Option Addr, A5 = some ⟨pgb, 0, none⟩ := ⟨_, rfl⟩
              rw [← hA5]
              obtain ⟨xk, hxk⟩ : ∃ xk : KN, xk = ⟨some rb, A5, 1, pg⟩ := ⟨_, rfl⟩
              have hpgn : pg = [nx] := by rw [HPE.out, HNX.out]
              have HXK := Lib.hid hxk
              have HN5 : Hid (pg.length = 1) := Lib.hid (by rw [hpgn]; rfl)
              have HPG : Hid (0 < pg.length) := Lib.hid (by rw [hpgn]; simp)
              have HKR : Hid (KRow R W2 w1.heap.size xk) := Lib.hid (.inl (by
                rw [hxk, hpgn, hA5]
                exact (hps.own HOWN.out (by decide) (by decide) (by decide)).mono HS6.out))
              have HRW : Hid (RW wb w1 W2 pb (.slice Ao no co) vn1 vw3 (jE + 2) (Nw ++ N1) (ws ++ (Ds P.ks.length ++ D).map encOf)) := Lib.hid (by
                rw [HJE.out, HHD.out, HMK.out, List.map_append, ← List.append_assoc, ← HNX.out]
                exact HLR.out.next hrp hbl hps)
              have HKO : Hid (KnOk R W2 w1.heap.size l N1 (Ms P.ks.length)) := Lib.hid (by rw [HMK.out]; exact HKW.out.pst hps)
              clear hrp hbl hps hA5 hxk hpgn
              obtain ⟨W, hW⟩ : ∃ x, x = W2 := ⟨_, rfl⟩
              subst hW
              have hWb := HRW.out.bel
              have c1n := cell_at HRW.out.rp.box 1 _ rfl
              have hba : Below W.heap.size W (W.alloc (.cells (pcKn xk).toArray 76)) := (Below.refl _ _).alloc (Nat.le_refl _) _
              obtain ⟨vnx, w4, hr4, ho4, hg4, _⟩ := run_append_at encKn 62 76 62 _ _ ⟨_, Tryz.underlying62, rfl⟩ knInfo rfl (by omega) (by omega) (HRW.out.rp.new.below hba) xk (heap_alloc_new W _) HNL.out (Nat.le_trans hWb.size hba.size)
              obtain ⟨⟨hrp, hbl, hps⟩, hb4⟩ := RP.known (w2 := W) hWb HC.out.pb HRW.out.rp (Below.refl _ _) ho4 hg4
              obtain ⟨An, cn, hvn, _, _⟩ := HRW.out.rp.new.form
              obtain ⟨nn, hnn⟩ : ∃ nn, nn = (Nw ++ N1).length := ⟨_, rfl⟩
              rw [← hnn] at hvn
              obtain ⟨A4, c4, hv4, _, _⟩ := ho4.form
              obtain ⟨n4, hn4⟩ : ∃ n4, n4 = (Nw ++ N1 ++ [xk]).length := ⟨_, rfl⟩
              rw [← hn4] at hv4
              rw [hvn] at c1n hr4 hb4
              have hpk : (pcKn xk).toArray = #[.pointer (some ⟨rb, 0, none⟩), .slice A5 1 1] := by rw [HXK.out]; simp only [pcKn, Option.map_some, HN5.out]
              rw [hpk] at hr4
              have d4 := cell_at hb4 1 (.slice An nn cn) rfl
              have f4 := free_at hb4 1
              have HRP := Lib.hid (RW.mk hrp hbl (HRW.out.pst.trans hps) : RW wb w1 _ pb (.slice Ao no co) vnx _ (jE + 2) (Nw ++ N1 ++ [xk]) _)
              have HKX := Lib.hid ((HKO.out.snoc (x := xk) HR.out (by rw [HXK.out]) HKR.out).pst hps)
              have hls := (HKR.out.pst hps).ls fun A m h => (HC.out.rd A m h).below hbl
              rw [HXK.out] at hls
              obtain ⟨a5, z5, hA5, hz5, _, q5⟩ := hls.atI (i := 0) HPG.out
              have hA5 : A5 = some a5 := hA5
              subst hA5
              have ha0 : a5.add 0 = a5 := by unfold Addr.add; simp
              rw [ha0] at q5
              have HZ5 : Hid (oh = z5) := Lib.hid (by
                rw [HOH.out]
                have hz5 : pg[0]? = some z5 := hz5
                cases pg with
                | nil => cases hz5
                | cons y t =>
                  simp only [List.getElem?_cons_zero, Option.some.injEq] at hz5
                  exact hz5)
              have hn5 : 0 < 1 := by omega
              subst hv4
              have HR4 := Lib.hid hr4
              clear hWb hba hr4 ho4 hg4 hrp hbl hps hb4 hvn hnn hn4 hpk hls hz5 ha0
              go_wp2_with (at_builtin; refine wpList_append_ran rfl (.tmp 82) (.tmp 86) 62 rfl _ _ _ _ rfl rfl HR4.out ?_)
              go_ret
              refine ⟨_, _, N1 ++ [xk], ?_, by rw [← List.append_assoc]; exact HRP.out, ?_⟩
              · rw [HZ5.out]
                rfl
              · have h1 := HKX.out
                rwa [show xk.l = pg by rw [HXK.out]] at h1

end Go.Proofs.YtelenboncejdaaaGreatDoor
