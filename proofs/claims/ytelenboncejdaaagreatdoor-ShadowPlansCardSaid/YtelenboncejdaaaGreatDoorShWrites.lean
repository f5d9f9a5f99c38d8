/-
  The contract of plan.writes: the pages of the fresh nodes, encoded, or ErrArg; conditions: the plan, its nodes and the check's table lie in memory.
-/
import Derived.Test.YtelenboncejdaaaGreatDoorShOk
namespace Go.Proofs.YtelenboncejdaaaGreatDoor
open Go.RowKit Go.Sort
set_option linter.unusedVariables false
set_option linter.unusedSimpArgs false

/-- A write: the page's number, its bytes. -/
structure WR where
  at_ : Int
  v : Value
  L : List UInt8
def pcW (x : WR) : List Value := [.int .i64 x.at_, (if x.v.oneCell' = true then x.v else .int .i64 0)]
theorem encW : Enc pcW 2 := ⟨fun _ => rfl, fun x u hu => by
  simp only [pcW, List.mem_cons, List.not_mem_nil, or_false] at hu
  rcases hu with rfl | rfl
  · rfl
  · split
    · assumption
    · rfl⟩
theorem wrInfo : (Tryz.prog.info? 93).map (fun i => (i.zero, i.size, i.bytes)) = some (some (.agg #[.int .i64 0, .slice none 0 0]), 2, 32) := by kernel_rfl
abbrev OwnW (w : World) (base : Nat) (v : Value) (l : List WR) : Prop := OwnL pcW 93 2 w base v l
/-- Its bytes lie in a row that nobody else writes. -/
def WOk (w : World) (base : Nat) (x : WR) : Prop := OB w base x.v x.L
def WR.pr (x : WR) : Int × List UInt8 := (x.at_, x.L)
def encOf (d : Int × PP) : Int × List UInt8 := (d.1, encL d.2)
theorem ob_cells {w : World} {base : Nat} {v : Value} {l : List UInt8} (h : OB w base v l) : ∀ g, v.ownBlock = some g → ∃ cur, w.heap[g]? = some (.cells cur 5 (0, 0)) := by
  intro g hg
  rcases h.2 with ⟨rfl, h0⟩ | ⟨g', cap, cur, rfl, hb, hh, _⟩
  · simp [Value.ownBlock] at hg
  · have : g' = g := by simpa [Value.ownBlock] using hg
    subst this
    exact ⟨cur, hh⟩
theorem ob_keep {w w' : World} {base : Nat} {v : Value} {l : List UInt8} (h : OB w base v l) (hb : ∀ g, v.ownBlock = some g → g < w.heap.size → w'.heap[g]? = w.heap[g]?) : OB w' base v l := by
  refine ⟨h.1, ?_⟩
  rcases h.2 with hv | ⟨g, cap, cur, h1, h2, h3, h4⟩
  · exact .inl hv
  · refine .inr ⟨g, cap, cur, h1, h2, (hb g ?_ (lt_of_block h3)).trans h3, h4⟩
    rw [h1]
    rfl
theorem WOk.below {w w' : World} {base : Nat} {x : WR} (h : WOk w base x) (hb : Below w.heap.size w w') : WOk w' base x := OB.below h hb

/-- Pages that are to be written, with their rows. -/
def DS (w : World) (base : Nat) (v : Value) (ds : List DR) : Prop := OwnD w base v ds ∧ ∀ x ∈ ds, DOk w base x
/-- What is not a write stays. -/
def KeepW (w w' : World) : Prop := ∀ (k : Nat) (cs : Array Value) (t : TypeId), t ≠ 93 → w.heap[k]? = some (.cells cs t (0, 0)) → w'.heap[k]? = w.heap[k]?
theorem DS.below {w w' : World} {base : Nat} {v : Value} {ds : List DR} (h : DS w base v ds) (hb : Below w.heap.size w w') : DS w' base v ds := ⟨h.1.below hb, fun x hx => (h.2 x hx).below hb⟩
theorem DS.mono {w : World} {b b' : Nat} {v : Value} {ds : List DR} (h : DS w b v ds) (hb : b' ≤ b) : DS w b' v ds := ⟨h.1.mono hb, fun x hx => (h.2 x hx).mono hb⟩
theorem DS.keepW {w w' : World} {base : Nat} {v : Value} {ds : List DR} (h : DS w base v ds) (hk : KeepW w w') : DS w' base v ds :=
  ⟨h.1.keep fun g hg _ => (own_cells h.1 g hg).elim fun cur hc => hk g cur _ (by decide) hc, fun x hx => (h.2 x hx).keep fun k cs t ht hc => hk k cs t (by rcases ht with rfl | rfl <;> decide) hc⟩
theorem DS.ls {w : World} {base : Nat} {A : Option Addr} {n c : Nat} {ds : List DR} (h : DS w base (.slice A n c) ds) : Ls pcD w A ds := by
  obtain ⟨A, c, e, _, hr⟩ := h.1.form
  cases e
  exact hr

/-- The writes of so many pages. -/
structure WrAt (w0 : World) (D : List (Int × PP)) (v : Value) (W : World) : Prop where
  ws : ∃ ws, OwnW W w0.heap.size v ws ∧ ws.map WR.pr = D.map encOf ∧ ∀ x ∈ ws, WOk W w0.heap.size x
  ok : ∀ d ∈ D, okPage d.2
  bel : Below w0.heap.size w0 W
section
variable {w0 W W' : World} {D : List (Int × PP)} {v : Value}
theorem WrAt.below (h : WrAt w0 D v W) (hb : Below W.heap.size W W') : WrAt w0 D v W' := by
  obtain ⟨ws, h1, h2, h3⟩ := h.ws
  exact ⟨⟨ws, h1.below hb, h2, fun x hx => (h3 x hx).below hb⟩, h.ok, h.bel.trans (hb.mono h.bel.size)⟩
/-- A write more. -/
theorem WrAt.push (h : WrAt w0 D v W) (d : Int × PP) (hd : okPage d.2) {A : Option Addr} {n c : Nat} (hL : OB W w0.heap.size (.slice A n c) (encL d.2)) (hl : D.length ≤ 100000) :
    ∃ v' w3, (Builtin.append_ #[40, 40] 40 #[v, .slice (some ⟨W.heap.size, 0, none⟩) 1 1]).run Tryz.prog (W.alloc (.cells #[.int .i64 d.1, .slice A n c] 93)) = .ok v' w3 ∧ WrAt w0 (D ++ [d]) v' w3 ∧ KeepW W w3 := by
  obtain ⟨ws, h1, h2, h3⟩ := h.ws
  have hwl : ws.length = D.length := by
    have := congrArg List.length h2
    simpa using this
  have hbz : Below W.heap.size W (W.alloc (.cells (pcW ⟨d.1, .slice A n c, encL d.2⟩).toArray 93)) := (Below.refl _ _).alloc (Nat.le_refl _) _
  obtain ⟨v', w3, k1, k2, k3⟩ := run_append_one encW 40 93 40 _ _ ⟨_, Tryz.underlying40, rfl⟩ wrInfo rfl (by omega) (by omega) (by omega) h1 (⟨d.1, .slice A n c, encL d.2⟩ : WR) (by omega) h.bel.size
  have hob : ∀ {u : Value} {l : List UInt8}, OB W w0.heap.size u l → OB w3 w0.heap.size u l := fun {u l} hu => ob_keep hu fun g hg hlt => (k3.block g (Nat.lt_of_lt_of_le hlt hbz.size) fun e => by
    obtain ⟨c1, e1⟩ := ob_cells hu g hg
    obtain ⟨c2, e2⟩ := own_cells h1 g e.symm
    rw [e1] at e2
    cases e2).trans (hbz.block g hlt)
  refine ⟨v', w3, k1, ⟨⟨_, k2, ?_, fun x hx => ?_⟩, fun x hx => ?_, (h.bel.trans (hbz.mono h.bel.size)).grown k3 (Nat.le_trans h.bel.size hbz.size) (fun q hq => h1.at_block q hq)⟩, fun k cs t ht hc => ?_⟩
  · rw [List.map_append, List.map_append, h2]
    rfl
  · rcases List.mem_append.1 hx with hx | hx
    · exact hob (h3 x hx)
    · rw [List.mem_singleton.1 hx]
      exact hob hL
  · rcases List.mem_append.1 hx with hx | hx
    · exact h.ok x hx
    · rw [List.mem_singleton.1 hx]
      exact hd
  · exact (k3.block k (Nat.lt_of_lt_of_le (lt_of_block hc) hbz.size) fun e => by
      obtain ⟨c2, e2⟩ := own_cells h1 k e.symm
      rw [hc] at e2
      cases e2
      exact ht rfl).trans (hbz.block k (lt_of_block hc))
end

/-- What writes answers. -/
def WrPost (w : World) (D : List (Int × PP)) (e : Ending) (w' : World) : Prop :=
  ((∀ d ∈ D, okPage d.2) ∧ ∃ v, e = .returned (.tuple #[v, .int .i64 0]) ∧ WrAt w D v w') ∨ ((∃ d ∈ D, ¬ okPage d.2) ∧ e = .returned (.tuple #[.slice none 0 0, .int .i64 1]) ∧ Below w.heap.size w w')

set_option maxHeartbeats 4000000 in
set_option maxRecDepth 100000 in
theorem writes_any {w : World} {pb gb : Nat} {o : Option Nat} {R : List PR} {A : Option Addr} {n c : Nat} {F : List PN} {u0 u1 : Value} (hbox : w.heap[pb]? = some (.cells #[u0, u1, .pointer (some ⟨gb, 0, none⟩), .slice A n c] 108 (0, 0))) (hPB : PB w gb o R) (hF : Ls pcP w A (F.map fun P => some P.b)) (hn : F.length = n) (hn2 : n ≤ 5000) (hh : Half w)
    (hP : ∀ P ∈ F, PNAt w P ∧ P.cost ≤ (pgs (Mof R) P.b).length) (hl : ∀ b, (pgs (Mof R) b).length ≤ 1000000) (hI : ∀ b, ∀ x ∈ pgs (Mof R) b, I64 x) :
    Calls Tryz.prog 50 #[.pointer (some ⟨pb, 0, none⟩)] w (WrPost w (allDrafts (Mof R) F)) := by
  have HBOX := Lib.hid hbox
  have HPB := Lib.hid hPB
  have HF := Lib.hid hF
  have HN := Lib.hid hn
  have HH := Lib.hid hh
  have HP := Lib.hid hP
  have HL := Lib.hid hl
  have HI := Lib.hid hI
  have c3 := cell_at hbox 3 (.slice A n c) rfl
  clear hbox hPB hF hn hh hP hl hI
  go_enter Tryz.func50, Tryz.ntmps50
  go_wp2_with fail
  go_loopw [4, 16] (fun s4 s16 wr => ∃ (k : Nat) (v : Value), v = s4 ∧ k ≤ n ∧ s16 = .int .i64 k ∧ WrAt w (allDrafts (Mof R) (F.take k)) v wr) (fun _ s16 _ => n - (intOf s16).toNat)
  case atStart => exact ⟨0, _, rfl, Nat.zero_le _, rfl, ⟨[], OwnL.nil_ _ _ _, rfl, by simp⟩, by simp [allDrafts], Below.refl _ _⟩
  case round =>
    obtain ⟨k, v, rfl, hk, rfl, hat⟩ := hrel
    have HAT := Lib.hid hat
    by_cases hlt : k < n
    · have hkl : k < F.length := by rw [HN.out]; exact hlt
      obtain ⟨ad, p, rfl, hpk, hl1, q0⟩ := (HF.out.below hat.bel).ptr_at (i := k) (by rw [List.length_map]; exact hkl)
      obtain ⟨P, hPk⟩ : ∃ P, F[k]? = some P := ⟨_, List.getElem?_eq_getElem hkl⟩
      rw [List.getElem?_map, hPk] at hpk
      simp only [Option.map_some, Option.some.injEq] at hpk
      subst hpk
      obtain ⟨⟨N, hN⟩, hcost⟩ := HP.out P (List.mem_of_getElem? hPk)
      have HNP := Lib.hid hN
      have HPK := Lib.hid hPk
      unfold ptr at q0
      simp only [Option.map_some] at q0
      have hdr := drafts_any (w := wr) (P := P) (N := N) (R := R) (pb := pb) (gb := gb) (o := o) (cell_at ((HAT.out.bel.block pb (lt_of_block HBOX.out)).trans HBOX.out) 2 _ rfl) (Nat.lt_of_lt_of_le (lt_of_block HBOX.out) HAT.out.bel.size) (HPB.out.below HAT.out.bel) (hN.below HAT.out.bel) (fun k _ => HL.out k.2) (HL.out P.b) hcost
      unfold pn at hdr
      have HBD := Lib.hid (drafts_bd (M := Mof R) hN HI.out)
      have HTK : Hid (allDrafts (Mof R) (F.take (k + 1)) = allDrafts (Mof R) (F.take k) ++ drafts (Mof R) P) := Lib.hid (by rw [List.take_add_one, hPk]; simp [allDrafts])
      clear hPk hN hcost hat
      go_wp2_with fail
      refine hdr.mono ?_
      rintro e w1 ⟨v22, ds, rfl, ho, hdp, hdo, hb1⟩
      obtain ⟨A2, c2, rfl, hc2, hr2⟩ := ho.form
      obtain ⟨m, hm⟩ : ∃ m, ds.length = m := ⟨_, rfl⟩
      rw [hm] at hc2 ⊢
      have HDS : Hid (DS w1 w.heap.size (.slice A2 m c2) ds) := Lib.hid (DS.mono (by rw [← hm]; exact ⟨ho, hdo⟩) HAT.out.bel.size)
      have HM := Lib.hid hm
      have HDP := Lib.hid hdp
      have HB1 := Lib.hid hb1
      have HAT1 := Lib.hid (HAT.out.below hb1)
      have hdlen : (drafts (Mof R) P).length = m := by
        have := congrArg List.length HDP.out
        rw [List.length_map, HM.out] at this
        exact this.symm
      have HDL := Lib.hid hdlen
      have hm100 : m ≤ 13 := by
        have h1 : (drafts (Mof R) P).length ≤ 13 := by
          unfold drafts
          split
          · rw [List.length_append, leafD_len]
            have h2 := pieces_le P.l
            have h3 := HNP.out.en
            have h4 := HNP.out.few.1
            simp
            omega
          · simp
        omega
      have hall : (allDrafts (Mof R) (F.take k)).length ≤ 13 * 5000 := by
        have h1 : ∀ l : List PN, (∀ P ∈ l, PNAt w P) → (allDrafts (Mof R) l).length ≤ 13 * l.length := by
          intro l
          induction l with
          | nil => intro _; simp [allDrafts]
          | cons Q l ih =>
            intro h
            obtain ⟨NQ, hQ⟩ := h Q (List.mem_cons_self ..)
            have i1 := ih fun x hx => h x (List.mem_cons_of_mem _ hx)
            have i2 : (drafts (Mof R) Q).length ≤ 13 := by
              unfold drafts
              split
              · rw [List.length_append, leafD_len]
                have h2 := pieces_le Q.l
                have h3 := hQ.en
                have h4 := hQ.few.1
                simp
                omega
              · simp
            rw [show allDrafts (Mof R) (Q :: l) = drafts (Mof R) Q ++ allDrafts (Mof R) l from rfl, List.length_append, List.length_cons]
            omega
        have h2 := h1 (F.take k) fun Q hQ => (HP.out Q (List.mem_of_mem_take hQ)).1
        rw [List.length_take] at h2
        omega
      have HALL := Lib.hid hall
      clear ho hr2 hm hdp hdo hb1 hdr hdlen hall
      go_wp2_with fail
      go_loopw [4, 24] (fun s4 s24 wx => ∃ (j : Nat) (v : Value), v = s4 ∧ j ≤ m ∧ s24 = .int .i64 j ∧ WrAt w (allDrafts (Mof R) (F.take k) ++ (drafts (Mof R) P).take j) v wx ∧ DS wx w.heap.size (.slice A2 m c2) ds) (fun _ s24 _ => m - (intOf s24).toNat)
      case atStart => exact ⟨0, v, rfl, Nat.zero_le _, rfl, by simpa using HAT1.out, HDS.out⟩
      case round =>
        obtain ⟨j, v, rfl, hj, rfl, hat, hbw⟩ := hrel
        have HATX := Lib.hid hat
        have HDX := Lib.hid hbw
        by_cases hlt2 : j < m
        · obtain ⟨a2, x, rfl, hx, hl2, hc⟩ := HDX.out.ls.at_ encD (i := j) (by rw [HM.out]; exact hlt2)
          have q0 : wr.cell? (a2.add (j * 6)) = some (.int .i64 x.at_) := by
            have := hc 0 (.int .i64 x.at_) (by omega) rfl
            rw [add_of_add] at this
            simpa using this
          have q1 : wr.cell? ⟨(a2.add (j * 6)).block, (a2.add (j * 6)).off + 1, none⟩ = some (.int .i64 x.p.kind) := hc 1 _ (by omega) rfl
          have q2 : wr.cell? ⟨(a2.add (j * 6)).block, (a2.add (j * 6)).off + 2, none⟩ = some (.slice x.A x.p.cells.length x.a) := hc 2 _ (by omega) rfl
          have q3 : wr.cell? ⟨(a2.add (j * 6)).block, (a2.add (j * 6)).off + 3, none⟩ = some (.slice x.B x.p.kids.length x.b) := hc 3 _ (by omega) rfl
          have q4 : wr.cell? ⟨(a2.add (j * 6)).block, (a2.add (j * 6)).off + 4, none⟩ = some (.string x.p.piece) := hc 4 _ (by omega) rfl
          have q5 : wr.cell? ⟨(a2.add (j * 6)).block, (a2.add (j * 6)).off + 5, none⟩ = some (.int .i64 x.p.next) := hc 5 _ (by omega) rfl
          have hxd : (drafts (Mof R) P)[j]? = some (x.at_, x.p) := by
            rw [← HDP.out, List.getElem?_map, hx]
            rfl
          have HXD := Lib.hid hxd
          have HBDX := Lib.hid (HBD.out _ (List.mem_of_getElem? hxd))
          have hd1 := (HDX.out.2 x (List.mem_of_getElem? hx)).cells
          have hd2 := (HDX.out.2 x (List.mem_of_getElem? hx)).kids
          have hbz : Below wr.heap.size wr (wr.alloc (.cells (pcD x).toArray 172)) := (Below.refl _ _).alloc (Nat.le_refl _) _
          have henc := encode_any x.p x.A x.B x.a x.b (wr.alloc (.cells (pcD x).toArray 172)) (hd1.below hbz) (hd2.below hbz) HBDX.out (HH.out.below (hat.bel.trans (hbz.mono hat.bel.size)))
          have HBZ := Lib.hid hbz
          unfold pageV at henc
          simp only [pcD] at henc
          have HBZ' : Hid (Below wr.heap.size wr (wr.alloc (.cells #[.int .i64 x.at_, .int .i64 x.p.kind, .slice x.A x.p.cells.length x.a, .slice x.B x.p.kids.length x.b, .string x.p.piece, .int .i64 x.p.next] 172))) := HBZ
          have hbx0 := heap_alloc_new wr (.cells #[.int .i64 x.at_, .int .i64 x.p.kind, .slice x.A x.p.cells.length x.a, .slice x.B x.p.kids.length x.b, .string x.p.piece, .int .i64 x.p.next] 172)
          have HBX0 := Lib.hid hbx0
          clear hx hc hxd hd1 hd2 hbz HBZ hat hbw hbx0
          go_wp2_with fail
          refine henc.mono ?_
          rintro e w3 hpost
          have hATZ := HATX.out.below HBZ'.out
          by_cases hok : okPage x.p
          · obtain ⟨vb, rfl, hob, hb3⟩ := enc_ok hpost hok
            obtain ⟨A3, n3, c3', rfl, hn3, hc3, hr3⟩ := hob.named
            have HAT3 := Lib.hid (hATZ.below hb3)
            have HE3 := Lib.hid ((hb3.block _ (lt_of_block HBX0.out)).trans HBX0.out)
            have k0 := cell_at HE3.out 0 (.int .i64 x.at_) rfl
            obtain ⟨v', w4, hrun, hat4, hkw⟩ := HAT3.out.push (x.at_, x.p) hok (A := A3) (n := n3) (c := c3') (hob.mono (Nat.le_trans HATX.out.bel.size HBZ'.out.size)) (by
              rw [List.length_append, List.length_take, HDL.out]
              have := HALL.out
              omega)
            have HRUN := Lib.hid hrun
            have HAT4 : Hid (WrAt w (allDrafts (Mof R) (F.take k) ++ (drafts (Mof R) P).take (j + 1)) v' w4) := Lib.hid (by
              rw [List.take_add_one, HXD.out, ← List.append_assoc]
              exact hat4)
            have HB4 := Lib.hid (((HDX.out.below HBZ'.out).below hb3).keepW hkw)
            clear hpost hob hb3 hr3 hrun hat4 henc hATZ hkw
            go_wp2_with (at_builtin; refine wpList_append_ran rfl (.tmp 37) (.tmp 42) 40 rfl _ _ _ _ rfl rfl HRUN.out ?_)
            exact ⟨⟨j + 1, v', rfl, by omega, by go_num, HAT4.out, HB4.out⟩, by simp [intOf]; omega⟩
          · obtain ⟨rfl, hb3⟩ := enc_no hpost hok
            have HB3 := Lib.hid (hATZ.below hb3).bel
            have HNO := Lib.hid hok
            clear hpost henc hATZ hb3 hok
            go_wp2
            go_ret2
            refine .inr ⟨⟨(x.at_, x.p), List.mem_flatMap.2 ⟨P, List.mem_of_getElem? HPK.out, List.mem_of_getElem? HXD.out⟩, HNO.out⟩, rfl, HB3.out⟩
        · have he : j = m := by omega
          subst he
          have HF1 : Hid (WrAt w (allDrafts (Mof R) (F.take (k + 1))) v wr) := Lib.hid (by
            rw [HTK.out]
            have := HATX.out
            rw [List.take_of_length_le (l := drafts (Mof R) P) (by rw [HDL.out]; exact Nat.le_refl _)] at this
            exact this)
          clear hat hbw
          go_wp2
          exact ⟨⟨k + 1, v, rfl, by omega, by go_num, HF1.out⟩, by simp [intOf]; omega⟩
    · have he : k = n := by omega
      subst he
      rw [List.take_of_length_le (by rw [HN.out]; exact Nat.le_refl _)] at hat
      have HF1 := Lib.hid hat
      clear hat
      go_wp2
      go_ret2
      exact .inl ⟨HF1.out.ok, v, rfl, HF1.out⟩

end Go.Proofs.YtelenboncejdaaaGreatDoor
