/-
  The contract of told for a leaf that was not told; conditions stand at each.
-/
import Derived.Test.YtelenboncejdaaaGreatDoorShTold
namespace Go.Proofs.YtelenboncejdaaaGreatDoor
open Go.RowKit Go.Sort
open Rt (Fx Stp)
set_option linter.unusedVariables false
set_option linter.unusedSimpArgs false

theorem pgInfo : (Tryz.prog.info? 74).map (fun i => (i.zero, i.size, i.bytes)) = some (some (.agg #[.pointer none, .pointer none]), 2, 16) := by kernel_rfl
/-- What told turns. -/
def XM (sb : Nat) (v : Value) : Nat → Prop := fun k => k = sb ∨ v.ownBlock = some k
/-- What told answers for a node that was not told. -/
def ToldNew (w : World) (base sb : Nat) (v : Value) (l : List (Nat × Nat)) (b : Nat) (e : Ending) (w' : World) : Prop :=
  ∃ r v', e = .returned (.pointer (some ⟨r, 0, none⟩)) ∧ w.heap.size ≤ r ∧ Memo w' base sb v' (l ++ [(b, r)]) ∧ Stp (XM sb v) w (XM sb v') w'

set_option maxHeartbeats 4000000 in
set_option maxRecDepth 100000 in
theorem told_leaf {w : World} {base sb b : Nat} {v : Value} {l : List (Nat × Nat)} {N : NR} {es : List Ent} (hm : Memo w base sb v l) (hl : l.length ≤ 100000) (hbase : base ≤ w.heap.size) (hN : NodeAt w b N) (hE : Es w N.ea es) (hen : es.length = N.en) (hen2 : N.en ≤ 1000) (hK : N.kn = 0) (hf : ∀ y ∈ l, y.1 ≠ b) :
    Calls Tryz.prog 32 #[pn b, .pointer (some ⟨sb, 0, none⟩)] w (ToldNew w base sb v l b) := by
  have hm' := hm
  obtain ⟨A, c, rfl, hc, hr⟩ := hm.row.form
  obtain ⟨n, hn⟩ : ∃ n, l.length = n := ⟨_, rfl⟩
  have c0 := cell_at hm.box 0 _ rfl
  rw [hn] at c0 hc hl hm'
  have HM := Lib.hid hm'
  have HR := Lib.hid hr
  have HN := Lib.hid hn
  have HNd := Lib.hid hN
  have HF := Lib.hid hf
  have HE := Lib.hid hE
  have HEN := Lib.hid hen
  have HK := Lib.hid hK
  have HBS := Lib.hid hbase
  rw [hn]
  clear hm hm' hr hn hN hf hE hen hK hbase
  unfold pn
  go_enter Tryz.func32, Tryz.ntmps32
  go_wp2
  go_loopw [15] (fun s15 wr => ∃ k : Nat, k ≤ n ∧ s15 = .int .i64 k ∧ wr = w) (fun s15 _ => n - (intOf s15).toNat)
  case atStart => exact ⟨0, Nat.zero_le _, rfl, rfl⟩
  case round =>
    obtain ⟨k, hk, rfl, rfl⟩ := hrel
    by_cases hlt : k < n
    · obtain ⟨ad, x, rfl, hx, hl1, hcx⟩ := HR.out.at_ encPg (i := k) (by rw [HN.out]; exact hlt)
      obtain ⟨⟨M, hM⟩, _⟩ := HM.out.nodes x (List.mem_of_getElem? hx)
      have q0 := hcx 0 (.pointer (some ⟨x.1, 0, none⟩)) (by omega) rfl
      rw [add_of_add] at q0
      simp only [Nat.add_zero] at q0
      have he := eql_pn hM HNd.out
      rw [decide_eq_false (HF.out x (List.mem_of_getElem? hx))] at he
      clear hcx hM hx
      go_wp2
      exact ⟨⟨k + 1, by omega, by go_num, trivial⟩, by simp [intOf]; omega⟩
    · have he : k = n := by omega
      subst he
      clear c0
      go_wp2_with fail
      refine (entries_any HNd.out HE.out HEN.out (by omega)).mono ?_
      rintro e w1 ⟨u, rfl, ho1, hb1⟩
      obtain ⟨A1, c1, rfl, _, _⟩ := ho1.form
      generalize es.length = n1
      have hb2 : Below wr.heap.size wr (w1.alloc (.cells #[.slice A1 n1 c1, .slice none 0 0] 137)) := hb1.alloc hb1.size _
      have HREF : Hid (RefAt (w1.alloc (.cells #[.slice A1 n1 c1, .slice none 0 0] 137)) w1.heap.size (.slice A1 n1 c1) (.slice none 0 0)) := Lib.hid (heap_alloc_new _ _)
      have HB2 := Lib.hid hb2
      have HS1 := Lib.hid hb1.size
      clear ho1 hb1 hb2
      go_wp2_with fail
      generalize w1.alloc (.cells #[.slice A1 n1 c1, .slice none 0 0] 137) = w2 at HREF HB2 ⊢
      refine (kids_any (HNd.out.below HB2.out) (l := []) (Ls.nil _ _) (by rw [HK.out]; rfl) (by rw [HK.out]; omega)).mono ?_
      rintro e w3 ⟨u7, rfl, ho7, hb3⟩
      obtain ⟨A7, c7, rfl, _, _⟩ := ho7.form
      have HB3 := Lib.hid (bthen HB2.out hb3)
      have HREF3 := Lib.hid (HREF.out.below hb3)
      clear ho7 hb3
      have HM3 := Lib.hid (HM.out.below HB3.out)
      have hbz : Below w3.heap.size w3 (w3.alloc (.cells (pcPg (b, w1.heap.size)).toArray 74)) := (Below.refl _ _).alloc (Nat.le_refl _) _
      obtain ⟨v', w4, h1, h2, h3, h5⟩ := run_append_at encPg 60 74 60 _ _ ⟨_, Tryz.underlying60, rfl⟩ pgInfo rfl (by omega) (by omega) (HM3.out.row.below hbz) (b, w1.heap.size) (heap_alloc_new w3 _) (by rw [HN.out]; omega) (Nat.le_trans HBS.out (Nat.le_trans HB3.out.size hbz.size))
      obtain ⟨A', c', rfl, _, _⟩ := h2.form
      generalize hn' : (l ++ [(b, w1.heap.size)]).length = n' at h1 h2 h5
      have hsz3 : w3.heap.size ≤ w4.heap.size := Nat.le_trans hbz.size h3.size
      have hk4 : ∀ q, q < w3.heap.size → (Value.slice A k c).ownBlock ≠ some q → w4.heap[q]? = w3.heap[q]? := fun q hk hne => (h3.block q (Nat.lt_of_lt_of_le hk hbz.size) fun e => hne e.symm).trans (hbz.block q hk)
      have hne : ∀ {q : Nat} {cs : Array Value} {t : TypeId}, w3.heap[q]? = some (.cells cs t (0, 0)) → t ≠ 74 → (Value.slice A k c).ownBlock ≠ some q := fun {q cs t} hk ht e => by
        obtain ⟨cur, hcur⟩ := own_cells HM3.out.row q e
        rw [hk] at hcur
        cases hcur
        exact ht rfl
      have hB3 := HM3.out.box
      have hB4 : w4.heap[sb]? = some (.cells #[.slice A k c] 60 (0, 0)) := (hk4 sb (lt_of_block hB3) (hne hB3 (by decide))).trans hB3
      have hk5 : ∀ {q : Nat} {cs : Array Value} {t : TypeId}, w3.heap[q]? = some (.cells cs t (0, 0)) → t ≠ 74 → t ≠ 60 → (w4.setCell ⟨sb, 0, none⟩ (.slice A' n' c')).heap[q]? = w3.heap[q]? := fun {q cs t} hk ht ht2 => by
        rw [Below.heap_setCell _ _ _ _ (fun e => by
          simp only at e
          subst e
          rw [hB3] at hk
          cases hk
          exact ht2 rfl)]
        exact hk4 q (lt_of_block hk) (hne hk ht)
      have hrow : OwnL pcPg 74 2 (w4.setCell ⟨sb, 0, none⟩ (.slice A' n' c')) base (.slice A' n' c') (l ++ [(b, w1.heap.size)]) := h2.keep fun g hg _ => Below.heap_setCell _ _ _ _ (fun e => by
        simp only at e
        obtain ⟨cur, hcur⟩ := own_cells h2 g hg
        rw [e, hB4] at hcur
        cases hcur)
      have hMF : Memo (w4.setCell ⟨sb, 0, none⟩ (.slice A' n' c')) base sb (.slice A' n' c') (l ++ [(b, w1.heap.size)]) := by
        refine ⟨blk_set hB4 0 _, hrow, fun x hx => ?_⟩
        rcases List.mem_append.1 hx with hx | hx
        · obtain ⟨⟨M, hM⟩, u, y, hR⟩ := HM3.out.nodes x hx
          exact ⟨⟨M, (hk5 hM (by decide) (by decide)).trans hM⟩, u, y, (hk5 hR (by decide) (by decide)).trans hR⟩
        · rw [List.mem_singleton.1 hx]
          have hM := HNd.out.below HB3.out
          exact ⟨⟨N, (hk5 hM (by decide) (by decide)).trans hM⟩, _, _, (hk5 HREF3.out (by decide) (by decide)).trans HREF3.out⟩
      have hST : Stp (XM sb (.slice A k c)) wr (XM sb (.slice A' n' c')) (w4.setCell ⟨sb, 0, none⟩ (.slice A' n' c')) := by
        refine ⟨⟨h3.os.trans (hbz.os.trans HB3.out.os), h3.tape.trans (hbz.tape.trans HB3.out.tape), h3.output.trans (hbz.output.trans HB3.out.output), ?_⟩, fun q hk hx => ?_, fun q hx => ?_, fun q hk hx => ?_⟩
        · have := Nat.le_trans HB3.out.size hsz3
          simpa [World.setCell] using this
        · rcases hx with hx | hx
          · exact .inl hx
          · rcases h5 with e | e
            · exact .inr (e ▸ hx)
            · rw [e] at hx
              have h1 := HB3.out.size
              have h2 := hbz.size
              simp at hx
              omega
        · rcases hx with rfl | hx
          · have := lt_of_block hB4
            simpa [World.setCell] using this
          · exact hrow.lt q hx
        · rw [Below.heap_setCell _ _ _ _ (fun e => hx (.inl e))]
          exact (hk4 q (Nat.lt_of_lt_of_le hk HB3.out.size) fun e => hx (.inr e)).trans (HB3.out.block q hk)
      have HFIN : Hid (ToldNew wr base sb (.slice A k c) l b (.returned (.pointer (some ⟨w1.heap.size, 0, none⟩))) (w4.setCell ⟨sb, 0, none⟩ (.slice A' n' c'))) := Lib.hid ⟨w1.heap.size, _, rfl, HS1.out, hMF, hST⟩
      have d3 := cell_at hB3 0 (.slice A k c) rfl
      have d4 := cell_at hB4 0 (.slice A k c) rfl
      have f4 := free_at hB4 0
      have HRUN := Lib.hid h1
      clear h1 h2 h3 h5 hbz hsz3 hk4 hne hB3 hB4 hk5 hrow hMF hST hn'
      go_wp2
      go_loopw [43] (fun s43 wx => s43 = .int .i64 0 ∧ wx = w3) (fun _ _ => 0)
      case atStart => exact ⟨rfl, rfl⟩
      case round =>
        obtain ⟨hs, hw⟩ := hrel
        subst hs
        rw [hw]
        clear hw
        go_wp2_with (at_builtin; refine wpList_append_ran rfl (.tmp 65) (.tmp 69) 60 rfl _ _ _ _ rfl rfl HRUN.out ?_)
        go_ret
        exact HFIN.out

end Go.Proofs.YtelenboncejdaaaGreatDoor
