/-
  The contract of shadow.leaf: the pages of a leaf; conditions: the leaf lies in memory, as many pages as its pieces and one more.
-/
import Derived.Test.YtelenboncejdaaaGreatDoorShDraft
namespace Go.Proofs.YtelenboncejdaaaGreatDoor
open Go.RowKit Go.Sort
set_option linter.unusedVariables false
set_option linter.unusedSimpArgs false

abbrev OwnC (w : World) (base : Nat) (v : Value) (l : List PC) : Prop := OwnL pcC 230 4 w base v l
theorem clInfo : (Tryz.prog.info? 230).map (fun i => (i.zero, i.size, i.bytes)) = some (some (.agg #[.string ByteArray.empty, .string ByteArray.empty, .int .i64 0, .int .i64 0]), 4, 48) := by kernel_rfl
/-- append(v, l...) for pages that are to be written. -/
theorem run_append_drs {w : World} {base : Nat} {v : Value} {xs : List DR} (hown : OwnD w base v xs) {A : Option Addr} {l : List DR} (n c : Nat) (hr : Ls pcD w A l) (hn : l.length = n) (hb : xs.length + n ≤ 1000000) (hbase : base ≤ w.heap.size) :
    ∃ v' w', (Builtin.append_ #[165, 165] 165 #[v, .slice A n c]).run Tryz.prog w = .ok v' w' ∧ OwnD w' base v' (xs ++ l) ∧ w.grownBy w' v.ownBlock :=
  run_append_ls encD 165 172 165 _ _ ⟨_, Tryz.underlying165, rfl⟩ drInfo rfl (by omega) (by omega) hown n c hr hn hb hbase

/-- What leaf has made so far. -/
structure LeafAt (w w1 : World) (l : List Ent) (r : List Int) (k : Nat) (v6 v7 v8 : Value) (wr : World) : Prop where
  rest : ∃ B m d, v6 = .slice B m d ∧ m ≤ d ∧ (r.drop (pieces (l.take k))).length = m ∧ Ls icell w B (r.drop (pieces (l.take k)))
  dr : ∃ ds, OwnD wr w1.heap.size v7 ds ∧ ds.map DR.pr = leafD (l.take k) r ∧ ∀ x ∈ ds, ∀ w' base, DOk w' base x
  cl : OwnC wr w1.heap.size v8 (leafC (l.take k) r)
  bel : Below w1.heap.size w1 wr
theorem own_apart_t {α β : Type} {f : α → List Value} {g : β → List Value} {k m : Nat} {t u : TypeId} {w : World} {b b' : Nat} {v v' : Value} {l : List α} {l' : List β} (h : OwnL f t k w b v l) (h' : OwnL g u m w b' v' l') (hne : t ≠ u) : ∀ q, v.ownBlock = some q → v'.ownBlock ≠ some q := fun q e e' => by
  obtain ⟨c1, h1⟩ := own_cells h q e
  obtain ⟨c2, h2⟩ := own_cells h' q e'
  rw [h1] at h2
  cases h2
  exact hne rfl
/-- A cell more. -/
theorem LeafAt.cell {w w1 w2 : World} {l : List Ent} {r : List Int} {k : Nat} {e : Ent} {B : Option Addr} {m d : Nat} {v7 v8 : Value} {ds : List DR} (hx : l[k]? = some e) (hb : Below w1.heap.size w1 w2)
    (hmd : m ≤ d) (hm : (r.drop (pieces (l.take (k + 1)))).length = m) (hB : Ls icell w B (r.drop (pieces (l.take (k + 1))))) (hds : OwnD w2 w1.heap.size v7 ds) (hdp : ds.map DR.pr = leafD (l.take (k + 1)) r) (hdo : ∀ x ∈ ds, ∀ w' base, DOk w' base x)
    (hcl : OwnC w2 w1.heap.size v8 (leafC (l.take k) r)) (hl : l.length ≤ 1000) :
    ∃ v8' w3, (Builtin.append_ #[167, 167] 167 #[v8, .slice (some ⟨w2.heap.size, 0, none⟩) 1 1]).run Tryz.prog (w2.alloc (.cells (pcC (cellOf e (r.drop (pieces (l.take k))))).toArray 230)) = .ok v8' w3 ∧ LeafAt w w1 l r (k + 1) (.slice B m d) v7 v8' w3 := by
  have hbz : Below w2.heap.size w2 (w2.alloc (.cells (pcC (cellOf e (r.drop (pieces (l.take k))))).toArray 230)) := (Below.refl _ _).alloc (Nat.le_refl _) _
  obtain ⟨v8', w3, h1, h2, h3⟩ := run_append_one encC 167 230 167 _ _ ⟨_, Tryz.underlying167, rfl⟩ clInfo rfl (by omega) (by omega) (by omega) hcl (cellOf e (r.drop (pieces (l.take k)))) (by rw [leafC_len, List.length_take]; omega) hb.size
  have hown7 : OwnD w3 w1.heap.size v7 ds := hds.keep fun g hg hlt => (h3.block g (Nat.lt_of_lt_of_le hlt hbz.size) fun e' => own_apart_t hds hcl (by decide) g hg e'.symm).trans (hbz.block g hlt)
  refine ⟨v8', w3, h1, ⟨B, m, d, rfl, hmd, hm, hB⟩, ⟨ds, hown7, hdp, hdo⟩, by rw [leafC_snoc hx]; exact h2, ?_⟩
  exact (hb.trans (hbz.mono hb.size)).grown h3 (Nat.le_trans hb.size hbz.size) fun q hq => hcl.at_block q hq

set_option maxHeartbeats 4000000 in
set_option maxRecDepth 100000 in
theorem shLeaf_any {w : World} {b m d : Nat} {N : NR} {l : List Ent} {B : Option Addr} {r0 : List Int} (hN : NodeAt w b N) (hE : Es w N.ea l) (hl : l.length = N.en) (hn : N.en ≤ 100) (hv : ∀ e ∈ l, e.v.size ≤ 140737488351232)
    (hB : Ls icell w B r0) (hm : r0.length = m) (hmd : m ≤ d) (hp : pieces l + 1 ≤ m) :
    Calls Tryz.prog 114 #[pn b, .slice B m d] w fun e w' => ∃ v ds, e = .returned v ∧ OwnD w' w.heap.size v ds ∧ ds.map DR.pr = leafD l r0.tail ++ [(r0.headD 0, leafP l r0.tail)] ∧ (∀ x ∈ ds, DOk w' w.heap.size x) ∧ Below w.heap.size w w' := by
  obtain ⟨ad, own, rfl, hown, hadl, hcell⟩ := hB.atI (i := 0) (by omega)
  rw [show ad.add 0 = ad from rfl] at hcell
  have hrest := hB.cut ienc (k := 1) (c := d) (by omega)
  obtain ⟨B1, hB1⟩ : ∃ B1, B1 = if d = 1 then some ad else some { block := ad.block, off := ad.off + 1 } := ⟨_, rfl⟩
  have hB1' : (if d = 1 then some ad else (some ad).map (·.add (1 * 1))) = B1 := by rw [hB1]; rfl
  rw [hB1'] at hrest
  obtain ⟨r, hr⟩ : ∃ r, r = r0.drop 1 := ⟨_, rfl⟩
  have htl : r0.tail = r := by rw [hr]; simp
  have hhd : r0.headD 0 = own := by
    cases r0 with
    | nil => simp at hown
    | cons x t => simpa using hown
  have hrl : r.length = m - 1 := by rw [hr, List.length_drop, hm]
  rw [← hr] at hrest
  rw [htl, hhd]
  have HN := Lib.hid hN
  have HE := Lib.hid hE
  have HL := Lib.hid hl
  have HV := Lib.hid hv
  have HREST := Lib.hid hrest
  have HRL := Lib.hid hrl
  have HPC := Lib.hid hp
  clear hN hE hl hv hB hm hown hrest hr htl hhd hrl hp
  have hm1 : 1 ≤ m := by have := HPC.out; omega
  have hd1 : 1 ≤ d := by omega
  go_enter Tryz.func114, Tryz.ntmps114
  go_wp2_with fail
  go_quiet (fail)
  rw [← hB1]
  clear hB1 hB1' hcell
  have hb0 : Below w.heap.size w (w.drewN nq) := below_drewN (Below.refl _ _) _
  go_wp2_with fail
  refine (entries_any (HN.out.below hb0) (HE.out.below hb0) HL.out (by omega)).mono ?_
  rintro e w1 ⟨v19, rfl, ho, hb1⟩
  obtain ⟨A, c, rfl, hc, hr⟩ := ho.form
  obtain ⟨n, hln⟩ : ∃ n, l.length = n := ⟨_, rfl⟩
  have hn1 : n ≤ 100 := by have := HL.out; omega
  rw [hln] at hc ⊢
  have HLN := Lib.hid hln
  have HR := Lib.hid hr
  have HB1 := Lib.hid (hb0.trans (hb1.mono hb0.size))
  clear ho hr hb1 hln hb0
  go_wp2_with fail
  go_loopw [6, 7, 8, 21] (fun s6 s7 s8 s21 wr => ∃ (k : Nat) (v6 v7 v8 : Value), v6 = s6 ∧ v7 = s7 ∧ v8 = s8 ∧ k ≤ n ∧ s21 = .int .i64 k ∧ LeafAt w w1 l r k v6 v7 v8 wr) (fun _ _ _ s21 _ => n - (intOf s21).toNat)
  case atStart =>
    refine ⟨0, _, _, _, rfl, rfl, rfl, Nat.zero_le _, rfl, ⟨⟨B1, m - 1, d - 1, rfl, by omega, by simpa [pieces] using HRL.out, by simpa [pieces] using HREST.out⟩, ⟨[], OwnL.nil_ _ _ _, rfl, by simp⟩, OwnL.nil_ _ _ _, Below.refl _ _⟩⟩
  case round =>
    obtain ⟨k, v6, v7, v8, rfl, rfl, rfl, hk, rfl, hat⟩ := hrel
    obtain ⟨⟨B6, m6, d6, rfl, hd6, hl6, hr6⟩, ⟨ds, hds, hdp, hdo⟩, hcl, hbw⟩ := hat
    have HBW := Lib.hid hbw
    have HL6 := Lib.hid hl6
    have HR6 := Lib.hid hr6
    have HDS := Lib.hid hds
    have HDP := Lib.hid hdp
    have HDO := Lib.hid hdo
    have HCL := Lib.hid hcl
    clear hbw hl6 hr6 hds hdp hdo hcl
    by_cases hlt : k < n
    · obtain ⟨ae, x, rfl, hx, hl1, q0, q1⟩ := (HR.out.below HBW.out).at_ (i := k) (by rw [HLN.out]; exact hlt)
      have hxv := HV.out x (List.mem_of_getElem? hx)
      have HX := Lib.hid hx
      clear hx
      have hbB : Below wr.heap.size wr ((wr.alloc (.cells #[.string x.k, .string x.v] 87)).alloc (.cells #[.string x.k, .string x.v, .int .i64 0, .int .i64 0] 230)) := ((Below.refl _ _).alloc (Nat.le_refl _) _).alloc (by simp) _
      have hxe : ((wr.alloc (.cells #[.string x.k, .string x.v] 87)).alloc (.cells #[.string x.k, .string x.v, .int .i64 0, .int .i64 0] 230)).heap[wr.heap.size]? = some (.cells #[.string x.k, .string x.v] 87 (0, 0)) := by rw [heap_alloc_old _ _ (by simp), heap_alloc_new]
      have hxc : ((wr.alloc (.cells #[.string x.k, .string x.v] 87)).alloc (.cells #[.string x.k, .string x.v, .int .i64 0, .int .i64 0] 230)).heap[wr.heap.size + 1]? = some (.cells #[.string x.k, .string x.v, .int .i64 0, .int .i64 0] 230 (0, 0)) := by
        have e1 : (wr.alloc (.cells #[.string x.k, .string x.v] 87)).heap.size = wr.heap.size + 1 := by simp
        rw [← e1, heap_alloc_new]
      have HBB := Lib.hid hbB
      have HXE := Lib.hid hxe
      have HXC := Lib.hid hxc
      clear hbB hxe hxc
      go_wp2_with fail
      refine (chCut_any x.v _ hxv).mono ?_
      rintro e w2 ⟨v12, rfl, ho12, hb12⟩
      have HXE2 := Lib.hid ((hb12.block _ (lt_of_block HXE.out)).trans HXE.out)
      have HXC2 := Lib.hid ((hb12.block _ (lt_of_block HXC.out)).trans HXC.out)
      have HB2 := Lib.hid (HBB.out.trans (hb12.mono HBB.out.size))
      obtain ⟨eb, heb⟩ : ∃ eb, eb = wr.heap.size := ⟨_, rfl⟩
      obtain ⟨cb, hcb⟩ : ∃ cb, cb = wr.heap.size + 1 := ⟨_, rfl⟩
      have hne : eb ≠ cb := by omega
      have HCBG := Lib.hid (Nat.le_of_lt (Nat.lt_of_lt_of_eq (Nat.lt_succ_self _) hcb.symm))
      have HEBG := Lib.hid (Nat.le_of_eq heb.symm)
      rw [← hcb] at HXC2 ⊢
      rw [← heb] at HXE2 ⊢
      have HO12 := Lib.hid (ho12.mono HBB.out.size)
      have hap := ho12
      obtain ⟨A12, c12, rfl, hc12, hr12⟩ := ho12.form
      have HAL12 := Lib.hid (fun ad e => (hap.addr_ge ad e).2)
      have HR12 := Lib.hid hr12
      have hcl2 := cutL_le x.v
      obtain ⟨n12, hn12⟩ : ∃ n12, (cutL x.v).length = n12 := ⟨_, rfl⟩
      rw [hn12] at hc12 hcl2 HO12 ⊢
      have HN12 := Lib.hid hn12
      have hple := pieces_le_take HX.out
      rw [hn12] at hple
      have HPS := Lib.hid (pieces_snoc HX.out)
      have HDS2 := Lib.hid (HDS.out.below HB2.out)
      have HCL2 := Lib.hid (HCL.out.below HB2.out)
      have HBW2 := Lib.hid (HBW.out.trans (HB2.out.mono HBW.out.size))
      clear heb hcb ho12 hb12 hap hr12 hn12 HXE HXC HBB
      by_cases h0 : n12 = 0
      · subst h0
        have k0 := cell_at HXC2.out 0 (.string x.k) rfl
        have k1 := cell_at HXC2.out 1 (.string x.v) rfl
        have k2 := cell_at HXC2.out 2 (.int .i64 0) rfl
        have k3 := cell_at HXC2.out 3 (.int .i64 0) rfl
        have hcut : cutL x.v = [] := List.eq_nil_of_length_eq_zero HN12.out
        have hps : pieces (l.take (k + 1)) = pieces (l.take k) := by rw [HPS.out, HN12.out]; rfl
        obtain ⟨v8', w3, hrun, hat⟩ := LeafAt.cell (B := B6) (d := d6) HX.out HBW2.out hd6 (by rw [hps]; exact HL6.out) (by rw [hps]; exact HR6.out) HDS2.out (by rw [leafD_snoc HX.out, hcut, HDP.out]; simp [chainD]) HDO.out HCL2.out (by rw [HLN.out]; omega)
        rw [show cellOf x (r.drop (pieces (l.take k))) = ⟨x.k, x.v, 0, 0⟩ from if_pos hcut] at hrun
        have HRUN : Hid ((Builtin.append_ #[167, 167] 167 #[v8, .slice (some ⟨w2.heap.size, 0, none⟩) 1 1]).run Tryz.prog (w2.alloc (.cells #[.string x.k, .string x.v, .int .i64 0, .int .i64 0] 230)) = .ok v8' w3) := Lib.hid hrun
        have HAT := Lib.hid hat
        clear hrun hcut hps
        go_wp2_with (at_builtin; refine wpList_append_ran rfl (.tmp 54) (.tmp 56) 167 rfl _ _ _ _ rfl rfl HRUN.out ?_)
        exact ⟨⟨k + 1, _, _, v8', rfl, rfl, rfl, by omega, by go_num, HAT.out⟩, by simp [intOf]; omega⟩
      · have h0' : 0 < n12 := by omega
        have hm6 : n12 ≤ m6 := by
          have h1 := HL6.out
          rw [List.length_drop, HRL.out] at h1
          have h2 := HPC.out
          omega
        have hb6 := (HR6.out.below (HB1.out.trans (HBW2.out.mono HB1.out.size)))
        obtain ⟨a6, s0, hB6, hs0, hal6, hc6⟩ := hb6.atI (i := 0) (by rw [HL6.out]; omega)
        rw [show a6.add 0 = a6 from rfl] at hc6
        subst hB6
        have e0 := cell_at HXE2.out 0 (.string x.k) rfl
        have e1 := cell_at HXE2.out 1 (.string x.v) rfl
        have k0 := cell_at HXC2.out 0 (.string x.k) rfl
        have k1 := cell_at HXC2.out 1 (.string x.v) rfl
        have k2 := cell_at HXC2.out 2 (.int .i64 0) rfl
        have k3 := cell_at HXC2.out 3 (.int .i64 0) rfl
        have f0 := free_at HXC2.out 0
        have f1 := free_at HXC2.out 1
        have f2 := free_at HXC2.out 2
        have f3 := free_at HXC2.out 3
        have hm61 : 1 ≤ m6 := by omega
        have HS0 := Lib.hid hs0
        have HAL6 := Lib.hid hal6
        clear hb6 hs0
        go_wp2_with fail
        go_region
        have hU0 : ((((((w2.setCell ⟨cb, 0, none⟩ (.string x.k)).setCell ⟨cb, 1, none⟩ (.string ⟨#[]⟩)).setCell ⟨cb, 2, none⟩ (.int .i64 (x.v.size : Int))).setCell ⟨cb, 3, none⟩ (.int .i64 s0)).drew)).heap[cb]? = some (.cells #[.string x.k, .string ⟨#[]⟩, .int .i64 (x.v.size : Int), .int .i64 s0] 230 (0, 0)) := blk_set (blk_set (blk_set (blk_set HXC2.out 0 _) 1 _) 2 _) 3 _
        have hUo : ∀ j : Nat, j ≠ cb → ((((((w2.setCell ⟨cb, 0, none⟩ (.string x.k)).setCell ⟨cb, 1, none⟩ (.string ⟨#[]⟩)).setCell ⟨cb, 2, none⟩ (.int .i64 (x.v.size : Int))).setCell ⟨cb, 3, none⟩ (.int .i64 s0)).drew)).heap[j]? = w2.heap[j]? := fun j hj => by
          show ((((w2.setCell ⟨cb, 0, none⟩ (.string x.k)).setCell ⟨cb, 1, none⟩ (.string ⟨#[]⟩)).setCell ⟨cb, 2, none⟩ (.int .i64 (x.v.size : Int))).setCell ⟨cb, 3, none⟩ (.int .i64 s0)).heap[j]? = w2.heap[j]?
          rw [Below.heap_setCell _ _ _ _ hj, Below.heap_setCell _ _ _ _ hj, Below.heap_setCell _ _ _ _ hj, Below.heap_setCell _ _ _ _ hj]
        have hUx : Rt.Fx w2 (((((w2.setCell ⟨cb, 0, none⟩ (.string x.k)).setCell ⟨cb, 1, none⟩ (.string ⟨#[]⟩)).setCell ⟨cb, 2, none⟩ (.int .i64 (x.v.size : Int))).setCell ⟨cb, 3, none⟩ (.int .i64 s0)).drew) := ⟨rfl, rfl, rfl, by simp [World.setCell, World.drew]⟩
        generalize (((((w2.setCell ⟨cb, 0, none⟩ (.string x.k)).setCell ⟨cb, 1, none⟩ (.string ⟨#[]⟩)).setCell ⟨cb, 2, none⟩ (.int .i64 (x.v.size : Int))).setCell ⟨cb, 3, none⟩ (.int .i64 s0)).drew) = U at hU0 hUo hUx ⊢
        have hcbw : w1.heap.size ≤ cb := Nat.le_trans HBW.out.size HCBG.out
        have hbU1 : Below w1.heap.size w1 U := ⟨hUx.os.trans HBW2.out.os, hUx.tape.trans HBW2.out.tape, hUx.output.trans HBW2.out.output, Nat.le_trans HBW2.out.size hUx.size, fun j hj => (hUo j (by omega)).trans (HBW2.out.block j hj)⟩
        have hkt : ∀ {j : Nat} {cs : Array Value} {t : TypeId}, w2.heap[j]? = some (.cells cs t (0, 0)) → t ≠ 230 → U.heap[j]? = w2.heap[j]? := fun {j cs t} hj ht => hUo j fun e => by
          subst e
          rw [HXC2.out] at hj
          cases hj
          exact ht rfl
        have hkc : ∀ {j : Nat} {cs : Array Value}, w2.heap[j]? = some (.cells cs 230 (0, 0)) → v8.ownBlock = some j → j ≠ cb := fun {j cs} hj he e => by
          have h1 := HCL.out.lt j he
          have h2 := HCBG.out
          omega
        have HOU12 : Hid (OwnS U wr.heap.size (.slice A12 n12 c12) (cutL x.v)) := Lib.hid (OwnL.keep HO12.out fun g hg _ => by
          obtain ⟨cur, hc⟩ := own_cells HO12.out g hg
          exact hkt hc (by decide))
        have HDSU : Hid (OwnD U w1.heap.size v7 ds) := Lib.hid (HDS2.out.keep fun g hg _ => by
          obtain ⟨cur, hc⟩ := own_cells HDS2.out g hg
          exact hkt hc (by decide))
        have HCLU : Hid (OwnC U w1.heap.size v8 (leafC (l.take k) r)) := Lib.hid (HCL2.out.keep fun g hg _ => by
          obtain ⟨cur, hc⟩ := own_cells HCL2.out g hg
          exact hUo g (hkc hc hg))
        have HRU : Hid (Ls icell U (some a6) (r.drop (pieces (l.take k)))) := Lib.hid (HR6.out.below (HB1.out.trans (hbU1.mono HB1.out.size)))
        have HU0 := Lib.hid hU0
        have HBU1 := Lib.hid hbU1
        clear hU0 hUo hUx hcbw hbU1 hkt hkc
        obtain ⟨A12', c12', he12, _, hru12⟩ := HOU12.out.form
        rw [HN12.out] at he12
        cases he12
        go_wp2_with fail
        refine (chained_any (w := U) hru12 HN12.out (by omega) HRU.out HL6.out hm6 (fun ad e => (OwnL.addr_ge HOU12.out ad e).2)).mono ?_
        rintro e w4 ⟨v48, rfl, ho48, hb48⟩
        have HDS4 := Lib.hid (HDSU.out.below hb48)
        have HCL4 := Lib.hid (HCLU.out.below hb48)
        have HC4 := Lib.hid ((hb48.block _ (lt_of_block HU0.out)).trans HU0.out)
        have HB4 := Lib.hid (HBU1.out.trans (hb48.mono HBU1.out.size))
        obtain ⟨A48, c48, rfl, hc48, hr48⟩ := ho48.form
        rw [chDR_len] at hc48 ⊢
        have hdsl : ds.length + n12 ≤ 1000 := by
          have h1 := congrArg List.length HDP.out
          rw [List.length_map, leafD_len] at h1
          have h2 := pieces_take l k
          have h3 := pieces_le l
          have h4 := HLN.out
          omega
        obtain ⟨v7', w5, hrun7, hown7, hg7⟩ := run_append_drs HDS4.out n12 c48 hr48 (chDR_len _ _ _) (by omega) HB4.out.size
        have HC5 := Lib.hid ((hg7.block _ (lt_of_block HC4.out) fun e => by
          obtain ⟨cur, hc⟩ := own_cells HDS4.out _ e.symm
          rw [HC4.out] at hc
          cases hc).trans HC4.out)
        have HCL5 : Hid (OwnC w5 w1.heap.size v8 (leafC (l.take k) r)) := Lib.hid (HCL4.out.keep fun g hg hlt => hg7.block g hlt fun e => own_apart_t HCL4.out HDS4.out (by decide) g hg e.symm)
        have HB5 := Lib.hid (HDS4.out.grow_below HB4.out HB4.out.size hg7)
        have HO7 := Lib.hid hown7
        have HR7 := Lib.hid hrun7
        have j0 := cell_at HC5.out 0 (.string x.k) rfl
        have j1 := cell_at HC5.out 1 (.string ⟨#[]⟩) rfl
        have j2 := cell_at HC5.out 2 (.int .i64 (x.v.size : Int)) rfl
        have j3 := cell_at HC5.out 3 (.int .i64 s0) rfl
        have hcut := HR6.out.cut ienc (k := n12) (c := d6) (by rw [HL6.out]; exact hd6)
        rw [Nat.mul_one] at hcut
        obtain ⟨B7, hB7⟩ : ∃ B7, B7 = if d6 = n12 then some a6 else (some a6).map (·.add n12) := ⟨_, rfl⟩
        rw [← hB7] at hcut
        have HB7 := Lib.hid hB7
        have hps : pieces (l.take (k + 1)) = pieces (l.take k) + n12 := by rw [HPS.out, HN12.out]
        have hgd : (r.drop (pieces (l.take k))).getD 0 0 = s0 := by rw [List.getD_eq_getElem?_getD, HS0.out]; rfl
        have hcne : cutL x.v ≠ [] := fun e => by
          have := HN12.out
          rw [e] at this
          simp at this
          omega
        obtain ⟨v8', w6, hrun8, hat⟩ := LeafAt.cell (B := B7) (m := m6 - n12) (d := d6 - n12) (ds := ds ++ chDR (cutL x.v) (r.drop (pieces (l.take k))) n12) HX.out HB5.out (by omega) (by rw [hps, ← List.drop_drop, List.length_drop, HL6.out]) (by rw [hps, ← List.drop_drop]; exact hcut) HO7.out
          (by rw [leafD_snoc HX.out, List.map_append, HDP.out, ← chDR_pr _ _ (cutL_le _), HN12.out]) (fun y hy => by
            rcases List.mem_append.1 hy with hy | hy
            · exact HDO.out y hy
            · exact fun w' base => chDR_ok w' base _ _ _ y hy) HCL5.out (by rw [HLN.out]; omega)
        rw [show cellOf x (r.drop (pieces (l.take k))) = ⟨x.k, ⟨#[]⟩, x.v.size, s0⟩ by rw [cellOf, if_neg hcne, hgd]; rfl] at hrun8
        have HRUN : Hid ((Builtin.append_ #[167, 167] 167 #[v8, .slice (some ⟨w5.heap.size, 0, none⟩) 1 1]).run Tryz.prog (w5.alloc (.cells #[.string x.k, .string ⟨#[]⟩, .int .i64 (x.v.size : Int), .int .i64 s0] 230)) = .ok v8' w6) := Lib.hid hrun8
        have HAT := Lib.hid hat
        clear hrun7 hown7 hg7 hcut hB7 hps hgd hcne hrun8 hr48 ho48 hb48 hru12
        by_cases hdn : d6 = n12
        · have HF : Hid (LeafAt w w1 l r (k + 1) (.slice (some a6) (m6 - n12) 0) v7' v8' w6) := Lib.hid (by
            have := HAT.out
            rw [HB7.out, if_pos hdn, show d6 - n12 = 0 by omega] at this
            exact this)
          clear HAT HB7
          go_wp2_with (at_builtin; first | refine wpList_append_ran rfl (.tmp 45) (.tmp 48) 165 rfl _ _ _ _ rfl rfl HR7.out ?_ | refine wpList_append_ran rfl (.tmp 54) (.tmp 56) 167 rfl _ _ _ _ rfl rfl HRUN.out ?_)
          exact ⟨⟨k + 1, _, _, v8', rfl, rfl, rfl, by omega, by go_num, HF.out⟩, by simp [intOf]; omega⟩
        · have HF : Hid (LeafAt w w1 l r (k + 1) (.slice (some (a6.add n12)) (m6 - n12) (d6 - n12)) v7' v8' w6) := Lib.hid (by
            have := HAT.out
            rw [HB7.out, if_neg hdn] at this
            exact this)
          clear HAT HB7
          go_wp2_with (at_builtin; first | refine wpList_append_ran rfl (.tmp 45) (.tmp 48) 165 rfl _ _ _ _ rfl rfl HR7.out ?_ | refine wpList_append_ran rfl (.tmp 54) (.tmp 56) 167 rfl _ _ _ _ rfl rfl HRUN.out ?_)
          exact ⟨⟨k + 1, _, _, v8', rfl, rfl, rfl, by omega, by go_num, HF.out⟩, by simp [intOf]; omega⟩
    · have hke : k = n := by omega
      subst hke
      have hlk : l.take k = l := List.take_of_length_le (by rw [HLN.out]; exact Nat.le_refl _)
      rw [hlk] at HL6 HR6 HDP HCL
      clear hlk
      obtain ⟨A8, c8, rfl, hc8, hr8⟩ := HCL.out.form
      rw [leafC_len, HLN.out] at hc8 ⊢
      have HR8 := Lib.hid hr8
      have hdl : ds.length ≤ 1000 := by
        have h1 := congrArg List.length HDP.out
        rw [List.length_map, leafD_len] at h1
        have h3 := pieces_le l
        have h4 := HLN.out
        omega
      have hbz : Below wr.heap.size wr (wr.alloc (.cells (pcD ⟨own, leafP l r, A8, c8, none, 0⟩).toArray 172)) := (Below.refl _ _).alloc (Nat.le_refl _) _
      obtain ⟨v9, w9, hrun, hown9, hg9⟩ := run_append_one encD 165 172 165 _ _ ⟨_, Tryz.underlying165, rfl⟩ drInfo rfl (by omega) (by omega) (by omega) HDS.out (⟨own, leafP l r, A8, c8, none, 0⟩ : DR) (by omega) HBW.out.size
      have hll : (leafP l r).cells.length = k := (leafC_len l r).trans HLN.out
      have hpc : pcD ⟨own, leafP l r, A8, c8, none, 0⟩ = [.int .i64 own, .int .i64 1, .slice A8 k c8, .slice none 0 0, .string ⟨#[]⟩, .int .i64 0] := by
        simp only [pcD, hll]
        rfl
      rw [hpc] at hrun hbz hg9
      have HRUN : Hid ((Builtin.append_ #[165, 165] 165 #[v7, .slice (some ⟨wr.heap.size, 0, none⟩) 1 1]).run Tryz.prog (wr.alloc (.cells #[.int .i64 own, .int .i64 1, .slice A8 k c8, .slice none 0 0, .string ⟨#[]⟩, .int .i64 0] 172)) = .ok v9 w9) := Lib.hid hrun
      have HO9 := Lib.hid (hown9.mono HB1.out.size)
      have HC9 : Hid (OwnC w9 w.heap.size (.slice A8 (leafP l r).cells.length c8) (leafC l r)) := Lib.hid (by
        have h1 := HCL.out.keep (w' := w9) fun g hg hlt => (hg9.block g (Nat.lt_of_lt_of_le hlt hbz.size) fun e => own_apart_t HCL.out HDS.out (by decide) g hg e.symm).trans (hbz.block g hlt)
        exact h1.mono HB1.out.size)
      have HB9 := Lib.hid (HB1.out.trans ((((HBW.out.trans (hbz.mono HBW.out.size)).grown hg9 (Nat.le_trans HBW.out.size hbz.size) fun q hq => HDS.out.at_block q hq)).mono HB1.out.size))
      clear hr8 hrun hown9 hg9 hbz hpc hll
      go_wp2_with (at_builtin; refine wpList_append_ran rfl (.tmp 59) (.tmp 64) 165 rfl _ _ _ _ rfl rfl HRUN.out ?_)
      go_ret
      refine ⟨v9, _, rfl, HO9.out, by rw [List.map_append, HDP.out]; rfl, fun y hy => ?_, HB9.out⟩
      rcases List.mem_append.1 hy with hy | hy
      · exact HDO.out y hy _ _
      · rw [List.mem_singleton.1 hy]
        exact ⟨HC9.out, OwnL.nil_ _ _ _⟩

end Go.Proofs.YtelenboncejdaaaGreatDoor
