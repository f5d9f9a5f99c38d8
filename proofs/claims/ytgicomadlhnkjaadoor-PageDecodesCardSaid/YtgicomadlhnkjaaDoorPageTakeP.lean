/-
  The contract of page.take: what a reader takes as a page; what it is where a page's bytes lie there; conditions: the Reader lies in memory as Rdr says, at the beginning of its bytes.
-/
import Derived.Test.YtgicomadlhnkjaaDoorPageTake
namespace Go.Proofs.YtgicomadlhnkjaaDoor
open Go.RowKit Go.Sort
set_option linter.unusedVariables false

theorem but_mono {bs cs : List Nat} {a b : World} (h : Dc.But bs a b) (hs : ∀ i ∈ bs, i ∈ cs) : Dc.But cs a b := ⟨h.1, fun k hk hn => h.2 k hk (fun hm => hn (hs k hm))⟩

/-- What take answers. -/
def TakenPost (w : World) (g : Nat) (l : List UInt8) (x : Ending) (w' : World) : Prop :=
  ∃ (q : PP) (A B : Option Addr) (a b : Nat), x = .returned (pageV q A a B b) ∧ Ls pcC w' A q.cells ∧ Ls pcK w' B q.kids ∧ w.grownBy w' (some g) ∧ (0 < q.cells.length → ∀ ad, A = some ad → w.heap.size < ad.block) ∧ (0 < q.kids.length → ∀ ad, B = some ad → w.heap.size < ad.block) ∧ Bd q ∧ q.cells.length ≤ 255 ∧ q.kids.length ≤ 255 ∧
    (∀ p0, okPage p0 → l = bodyL p0 → q = p0)

/-- What follows the kind in a page's bytes. -/
def restL (p : PP) : List UInt8 := if p.kind = 1 then b8 p.cells.length :: p.cells.flatMap cellL else if p.kind = 2 then b8 p.kids.length :: p.kids.flatMap kidL else if p.kind = 3 then textL p.piece ++ be16 p.next else []
def padL (p : PP) : List UInt8 := List.replicate (252 - (contL p).length) 0
theorem bodyL_rest (p : PP) : bodyL p = b8 p.kind :: (restL p ++ padL p) := rfl

/-- The two boxes and the reader while take runs. -/
structure TkAt (w w1 : World) (kd : Int) (g d : Nat) (l : List UInt8) (v u : Value) (pc : ByteArray) (nx : Int) (p e : Int) (wr : World) : Prop where
  h0 : wr.heap[w.heap.size]? = some (.cells #[.int .i64 0, .slice none 0 0, .slice none 0 0, .string ByteArray.empty, .int .i64 0] 35 (0, 0))
  h1 : wr.heap[w1.heap.size]? = some (.cells #[.int .i64 kd, v, u, .string pc, .int .i64 nx] 35 (0, 0))
  rd : Rdr wr g d l p e
  gb : w.grownBy wr (some g)
  sz : w1.heap.size < wr.heap.size
  lt : w.heap.size < w1.heap.size

theorem TkAt.next {w w1 W w3 : World} {kd : Int} {g d : Nat} {l : List UInt8} {v u : Value} {pc : ByteArray} {nx p e p' e' : Int} (h : TkAt w w1 kd g d l v u pc nx p e W) (r : Rdr w3 g d l p' e') (g3 : W.grownBy w3 (some g)) (hg : g < w.heap.size) :
    TkAt w w1 kd g d l v u pc nx p' e' w3 :=
  ⟨(g3.block _ (by have := h.sz; have := h.lt; omega) (fun e => by have := Option.some.inj e; omega)).trans h.h0, (g3.block _ h.sz (fun e => by have := Option.some.inj e; have := h.lt; omega)).trans h.h1, r, gb_trans h.gb g3, Nat.lt_of_lt_of_le h.sz g3.size, h.lt⟩
theorem gb_own {a b c : World} {g : Nat} {row : Option Nat} (h : a.grownBy b (some g)) (k : b.grownBy c row) (hr : ∀ i, row = some i → a.heap.size ≤ i) : a.grownBy c (some g) :=
  ⟨k.os.trans h.os, k.tape.trans h.tape, k.output.trans h.output, Nat.le_trans h.size k.size, fun i hi hne => (k.block i (Nat.lt_of_lt_of_le hi h.size) (fun e => by have := hr i e.symm; omega)).trans (h.block i hi hne)⟩

/-- The loop over cells. -/
def LfAt (w w1 : World) (g d : Nat) (l : List UInt8) (n k : Nat) (v : Value) (wr : World) : Prop :=
  ∃ p e qs, TkAt w w1 1 g d l v (.slice none 0 0) ⟨#[]⟩ 0 p e wr ∧ OwnL pcC 57 4 wr (w1.heap.size + 1) v qs ∧ qs.length = k ∧ (∀ c ∈ qs, SmC c) ∧
    (∀ p0, okPage p0 → p0.kind = 1 → l = bodyL p0 → n = p0.cells.length ∧ qs = p0.cells.take k ∧ Ahead l p e ((p0.cells.drop k).flatMap cellL ++ padL p0))
/-- The loop over kids. -/
def BrAt (w w1 : World) (g d : Nat) (l : List UInt8) (n k : Nat) (v : Value) (wr : World) : Prop :=
  ∃ p e qs, TkAt w w1 2 g d l (.slice none 0 0) v ⟨#[]⟩ 0 p e wr ∧ OwnL pcK 58 2 wr (w1.heap.size + 1) v qs ∧ qs.length = k ∧ (∀ c ∈ qs, SmK c) ∧
    (∀ p0, okPage p0 → p0.kind = 2 → l = bodyL p0 → n = p0.kids.length ∧ qs = p0.kids.take k ∧ Ahead l p e ((p0.kids.drop k).flatMap kidL ++ padL p0))

/-- The end of take: the box is copied to the result. -/
theorem taken_end {w w1 wr : World} {kd nx p e : Int} {g d : Nat} {l : List UInt8} {A1 B1 : Option Addr} {n m a1 b1 : Nat} {pc : ByteArray} (q : PP) (hq : q.kind = kd ∧ q.cells.length = n ∧ q.kids.length = m ∧ q.piece = pc ∧ q.next = nx)
    (hat : TkAt w w1 kd g d l (.slice A1 n a1) (.slice B1 m b1) pc nx p e wr) (hA : Ls pcC wr A1 q.cells) (hAb : 0 < q.cells.length → ∀ ad, A1 = some ad → w.heap.size < ad.block) (hB : Ls pcK wr B1 q.kids) (hBb : 0 < q.kids.length → ∀ ad, B1 = some ad → w.heap.size < ad.block)
    (hbd : Bd q) (h255 : q.cells.length ≤ 255) (h255' : q.kids.length ≤ 255) (hcl : ∀ p0, okPage p0 → l = bodyL p0 → q = p0) (w9 : World)
    (hw9 : w9 = (((((wr.setCell ⟨w.heap.size, 0, none⟩ (.int .i64 kd)).setCell ⟨w.heap.size, 1, none⟩ (.slice A1 n a1)).setCell ⟨w.heap.size, 2, none⟩ (.slice B1 m b1)).setCell ⟨w.heap.size, 3, none⟩ (.string pc)).setCell ⟨w.heap.size, 4, none⟩ (.int .i64 nx))) :
    w9.heap[w.heap.size]? = some (.cells #[.int .i64 kd, .slice A1 n a1, .slice B1 m b1, .string pc, .int .i64 nx] 35 (0, 0)) ∧ TakenPost w g l (.returned (.agg #[.int .i64 kd, .slice A1 n a1, .slice B1 m b1, .string pc, .int .i64 nx])) w9 := by
  have hoth : ∀ i, i ≠ w.heap.size → w9.heap[i]? = wr.heap[i]? := fun i hi => by
    rw [hw9, Below.heap_setCell _ _ _ _ hi, Below.heap_setCell _ _ _ _ hi, Below.heap_setCell _ _ _ _ hi, Below.heap_setCell _ _ _ _ hi, Below.heap_setCell _ _ _ _ hi]
  have hsz9 : w9.heap.size = wr.heap.size := by rw [hw9]; simp [World.setCell]
  have keepC : ∀ {α : Type} {f : α → List Value} {A : Option Addr} {l : List α}, Ls f wr A l → (0 < l.length → ∀ ad, A = some ad → w.heap.size < ad.block) → Ls f w9 A l := fun h hne h0 => by
    obtain ⟨ad, e, hlt, hc⟩ := h h0
    refine ⟨ad, e, by omega, fun j u hu => ?_⟩
    have hb := hoth (ad.add j).block (by rw [block_of_add]; have := hne h0 ad e; omega)
    exact (World.cell?_of_block (w := wr) hb).trans (hc j u hu)
  refine ⟨by rw [hw9]; exact blk_set (blk_set (blk_set (blk_set (blk_set hat.h0 0 _) 1 _) 2 _) 3 _) 4 _, q, A1, B1, a1, b1, ?_, keepC hA hAb, keepC hB hBb, ?_, hAb, hBb, hbd, h255, h255', hcl⟩
  · unfold pageV
    rw [hq.1, hq.2.1, hq.2.2.1, hq.2.2.2.1, hq.2.2.2.2]
  · rw [hw9]
    exact gb_set (gb_set (gb_set (gb_set (gb_set hat.gb (Nat.le_refl _) _) (Nat.le_refl _) _) (Nat.le_refl _) _) (Nat.le_refl _) _) (Nat.le_refl _) _

set_option maxHeartbeats 4000000 in
set_option maxRecDepth 100000 in
theorem take_page (w : World) (g d : Nat) (l : List UInt8) (r : Rdr w g d l 0 0) (hl : l.length ≤ 60000) :
    Calls Tryd.prog 30 #[.pointer (some ⟨g, 0, none⟩)] w (TakenPost w g l) := by
  have hb0 : ∀ i, i < w.heap.size → (w.alloc (.cells #[.int .i64 0, .slice none 0 0, .slice none 0 0, .string ByteArray.empty, .int .i64 0] 35)).heap[i]? = w.heap[i]? := fun i hi => Below.heap_alloc w _ i hi
  have r0 := r.later hb0
  have hz0 := heap_alloc_new w (.cells #[.int .i64 0, .slice none 0 0, .slice none 0 0, .string ByteArray.empty, .int .i64 0] 35)
  have g0 : w.grownBy (w.alloc (.cells #[.int .i64 0, .slice none 0 0, .slice none 0 0, .string ByteArray.empty, .int .i64 0] 35)) (some g) := gb_alloc (gb_refl w _) _
  have hgw := r.lt.1
  have hdw := r.lt.2
  go_enter Tryd.func30, Tryd.ntmps30
  go_wp2_with fail
  refine (take8_any _ g d l 0 0 r0 (by omega)).mono ?_
  rintro x w1 ⟨rfl, r1, g1⟩
  obtain ⟨t, ht⟩ : ∃ t : Int, t = num (nextB l 0 0 1) := ⟨_, rfl⟩
  rw [← ht]
  have htl : 0 ≤ t ∧ t < 256 := by rw [ht]; have := num8 l 0 0; omega
  have HK : Hid (∀ p0, okPage p0 → l = bodyL p0 → t = p0.kind ∧ Ahead l (nextP l 0 0 1) (nextE l 0 0 1) (restL p0 ++ padL p0)) := fun p0 ho hb => by
    have ha : Ahead l 0 0 (b8 p0.kind :: (restL p0 ++ padL p0)) := ⟨rfl, by omega, by omega, by rw [← bodyL_rest, ← hb]; rfl⟩
    obtain ⟨h1, h2⟩ := take1_of ha
    refine ⟨?_, h2⟩
    rw [← ht] at h1
    rw [h1, b8_nat]
    have := kind_lt ho
    omega
  have hz1 : w1.heap[w.heap.size]? = some (.cells #[.int .i64 0, .slice none 0 0, .slice none 0 0, .string ByteArray.empty, .int .i64 0] 35 (0, 0)) := (g1.block _ (by simp) (fun e => by have := Option.some.inj e; omega)).trans hz0
  have g01 := gb_trans g0 g1
  have hs1 : w.heap.size < w1.heap.size := by have := g1.size; simp at this; omega
  generalize nextP l 0 0 1 = p1 at *
  generalize nextE l 0 0 1 = e1 at *
  clear ht r0 hz0 g0 g1 hb0 r
  obtain ⟨W2, hW2⟩ : ∃ W2, W2 = w1.alloc (.cells #[.int .i64 t, .slice none 0 0, .slice none 0 0, .string ⟨#[]⟩, .int .i64 0] 35) := ⟨_, rfl⟩
  have hb2 : Below w1.heap.size w1 W2 := by rw [hW2]; exact (Below.refl _ _).alloc (Nat.le_refl _) _
  have HAT2 : Hid (TkAt w w1 t g d l (.slice none 0 0) (.slice none 0 0) ⟨#[]⟩ 0 p1 e1 W2) := ⟨(hb2.block _ hs1).trans hz1, by rw [hW2]; exact heap_alloc_new w1 _, r1.later fun i hi => hb2.block i hi, gb_below g01 hb2, by rw [hW2]; simp, hs1⟩
  have HW2 := Lib.hid hW2
  have HZ1 := Lib.hid hz1
  clear hW2 r1 hz1 g01 hb2
  by_cases t1 : t = 1
  · subst t1
    have HKD : Hid (∀ p0, okPage p0 → l = bodyL p0 → (1 : Int) = p0.kind) := fun p0 ho hb => (HK.out p0 ho hb).1
    have hc0 := cell_at HAT2.out.h1 0 (.int .i64 1) rfl
    have hc1 := cell_at HAT2.out.h1 1 (.slice none 0 0) rfl
    have hc2 := cell_at HAT2.out.h1 2 (.slice none 0 0) rfl
    have hc3 := cell_at HAT2.out.h1 3 (.string ⟨#[]⟩) rfl
    have hc4 := cell_at HAT2.out.h1 4 (.int .i64 0) rfl
    have hcf1 := free_at HAT2.out.h1 1
    have hcf2 := free_at HAT2.out.h1 2
    have hcf3 := free_at HAT2.out.h1 3
    have hcf4 := free_at HAT2.out.h1 4
    have hd0 := cell_at HAT2.out.h0 0 (.int .i64 0) rfl
    have hd1 := cell_at HAT2.out.h0 1 (.slice none 0 0) rfl
    have hd2 := cell_at HAT2.out.h0 2 (.slice none 0 0) rfl
    have hd3 := cell_at HAT2.out.h0 3 (.string ByteArray.empty) rfl
    have hd4 := cell_at HAT2.out.h0 4 (.int .i64 0) rfl
    have hf0 := free_at HAT2.out.h0 0
    have hf1 := free_at HAT2.out.h0 1
    have hf2 := free_at HAT2.out.h0 2
    have hf3 := free_at HAT2.out.h0 3
    have hf4 := free_at HAT2.out.h0 4
    have hne1 : w.heap.size ≠ w1.heap.size := by have := HAT2.out.lt; omega
    have hne2 : w1.heap.size ≠ w.heap.size := by have := HAT2.out.lt; omega
    go_wp2_with fail
    rw [← HW2.out]
    refine (take8_any W2 g d l p1 e1 HAT2.out.rd (by omega)).mono ?_
    rintro x w3 ⟨rfl, r3, g3⟩
    obtain ⟨n, hn⟩ : ∃ n : Nat, n = num (nextB l p1 e1 1) := ⟨_, rfl⟩
    rw [← hn]
    have hnl : n < 256 := by rw [hn]; exact num8 _ _ _
    have HST : Hid (LfAt w w1 g d l n 0 (.slice none 0 0) w3) := by
      refine ⟨_, _, [], HAT2.out.next r3 g3 hgw, OwnL.nil_ _ _ _, rfl, fun c hc => (by cases hc), fun p0 ho hk hb => ?_⟩
      have h2 := (HK.out p0 ho hb).2
      unfold restL at h2
      rw [if_pos hk, List.cons_append] at h2
      obtain ⟨h3, h4⟩ := take1_of h2
      have hlen : p0.cells.length < 256 := by
        rcases ho with ⟨h, ho⟩ | ⟨h, ho⟩ | ⟨h, ho⟩
        · have := ho.2.2.2.1; omega
        · omega
        · omega
      refine ⟨?_, rfl, by simpa using h4⟩
      rw [← hn, b8_nat] at h3
      omega
    clear hn r3 g3 HK
    go_wp2
    go_loopw [13] (fun i wr => ∃ (k : Nat) (v : Value), k ≤ n ∧ i = .int .i64 k ∧ LfAt w w1 g d l n k v wr) (fun i _ => n - (intOf i).toNat)
    case atStart => exact ⟨0, _, Nat.zero_le _, rfl, HST.out⟩
    case round =>
      obtain ⟨k, v, hk, rfl, p, e, qs, hat, hown, hqk, hsm, hcl⟩ := hrel
      have HAT := Lib.hid hat
      have HO := Lib.hid hown
      have HSM := Lib.hid hsm
      have HCL := Lib.hid hcl
      have HQK := Lib.hid hqk
      clear hat hown hsm hcl hqk
      have hltw := HAT.out.lt
      have hszw := HAT.out.sz
      by_cases hlt : k < n
      · obtain ⟨U, hU⟩ : ∃ U, U = wr.drew := ⟨_, rfl⟩
        have rU : Rdr U g d l p e := by rw [hU]; exact HAT.out.rd
        have gU : wr.grownBy U (some g) := by rw [hU]; exact gb_below (gb_refl _ _) ((Below.refl _ _).drew)
        have hszU : U.heap.size = wr.heap.size := by rw [hU]; rfl
        have hUb : ∀ i : Nat, U.heap[i]? = wr.heap[i]? := fun i => by rw [hU]; rfl
        have hv1 := cell_at HAT.out.h1 1 v rfl
        have hnb : w1.heap.size ∉ g :: v.ownBlock.toList := by
          rw [List.mem_cons]
          rintro (h | h)
          · omega
          · have := HO.out.at_block w1.heap.size (by simpa using h)
            omega
        have q1 : ∀ q : Dc.Past (g :: v.ownBlock.toList) U, q.val.cell? ⟨w1.heap.size, 1, none⟩ = some v := fun q => (q.ok.cell (p := ⟨w1.heap.size, 1, none⟩) (by simp only; omega) hnb).trans (by rw [hU]; exact hv1)
        have HU := Lib.hid hU
        have HszU := Lib.hid hszU
        clear hU hszU hv1 hnb
        go_wp2
        refine Dc.wp_region_segs 7 (g :: v.ownBlock.toList) [([0, 1, 2], 3), ([], 4), ([], 5), ([6], 7)] [] (by kernel_rfl) (by kernel_rfl) (by kernel_rfl) (by kernel_rfl) (by kernel_rfl) (by intro c a d v w h; cases d <;> exact h) ?_
        rw [← HU.out]
        refine Dc.wpSegs_more ?_
        simp only [Dc.pick, List.getElem?_cons_zero, List.getElem?_cons_succ]
        repeat (first | go_big_quiet_step (fail) | quiet_step (fail))
        refine wpQuiet_nil ?_
        refine Dc.wpOp_heavy rfl (by rfl) (fun K hK => ?_)
        go_simp
        refine (takeCell_any U g d l p e rU hl).mono ?_
        rintro y w4 ⟨x, p4, e4, rfl, r4, g4, hxsm, hstep⟩
        have gw4 := gb_trans gU g4
        unfold cellV
        have hO4 : OwnL pcC 57 4 w4 (w1.heap.size + 1) v qs := HO.out.keep fun i hi hlt => gw4.block i hlt (fun e => by have := Option.some.inj e; have := HO.out.at_block i hi; omega)
        have hsz4 : wr.heap.size ≤ w4.heap.size := gw4.size
        obtain ⟨v', w6, hrun, hown2, hg2⟩ := run_append_one encC 32 57 32 (.agg #[.string ByteArray.empty, .string ByteArray.empty, .int .i64 0, .int .i64 0]) 48 ⟨_, Tryd.underlying32, rfl⟩ infoMadeC rfl (by omega) (by omega) (by omega) hO4 x (by rw [HQK.out]; omega) (by omega)
        have hrun' : (Builtin.append_ #[32, 32] 32 #[v, .slice (some ⟨w4.heap.size, 0, none⟩) 1 1]).run Tryd.prog (w4.alloc (.cells #[.string x.k, .string x.v, .int .i64 x.sz, .int .i64 x.st] 57)) = .ok v' w6 := hrun
        have hg2 : (w4.alloc (.cells #[.string x.k, .string x.v, .int .i64 x.sz, .int .i64 x.st] 57)).grownBy w6 v.ownBlock := hg2
        obtain ⟨Av, nv, cv, hv'⟩ : ∃ A n c, v' = Value.slice A n c := by
          obtain ⟨A', c', h, _⟩ := hown2.form
          exact ⟨_, _, _, h⟩
        have HV' := Lib.hid hv'
        have HR := Lib.hid hrun'
        have hbA : Below w4.heap.size w4 (w4.alloc (.cells #[.string x.k, .string x.v, .int .i64 x.sz, .int .i64 x.st] 57)) := (Below.refl _ _).alloc (Nat.le_refl _) _
        have hsz6 : w4.heap.size ≤ w6.heap.size := Nat.le_trans hbA.size hg2.size
        have hk6 : ∀ i : Nat, i < w1.heap.size + 1 → w6.heap[i]? = w4.heap[i]? := fun i hi => by
          rw [hg2.block i (Nat.lt_of_lt_of_le (by omega) hbA.size) (fun e => by have := hO4.at_block i e.symm; omega), hbA.block i (by omega)]
        have gb6 : w.grownBy w6 (some g) := gb_own (gb_below (gb_trans HAT.out.gb gw4) hbA) hg2 (fun i hi => by have := hO4.at_block i hi; omega)
        have hat4 := HAT.out.next r4 gw4 hgw
        have hat7 : TkAt w w1 1 g d l v' (.slice none 0 0) ⟨#[]⟩ 0 p4 e4 (w6.setCell ⟨w1.heap.size, 1, none⟩ v') :=
          ⟨(Below.heap_setCell _ _ _ _ (by simp only; omega)).trans ((hk6 _ (by omega)).trans hat4.h0), blk_set ((hk6 _ (by omega)).trans hat4.h1) 1 v',
           ⟨(Below.heap_setCell _ _ _ _ (by simp only; omega)).trans ((hk6 _ (by omega)).trans r4.1), (Below.heap_setCell _ _ _ _ (by simp only; omega)).trans ((hk6 _ (by omega)).trans r4.2.1), r4.2.2.1, r4.2.2.2⟩,
           gb_set gb6 (by simp only; omega) _, by simp [World.setCell]; omega, hltw⟩
        have hown3 : OwnL pcC 57 4 (w6.setCell ⟨w1.heap.size, 1, none⟩ v') (w1.heap.size + 1) v' (qs ++ [x]) := hown2.keep fun i hi _ => Below.heap_setCell _ _ _ _ (by have := hown2.at_block i hi; simp only; omega)
        have HLF : Hid (LfAt w w1 g d l n (k + 1) v' (w6.setCell ⟨w1.heap.size, 1, none⟩ v')) :=
          ⟨p4, e4, qs ++ [x], hat7, hown3, by rw [List.length_append, HQK.out]; rfl, fun c hc => by
            rcases List.mem_append.1 hc with h | h
            · exact HSM.out c h
            · rw [List.mem_singleton.1 h]; exact hxsm, fun p0 ho hk0 hb => by
            obtain ⟨h1, h2, h3⟩ := HCL.out p0 ho hk0 hb
            obtain ⟨c0, hc0⟩ : ∃ c0, p0.cells[k]? = some c0 := ⟨_, List.getElem?_eq_getElem (by omega)⟩
            have hok0 : okCells p0.cells := by
              rcases ho with ⟨h, ho⟩ | ⟨h, ho⟩ | ⟨h, ho⟩
              · exact ho.2.2.2
              · omega
              · omega
            have hmem := List.mem_of_getElem? hc0
            have hdrop : p0.cells.drop k = c0 :: p0.cells.drop (k + 1) := by
              rw [List.drop_eq_getElem_cons (by omega)]
              congr 1
              rw [List.getElem?_eq_getElem (by omega)] at hc0
              exact Option.some.inj hc0
            rw [hdrop, List.flatMap_cons, List.append_assoc] at h3
            obtain ⟨h4, h5⟩ := hstep c0 _ (okKeys_cells hok0.2.2 hmem) (hok0.2.1 c0 hmem) h3
            refine ⟨h1, ?_, h5⟩
            rw [take_snocA hc0, h2, h4]⟩
        have hcs := cell_at ((hk6 w1.heap.size (by omega)).trans hat4.h1) 1 v rfl
        have hfs := free_at ((hk6 w1.heap.size (by omega)).trans hat4.h1) 1
        clear hrun hrun' hO4 hat7 hown3 hown2 hat4 gb6 hv'
        refine hK _ _ (fun _ => Dc.But.of_only g4 (by simp)) ?_
        clear hK K q1
        refine Dc.wpSegs_more ?_
        simp only [Dc.pick]
        refine wpQuiet_nil ?_
        refine Dc.wpOp_heavy rfl (by rfl) (fun K hK => ?_)
        go_simp
        refine hK _ _ (fun _ => Dc.But.of_below hbA) ?_
        clear hK K
        refine Dc.wpSegs_more ?_
        simp only [Dc.pick]
        refine wpQuiet_nil ?_
        refine Dc.wpOp_heavy rfl (by rfl) (fun K hK => ?_)
        refine oper_append_ran (.tmp 16) (.tmp 19) 32 rfl _ _ _ _ rfl rfl HR.out ?_
        refine hK _ _ (fun _ => but_mono (but_of_grown hg2) (by intro i hi; exact List.mem_cons_of_mem _ hi)) ?_
        clear hK K
        refine Dc.wpSegs_more ?_
        simp only [Dc.pick, List.getElem?_cons_zero, List.getElem?_cons_succ]
        repeat (first | go_big_quiet_step (fail) | quiet_step (fail))
        refine wpQuiet_nil ?_
        refine Dc.wpOp_heavy rfl (by rfl) (fun K hK => ?_)
        have hv' := HV'.out
        subst hv'
        go_simp
        refine hK _ _ (fun h => absurd rfl h) ?_
        clear hK K
        refine Dc.wpSegs_last ?_
        simp only [Dc.pick]
        refine wpQuiet_nil ?_
        go_wp2
        exact ⟨⟨k + 1, .slice Av nv cv, by omega, by go_num, HLF.out⟩, by simp [intOf]; omega⟩
      · have he : k = n := by omega
        subst he
        have hqn := HQK.out
        obtain ⟨A1, a1, hv1, ha1, hls⟩ := HO.out.form
        rw [hqn] at hv1 ha1
        subst hv1
        have HQN := Lib.hid hqn
        clear hqn
        generalize wr = wz at *
        have hc0 := cell_at HAT.out.h1 0 (.int .i64 1) rfl
        have hc1 := cell_at HAT.out.h1 1 (.slice A1 k a1) rfl
        have hc2 := cell_at HAT.out.h1 2 (.slice none 0 0) rfl
        have hc3 := cell_at HAT.out.h1 3 (.string ⟨#[]⟩) rfl
        have hc4 := cell_at HAT.out.h1 4 (.int .i64 0) rfl
        have hcf1 := free_at HAT.out.h1 1
        have hcf2 := free_at HAT.out.h1 2
        have hcf3 := free_at HAT.out.h1 3
        have hcf4 := free_at HAT.out.h1 4
        have hd0 := cell_at HAT.out.h0 0 (.int .i64 0) rfl
        have hd1 := cell_at HAT.out.h0 1 (.slice none 0 0) rfl
        have hd2 := cell_at HAT.out.h0 2 (.slice none 0 0) rfl
        have hd3 := cell_at HAT.out.h0 3 (.string ByteArray.empty) rfl
        have hd4 := cell_at HAT.out.h0 4 (.int .i64 0) rfl
        have hf0 := free_at HAT.out.h0 0
        have hf1 := free_at HAT.out.h0 1
        have hf2 := free_at HAT.out.h0 2
        have hf3 := free_at HAT.out.h0 3
        have hf4 := free_at HAT.out.h0 4
        have hne1 : w.heap.size ≠ w1.heap.size := by have := HAT.out.lt; omega
        have hne2 : w1.heap.size ≠ w.heap.size := by have := HAT.out.lt; omega
        have HEND : Hid (∀ w9, w9 = (((((wz.setCell ⟨w.heap.size, 0, none⟩ (.int .i64 1)).setCell ⟨w.heap.size, 1, none⟩ (.slice A1 k a1)).setCell ⟨w.heap.size, 2, none⟩ (.slice none 0 0)).setCell ⟨w.heap.size, 3, none⟩ (.string ⟨#[]⟩)).setCell ⟨w.heap.size, 4, none⟩ (.int .i64 0)) → w9.heap[w.heap.size]? = some (.cells #[.int .i64 1, .slice A1 k a1, .slice none 0 0, .string ⟨#[]⟩, .int .i64 0] 35 (0, 0)) ∧ TakenPost w g l (.returned (.agg #[.int .i64 1, .slice A1 k a1, .slice none 0 0, .string ⟨#[]⟩, .int .i64 0])) w9) := fun w9 hw9 => by
          have hqn := HQN.out
          have hob : 0 < qs.length → ∀ ad, A1 = some ad → w.heap.size < ad.block := fun h0 ad e => by
            subst e
            have := HO.out.at_block ad.block (by
              rcases HO.out.2 with ⟨h, _⟩ | ⟨g', cap, cur, h, _⟩
              · cases h
              · cases h
                rfl)
            omega
          refine taken_end (B1 := none) ⟨1, qs, [], ⟨#[]⟩, 0⟩ ⟨rfl, HQN.out, rfl, rfl, rfl⟩ HAT.out hls hob (Ls.nil _ _) (fun h => absurd h (by simp)) ⟨⟨by simp only; omega, by simp only; omega⟩, ⟨by simp only; omega, by simp only; omega⟩, Nat.zero_le _, by simp only; omega, Nat.zero_le _, fun c hc => (HSM.out c hc).bd, fun c hc => by cases hc⟩ (by simp only; omega) (by simp) (fun p0 ho hb => ?_) w9 hw9
          have hkd := (HKD.out p0 ho hb).symm
          obtain ⟨h1, h2, _⟩ := HCL.out p0 ho hkd hb
          rcases ho with ⟨h, ho⟩ | ⟨h, ho⟩ | ⟨h, ho⟩
          · obtain ⟨o1, o2, o3, _⟩ := ho
            cases p0
            simp only at h1 h2 o1 o2 o3 hkd
            rw [h2, h1, List.take_length, hkd, List.eq_nil_of_length_eq_zero o1, ba_zero o2, o3]
            rfl
          · omega
          · omega
        go_wp2
        obtain ⟨w9, hw9⟩ : ∃ w9, w9 = (((((wz.setCell ⟨w.heap.size, 0, none⟩ (.int .i64 1)).setCell ⟨w.heap.size, 1, none⟩ (.slice A1 k a1)).setCell ⟨w.heap.size, 2, none⟩ (.slice none 0 0)).setCell ⟨w.heap.size, 3, none⟩ (.string ⟨#[]⟩)).setCell ⟨w.heap.size, 4, none⟩ (.int .i64 0)) := ⟨_, rfl⟩
        rw [← hw9]
        obtain ⟨hblk, hpost⟩ := HEND.out w9 hw9
        refine bodyPost_ret (v := .agg #[.int .i64 1, .slice A1 k a1, .slice none 0 0, .string ⟨#[]⟩, .int .i64 0]) ?_ rfl hpost
        have k0 := cell_at hblk 0 (.int .i64 1) rfl
        have k1 := cell_at hblk 1 (.slice A1 k a1) rfl
        have k2 := cell_at hblk 2 (.slice none 0 0) rfl
        have k3 := cell_at hblk 3 (.string ⟨#[]⟩) rfl
        have k4 := cell_at hblk 4 (.int .i64 0) rfl
        simp [results, Tryd.results30, go_sem, k0, k1, k2, k3, k4]
  by_cases t2 : t = 2
  · subst t2
    have HKD : Hid (∀ p0, okPage p0 → l = bodyL p0 → (2 : Int) = p0.kind) := fun p0 ho hb => (HK.out p0 ho hb).1
    have hc0 := cell_at HAT2.out.h1 0 (.int .i64 2) rfl
    have hc1 := cell_at HAT2.out.h1 1 (.slice none 0 0) rfl
    have hc2 := cell_at HAT2.out.h1 2 (.slice none 0 0) rfl
    have hc3 := cell_at HAT2.out.h1 3 (.string ⟨#[]⟩) rfl
    have hc4 := cell_at HAT2.out.h1 4 (.int .i64 0) rfl
    have hcf1 := free_at HAT2.out.h1 1
    have hcf2 := free_at HAT2.out.h1 2
    have hcf3 := free_at HAT2.out.h1 3
    have hcf4 := free_at HAT2.out.h1 4
    have hd0 := cell_at HAT2.out.h0 0 (.int .i64 0) rfl
    have hd1 := cell_at HAT2.out.h0 1 (.slice none 0 0) rfl
    have hd2 := cell_at HAT2.out.h0 2 (.slice none 0 0) rfl
    have hd3 := cell_at HAT2.out.h0 3 (.string ByteArray.empty) rfl
    have hd4 := cell_at HAT2.out.h0 4 (.int .i64 0) rfl
    have hf0 := free_at HAT2.out.h0 0
    have hf1 := free_at HAT2.out.h0 1
    have hf2 := free_at HAT2.out.h0 2
    have hf3 := free_at HAT2.out.h0 3
    have hf4 := free_at HAT2.out.h0 4
    have hne1 : w.heap.size ≠ w1.heap.size := by have := HAT2.out.lt; omega
    have hne2 : w1.heap.size ≠ w.heap.size := by have := HAT2.out.lt; omega
    go_wp2_with fail
    rw [← HW2.out]
    refine (take8_any W2 g d l p1 e1 HAT2.out.rd (by omega)).mono ?_
    rintro x w3 ⟨rfl, r3, g3⟩
    obtain ⟨n, hn⟩ : ∃ n : Nat, n = num (nextB l p1 e1 1) := ⟨_, rfl⟩
    rw [← hn]
    have hnl : n < 256 := by rw [hn]; exact num8 _ _ _
    have HST : Hid (BrAt w w1 g d l n 0 (.slice none 0 0) w3) := by
      refine ⟨_, _, [], HAT2.out.next r3 g3 hgw, OwnL.nil_ _ _ _, rfl, fun c hc => (by cases hc), fun p0 ho hk hb => ?_⟩
      have h2 := (HK.out p0 ho hb).2
      unfold restL at h2
      rw [if_neg (by omega), if_pos hk, List.cons_append] at h2
      obtain ⟨h3, h4⟩ := take1_of h2
      have hlen : p0.kids.length < 256 := by
        rcases ho with ⟨h, ho⟩ | ⟨h, ho⟩ | ⟨h, ho⟩
        · omega
        · have := ho.2.2.2.2.1; omega
        · omega
      refine ⟨?_, rfl, by simpa using h4⟩
      rw [← hn, b8_nat] at h3
      omega
    clear hn r3 g3 HK
    go_wp2
    go_loopw [27] (fun i wr => ∃ (k : Nat) (v : Value), k ≤ n ∧ i = .int .i64 k ∧ BrAt w w1 g d l n k v wr) (fun i _ => n - (intOf i).toNat)
    case atStart => exact ⟨0, _, Nat.zero_le _, rfl, HST.out⟩
    case round =>
      obtain ⟨k, v, hk, rfl, p, e, qs, hat, hown, hqk, hsm, hcl⟩ := hrel
      have HAT := Lib.hid hat
      have HO := Lib.hid hown
      have HSM := Lib.hid hsm
      have HCL := Lib.hid hcl
      have HQK := Lib.hid hqk
      clear hat hown hsm hcl hqk
      have hltw := HAT.out.lt
      have hszw := HAT.out.sz
      by_cases hlt : k < n
      · obtain ⟨U, hU⟩ : ∃ U, U = wr.drew := ⟨_, rfl⟩
        have rU : Rdr U g d l p e := by rw [hU]; exact HAT.out.rd
        have gU : wr.grownBy U (some g) := by rw [hU]; exact gb_below (gb_refl _ _) ((Below.refl _ _).drew)
        have hszU : U.heap.size = wr.heap.size := by rw [hU]; rfl
        have hUb : ∀ i : Nat, U.heap[i]? = wr.heap[i]? := fun i => by rw [hU]; rfl
        have hv1 := cell_at HAT.out.h1 2 v rfl
        have hnb : w1.heap.size ∉ g :: v.ownBlock.toList := by
          rw [List.mem_cons]
          rintro (h | h)
          · omega
          · have := HO.out.at_block w1.heap.size (by simpa using h)
            omega
        have q1 : ∀ q : Dc.Past (g :: v.ownBlock.toList) U, q.val.cell? ⟨w1.heap.size, 2, none⟩ = some v := fun q => (q.ok.cell (p := ⟨w1.heap.size, 2, none⟩) (by simp only; omega) hnb).trans (by rw [hU]; exact hv1)
        have HU := Lib.hid hU
        have HszU := Lib.hid hszU
        clear hU hszU hv1 hnb
        go_wp2
        refine Dc.wp_region_segs 10 (g :: v.ownBlock.toList) [([0, 1, 2, 4], 3), ([], 5), ([6], 7), ([], 8), ([9], 10)] [] (by kernel_rfl) (by kernel_rfl) (by kernel_rfl) (by kernel_rfl) (by kernel_rfl) (by intro c a d v w h; cases d <;> exact h) ?_
        rw [← HU.out]
        refine Dc.wpSegs_more ?_
        simp only [Dc.pick, List.getElem?_cons_zero, List.getElem?_cons_succ]
        repeat (first | go_big_quiet_step (fail) | quiet_step (fail))
        refine wpQuiet_nil ?_
        refine Dc.wpOp_heavy rfl (by rfl) (fun K hK => ?_)
        go_simp
        refine (text_any U g d l p e 24 rU (by omega)).mono ?_
        rintro y w3' ⟨rfl, r3, g3⟩
        obtain ⟨xk, hxk⟩ : ∃ k : ByteArray, k = ⟨(txtS l p e 24).toArray⟩ := ⟨_, rfl⟩
        rw [← hxk]
        have hxs : xk.size ≤ 60000 := by
          rw [hxk]
          have := txtS_small l p e 24
          show (txtS l p e 24).toArray.size ≤ _
          simp
          omega
        have HT3 : Hid (∀ (s : ByteArray) rest, s.size ≤ 24 → Ahead l p e (textL s ++ rest) → xk = s ∧ Ahead l (txtP l p e 24) (txtE l p e 24) rest) := fun s rest hs ha => by
          obtain ⟨h1, h2⟩ := text_str (most := 24) (s := s) (by omega) (by omega) ha
          exact ⟨hxk.trans h1, h2⟩
        generalize txtP l p e 24 = p3 at *
        generalize txtE l p e 24 = e3 at *
        clear hxk
        refine hK _ _ (fun _ => Dc.But.of_only g3 (by simp)) ?_
        clear hK K
        refine Dc.wpSegs_more ?_
        simp only [Dc.pick]
        refine wpQuiet_nil ?_
        refine Dc.wpOp_heavy rfl (by rfl) (fun K hK => ?_)
        go_simp
        refine (take16_any w3' g d l p3 e3 r3 (by omega)).mono ?_
        rintro y w4 ⟨rfl, r4, g4⟩
        obtain ⟨z, hz⟩ : ∃ z : Int, z = num (nextB l p3 e3 2) := ⟨_, rfl⟩
        rw [← hz]
        have hzl : 0 ≤ z ∧ z < 65536 := by rw [hz]; have := num16 l p3 e3; omega
        have HT4 : Hid (∀ x rest, 0 ≤ x → x < 65536 → Ahead l p3 e3 (be16 x ++ rest) → z = x ∧ Ahead l (nextP l p3 e3 2) (nextE l p3 e3 2) rest) := fun x rest h0 h1 ha => by
          rw [hz]
          exact take2_of h0 h1 ha
        generalize nextP l p3 e3 2 = p4 at *
        generalize nextE l p3 e3 2 = e4 at *
        clear hz
        have hxsm : SmK ⟨xk, z⟩ := ⟨by simp only; omega, hzl⟩
        have gw4 := gb_trans (gb_trans gU g3) g4
        have hO4 : OwnL pcK 58 2 w4 (w1.heap.size + 1) v qs := HO.out.keep fun i hi hlt => gw4.block i hlt (fun e => by have := Option.some.inj e; have := HO.out.at_block i hi; omega)
        have hsz4 : wr.heap.size ≤ w4.heap.size := gw4.size
        obtain ⟨v', w6, hrun, hown2, hg2⟩ := run_append_one encK 33 58 33 (.agg #[.string ByteArray.empty, .int .i64 0]) 24 ⟨_, Tryd.underlying33, rfl⟩ infoMadeK rfl (by omega) (by omega) (by omega) hO4 (⟨xk, z⟩ : PK) (by rw [HQK.out]; omega) (by omega)
        have hrun' : (Builtin.append_ #[33, 33] 33 #[v, .slice (some ⟨w4.heap.size, 0, none⟩) 1 1]).run Tryd.prog (w4.alloc (.cells #[.string xk, .int .i64 z] 58)) = .ok v' w6 := hrun
        have hg2 : (w4.alloc (.cells #[.string xk, .int .i64 z] 58)).grownBy w6 v.ownBlock := hg2
        obtain ⟨Av, nv, cv, hv'⟩ : ∃ A n c, v' = Value.slice A n c := by
          obtain ⟨A', c', h, _⟩ := hown2.form
          exact ⟨_, _, _, h⟩
        have HV' := Lib.hid hv'
        have HR := Lib.hid hrun'
        have hbA : Below w4.heap.size w4 (w4.alloc (.cells #[.string xk, .int .i64 z] 58)) := (Below.refl _ _).alloc (Nat.le_refl _) _
        have hsz6 : w4.heap.size ≤ w6.heap.size := Nat.le_trans hbA.size hg2.size
        have hk6 : ∀ i : Nat, i < w1.heap.size + 1 → w6.heap[i]? = w4.heap[i]? := fun i hi => by
          rw [hg2.block i (Nat.lt_of_lt_of_le (by omega) hbA.size) (fun e => by have := hO4.at_block i e.symm; omega), hbA.block i (by omega)]
        have gb6 : w.grownBy w6 (some g) := gb_own (gb_below (gb_trans HAT.out.gb gw4) hbA) hg2 (fun i hi => by have := hO4.at_block i hi; omega)
        have hat4 := HAT.out.next r4 gw4 hgw
        have hat7 : TkAt w w1 2 g d l (.slice none 0 0) v' ⟨#[]⟩ 0 p4 e4 (w6.setCell ⟨w1.heap.size, 2, none⟩ v') :=
          ⟨(Below.heap_setCell _ _ _ _ (by simp only; omega)).trans ((hk6 _ (by omega)).trans hat4.h0), blk_set ((hk6 _ (by omega)).trans hat4.h1) 2 v',
           ⟨(Below.heap_setCell _ _ _ _ (by simp only; omega)).trans ((hk6 _ (by omega)).trans r4.1), (Below.heap_setCell _ _ _ _ (by simp only; omega)).trans ((hk6 _ (by omega)).trans r4.2.1), r4.2.2.1, r4.2.2.2⟩,
           gb_set gb6 (by simp only; omega) _, by simp [World.setCell]; omega, hltw⟩
        have hown3 : OwnL pcK 58 2 (w6.setCell ⟨w1.heap.size, 2, none⟩ v') (w1.heap.size + 1) v' (qs ++ [(⟨xk, z⟩ : PK)]) := hown2.keep fun i hi _ => Below.heap_setCell _ _ _ _ (by have := hown2.at_block i hi; simp only; omega)
        have HLF : Hid (BrAt w w1 g d l n (k + 1) v' (w6.setCell ⟨w1.heap.size, 2, none⟩ v')) :=
          ⟨p4, e4, qs ++ [(⟨xk, z⟩ : PK)], hat7, hown3, by rw [List.length_append, HQK.out]; rfl, fun c hc => by
            rcases List.mem_append.1 hc with h | h
            · exact HSM.out c h
            · rw [List.mem_singleton.1 h]; exact hxsm, fun p0 ho hk0 hb => by
            obtain ⟨h1, h2, h3⟩ := HCL.out p0 ho hk0 hb
            obtain ⟨c0, hc0⟩ : ∃ c0, p0.kids[k]? = some c0 := ⟨_, List.getElem?_eq_getElem (by omega)⟩
            have hok0 : okKids p0.kids := by
              rcases ho with ⟨h, ho⟩ | ⟨h, ho⟩ | ⟨h, ho⟩
              · omega
              · exact ho.2.2.2
              · omega
            have hmem := List.mem_of_getElem? hc0
            have hdrop : p0.kids.drop k = c0 :: p0.kids.drop (k + 1) := by
              rw [List.drop_eq_getElem_cons (by omega)]
              congr 1
              rw [List.getElem?_eq_getElem (by omega)] at hc0
              exact Option.some.inj hc0
            rw [hdrop, List.flatMap_cons, List.append_assoc, show kidL c0 = textL c0.k ++ be16 c0.pg from rfl, List.append_assoc] at h3
            have hkk := okKeys_kids hok0.2.2.2 hmem
            have hnn := okNum_lt (hok0.2.2.1 c0 hmem)
            obtain ⟨h4, h5⟩ := HT3.out c0.k _ hkk.2 h3
            obtain ⟨h6, h7⟩ := HT4.out c0.pg _ hnn.1 hnn.2 h5
            refine ⟨h1, ?_, h7⟩
            rw [take_snocA hc0, h2, h4, h6]⟩
        have hcs := cell_at ((hk6 w1.heap.size (by omega)).trans hat4.h1) 2 v rfl
        have hfs := free_at ((hk6 w1.heap.size (by omega)).trans hat4.h1) 2
        clear hrun hrun' hO4 hat7 hown3 hown2 hat4 gb6 hv'
        refine hK _ _ (fun _ => Dc.But.of_only g4 (by simp)) ?_
        clear hK K q1
        refine Dc.wpSegs_more ?_
        simp only [Dc.pick, List.getElem?_cons_zero, List.getElem?_cons_succ]
        repeat (first | go_big_quiet_step (fail) | quiet_step (fail))
        refine wpQuiet_nil ?_
        refine Dc.wpOp_heavy rfl (by rfl) (fun K hK => ?_)
        go_simp
        refine hK _ _ (fun _ => Dc.But.of_below hbA) ?_
        clear hK K
        refine Dc.wpSegs_more ?_
        simp only [Dc.pick]
        refine wpQuiet_nil ?_
        refine Dc.wpOp_heavy rfl (by rfl) (fun K hK => ?_)
        refine oper_append_ran (.tmp 30) (.tmp 36) 33 rfl _ _ _ _ rfl rfl HR.out ?_
        refine hK _ _ (fun _ => but_mono (but_of_grown hg2) (by intro i hi; exact List.mem_cons_of_mem _ hi)) ?_
        clear hK K
        refine Dc.wpSegs_more ?_
        simp only [Dc.pick, List.getElem?_cons_zero, List.getElem?_cons_succ]
        repeat (first | go_big_quiet_step (fail) | quiet_step (fail))
        refine wpQuiet_nil ?_
        refine Dc.wpOp_heavy rfl (by rfl) (fun K hK => ?_)
        have hv' := HV'.out
        subst hv'
        go_simp
        refine hK _ _ (fun h => absurd rfl h) ?_
        clear hK K
        refine Dc.wpSegs_last ?_
        simp only [Dc.pick]
        refine wpQuiet_nil ?_
        go_wp2
        exact ⟨⟨k + 1, .slice Av nv cv, by omega, by go_num, HLF.out⟩, by simp [intOf]; omega⟩
      · have he : k = n := by omega
        subst he
        have hqn := HQK.out
        obtain ⟨A1, a1, hv1, ha1, hls⟩ := HO.out.form
        rw [hqn] at hv1 ha1
        subst hv1
        have HQN := Lib.hid hqn
        clear hqn
        generalize wr = wz at *
        have hc0 := cell_at HAT.out.h1 0 (.int .i64 2) rfl
        have hc1 := cell_at HAT.out.h1 1 (.slice none 0 0) rfl
        have hc2 := cell_at HAT.out.h1 2 (.slice A1 k a1) rfl
        have hc3 := cell_at HAT.out.h1 3 (.string ⟨#[]⟩) rfl
        have hc4 := cell_at HAT.out.h1 4 (.int .i64 0) rfl
        have hcf1 := free_at HAT.out.h1 1
        have hcf2 := free_at HAT.out.h1 2
        have hcf3 := free_at HAT.out.h1 3
        have hcf4 := free_at HAT.out.h1 4
        have hd0 := cell_at HAT.out.h0 0 (.int .i64 0) rfl
        have hd1 := cell_at HAT.out.h0 1 (.slice none 0 0) rfl
        have hd2 := cell_at HAT.out.h0 2 (.slice none 0 0) rfl
        have hd3 := cell_at HAT.out.h0 3 (.string ByteArray.empty) rfl
        have hd4 := cell_at HAT.out.h0 4 (.int .i64 0) rfl
        have hf0 := free_at HAT.out.h0 0
        have hf1 := free_at HAT.out.h0 1
        have hf2 := free_at HAT.out.h0 2
        have hf3 := free_at HAT.out.h0 3
        have hf4 := free_at HAT.out.h0 4
        have hne1 : w.heap.size ≠ w1.heap.size := by have := HAT.out.lt; omega
        have hne2 : w1.heap.size ≠ w.heap.size := by have := HAT.out.lt; omega
        have HEND : Hid (∀ w9, w9 = (((((wz.setCell ⟨w.heap.size, 0, none⟩ (.int .i64 2)).setCell ⟨w.heap.size, 1, none⟩ (.slice none 0 0)).setCell ⟨w.heap.size, 2, none⟩ (.slice A1 k a1)).setCell ⟨w.heap.size, 3, none⟩ (.string ⟨#[]⟩)).setCell ⟨w.heap.size, 4, none⟩ (.int .i64 0)) → w9.heap[w.heap.size]? = some (.cells #[.int .i64 2, .slice none 0 0, .slice A1 k a1, .string ⟨#[]⟩, .int .i64 0] 35 (0, 0)) ∧ TakenPost w g l (.returned (.agg #[.int .i64 2, .slice none 0 0, .slice A1 k a1, .string ⟨#[]⟩, .int .i64 0])) w9) := fun w9 hw9 => by
          have hqn := HQN.out
          have hob : 0 < qs.length → ∀ ad, A1 = some ad → w.heap.size < ad.block := fun h0 ad e => by
            subst e
            have := HO.out.at_block ad.block (by
              rcases HO.out.2 with ⟨h, _⟩ | ⟨g', cap, cur, h, _⟩
              · cases h
              · cases h
                rfl)
            omega
          refine taken_end (B1 := A1) ⟨2, [], qs, ⟨#[]⟩, 0⟩ ⟨rfl, rfl, HQN.out, rfl, rfl⟩ HAT.out (Ls.nil _ _) (fun h => absurd h (by simp)) hls hob ⟨⟨by simp only; omega, by simp only; omega⟩, ⟨by simp only; omega, by simp only; omega⟩, Nat.zero_le _, Nat.zero_le _, by simp only; omega, fun c hc => (by cases hc), fun c hc => (HSM.out c hc).bd⟩ (by simp) (by simp only; omega) (fun p0 ho hb => ?_) w9 hw9
          have hkd := (HKD.out p0 ho hb).symm
          obtain ⟨h1, h2, _⟩ := HCL.out p0 ho hkd hb
          rcases ho with ⟨h, ho⟩ | ⟨h, ho⟩ | ⟨h, ho⟩
          · omega
          · obtain ⟨o1, o2, o3, _⟩ := ho
            cases p0
            simp only at h1 h2 o1 o2 o3 hkd
            rw [h2, h1, List.take_length, hkd, List.eq_nil_of_length_eq_zero o1, ba_zero o2, o3]
            rfl
          · omega
        go_wp2
        obtain ⟨w9, hw9⟩ : ∃ w9, w9 = (((((wz.setCell ⟨w.heap.size, 0, none⟩ (.int .i64 2)).setCell ⟨w.heap.size, 1, none⟩ (.slice none 0 0)).setCell ⟨w.heap.size, 2, none⟩ (.slice A1 k a1)).setCell ⟨w.heap.size, 3, none⟩ (.string ⟨#[]⟩)).setCell ⟨w.heap.size, 4, none⟩ (.int .i64 0)) := ⟨_, rfl⟩
        rw [← hw9]
        obtain ⟨hblk, hpost⟩ := HEND.out w9 hw9
        refine bodyPost_ret (v := .agg #[.int .i64 2, .slice none 0 0, .slice A1 k a1, .string ⟨#[]⟩, .int .i64 0]) ?_ rfl hpost
        have k0 := cell_at hblk 0 (.int .i64 2) rfl
        have k1 := cell_at hblk 1 (.slice none 0 0) rfl
        have k2 := cell_at hblk 2 (.slice A1 k a1) rfl
        have k3 := cell_at hblk 3 (.string ⟨#[]⟩) rfl
        have k4 := cell_at hblk 4 (.int .i64 0) rfl
        simp [results, Tryd.results30, go_sem, k0, k1, k2, k3, k4]
  by_cases t3 : t = 3
  · subst t3
    have hc0 := cell_at HAT2.out.h1 0 (.int .i64 3) rfl
    have hc1 := cell_at HAT2.out.h1 1 (.slice none 0 0) rfl
    have hc2 := cell_at HAT2.out.h1 2 (.slice none 0 0) rfl
    have hc3 := cell_at HAT2.out.h1 3 (.string ⟨#[]⟩) rfl
    have hc4 := cell_at HAT2.out.h1 4 (.int .i64 0) rfl
    have hcf1 := free_at HAT2.out.h1 1
    have hcf2 := free_at HAT2.out.h1 2
    have hcf3 := free_at HAT2.out.h1 3
    have hcf4 := free_at HAT2.out.h1 4
    have hd0 := cell_at HAT2.out.h0 0 (.int .i64 0) rfl
    have hd1 := cell_at HAT2.out.h0 1 (.slice none 0 0) rfl
    have hd2 := cell_at HAT2.out.h0 2 (.slice none 0 0) rfl
    have hd3 := cell_at HAT2.out.h0 3 (.string ByteArray.empty) rfl
    have hd4 := cell_at HAT2.out.h0 4 (.int .i64 0) rfl
    have hf0 := free_at HAT2.out.h0 0
    have hf1 := free_at HAT2.out.h0 1
    have hf2 := free_at HAT2.out.h0 2
    have hf3 := free_at HAT2.out.h0 3
    have hf4 := free_at HAT2.out.h0 4
    have hne1 : w.heap.size ≠ w1.heap.size := by have := HAT2.out.lt; omega
    have hne2 : w1.heap.size ≠ w.heap.size := by have := HAT2.out.lt; omega
    go_wp2_with fail
    rw [← HW2.out]
    refine (text_any W2 g d l p1 e1 240 HAT2.out.rd (by omega)).mono ?_
    rintro y w3 ⟨rfl, r3, g3⟩
    obtain ⟨pc, hpc⟩ : ∃ k : ByteArray, k = ⟨(txtS l p1 e1 240).toArray⟩ := ⟨_, rfl⟩
    rw [← hpc]
    have hxs : pc.size ≤ 60000 := by
      rw [hpc]
      have := txtS_small l p1 e1 240
      show (txtS l p1 e1 240).toArray.size ≤ _
      simp
      omega
    have HT3 : Hid (∀ (s : ByteArray) rest, s.size ≤ 240 → Ahead l p1 e1 (textL s ++ rest) → pc = s ∧ Ahead l (txtP l p1 e1 240) (txtE l p1 e1 240) rest) := fun s rest hs ha => by
      obtain ⟨h1, h2⟩ := text_str (most := 240) (s := s) (by omega) (by omega) ha
      exact ⟨hpc.trans h1, h2⟩
    generalize txtP l p1 e1 240 = p3 at *
    generalize txtE l p1 e1 240 = e3 at *
    clear hpc
    go_wp2_with fail
    refine (take16_any w3 g d l p3 e3 r3 (by omega)).mono ?_
    rintro y w4 ⟨rfl, r4, g4⟩
    obtain ⟨z, hz⟩ : ∃ z : Int, z = num (nextB l p3 e3 2) := ⟨_, rfl⟩
    rw [← hz]
    have hzl : 0 ≤ z ∧ z < 65536 := by rw [hz]; have := num16 l p3 e3; omega
    have HT4 : Hid (∀ x rest, 0 ≤ x → x < 65536 → Ahead l p3 e3 (be16 x ++ rest) → z = x ∧ Ahead l (nextP l p3 e3 2) (nextE l p3 e3 2) rest) := fun x rest h0 h1 ha => by
      rw [hz]
      exact take2_of h0 h1 ha
    generalize nextP l p3 e3 2 = p4 at *
    generalize nextE l p3 e3 2 = e4 at *
    clear hz hc0 hc1 hc2 hc3 hc4 hcf1 hcf2 hcf3 hcf4 hd0 hd1 hd2 hd3 hd4 hf0 hf1 hf2 hf3 hf4 hne1 hne2
    have HAT4 : Hid (TkAt w w1 3 g d l (.slice none 0 0) (.slice none 0 0) ⟨#[]⟩ 0 p4 e4 w4) := (HAT2.out.next r3 g3 hgw).next r4 g4 hgw
    have hc0 := cell_at HAT4.out.h1 0 (.int .i64 3) rfl
    have hc1 := cell_at HAT4.out.h1 1 (.slice none 0 0) rfl
    have hc2 := cell_at HAT4.out.h1 2 (.slice none 0 0) rfl
    have hc3 := cell_at HAT4.out.h1 3 (.string ⟨#[]⟩) rfl
    have hc4 := cell_at HAT4.out.h1 4 (.int .i64 0) rfl
    have hcf1 := free_at HAT4.out.h1 1
    have hcf2 := free_at HAT4.out.h1 2
    have hcf3 := free_at HAT4.out.h1 3
    have hcf4 := free_at HAT4.out.h1 4
    have hd0 := cell_at HAT4.out.h0 0 (.int .i64 0) rfl
    have hd1 := cell_at HAT4.out.h0 1 (.slice none 0 0) rfl
    have hd2 := cell_at HAT4.out.h0 2 (.slice none 0 0) rfl
    have hd3 := cell_at HAT4.out.h0 3 (.string ByteArray.empty) rfl
    have hd4 := cell_at HAT4.out.h0 4 (.int .i64 0) rfl
    have hf0 := free_at HAT4.out.h0 0
    have hf1 := free_at HAT4.out.h0 1
    have hf2 := free_at HAT4.out.h0 2
    have hf3 := free_at HAT4.out.h0 3
    have hf4 := free_at HAT4.out.h0 4
    have hne1 : w.heap.size ≠ w1.heap.size := by have := HAT4.out.lt; omega
    have hne2 : w1.heap.size ≠ w.heap.size := by have := HAT4.out.lt; omega
    have hltw := HAT4.out.lt
    obtain ⟨wz, hwz⟩ : ∃ wz, wz = (w4.setCell ⟨w1.heap.size, 3, none⟩ (.string pc)).setCell ⟨w1.heap.size, 4, none⟩ (.int .i64 z) := ⟨_, rfl⟩
    have HATZ : Hid (TkAt w w1 3 g d l (.slice none 0 0) (.slice none 0 0) pc z p4 e4 wz) := by
      rw [hwz]
      exact ⟨(Below.heap_setCell _ _ _ _ (by simp only; omega)).trans ((Below.heap_setCell _ _ _ _ (by simp only; omega)).trans HAT4.out.h0), blk_set (blk_set HAT4.out.h1 3 _) 4 _,
        ⟨(Below.heap_setCell _ _ _ _ (by simp only; omega)).trans ((Below.heap_setCell _ _ _ _ (by simp only; omega)).trans r4.1), (Below.heap_setCell _ _ _ _ (by simp only; omega)).trans ((Below.heap_setCell _ _ _ _ (by simp only; omega)).trans r4.2.1), r4.2.2.1, r4.2.2.2⟩,
        gb_set (gb_set HAT4.out.gb (by simp only; omega) _) (by simp only; omega) _, by simp [World.setCell]; exact HAT4.out.sz, HAT4.out.lt⟩
    have HEND : Hid (∀ w9, w9 = (((((wz.setCell ⟨w.heap.size, 0, none⟩ (.int .i64 3)).setCell ⟨w.heap.size, 1, none⟩ (.slice none 0 0)).setCell ⟨w.heap.size, 2, none⟩ (.slice none 0 0)).setCell ⟨w.heap.size, 3, none⟩ (.string pc)).setCell ⟨w.heap.size, 4, none⟩ (.int .i64 z)) → w9.heap[w.heap.size]? = some (.cells #[.int .i64 3, .slice none 0 0, .slice none 0 0, .string pc, .int .i64 z] 35 (0, 0)) ∧ TakenPost w g l (.returned (.agg #[.int .i64 3, .slice none 0 0, .slice none 0 0, .string pc, .int .i64 z])) w9) := fun w9 hw9 => by
      refine taken_end ⟨3, [], [], pc, z⟩ ⟨rfl, rfl, rfl, rfl, rfl⟩ HATZ.out (Ls.nil _ _) (fun h => absurd h (by simp)) (Ls.nil _ _) (fun h => absurd h (by simp)) ⟨⟨by simp only; omega, by simp only; omega⟩, ⟨by simp only; omega, by simp only; omega⟩, by simp only; omega, Nat.zero_le _, Nat.zero_le _, fun c hc => (by cases hc), fun c hc => (by cases hc)⟩ (by simp) (by simp) (fun p0 ho hb => ?_) w9 hw9
      obtain ⟨hkd, ha⟩ := HK.out p0 ho hb
      have hkd := hkd.symm
      unfold restL at ha
      rw [if_neg (by omega), if_neg (by omega), if_pos hkd, List.append_assoc] at ha
      rcases ho with ⟨h, ho⟩ | ⟨h, ho⟩ | ⟨h, ho⟩
      · omega
      · omega
      · obtain ⟨o1, o2, o3, o4, o5⟩ := ho
        obtain ⟨h1, h2⟩ := HT3.out p0.piece _ o4 ha
        have hn0 : 0 ≤ p0.next ∧ p0.next < 65536 := by
          rcases o5 with h | h
          · omega
          · exact okNum_lt h
        obtain ⟨h3, h4⟩ := HT4.out p0.next _ hn0.1 hn0.2 h2
        cases p0
        simp only at h1 h3 o1 o2 hkd
        rw [h1, h3, hkd, List.eq_nil_of_length_eq_zero o1, List.eq_nil_of_length_eq_zero o2]
    have HWZ := Lib.hid hwz
    clear hwz
    go_wp2
    rw [← HWZ.out]
    obtain ⟨w9, hw9⟩ : ∃ w9, w9 = (((((wz.setCell ⟨w.heap.size, 0, none⟩ (.int .i64 3)).setCell ⟨w.heap.size, 1, none⟩ (.slice none 0 0)).setCell ⟨w.heap.size, 2, none⟩ (.slice none 0 0)).setCell ⟨w.heap.size, 3, none⟩ (.string pc)).setCell ⟨w.heap.size, 4, none⟩ (.int .i64 z)) := ⟨_, rfl⟩
    rw [← hw9]
    obtain ⟨hblk, hpost⟩ := HEND.out w9 hw9
    refine bodyPost_ret (v := .agg #[.int .i64 3, .slice none 0 0, .slice none 0 0, .string pc, .int .i64 z]) ?_ rfl hpost
    have k0 := cell_at hblk 0 (.int .i64 3) rfl
    have k1 := cell_at hblk 1 (.slice none 0 0) rfl
    have k2 := cell_at hblk 2 (.slice none 0 0) rfl
    have k3 := cell_at hblk 3 (.string pc) rfl
    have k4 := cell_at hblk 4 (.int .i64 z) rfl
    simp [results, Tryd.results30, go_sem, k0, k1, k2, k3, k4]
  have hd0 := cell_at HZ1.out 0 (.int .i64 0) rfl
  have hd1 := cell_at HZ1.out 1 (.slice none 0 0) rfl
  have hd2 := cell_at HZ1.out 2 (.slice none 0 0) rfl
  have hd3 := cell_at HZ1.out 3 (.string ByteArray.empty) rfl
  have hd4 := cell_at HZ1.out 4 (.int .i64 0) rfl
  have hf0 := free_at HZ1.out 0
  have hf1 := free_at HZ1.out 1
  have hf2 := free_at HZ1.out 2
  have hf3 := free_at HZ1.out 3
  have hf4 := free_at HZ1.out 4
  obtain ⟨wz, hwz⟩ : ∃ wz, wz = W2 := ⟨_, rfl⟩
  have HEND : Hid (∀ w9, w9 = (((((wz.setCell ⟨w.heap.size, 0, none⟩ (.int .i64 t)).setCell ⟨w.heap.size, 1, none⟩ (.slice none 0 0)).setCell ⟨w.heap.size, 2, none⟩ (.slice none 0 0)).setCell ⟨w.heap.size, 3, none⟩ (.string ⟨#[]⟩)).setCell ⟨w.heap.size, 4, none⟩ (.int .i64 0)) → w9.heap[w.heap.size]? = some (.cells #[.int .i64 t, .slice none 0 0, .slice none 0 0, .string ⟨#[]⟩, .int .i64 0] 35 (0, 0)) ∧ TakenPost w g l (.returned (.agg #[.int .i64 t, .slice none 0 0, .slice none 0 0, .string ⟨#[]⟩, .int .i64 0])) w9) := fun w9 hw9 => by
    rw [hwz] at hw9
    refine taken_end ⟨t, [], [], ⟨#[]⟩, 0⟩ ⟨rfl, rfl, rfl, rfl, rfl⟩ HAT2.out (Ls.nil _ _) (fun h => absurd h (by simp)) (Ls.nil _ _) (fun h => absurd h (by simp)) ⟨⟨by simp only; omega, by simp only; omega⟩, ⟨by simp only; omega, by simp only; omega⟩, Nat.zero_le _, Nat.zero_le _, Nat.zero_le _, fun c hc => (by cases hc), fun c hc => (by cases hc)⟩ (by simp) (by simp) (fun p0 ho hb => ?_) w9 hw9
    obtain ⟨hkd, _⟩ := HK.out p0 ho hb
    rcases ho with ⟨h, _⟩ | ⟨h, _⟩ | ⟨h, _⟩ <;> omega
  have HWZ := Lib.hid (hwz.trans HW2.out)
  clear hwz
  go_wp2
  obtain ⟨w9, hw9⟩ : ∃ w9, w9 = ((((((w1.setCell ⟨w.heap.size, 0, none⟩ (.int .i64 t)).setCell ⟨w.heap.size, 1, none⟩ (.slice none 0 0)).setCell ⟨w.heap.size, 2, none⟩ (.slice none 0 0)).setCell ⟨w.heap.size, 3, none⟩ (.string ⟨#[]⟩)).setCell ⟨w.heap.size, 4, none⟩ (.int .i64 0)).alloc (.cells #[.int .i64 t, .slice none 0 0, .slice none 0 0, .string ⟨#[]⟩, .int .i64 0] 35)) := ⟨_, rfl⟩
  rw [← hw9]
  obtain ⟨hblk, hpost⟩ := HEND.out w9 (by
    rw [hw9, HWZ.out, World.setCell_alloc_past _ _ _ _ hs1, World.setCell_alloc_past _ _ _ _ (by simpa [World.setCell] using hs1), World.setCell_alloc_past _ _ _ _ (by simpa [World.setCell] using hs1), World.setCell_alloc_past _ _ _ _ (by simpa [World.setCell] using hs1), World.setCell_alloc_past _ _ _ _ (by simpa [World.setCell] using hs1)])
  refine bodyPost_ret (v := .agg #[.int .i64 t, .slice none 0 0, .slice none 0 0, .string ⟨#[]⟩, .int .i64 0]) ?_ rfl hpost
  have k0 := cell_at hblk 0 (.int .i64 t) rfl
  have k1 := cell_at hblk 1 (.slice none 0 0) rfl
  have k2 := cell_at hblk 2 (.slice none 0 0) rfl
  have k3 := cell_at hblk 3 (.string ⟨#[]⟩) rfl
  have k4 := cell_at hblk 4 (.int .i64 0) rfl
  simp [results, Tryd.results30, go_sem, k0, k1, k2, k3, k4]

end Go.Proofs.YtgicomadlhnkjaaDoor
