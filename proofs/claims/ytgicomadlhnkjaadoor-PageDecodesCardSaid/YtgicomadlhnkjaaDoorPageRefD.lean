/-
  The contract of the document's answer Decode: the page of which the bytes are the encoding, or the error's number; conditions: the string is small.
-/
import Derived.Test.YtgicomadlhnkjaaDoorPageDecode
import Derived.Test.YtgicomadlhnkjaaDoorPageTold
import Derived.Test.YtgicomadlhnkjaaDoorPageRefB
namespace Go.Proofs.YtgicomadlhnkjaaDoor
open Go.RowKit Go.Sort
set_option linter.unusedVariables false

/-- The two boxes and the reader while the document's Decode runs. -/
structure RkAt (w w1 : World) (kd : Int) (g : Nat) (S : ByteArray) (v u : Value) (pc : ByteArray) (nx : Int) (p e : Int) (wr : World) : Prop where
  h0 : wr.heap[w.heap.size]? = some (.cells #[.int .i64 0, .slice none 0 0, .slice none 0 0, .string ⟨#[]⟩, .int .i64 0] 25 (0, 0))
  h1 : wr.heap[w1.heap.size]? = some (.cells #[.int .i64 kd, v, u, .string pc, .int .i64 nx] 25 (0, 0))
  rd : RefR wr g S p e
  bel : Below w.heap.size w wr
  sz : w1.heap.size < wr.heap.size
  gl : w.heap.size < g
  gr : g < w1.heap.size
theorem RkAt.next {w w1 W w3 : World} {kd : Int} {g : Nat} {S : ByteArray} {v u : Value} {pc : ByteArray} {nx p e p' e' : Int} (h : RkAt w w1 kd g S v u pc nx p e W) (r : RefR w3 g S p' e') (g3 : W.grownBy w3 (some g)) :
    RkAt w w1 kd g S v u pc nx p' e' w3 :=
  ⟨(g3.block _ (by have := h.sz; have := h.gl; have := h.gr; omega) (fun e => by have := Option.some.inj e; have := h.gl; omega)).trans h.h0, (g3.block _ h.sz (fun e => by have := Option.some.inj e; have := h.gr; omega)).trans h.h1, r,
   below_only h.bel g3 h.bel.size (Nat.le_of_lt h.gl), Nat.lt_of_lt_of_le h.sz g3.size, h.gl, h.gr⟩
theorem RkAt.below {w w1 W w3 : World} {kd : Int} {g : Nat} {S : ByteArray} {v u : Value} {pc : ByteArray} {nx p e : Int} (h : RkAt w w1 kd g S v u pc nx p e W) (hb : Below W.heap.size W w3) : RkAt w w1 kd g S v u pc nx p e w3 :=
  ⟨(hb.block _ (by have := h.sz; have := h.gl; have := h.gr; omega)).trans h.h0, (hb.block _ h.sz).trans h.h1, ⟨(hb.block _ (by have := h.sz; have := h.gr; omega)).trans h.rd.1, h.rd.2⟩, bthen h.bel hb, Nat.lt_of_lt_of_le h.sz hb.size, h.gl, h.gr⟩
/-- A store into another block. -/
theorem RkAt.set {w w1 W : World} {kd : Int} {g : Nat} {S : ByteArray} {v u : Value} {pc : ByteArray} {nx p e : Int} (h : RkAt w w1 kd g S v u pc nx p e W) {c : Nat} (hc : w1.heap.size < c) (i : Nat) (x : Value) : RkAt w w1 kd g S v u pc nx p e (W.setCell ⟨c, i, none⟩ x) :=
  ⟨(Below.heap_setCell _ _ _ _ (by have := h.gl; have := h.gr; simp only; omega)).trans h.h0, (Below.heap_setCell _ _ _ _ (by simp only; omega)).trans h.h1, ⟨(Below.heap_setCell _ _ _ _ (by have := h.gr; simp only; omega)).trans h.rd.1, h.rd.2⟩,
   below_set h.bel (by have := h.gl; have := h.gr; simp only; omega) _, by simpa [World.setCell] using h.sz, h.gl, h.gr⟩

/-- The loop over cells; over kids. -/
def RLf (w w1 : World) (g : Nat) (S : ByteArray) (n k : Nat) (v : Value) (wr : World) : Prop :=
  ∃ p e qs, RkAt w w1 1 g S v (.slice none 0 0) ⟨#[]⟩ 0 p e wr ∧ OwnL pcC 52 4 wr (w1.heap.size + 1) v qs ∧ qs.length = k ∧ (∀ c ∈ qs, SmC c) ∧
    (∀ p0, okPage p0 → p0.kind = 1 → S.data.toList = bodyL p0 → n = p0.cells.length ∧ qs = p0.cells.take k ∧ Ahead S.data.toList p e ((p0.cells.drop k).flatMap cellL ++ padL p0))
def RBr (w w1 : World) (g : Nat) (S : ByteArray) (n k : Nat) (v : Value) (wr : World) : Prop :=
  ∃ p e qs, RkAt w w1 2 g S (.slice none 0 0) v ⟨#[]⟩ 0 p e wr ∧ OwnL pcK 54 2 wr (w1.heap.size + 1) v qs ∧ qs.length = k ∧ (∀ c ∈ qs, SmK c) ∧
    (∀ p0, okPage p0 → p0.kind = 2 → S.data.toList = bodyL p0 → n = p0.kids.length ∧ qs = p0.kids.take k ∧ Ahead S.data.toList p e ((p0.kids.drop k).flatMap kidL ++ padL p0))

theorem box_noneR {w w' : World} (h0 : w'.heap[w.heap.size]? = some (.cells #[.int .i64 0, .slice none 0 0, .slice none 0 0, .string ⟨#[]⟩, .int .i64 0] 25 (0, 0))) (c0 c1 c2 c3 c4 : Value) :
    ((((((w'.setCell ⟨w.heap.size, 0, none⟩ c0).setCell ⟨w.heap.size, 1, none⟩ c1).setCell ⟨w.heap.size, 2, none⟩ c2).setCell ⟨w.heap.size, 3, none⟩ c3).setCell ⟨w.heap.size, 4, none⟩ c4)).heap[w.heap.size]? = some (.cells #[c0, c1, c2, c3, c4] 25 (0, 0)) :=
  blk_set (blk_set (blk_set (blk_set (blk_set h0 0 _) 1 _) 2 _) 3 _) 4 _

set_option maxHeartbeats 3000000 in
set_option maxRecDepth 100000 in
theorem refDecode_any (b : ByteArray) (w : World) (hb : b.size ≤ 1000000) :
    Calls Tryd.prog 17 #[.string b] w (DecPost w b.data.toList) := by
  obtain ⟨W, hW⟩ : ∃ W, W = w.alloc (.cells #[.int .i64 0, .slice none 0 0, .slice none 0 0, .string ⟨#[]⟩, .int .i64 0] 25) := ⟨_, rfl⟩
  have hbW : Below w.heap.size w W := by rw [hW]; exact (Below.refl _ _).alloc (Nat.le_refl _) _
  have hcc : ∀ w', Below W.heap.size W w' → w'.heap[w.heap.size]? = some (.cells #[.int .i64 0, .slice none 0 0, .slice none 0 0, .string ⟨#[]⟩, .int .i64 0] 25 (0, 0)) := fun w' h => (h.block _ (by rw [hW]; simp)).trans (by rw [hW]; exact heap_alloc_new w _)
  have HCC := Lib.hid hcc
  have HW := Lib.hid hW
  have hsW : w.heap.size < W.heap.size := by rw [hW]; simp
  clear hW hcc
  by_cases hlen : b.size = 256
  case neg =>
    have hlen' : b.data.toList.length ≠ 256 := hlen
    have HPO : Hid (DecPost w b.data.toList (.returned (.tuple #[.agg #[.int .i64 0, .slice none 0 0, .slice none 0 0, .string ⟨#[]⟩, .int .i64 0], .int .i64 4])) (w.alloc (.cells #[.int .i64 0, .slice none 0 0, .slice none 0 0, .string ⟨#[]⟩, .int .i64 0] 25))) := dec_none (by rw [← HW.out]; exact hbW) (.inl ⟨hlen', rfl, rfl⟩)
    go_enter Tryd.func17, Tryd.ntmps17
    go_wp2
    refine bodyPost_ret (v := .tuple #[.agg #[.int .i64 0, .slice none 0 0, .slice none 0 0, .string ⟨#[]⟩, .int .i64 0], .int .i64 4]) ?_ rfl HPO.out
    simp [results, Tryd.results17, go_sem]
  have HN : Hid (b.data.toList.length = 256) := hlen
  go_enter Tryd.func17, Tryd.ntmps17
  go_wp2_with fail
  rw [← HW.out]
  refine (refOpen_any b W (by omega)).mono ?_
  rintro x wo ⟨rfl, hbo⟩
  have hbwo := bthen hbW hbo
  by_cases hsl : Crc.isSealed b.data.toList = true
  case neg =>
    have hsl' : Crc.isSealed b.data.toList = false := by simpa using hsl
    rw [show openF b = false from decide_eq_false fun h => hsl h.2]
    have hd0 := cell_at (HCC.out _ hbo) 0 (.int .i64 0) rfl
    have hd1 := cell_at (HCC.out _ hbo) 1 (.slice none 0 0) rfl
    have hd2 := cell_at (HCC.out _ hbo) 2 (.slice none 0 0) rfl
    have hd3 := cell_at (HCC.out _ hbo) 3 (.string ⟨#[]⟩) rfl
    have hd4 := cell_at (HCC.out _ hbo) 4 (.int .i64 0) rfl
    have hf0 := free_at (HCC.out _ hbo) 0
    have hf1 := free_at (HCC.out _ hbo) 1
    have hf2 := free_at (HCC.out _ hbo) 2
    have hf3 := free_at (HCC.out _ hbo) 3
    have hf4 := free_at (HCC.out _ hbo) 4
    have HPO : Hid (DecPost w b.data.toList (.returned (.tuple #[.agg #[.int .i64 0, .slice none 0 0, .slice none 0 0, .string ⟨#[]⟩, .int .i64 0], .int .i64 5])) ((((((wo.setCell ⟨w.heap.size, 0, none⟩ (.int .i64 0)).setCell ⟨w.heap.size, 1, none⟩ (.slice none 0 0)).setCell ⟨w.heap.size, 2, none⟩ (.slice none 0 0)).setCell ⟨w.heap.size, 3, none⟩ (.string ⟨#[]⟩)).setCell ⟨w.heap.size, 4, none⟩ (.int .i64 0)))) := dec_none (box_below hbwo _ _ _ _ _) (.inr (.inl ⟨HN.out, hsl', rfl, rfl⟩))
    have HBK := Lib.hid (box_noneR (HCC.out _ hbo) (.int .i64 0) (.slice none 0 0) (.slice none 0 0) (.string ⟨#[]⟩) (.int .i64 0))
    go_wp2
    refine bodyPost_ret (v := .tuple #[.agg #[.int .i64 0, .slice none 0 0, .slice none 0 0, .string ⟨#[]⟩, .int .i64 0], .int .i64 5]) ?_ rfl HPO.out
    have k0 := cell_at HBK.out 0 (.int .i64 0) rfl
    have k1 := cell_at HBK.out 1 (.slice none 0 0) rfl
    have k2 := cell_at HBK.out 2 (.slice none 0 0) rfl
    have k3 := cell_at HBK.out 3 (.string ⟨#[]⟩) rfl
    have k4 := cell_at HBK.out 4 (.int .i64 0) rfl
    simp [results, Tryd.results17, go_sem, k0, k1, k2, k3, k4]
  have HSL := Lib.hid hsl
  rw [show openF b = true from decide_eq_true ⟨by omega, hsl⟩]
  obtain ⟨S, hS⟩ : ∃ S, S = openS b := ⟨_, rfl⟩
  rw [← hS]
  have hSl : S.data.toList = b.data.toList.take 252 := by
    rw [hS, show openS b = b.extract 0 (b.size - 4) from if_pos ⟨by omega, hsl⟩, hlen]
    exact cut_str b 252 (by omega)
  have hSs : S.size = 252 := by
    show S.data.toList.length = 252
    rw [hSl, List.length_take, HN.out]
    rfl
  have HTK : Hid (∀ p0, okPage p0 → encL p0 = b.data.toList → S.data.toList = bodyL p0) := fun p0 hp0 he0 => by
    have := Crc.sealed_take (bodyL p0)
    rw [bodyL_len hp0] at this
    rw [hSl, ← he0]
    exact this
  clear hS hSl hsl
  obtain ⟨W2, hW2⟩ : ∃ W2, W2 = wo.alloc (.cells #[.string S, .int .i64 0, .int .i64 0] 76) := ⟨_, rfl⟩
  obtain ⟨g, hg⟩ : ∃ g, g = wo.heap.size := ⟨_, rfl⟩
  have hb2 : Below wo.heap.size wo W2 := by rw [hW2]; exact (Below.refl _ _).alloc (Nat.le_refl _) _
  have r2 : RefR W2 g S 0 0 := ⟨by rw [hg, hW2]; exact heap_alloc_new wo _, by omega, by omega⟩
  have hbo2 := bthen hbo hb2
  have hgl : w.heap.size < g := by rw [hg]; have := hbo.size; omega
  have hg2 : g < W2.heap.size := by rw [hg, hW2]; simp
  have hgW : W.heap.size ≤ g := by rw [hg]; exact hbo.size
  have HW2 := Lib.hid hW2
  have HG := Lib.hid hg
  clear hW2 hg
  go_wp2_with fail
  rw [← HW2.out, ← HG.out]
  refine (rtake_any W2 g S 0 0 1 r2 (by omega) (by omega) (by omega)).mono ?_
  rintro x w1 ⟨rfl, r1, g1⟩
  obtain ⟨t, ht⟩ : ∃ t : Int, t = num (nextB S.data.toList 0 0 1) := ⟨_, rfl⟩
  rw [← ht]
  have htl : 0 ≤ t ∧ t < 256 := by rw [ht]; have := num8 S.data.toList 0 0; omega
  have HK : Hid (∀ p0, okPage p0 → S.data.toList = bodyL p0 → t = p0.kind ∧ Ahead S.data.toList (nextP S.data.toList 0 0 1) (nextE S.data.toList 0 0 1) (restL p0 ++ padL p0)) := fun p0 ho hb => by
    have ha : Ahead S.data.toList 0 0 (b8 p0.kind :: (restL p0 ++ padL p0)) := ⟨rfl, by omega, by omega, by rw [← bodyL_rest, ← hb]; rfl⟩
    obtain ⟨h1, h2⟩ := take1_of ha
    refine ⟨?_, h2⟩
    rw [← ht] at h1
    rw [h1, b8_nat]
    have := kind_lt ho
    omega
  have HE1 : Hid (nextE S.data.toList 0 0 1 = 0) := by
    show nextE S.data.toList 0 0 1 = 0
    have h2 : S.data.toList.length = 252 := hSs
    unfold nextE
    rw [if_pos rfl, if_pos (by rw [h2]; omega)]
  have hbw1 : Below W.heap.size W w1 := below_only hbo2 g1 hbo2.size hgW
  have hg1 : g < w1.heap.size := Nat.lt_of_lt_of_le hg2 g1.size
  generalize nextP S.data.toList 0 0 1 = p1 at *
  generalize nextE S.data.toList 0 0 1 = e1 at *
  clear ht r2 hb2 g1 hbo2
  obtain ⟨W3, hW3⟩ : ∃ W3, W3 = w1.alloc (.cells #[.int .i64 t, .slice none 0 0, .slice none 0 0, .string ⟨#[]⟩, .int .i64 0] 25) := ⟨_, rfl⟩
  have hb3 : Below w1.heap.size w1 W3 := by rw [hW3]; exact (Below.refl _ _).alloc (Nat.le_refl _) _
  have HAT3 : Hid (RkAt w w1 t g S (.slice none 0 0) (.slice none 0 0) ⟨#[]⟩ 0 p1 e1 W3) := ⟨HCC.out _ (bthen hbw1 hb3), by rw [hW3]; exact heap_alloc_new w1 _, ⟨(hb3.block _ hg1).trans r1.1, r1.2⟩, bthen hbW (bthen hbw1 hb3), by rw [hW3]; simp, hgl, hg1⟩
  have HW3 := Lib.hid hW3
  have HZ1 := Lib.hid (HCC.out _ hbw1)
  have HR1 := Lib.hid r1
  clear hW3 hb3 r1 hbw1
  by_cases t1 : t = 1
  case pos =>
    subst t1
    go_wp2_with fail
    rw [← HW3.out]
    refine (rtake_any W3 g S p1 e1 1 HAT3.out.rd (by omega) (by omega) (by omega)).mono ?_
    rintro x w4 ⟨rfl, r4, g4⟩
    obtain ⟨n, hn⟩ : ∃ n : Nat, n = num (nextB S.data.toList p1 e1 1) := ⟨_, rfl⟩
    rw [← hn]
    have hnl : n < 256 := by rw [hn]; exact num8 _ _ _
    have HST : Hid (RLf w w1 g S n 0 (.slice none 0 0) w4) := by
      refine ⟨_, _, [], HAT3.out.next r4 g4, OwnL.nil_ _ _ _, rfl, fun c hc => (by cases hc), fun p0 ho hk hb => ?_⟩
      have h2 := (HK.out p0 ho hb).2
      unfold restL at h2
      rw [if_pos hk, List.cons_append] at h2
      obtain ⟨h3, h4⟩ := take1_of h2
      have hlen : p0.cells.length < 256 := by
        rcases ho with ⟨h, ho⟩ | ⟨h, ho⟩ | ⟨h, ho⟩
        · have := ho.2.2.2.1; omega
        · omega
        · omega
      refine ⟨?_, rfl, by simpa using h4⟩
      rw [← hn, b8_nat] at h3
      omega
    have HKD : Hid (∀ p0, okPage p0 → S.data.toList = bodyL p0 → (1 : Int) = p0.kind) := fun p0 ho hb => (HK.out p0 ho hb).1
    clear hn r4 g4 HK
    go_wp2
    go_loopw [9] (fun i wr => ∃ (k : Nat) (v : Value), k ≤ n ∧ i = .int .i64 k ∧ RLf w w1 g S n k v wr) (fun i _ => n - (intOf i).toNat)
    case atStart => exact ⟨0, _, Nat.zero_le _, rfl, HST.out⟩
    case round =>
      obtain ⟨k, v, hk, rfl, p, e, qs, hat, hown, hqk, hsm, hcl⟩ := hrel
      have HAT := Lib.hid hat
      have HO := Lib.hid hown
      have HSM := Lib.hid hsm
      have HCL0 := Lib.hid hcl
      have HQK := Lib.hid hqk
      clear hat hown hsm hcl hqk
      by_cases hlt : k < n
      case pos =>
        go_wp2_with fail
        refine (rtext_any wr g S p e 24 HAT.out.rd (by omega)).mono ?_
        rintro x w5 ⟨rfl, r_, g_⟩
        obtain ⟨xk, hxk⟩ : ∃ k : ByteArray, k = ⟨(txtS S.data.toList p e 24).toArray⟩ := ⟨_, rfl⟩
        rw [← hxk]
        have hsxk : xk.size ≤ 60000 := by
          rw [hxk]
          have := txtS_small S.data.toList p e 24
          show (txtS S.data.toList p e 24).toArray.size ≤ _
          have h2 : S.data.toList.length = 252 := hSs
          simp
          omega
        have HTxk : Hid (∀ (s : ByteArray) rest, s.size ≤ 24 → Ahead S.data.toList p e (textL s ++ rest) → xk = s ∧ Ahead S.data.toList (txtP S.data.toList p e 24) (txtE S.data.toList p e 24) rest) := fun s rest hs ha => by
          obtain ⟨h1, h2⟩ := text_str (most := 24) (s := s) (by omega) (by omega) ha
          exact ⟨hxk.trans h1, h2⟩
        generalize txtP S.data.toList p e 24 = p5 at *
        generalize txtE S.data.toList p e 24 = e5 at *
        clear hxk
        have HAT5 := Lib.hid (HAT.out.next r_ g_)
        have HO5 : Hid (OwnL pcC 52 4 w5 (w1.heap.size + 1) v qs) := HO.out.keep fun j hj hlt => g_.block j hlt (fun e => by have := Option.some.inj e; have := HO.out.at_block j hj; have := HAT.out.gr; omega)
        obtain ⟨cb, hcb0⟩ : ∃ cb, cb = w5.heap.size := ⟨_, rfl⟩
        have hcb : w1.heap.size < cb := by rw [hcb0]; exact HAT5.out.sz
        have HOV5 : ∀ j, v.ownBlock = some j → j < cb := fun j hj => by rw [hcb0]; exact HO5.out.lt j hj
        have HOV := Lib.hid HOV5
        obtain ⟨W6, hW6⟩ : ∃ W6, W6 = w5.alloc (.cells #[.string xk, .string ⟨#[]⟩, .int .i64 0, .int .i64 0] 52) := ⟨_, rfl⟩
        have hb56 : Below w5.heap.size w5 W6 := by rw [hW6]; exact (Below.refl _ _).alloc (Nat.le_refl _) _
        have HAT6 := Lib.hid (HAT5.out.below hb56)
        have HO6 : Hid (OwnL pcC 52 4 W6 (w1.heap.size + 1) v qs) := HO5.out.below hb56
        have hcb6 : W6.heap[cb]? = some (.cells #[.string xk, .string ⟨#[]⟩, .int .i64 0, .int .i64 0] 52 (0, 0)) := by rw [hcb0, hW6]; exact heap_alloc_new w5 _
        have hcl6 : cb < W6.heap.size := by rw [hcb0, hW6]; simp
        have HW6 := Lib.hid hW6
        have HCB0 := Lib.hid hcb0
        clear hW6 hcb0 HOV5 r_ g_ hb56
        go_wp2_with fail
        rw [← HW6.out]
        refine (rtake_any W6 g S p5 e5 1 HAT6.out.rd (by omega) (by omega) (by omega)).mono ?_
        rintro x w7 ⟨rfl, r_, g_⟩
        obtain ⟨tg, htg⟩ : ∃ t : Int, t = num (nextB S.data.toList p5 e5 1) := ⟨_, rfl⟩
        rw [← htg]
        have HTt : Hid (∀ c0 rest, Ahead S.data.toList p5 e5 (tailL c0 ++ rest) → (c0.sz = 0 ∧ tg = 0 ∧ Ahead S.data.toList (nextP S.data.toList p5 e5 1) (nextE S.data.toList p5 e5 1) (textL c0.v ++ rest)) ∨ (c0.sz ≠ 0 ∧ tg = 1 ∧ Ahead S.data.toList (nextP S.data.toList p5 e5 1) (nextE S.data.toList p5 e5 1) (be16 c0.sz ++ (be16 c0.st ++ rest)))) := fun c0 rest ha => by
          unfold tailL at ha
          by_cases hc : c0.sz = 0
          · rw [if_pos hc, List.cons_append] at ha
            obtain ⟨h1, h2⟩ := take1_of ha
            refine .inl ⟨hc, ?_, h2⟩
            rw [← htg] at h1
            simpa using h1
          · rw [if_neg hc, List.cons_append, List.append_assoc] at ha
            obtain ⟨h1, h2⟩ := take1_of ha
            refine .inr ⟨hc, ?_, h2⟩
            rw [← htg] at h1
            have : ((1 : UInt8).toNat : Int) = 1 := rfl
            omega
        generalize nextP S.data.toList p5 e5 1 = p7 at *
        generalize nextE S.data.toList p5 e5 1 = e7 at *
        clear htg
        have HAT7 := Lib.hid (HAT6.out.next r_ g_)
        have HO7 : Hid (OwnL pcC 52 4 w7 (w1.heap.size + 1) v qs) := HO6.out.keep fun j hj hlt => g_.block j hlt (fun e => by have := Option.some.inj e; have := HO6.out.at_block j hj; have := HAT6.out.gr; omega)
        have hcb7 : w7.heap[cb]? = some (.cells #[.string xk, .string ⟨#[]⟩, .int .i64 0, .int .i64 0] 52 (0, 0)) := (g_.block _ hcl6 (fun e => by have := Option.some.inj e; have := HAT.out.gr; omega)).trans hcb6
        have hcl7 : cb < w7.heap.size := Nat.lt_of_lt_of_le hcl6 g_.size
        rw [← HCB0.out]
        clear r_ g_ hcb6
        by_cases tg0 : tg = 0
        case pos =>
          subst tg0
          go_wp2_with fail
          refine (rtext_any w7 g S p7 e7 24 HAT7.out.rd (by omega)).mono ?_
          rintro x w8 ⟨rfl, r_, g_⟩
          obtain ⟨xv, hxv⟩ : ∃ k : ByteArray, k = ⟨(txtS S.data.toList p7 e7 24).toArray⟩ := ⟨_, rfl⟩
          rw [← hxv]
          have hsxv : xv.size ≤ 60000 := by
            rw [hxv]
            have := txtS_small S.data.toList p7 e7 24
            show (txtS S.data.toList p7 e7 24).toArray.size ≤ _
            have h2 : S.data.toList.length = 252 := hSs
            simp
            omega
          have HTxv : Hid (∀ (s : ByteArray) rest, s.size ≤ 24 → Ahead S.data.toList p7 e7 (textL s ++ rest) → xv = s ∧ Ahead S.data.toList (txtP S.data.toList p7 e7 24) (txtE S.data.toList p7 e7 24) rest) := fun s rest hs ha => by
            obtain ⟨h1, h2⟩ := text_str (most := 24) (s := s) (by omega) (by omega) ha
            exact ⟨hxv.trans h1, h2⟩
          generalize txtP S.data.toList p7 e7 24 = p8 at *
          generalize txtE S.data.toList p7 e7 24 = e8 at *
          clear hxv
          have HAT8 := Lib.hid (HAT7.out.next r_ g_)
          have HO8 : Hid (OwnL pcC 52 4 w8 (w1.heap.size + 1) v qs) := HO7.out.keep fun j hj hlt => g_.block j hlt (fun e => by have := Option.some.inj e; have := HO7.out.at_block j hj; have := HAT7.out.gr; omega)
          have hcb8 : w8.heap[cb]? = some (.cells #[.string xk, .string ⟨#[]⟩, .int .i64 0, .int .i64 0] 52 (0, 0)) := (g_.block _ hcl7 (fun e => by have := Option.some.inj e; have := HAT.out.gr; omega)).trans hcb7
          have cc0 := cell_at hcb8 0 (.string xk) rfl
          have cc1 := cell_at hcb8 1 (.string ⟨#[]⟩) rfl
          have cc2 := cell_at hcb8 2 (.int .i64 0) rfl
          have cc3 := cell_at hcb8 3 (.int .i64 0) rfl
          have ccf1 := free_at hcb8 1
          have ccf2 := free_at hcb8 2
          have ccf3 := free_at hcb8 3
          have hxsm : SmC ⟨xk, xv, 0, 0⟩ := ⟨by simp only; omega, by simp only; omega, by simp only; omega, by simp only; omega⟩
          clear r_ g_ hcb7
          obtain ⟨W7, hW7⟩ : ∃ W7, W7 = w8.setCell ⟨cb, 1, none⟩ (.string xv) := ⟨_, rfl⟩
          have hat7 : RkAt w w1 1 g S v (.slice none 0 0) ⟨#[]⟩ 0 p8 e8 W7 := by rw [hW7]; exact HAT8.out.set hcb _ _
          have own7 : OwnL pcC 52 4 W7 (w1.heap.size + 1) v qs := by rw [hW7]; exact HO8.out.keep fun j hj hlt => Below.heap_setCell _ _ _ _ (by have := HOV.out j hj; simp only; omega)
          have hs7 : W7.heap.size = w8.heap.size := by rw [hW7]; simp [World.setCell]
          obtain ⟨v', w9, hrun, hown9, hg9⟩ := run_append_one encC 22 52 22 (.agg #[.string ByteArray.empty, .string ByteArray.empty, .int .i64 0, .int .i64 0]) 48 ⟨_, Tryd.underlying22, rfl⟩ infoToldC rfl (by omega) (by omega) (by omega) own7 (⟨xk, xv, 0, 0⟩ : PC) (by rw [HQK.out]; omega) (by have := hat7.sz; omega)
          have hrun' : (Builtin.append_ #[22, 22] 22 #[v, .slice (some ⟨W7.heap.size, 0, none⟩) 1 1]).run Tryd.prog (W7.alloc (.cells #[.string xk, .string xv, .int .i64 0, .int .i64 0] 52)) = .ok v' w9 := hrun
          have hg9 : (W7.alloc (.cells #[.string xk, .string xv, .int .i64 0, .int .i64 0] 52)).grownBy w9 v.ownBlock := hg9
          obtain ⟨Av, nv, cv, hv'⟩ : ∃ A n c, v' = Value.slice A n c := by
            obtain ⟨A', c', h, _⟩ := hown9.form
            exact ⟨_, _, _, h⟩
          have hbA : Below W7.heap.size W7 (W7.alloc (.cells #[.string xk, .string xv, .int .i64 0, .int .i64 0] 52)) := (Below.refl _ _).alloc (Nat.le_refl _) _
          have hszA : W7.heap.size ≤ w9.heap.size := Nat.le_trans hbA.size hg9.size
          have hsz7 := hat7.sz
          have hgl := hat7.gl
          have hgr := hat7.gr
          have hk9 : ∀ j : Nat, j < w1.heap.size + 1 → w9.heap[j]? = W7.heap[j]? := fun j hj => by
            rw [hg9.block j (Nat.lt_of_lt_of_le (by omega) hbA.size) (fun e => by have := own7.at_block j e.symm; omega), hbA.block j (by omega)]
          have hbel9 : Below w.heap.size w w9 := (bthen hat7.bel hbA).grown hg9 (bthen hat7.bel hbA).size (fun j hj => by have := own7.at_block j hj; omega)
          have hat10 : RkAt w w1 1 g S v' (.slice none 0 0) ⟨#[]⟩ 0 p8 e8 (w9.setCell ⟨w1.heap.size, 1, none⟩ v') :=
            ⟨(Below.heap_setCell _ _ _ _ (by simp only; omega)).trans ((hk9 _ (by omega)).trans hat7.h0), blk_set ((hk9 _ (by omega)).trans hat7.h1) 1 v',
             ⟨(Below.heap_setCell _ _ _ _ (by simp only; omega)).trans ((hk9 _ (by omega)).trans hat7.rd.1), hat7.rd.2⟩, below_set hbel9 (by simp only; omega) _, by simp [World.setCell]; omega, hgl, hgr⟩
          have hown10 : OwnL pcC 52 4 (w9.setCell ⟨w1.heap.size, 1, none⟩ v') (w1.heap.size + 1) v' (qs ++ [(⟨xk, xv, 0, 0⟩ : PC)]) := hown9.keep fun j hj _ => Below.heap_setCell _ _ _ _ (by have := hown9.at_block j hj; simp only; omega)
          have HLF : Hid (RLf w w1 g S n (k + 1) v' (w9.setCell ⟨w1.heap.size, 1, none⟩ v')) :=
            ⟨p8, e8, qs ++ [(⟨xk, xv, 0, 0⟩ : PC)], hat10, hown10, by rw [List.length_append, HQK.out]; rfl, fun c hc => by
              rcases List.mem_append.1 hc with h | h
              · exact HSM.out c h
              · rw [List.mem_singleton.1 h]; exact hxsm, fun p0 ho hk0 hb => by
              obtain ⟨h1, h2, h3⟩ := HCL0.out p0 ho hk0 hb
              obtain ⟨c0, hc0⟩ : ∃ c0, p0.cells[k]? = some c0 := ⟨_, List.getElem?_eq_getElem (by omega)⟩
              have hok0 : okCells p0.cells := by
                rcases ho with ⟨h, ho⟩ | ⟨h, ho⟩ | ⟨h, ho⟩
                · exact ho.2.2.2
                · omega
                · omega
              have hmem := List.mem_of_getElem? hc0
              have hdrop : p0.cells.drop k = c0 :: p0.cells.drop (k + 1) := by
                rw [List.drop_eq_getElem_cons (by omega)]
                congr 1
                rw [List.getElem?_eq_getElem (by omega)] at hc0
                exact Option.some.inj hc0
              rw [hdrop, List.flatMap_cons, List.append_assoc, show cellL c0 = textL c0.k ++ tailL c0 from rfl, List.append_assoc] at h3
              have hkk := okKeys_cells hok0.2.2 hmem
              have hbb := hok0.2.1 c0 hmem
              obtain ⟨h4, h5⟩ := HTxk.out c0.k _ hkk.2 h3
              rcases HTt.out c0 _ h5 with ⟨b1, _, h6⟩ | ⟨_, h6, _⟩
              · rcases hbb with ⟨_, b2, b3⟩ | ⟨_, b2, _⟩
                · obtain ⟨h7, h8⟩ := HTxv.out c0.v _ b3 h6
                  refine ⟨h1, ?_, h8⟩
                  rw [take_snocA hc0, h2]
                  cases c0
                  simp only at h4 h7 b1 b2
                  rw [h4, h7, b1, b2]
                · omega
              · omega⟩
          have hcs := cell_at ((hk9 w1.heap.size (by omega)).trans hat7.h1) 1 v rfl
          have hfs := free_at ((hk9 w1.heap.size (by omega)).trans hat7.h1) 1
          have hpv := cell_at HAT8.out.h1 1 v rfl
          have hne5 : w1.heap.size ≠ cb := by omega
          have hne6 : cb ≠ w1.heap.size := by omega
          rw [hs7, hW7] at hrun'
          subst hv'
          have HR := Lib.hid hrun'
          clear hrun hrun' own7 hat10 hown10 hown9 hat7 hW7 hs7 hsz7 hszA
          go_wp2_with (at_builtin; refine wpList_append_ran rfl (.tmp 59) (.tmp 61) 22 rfl _ _ _ _ rfl rfl HR.out ?_)
          exact ⟨⟨k + 1, .slice Av nv cv, by omega, by go_num, HLF.out⟩, by simp [intOf]; omega⟩
        have htb : (tg == 0) = false := by simpa using tg0
        go_wp2_with fail
        refine (rtake_any w7 g S p7 e7 2 HAT7.out.rd (by omega) (by omega) (by omega)).mono ?_
        rintro x w8 ⟨rfl, r_, g_⟩
        obtain ⟨z, hz⟩ : ∃ z : Int, z = num (nextB S.data.toList p7 e7 2) := ⟨_, rfl⟩
        rw [← hz]
        have hlz : 0 ≤ z ∧ z < 65536 := by rw [hz]; have := num16 S.data.toList p7 e7; omega
        have HTz : Hid (∀ x rest, 0 ≤ x → x < 65536 → Ahead S.data.toList p7 e7 (be16 x ++ rest) → z = x ∧ Ahead S.data.toList (nextP S.data.toList p7 e7 2) (nextE S.data.toList p7 e7 2) rest) := fun x rest h0 h1 ha => by
          rw [hz]
          exact take2_of h0 h1 ha
        generalize nextP S.data.toList p7 e7 2 = p8 at *
        generalize nextE S.data.toList p7 e7 2 = e8 at *
        clear hz
        have HAT8 := Lib.hid (HAT7.out.next r_ g_)
        have HO8 : Hid (OwnL pcC 52 4 w8 (w1.heap.size + 1) v qs) := HO7.out.keep fun j hj hlt => g_.block j hlt (fun e => by have := Option.some.inj e; have := HO7.out.at_block j hj; have := HAT7.out.gr; omega)
        have hcb8 : w8.heap[cb]? = some (.cells #[.string xk, .string ⟨#[]⟩, .int .i64 0, .int .i64 0] 52 (0, 0)) := (g_.block _ hcl7 (fun e => by have := Option.some.inj e; have := HAT.out.gr; omega)).trans hcb7
        have cc0 := cell_at hcb8 0 (.string xk) rfl
        have cc1 := cell_at hcb8 1 (.string ⟨#[]⟩) rfl
        have cc2 := cell_at hcb8 2 (.int .i64 0) rfl
        have cc3 := cell_at hcb8 3 (.int .i64 0) rfl
        have ccf1 := free_at hcb8 1
        have ccf2 := free_at hcb8 2
        have ccf3 := free_at hcb8 3
        have hcl8 : cb < w8.heap.size := Nat.lt_of_lt_of_le hcl7 g_.size
        clear r_ g_ hcb7
        obtain ⟨Wb, hWb⟩ : ∃ Wb, Wb = w8.setCell ⟨cb, 2, none⟩ (.int .i64 z) := ⟨_, rfl⟩
        have HATb : Hid (RkAt w w1 1 g S v (.slice none 0 0) ⟨#[]⟩ 0 p8 e8 Wb) := by rw [hWb]; exact HAT8.out.set hcb _ _
        have HOb : Hid (OwnL pcC 52 4 Wb (w1.heap.size + 1) v qs) := by rw [hWb]; exact HO8.out.keep fun j hj hlt => Below.heap_setCell _ _ _ _ (by have := HOV.out j hj; simp only; omega)
        have hcbb : Wb.heap[cb]? = some (.cells #[.string xk, .string ⟨#[]⟩, .int .i64 z, .int .i64 0] 52 (0, 0)) := by rw [hWb]; exact blk_set hcb8 2 _
        have hclb : cb < Wb.heap.size := by rw [hWb]; simpa [World.setCell] using hcl8
        have HWb := Lib.hid hWb
        clear hWb hcb8
        go_wp2_with fail
        rw [← HWb.out]
        clear cc0 cc1 cc2 cc3 ccf1 ccf2 ccf3
        refine (rtake_any Wb g S p8 e8 2 HATb.out.rd (by omega) (by omega) (by omega)).mono ?_
        rintro x w10 ⟨rfl, r_, g_⟩
        obtain ⟨y, hy⟩ : ∃ z : Int, z = num (nextB S.data.toList p8 e8 2) := ⟨_, rfl⟩
        rw [← hy]
        have hly : 0 ≤ y ∧ y < 65536 := by rw [hy]; have := num16 S.data.toList p8 e8; omega
        have HTy : Hid (∀ x rest, 0 ≤ x → x < 65536 → Ahead S.data.toList p8 e8 (be16 x ++ rest) → y = x ∧ Ahead S.data.toList (nextP S.data.toList p8 e8 2) (nextE S.data.toList p8 e8 2) rest) := fun x rest h0 h1 ha => by
          rw [hy]
          exact take2_of h0 h1 ha
        generalize nextP S.data.toList p8 e8 2 = p10 at *
        generalize nextE S.data.toList p8 e8 2 = e10 at *
        clear hy
        have HAT10 := Lib.hid (HATb.out.next r_ g_)
        have HO10 : Hid (OwnL pcC 52 4 w10 (w1.heap.size + 1) v qs) := HOb.out.keep fun j hj hlt => g_.block j hlt (fun e => by have := Option.some.inj e; have := HOb.out.at_block j hj; have := HATb.out.gr; omega)
        have hcb10 : w10.heap[cb]? = some (.cells #[.string xk, .string ⟨#[]⟩, .int .i64 z, .int .i64 0] 52 (0, 0)) := (g_.block _ hclb (fun e => by have := Option.some.inj e; have := HAT.out.gr; omega)).trans hcbb
        have cc0 := cell_at hcb10 0 (.string xk) rfl
        have cc1 := cell_at hcb10 1 (.string ⟨#[]⟩) rfl
        have cc2 := cell_at hcb10 2 (.int .i64 z) rfl
        have cc3 := cell_at hcb10 3 (.int .i64 0) rfl
        have ccf1 := free_at hcb10 1
        have ccf2 := free_at hcb10 2
        have ccf3 := free_at hcb10 3
        have hxsm : SmC ⟨xk, ⟨#[]⟩, z, y⟩ := ⟨by simp only; omega, Nat.zero_le _, hlz, hly⟩
        clear r_ g_ hcbb
        obtain ⟨W7, hW7⟩ : ∃ W7, W7 = w10.setCell ⟨cb, 3, none⟩ (.int .i64 y) := ⟨_, rfl⟩
        have hat7 : RkAt w w1 1 g S v (.slice none 0 0) ⟨#[]⟩ 0 p10 e10 W7 := by rw [hW7]; exact HAT10.out.set hcb _ _
        have own7 : OwnL pcC 52 4 W7 (w1.heap.size + 1) v qs := by rw [hW7]; exact HO10.out.keep fun j hj hlt => Below.heap_setCell _ _ _ _ (by have := HOV.out j hj; simp only; omega)
        have hs7 : W7.heap.size = w10.heap.size := by rw [hW7]; simp [World.setCell]
        obtain ⟨v', w9, hrun, hown9, hg9⟩ := run_append_one encC 22 52 22 (.agg #[.string ByteArray.empty, .string ByteArray.empty, .int .i64 0, .int .i64 0]) 48 ⟨_, Tryd.underlying22, rfl⟩ infoToldC rfl (by omega) (by omega) (by omega) own7 (⟨xk, ⟨#[]⟩, z, y⟩ : PC) (by rw [HQK.out]; omega) (by have := hat7.sz; omega)
        have hrun' : (Builtin.append_ #[22, 22] 22 #[v, .slice (some ⟨W7.heap.size, 0, none⟩) 1 1]).run Tryd.prog (W7.alloc (.cells #[.string xk, .string ⟨#[]⟩, .int .i64 z, .int .i64 y] 52)) = .ok v' w9 := hrun
        have hg9 : (W7.alloc (.cells #[.string xk, .string ⟨#[]⟩, .int .i64 z, .int .i64 y] 52)).grownBy w9 v.ownBlock := hg9
        obtain ⟨Av, nv, cv, hv'⟩ : ∃ A n c, v' = Value.slice A n c := by
          obtain ⟨A', c', h, _⟩ := hown9.form
          exact ⟨_, _, _, h⟩
        have hbA : Below W7.heap.size W7 (W7.alloc (.cells #[.string xk, .string ⟨#[]⟩, .int .i64 z, .int .i64 y] 52)) := (Below.refl _ _).alloc (Nat.le_refl _) _
        have hszA : W7.heap.size ≤ w9.heap.size := Nat.le_trans hbA.size hg9.size
        have hsz7 := hat7.sz
        have hgl := hat7.gl
        have hgr := hat7.gr
        have hk9 : ∀ j : Nat, j < w1.heap.size + 1 → w9.heap[j]? = W7.heap[j]? := fun j hj => by
          rw [hg9.block j (Nat.lt_of_lt_of_le (by omega) hbA.size) (fun e => by have := own7.at_block j e.symm; omega), hbA.block j (by omega)]
        have hbel9 : Below w.heap.size w w9 := (bthen hat7.bel hbA).grown hg9 (bthen hat7.bel hbA).size (fun j hj => by have := own7.at_block j hj; omega)
        have hat10 : RkAt w w1 1 g S v' (.slice none 0 0) ⟨#[]⟩ 0 p10 e10 (w9.setCell ⟨w1.heap.size, 1, none⟩ v') :=
          ⟨(Below.heap_setCell _ _ _ _ (by simp only; omega)).trans ((hk9 _ (by omega)).trans hat7.h0), blk_set ((hk9 _ (by omega)).trans hat7.h1) 1 v',
           ⟨(Below.heap_setCell _ _ _ _ (by simp only; omega)).trans ((hk9 _ (by omega)).trans hat7.rd.1), hat7.rd.2⟩, below_set hbel9 (by simp only; omega) _, by simp [World.setCell]; omega, hgl, hgr⟩
        have hown10 : OwnL pcC 52 4 (w9.setCell ⟨w1.heap.size, 1, none⟩ v') (w1.heap.size + 1) v' (qs ++ [(⟨xk, ⟨#[]⟩, z, y⟩ : PC)]) := hown9.keep fun j hj _ => Below.heap_setCell _ _ _ _ (by have := hown9.at_block j hj; simp only; omega)
        have HLF : Hid (RLf w w1 g S n (k + 1) v' (w9.setCell ⟨w1.heap.size, 1, none⟩ v')) :=
          ⟨p10, e10, qs ++ [(⟨xk, ⟨#[]⟩, z, y⟩ : PC)], hat10, hown10, by rw [List.length_append, HQK.out]; rfl, fun c hc => by
            rcases List.mem_append.1 hc with h | h
            · exact HSM.out c h
            · rw [List.mem_singleton.1 h]; exact hxsm, fun p0 ho hk0 hb => by
            obtain ⟨h1, h2, h3⟩ := HCL0.out p0 ho hk0 hb
            obtain ⟨c0, hc0⟩ : ∃ c0, p0.cells[k]? = some c0 := ⟨_, List.getElem?_eq_getElem (by omega)⟩
            have hok0 : okCells p0.cells := by
              rcases ho with ⟨h, ho⟩ | ⟨h, ho⟩ | ⟨h, ho⟩
              · exact ho.2.2.2
              · omega
              · omega
            have hmem := List.mem_of_getElem? hc0
            have hdrop : p0.cells.drop k = c0 :: p0.cells.drop (k + 1) := by
              rw [List.drop_eq_getElem_cons (by omega)]
              congr 1
              rw [List.getElem?_eq_getElem (by omega)] at hc0
              exact Option.some.inj hc0
            rw [hdrop, List.flatMap_cons, List.append_assoc, show cellL c0 = textL c0.k ++ tailL c0 from rfl, List.append_assoc] at h3
            have hkk := okKeys_cells hok0.2.2 hmem
            have hbb := hok0.2.1 c0 hmem
            obtain ⟨h4, h5⟩ := HTxk.out c0.k _ hkk.2 h3
            rcases HTt.out c0 _ h5 with ⟨_, h6, _⟩ | ⟨b0, _, h6⟩
            · exact absurd h6 tg0
            · rcases hbb with ⟨b1, _⟩ | ⟨b1, b2, b3, b4⟩
              · exact absurd b1 b0
              · obtain ⟨h7, h8⟩ := HTz.out c0.sz _ (by omega) (by omega) h6
                obtain ⟨h9, h10⟩ := HTy.out c0.st _ (okNum_lt b4).1 (okNum_lt b4).2 h8
                refine ⟨h1, ?_, h10⟩
                rw [take_snocA hc0, h2]
                have hv0 := ba_zero b1
                cases c0
                simp only at h4 h7 h9 hv0
                rw [h4, h7, h9, hv0]
                rfl⟩
        have hcs := cell_at ((hk9 w1.heap.size (by omega)).trans hat7.h1) 1 v rfl
        have hfs := free_at ((hk9 w1.heap.size (by omega)).trans hat7.h1) 1
        have hpv := cell_at HAT10.out.h1 1 v rfl
        have hne5 : w1.heap.size ≠ cb := by omega
        have hne6 : cb ≠ w1.heap.size := by omega
        rw [hs7, hW7] at hrun'
        subst hv'
        have HR := Lib.hid hrun'
        clear hrun hrun' own7 hat10 hown10 hown9 hat7 hW7 hs7 hsz7 hszA
        go_wp2_with (at_builtin; refine wpList_append_ran rfl (.tmp 59) (.tmp 61) 22 rfl _ _ _ _ rfl rfl HR.out ?_)
        exact ⟨⟨k + 1, .slice Av nv cv, by omega, by go_num, HLF.out⟩, by simp [intOf]; omega⟩
      have he : k = n := by omega
      subst he
      have hqn := HQK.out
      obtain ⟨A1, a1, hv1, ha1, hls⟩ := HO.out.form
      rw [hqn] at hv1 ha1
      subst hv1
      generalize wr = wz at *
      obtain ⟨q, hq0⟩ : ∃ q : PP, q = ⟨1, qs, [], ⟨#[]⟩, 0⟩ := ⟨_, rfl⟩
      have hq1 : q.kind = 1 := by rw [hq0]
      have hq2 : q.cells.length = k := by rw [hq0]; exact hqn
      have hq3 : q.kids.length = 0 := by rw [hq0]; rfl
      have hq4 : q.piece = ⟨#[]⟩ := by rw [hq0]
      have hq5 : q.next = 0 := by rw [hq0]
      have hob : 0 < qs.length → ∀ ad, A1 = some ad → w.heap.size < ad.block := fun h0 ad e => by
        subst e
        have := HO.out.at_block ad.block (by
          rcases HO.out.2 with ⟨h, _⟩ | ⟨g', cap, cur, h, _⟩
          · cases h
          · cases h
            rfl)
        have := HAT.out.gl
        have := HAT.out.gr
        omega
      have hlsC : Ls pcC wz A1 q.cells := by rw [hq0]; exact hls
      have hlsK : Ls pcK wz none q.kids := by rw [hq0]; exact Ls.nil _ _
      have hAb : 0 < q.cells.length → ∀ ad, A1 = some ad → w.heap.size < ad.block := by rw [hq0]; exact hob
      have hBb : 0 < q.kids.length → ∀ ad, (none : Option Addr) = some ad → w.heap.size < ad.block := fun _ _ h => by cases h
      have hbd : Bd q := by rw [hq0]; exact ⟨⟨by simp only; omega, by simp only; omega⟩, ⟨by simp only; omega, by simp only; omega⟩, Nat.zero_le _, by simp only; omega, Nat.zero_le _, fun c hc => (HSM.out c hc).bd, fun c hc => (by cases hc)⟩
      have h255 : q.cells.length ≤ 255 := by omega
      have h255' : q.kids.length ≤ 255 := by omega
      have HCL : Hid (∀ p0, okPage p0 → S.data.toList = bodyL p0 → q = p0 ∧ e = 0) := fun p0 ho hb => by
        have hkd := (HKD.out p0 ho hb).symm
        obtain ⟨h1, h2, h3⟩ := HCL0.out p0 ho hkd hb
        refine ⟨?_, h3.1⟩
        rw [hq0]
        rcases ho with ⟨h, ho⟩ | ⟨h, ho⟩ | ⟨h, ho⟩
        · obtain ⟨o1, o2, o3, _⟩ := ho
          cases p0
          simp only at h1 h2 o1 o2 o3 hkd
          rw [h2, h1, List.take_length, hkd, List.eq_nil_of_length_eq_zero o1, ba_zero o2, o3]
          rfl
        · omega
        · omega
      clear hq0 hqn
      have HQC : Hid (∀ p0, okPage p0 → encL p0 = b.data.toList → q = p0 ∧ e = 0) := fun p0 hp0 he0 => HCL.out p0 hp0 (HTK.out p0 hp0 he0)
      have pz0 := cell_at HAT.out.h1 0 (.int .i64 1) rfl
      have pz1 := cell_at HAT.out.h1 1 (.slice A1 k a1) rfl
      have pz2 := cell_at HAT.out.h1 2 (.slice none 0 0) rfl
      have pz3 := cell_at HAT.out.h1 3 (.string ⟨#[]⟩) rfl
      have pz4 := cell_at HAT.out.h1 4 (.int .i64 0) rfl
      have pe := HAT.out.rd.cells.2.2
      have hbwz := HAT.out.bel
      have hgl := HAT.out.gl
      have hgr := HAT.out.gr
      have hszz := HAT.out.sz
      have hne1 : w.heap.size ≠ w1.heap.size := by omega
      have hne2 : w1.heap.size ≠ w.heap.size := by omega
      have hne3 : g ≠ w1.heap.size := by omega
      have hne4 : w1.heap.size ≠ g := by omega
      have hR := refRight_any q A1 none a1 0 wz hlsC hlsK hbd
      have hY := refBytes_any q A1 none a1 0
      unfold pageV at hR hY
      rw [hq1, hq2, hq3, hq4, hq5] at hR hY
      by_cases he : e = 0
      case neg =>
        have heb : (e == 0) = false := by simpa using he
        have hd0 := cell_at HAT.out.h0 0 (.int .i64 0) rfl
        have hd1 := cell_at HAT.out.h0 1 (.slice none 0 0) rfl
        have hd2 := cell_at HAT.out.h0 2 (.slice none 0 0) rfl
        have hd3 := cell_at HAT.out.h0 3 (.string ⟨#[]⟩) rfl
        have hd4 := cell_at HAT.out.h0 4 (.int .i64 0) rfl
        have hf0 := free_at HAT.out.h0 0
        have hf1 := free_at HAT.out.h0 1
        have hf2 := free_at HAT.out.h0 2
        have hf3 := free_at HAT.out.h0 3
        have hf4 := free_at HAT.out.h0 4
        have HPO : Hid (DecPost w b.data.toList (.returned (.tuple #[.agg #[.int .i64 0, .slice none 0 0, .slice none 0 0, .string ⟨#[]⟩, .int .i64 0], .int .i64 3])) ((((((wz.setCell ⟨w.heap.size, 0, none⟩ (.int .i64 0)).setCell ⟨w.heap.size, 1, none⟩ (.slice none 0 0)).setCell ⟨w.heap.size, 2, none⟩ (.slice none 0 0)).setCell ⟨w.heap.size, 3, none⟩ (.string ⟨#[]⟩)).setCell ⟨w.heap.size, 4, none⟩ (.int .i64 0)))) := dec_none (box_below hbwz _ _ _ _ _) (.inr (.inr (.inl ⟨HN.out, HSL.out, fun p0 hp0 he0 => he (HQC.out p0 hp0 he0).2, rfl, rfl⟩)))
        have HBK := Lib.hid (box_noneR HAT.out.h0 (.int .i64 0) (.slice none 0 0) (.slice none 0 0) (.string ⟨#[]⟩) (.int .i64 0))
        go_wp2
        refine bodyPost_ret (v := .tuple #[.agg #[.int .i64 0, .slice none 0 0, .slice none 0 0, .string ⟨#[]⟩, .int .i64 0], .int .i64 3]) ?_ rfl HPO.out
        have k0 := cell_at HBK.out 0 (.int .i64 0) rfl
        have k1 := cell_at HBK.out 1 (.slice none 0 0) rfl
        have k2 := cell_at HBK.out 2 (.slice none 0 0) rfl
        have k3 := cell_at HBK.out 3 (.string ⟨#[]⟩) rfl
        have k4 := cell_at HBK.out 4 (.int .i64 0) rfl
        simp [results, Tryd.results17, go_sem, k0, k1, k2, k3, k4]
      subst he
      go_wp2_with fail
      refine hR.mono ?_
      rintro x w7 ⟨rfl, hb7⟩
      have hat7 := HAT.out.below hb7
      have HAT7 := Lib.hid hat7
      have hbw7 := bthen hbwz hb7
      clear hat7 pe hR
      by_cases hok : okPage q
      case neg =>
        rw [decide_eq_false hok]
        have hd0 := cell_at HAT7.out.h0 0 (.int .i64 0) rfl
        have hd1 := cell_at HAT7.out.h0 1 (.slice none 0 0) rfl
        have hd2 := cell_at HAT7.out.h0 2 (.slice none 0 0) rfl
        have hd3 := cell_at HAT7.out.h0 3 (.string ⟨#[]⟩) rfl
        have hd4 := cell_at HAT7.out.h0 4 (.int .i64 0) rfl
        have hf0 := free_at HAT7.out.h0 0
        have hf1 := free_at HAT7.out.h0 1
        have hf2 := free_at HAT7.out.h0 2
        have hf3 := free_at HAT7.out.h0 3
        have hf4 := free_at HAT7.out.h0 4
        have HPO : Hid (DecPost w b.data.toList (.returned (.tuple #[.agg #[.int .i64 0, .slice none 0 0, .slice none 0 0, .string ⟨#[]⟩, .int .i64 0], .int .i64 3])) ((((((w7.setCell ⟨w.heap.size, 0, none⟩ (.int .i64 0)).setCell ⟨w.heap.size, 1, none⟩ (.slice none 0 0)).setCell ⟨w.heap.size, 2, none⟩ (.slice none 0 0)).setCell ⟨w.heap.size, 3, none⟩ (.string ⟨#[]⟩)).setCell ⟨w.heap.size, 4, none⟩ (.int .i64 0)))) := dec_none (box_below hbw7 _ _ _ _ _) (.inr (.inr (.inl ⟨HN.out, HSL.out, fun p0 hp0 he0 => hok ((HQC.out p0 hp0 he0).1 ▸ hp0), rfl, rfl⟩)))
        have HBK := Lib.hid (box_noneR HAT7.out.h0 (.int .i64 0) (.slice none 0 0) (.slice none 0 0) (.string ⟨#[]⟩) (.int .i64 0))
        go_wp2
        refine bodyPost_ret (v := .tuple #[.agg #[.int .i64 0, .slice none 0 0, .slice none 0 0, .string ⟨#[]⟩, .int .i64 0], .int .i64 3]) ?_ rfl HPO.out
        have k0 := cell_at HBK.out 0 (.int .i64 0) rfl
        have k1 := cell_at HBK.out 1 (.slice none 0 0) rfl
        have k2 := cell_at HBK.out 2 (.slice none 0 0) rfl
        have k3 := cell_at HBK.out 3 (.string ⟨#[]⟩) rfl
        have k4 := cell_at HBK.out 4 (.int .i64 0) rfl
        simp [results, Tryd.results17, go_sem, k0, k1, k2, k3, k4]
      rw [decide_eq_true hok]
      clear pz0 pz1 pz2 pz3 pz4
      have pz0 := cell_at HAT7.out.h1 0 (.int .i64 1) rfl
      have pz1 := cell_at HAT7.out.h1 1 (.slice A1 k a1) rfl
      have pz2 := cell_at HAT7.out.h1 2 (.slice none 0 0) rfl
      have pz3 := cell_at HAT7.out.h1 3 (.string ⟨#[]⟩) rfl
      have pz4 := cell_at HAT7.out.h1 4 (.int .i64 0) rfl
      go_wp2_with fail
      refine (hY w7 (hlsC.below hb7) (hlsK.below hb7) hbd hok).mono ?_
      rintro x w8 ⟨rfl, hb8⟩
      have HAT8 := Lib.hid (HAT7.out.below hb8)
      have hbw8 := bthen hbw7 hb8
      clear pz0 pz1 pz2 pz3 pz4 hY
      obtain ⟨M, hM⟩ : ∃ M, M = mk (encL q) := ⟨_, rfl⟩
      rw [← hM]
      have hse := same_eq M b
      have hMl : M = b ↔ encL q = b.data.toList := ⟨fun h => by
        rw [← h, hM, mk_list], fun h => by
        rw [hM, h]
        exact (str_eq b).symm⟩
      have HML := Lib.hid hMl
      clear hMl hM
      by_cases heq : M = b
      case neg =>
        rw [decide_eq_false heq] at hse
        have hd0 := cell_at HAT8.out.h0 0 (.int .i64 0) rfl
        have hd1 := cell_at HAT8.out.h0 1 (.slice none 0 0) rfl
        have hd2 := cell_at HAT8.out.h0 2 (.slice none 0 0) rfl
        have hd3 := cell_at HAT8.out.h0 3 (.string ⟨#[]⟩) rfl
        have hd4 := cell_at HAT8.out.h0 4 (.int .i64 0) rfl
        have hf0 := free_at HAT8.out.h0 0
        have hf1 := free_at HAT8.out.h0 1
        have hf2 := free_at HAT8.out.h0 2
        have hf3 := free_at HAT8.out.h0 3
        have hf4 := free_at HAT8.out.h0 4
        have HPO : Hid (DecPost w b.data.toList (.returned (.tuple #[.agg #[.int .i64 0, .slice none 0 0, .slice none 0 0, .string ⟨#[]⟩, .int .i64 0], .int .i64 3])) ((((((w8.setCell ⟨w.heap.size, 0, none⟩ (.int .i64 0)).setCell ⟨w.heap.size, 1, none⟩ (.slice none 0 0)).setCell ⟨w.heap.size, 2, none⟩ (.slice none 0 0)).setCell ⟨w.heap.size, 3, none⟩ (.string ⟨#[]⟩)).setCell ⟨w.heap.size, 4, none⟩ (.int .i64 0)))) := dec_none (box_below hbw8 _ _ _ _ _) (.inr (.inr (.inl ⟨HN.out, HSL.out, fun p0 hp0 he0 => heq (HML.out.2 ((HQC.out p0 hp0 he0).1 ▸ he0)), rfl, rfl⟩)))
        have HBK := Lib.hid (box_noneR HAT8.out.h0 (.int .i64 0) (.slice none 0 0) (.slice none 0 0) (.string ⟨#[]⟩) (.int .i64 0))
        go_wp2
        refine bodyPost_ret (v := .tuple #[.agg #[.int .i64 0, .slice none 0 0, .slice none 0 0, .string ⟨#[]⟩, .int .i64 0], .int .i64 3]) ?_ rfl HPO.out
        have k0 := cell_at HBK.out 0 (.int .i64 0) rfl
        have k1 := cell_at HBK.out 1 (.slice none 0 0) rfl
        have k2 := cell_at HBK.out 2 (.slice none 0 0) rfl
        have k3 := cell_at HBK.out 3 (.string ⟨#[]⟩) rfl
        have k4 := cell_at HBK.out 4 (.int .i64 0) rfl
        simp [results, Tryd.results17, go_sem, k0, k1, k2, k3, k4]
      rw [decide_eq_true heq] at hse
      have HEQ := Lib.hid (HML.out.1 heq)
      clear heq
      have pz0 := cell_at HAT8.out.h1 0 (.int .i64 1) rfl
      have pz1 := cell_at HAT8.out.h1 1 (.slice A1 k a1) rfl
      have pz2 := cell_at HAT8.out.h1 2 (.slice none 0 0) rfl
      have pz3 := cell_at HAT8.out.h1 3 (.string ⟨#[]⟩) rfl
      have pz4 := cell_at HAT8.out.h1 4 (.int .i64 0) rfl
      have hd0 := cell_at HAT8.out.h0 0 (.int .i64 0) rfl
      have hd1 := cell_at HAT8.out.h0 1 (.slice none 0 0) rfl
      have hd2 := cell_at HAT8.out.h0 2 (.slice none 0 0) rfl
      have hd3 := cell_at HAT8.out.h0 3 (.string ⟨#[]⟩) rfl
      have hd4 := cell_at HAT8.out.h0 4 (.int .i64 0) rfl
      have hf0 := free_at HAT8.out.h0 0
      have hf1 := free_at HAT8.out.h0 1
      have hf2 := free_at HAT8.out.h0 2
      have hf3 := free_at HAT8.out.h0 3
      have hf4 := free_at HAT8.out.h0 4
      obtain ⟨w9, hw9⟩ : ∃ w9, w9 = (((((w8.setCell ⟨w.heap.size, 0, none⟩ (.int .i64 1)).setCell ⟨w.heap.size, 1, none⟩ (.slice A1 k a1)).setCell ⟨w.heap.size, 2, none⟩ (.slice none 0 0)).setCell ⟨w.heap.size, 3, none⟩ (.string ⟨#[]⟩)).setCell ⟨w.heap.size, 4, none⟩ (.int .i64 0)) := ⟨_, rfl⟩
      have HBK : Hid (w9.heap[w.heap.size]? = some (.cells #[.int .i64 1, .slice A1 k a1, .slice none 0 0, .string ⟨#[]⟩, .int .i64 0] 25 (0, 0))) := by rw [hw9]; exact box_noneR HAT8.out.h0 _ _ _ _ _
      have hoth : ∀ i, i ≠ w.heap.size → w9.heap[i]? = w8.heap[i]? := fun i hi => by
        rw [hw9, Below.heap_setCell _ _ _ _ hi, Below.heap_setCell _ _ _ _ hi, Below.heap_setCell _ _ _ _ hi, Below.heap_setCell _ _ _ _ hi, Below.heap_setCell _ _ _ _ hi]
      have hsz9 : w9.heap.size = w8.heap.size := by rw [hw9]; simp [World.setCell]
      have keepC : ∀ {α : Type} {f : α → List Value} {A : Option Addr} {l : List α}, Ls f w8 A l → (0 < l.length → ∀ ad, A = some ad → w.heap.size < ad.block) → Ls f w9 A l := fun h hne h0 => by
        obtain ⟨ad, e, hlt, hc⟩ := h h0
        refine ⟨ad, e, by omega, fun j u hu => ?_⟩
        have hb := hoth (ad.add j).block (by rw [block_of_add]; have := hne h0 ad e; omega)
        exact (World.cell?_of_block (w := w8) hb).trans (hc j u hu)
      have HPO : Hid (DecPost w b.data.toList (.returned (.tuple #[.agg #[.int .i64 1, .slice A1 k a1, .slice none 0 0, .string ⟨#[]⟩, .int .i64 0], .int .i64 0])) w9) := by
        refine ⟨q, A1, none, a1, 0, 0, ?_, keepC ((hlsC.below hb7).below hb8) hAb, keepC ((hlsK.below hb7).below hb8) hBb, by rw [hw9]; exact box_below hbw8 _ _ _ _ _, hbd, h255, h255', .inr (.inr (.inr ⟨hok, HEQ.out, rfl⟩))⟩
        unfold pageV
        rw [hq1, hq2, hq3, hq4, hq5]
      have HW9 := Lib.hid hw9
      clear hw9 hoth hsz9 keepC
      go_wp2
      rw [← HW9.out]
      refine bodyPost_ret (v := .tuple #[.agg #[.int .i64 1, .slice A1 k a1, .slice none 0 0, .string ⟨#[]⟩, .int .i64 0], .int .i64 0]) ?_ rfl HPO.out
      have k0 := cell_at HBK.out 0 (.int .i64 1) rfl
      have k1 := cell_at HBK.out 1 (.slice A1 k a1) rfl
      have k2 := cell_at HBK.out 2 (.slice none 0 0) rfl
      have k3 := cell_at HBK.out 3 (.string ⟨#[]⟩) rfl
      have k4 := cell_at HBK.out 4 (.int .i64 0) rfl
      simp [results, Tryd.results17, go_sem, k0, k1, k2, k3, k4]
  by_cases t2 : t = 2
  case pos =>
    subst t2
    go_wp2_with fail
    rw [← HW3.out]
    refine (rtake_any W3 g S p1 e1 1 HAT3.out.rd (by omega) (by omega) (by omega)).mono ?_
    rintro x w4 ⟨rfl, r4, g4⟩
    obtain ⟨n, hn⟩ : ∃ n : Nat, n = num (nextB S.data.toList p1 e1 1) := ⟨_, rfl⟩
    rw [← hn]
    have hnl : n < 256 := by rw [hn]; exact num8 _ _ _
    have HST : Hid (RBr w w1 g S n 0 (.slice none 0 0) w4) := by
      refine ⟨_, _, [], HAT3.out.next r4 g4, OwnL.nil_ _ _ _, rfl, fun c hc => (by cases hc), fun p0 ho hk hb => ?_⟩
      have h2 := (HK.out p0 ho hb).2
      unfold restL at h2
      rw [if_neg (by omega), if_pos hk, List.cons_append] at h2
      obtain ⟨h3, h4⟩ := take1_of h2
      have hlen : p0.kids.length < 256 := by
        rcases ho with ⟨h, ho⟩ | ⟨h, ho⟩ | ⟨h, ho⟩
        · omega
        · have := ho.2.2.2.2.1; omega
        · omega
      refine ⟨?_, rfl, by simpa using h4⟩
      rw [← hn, b8_nat] at h3
      omega
    have HKD : Hid (∀ p0, okPage p0 → S.data.toList = bodyL p0 → (2 : Int) = p0.kind) := fun p0 ho hb => (HK.out p0 ho hb).1
    clear hn r4 g4 HK
    go_wp2
    go_loopw [12] (fun i wr => ∃ (k : Nat) (v : Value), k ≤ n ∧ i = .int .i64 k ∧ RBr w w1 g S n k v wr) (fun i _ => n - (intOf i).toNat)
    case atStart => exact ⟨0, _, Nat.zero_le _, rfl, HST.out⟩
    case round =>
      obtain ⟨k, v, hk, rfl, p, e, qs, hat, hown, hqk, hsm, hcl⟩ := hrel
      have HAT := Lib.hid hat
      have HO := Lib.hid hown
      have HSM := Lib.hid hsm
      have HCL0 := Lib.hid hcl
      have HQK := Lib.hid hqk
      clear hat hown hsm hcl hqk
      by_cases hlt : k < n
      case pos =>
        go_wp2_with fail
        refine (rtext_any wr g S p e 24 HAT.out.rd (by omega)).mono ?_
        rintro x w5 ⟨rfl, r_, g_⟩
        obtain ⟨xk, hxk⟩ : ∃ k : ByteArray, k = ⟨(txtS S.data.toList p e 24).toArray⟩ := ⟨_, rfl⟩
        rw [← hxk]
        have hsxk : xk.size ≤ 60000 := by
          rw [hxk]
          have := txtS_small S.data.toList p e 24
          show (txtS S.data.toList p e 24).toArray.size ≤ _
          have h2 : S.data.toList.length = 252 := hSs
          simp
          omega
        have HTxk : Hid (∀ (s : ByteArray) rest, s.size ≤ 24 → Ahead S.data.toList p e (textL s ++ rest) → xk = s ∧ Ahead S.data.toList (txtP S.data.toList p e 24) (txtE S.data.toList p e 24) rest) := fun s rest hs ha => by
          obtain ⟨h1, h2⟩ := text_str (most := 24) (s := s) (by omega) (by omega) ha
          exact ⟨hxk.trans h1, h2⟩
        generalize txtP S.data.toList p e 24 = p5 at *
        generalize txtE S.data.toList p e 24 = e5 at *
        clear hxk
        have HAT5 := Lib.hid (HAT.out.next r_ g_)
        have HO5 : Hid (OwnL pcK 54 2 w5 (w1.heap.size + 1) v qs) := HO.out.keep fun j hj hlt => g_.block j hlt (fun e => by have := Option.some.inj e; have := HO.out.at_block j hj; have := HAT.out.gr; omega)
        obtain ⟨cb, hcb0⟩ : ∃ cb, cb = w5.heap.size := ⟨_, rfl⟩
        have hcb : w1.heap.size < cb := by rw [hcb0]; exact HAT5.out.sz
        have HOV5 : ∀ j, v.ownBlock = some j → j < cb := fun j hj => by rw [hcb0]; exact HO5.out.lt j hj
        have HOV := Lib.hid HOV5
        obtain ⟨W6, hW6⟩ : ∃ W6, W6 = w5.alloc (.cells #[.string xk, .int .i64 0] 54) := ⟨_, rfl⟩
        have hb56 : Below w5.heap.size w5 W6 := by rw [hW6]; exact (Below.refl _ _).alloc (Nat.le_refl _) _
        have HAT6 := Lib.hid (HAT5.out.below hb56)
        have HO6 : Hid (OwnL pcK 54 2 W6 (w1.heap.size + 1) v qs) := HO5.out.below hb56
        have hcb6 : W6.heap[cb]? = some (.cells #[.string xk, .int .i64 0] 54 (0, 0)) := by rw [hcb0, hW6]; exact heap_alloc_new w5 _
        have hcl6 : cb < W6.heap.size := by rw [hcb0, hW6]; simp
        have HW6 := Lib.hid hW6
        have HCB0 := Lib.hid hcb0
        clear hW6 hcb0 HOV5 r_ g_ hb56
        go_wp2_with fail
        rw [← HW6.out]
        refine (rtake_any W6 g S p5 e5 2 HAT6.out.rd (by omega) (by omega) (by omega)).mono ?_
        rintro x w7 ⟨rfl, r_, g_⟩
        obtain ⟨z, hz⟩ : ∃ z : Int, z = num (nextB S.data.toList p5 e5 2) := ⟨_, rfl⟩
        rw [← hz]
        have hlz : 0 ≤ z ∧ z < 65536 := by rw [hz]; have := num16 S.data.toList p5 e5; omega
        have HTz : Hid (∀ x rest, 0 ≤ x → x < 65536 → Ahead S.data.toList p5 e5 (be16 x ++ rest) → z = x ∧ Ahead S.data.toList (nextP S.data.toList p5 e5 2) (nextE S.data.toList p5 e5 2) rest) := fun x rest h0 h1 ha => by
          rw [hz]
          exact take2_of h0 h1 ha
        generalize nextP S.data.toList p5 e5 2 = p7 at *
        generalize nextE S.data.toList p5 e5 2 = e7 at *
        clear hz
        have HAT7 := Lib.hid (HAT6.out.next r_ g_)
        have HO7 : Hid (OwnL pcK 54 2 w7 (w1.heap.size + 1) v qs) := HO6.out.keep fun j hj hlt => g_.block j hlt (fun e => by have := Option.some.inj e; have := HO6.out.at_block j hj; have := HAT6.out.gr; omega)
        have hcb7 : w7.heap[cb]? = some (.cells #[.string xk, .int .i64 0] 54 (0, 0)) := (g_.block _ hcl6 (fun e => by have := Option.some.inj e; have := HAT.out.gr; omega)).trans hcb6
        have cc0 := cell_at hcb7 0 (.string xk) rfl
        have cc1 := cell_at hcb7 1 (.int .i64 0) rfl
        have ccf := free_at hcb7 1
        have hxsm : SmK ⟨xk, z⟩ := ⟨by simp only; omega, hlz⟩
        rw [← HCB0.out]
        clear r_ g_ hcb6
        obtain ⟨W7, hW7⟩ : ∃ W7, W7 = w7.setCell ⟨cb, 1, none⟩ (.int .i64 z) := ⟨_, rfl⟩
        have hat7 : RkAt w w1 2 g S (.slice none 0 0) v ⟨#[]⟩ 0 p7 e7 W7 := by rw [hW7]; exact HAT7.out.set hcb _ _
        have own7 : OwnL pcK 54 2 W7 (w1.heap.size + 1) v qs := by rw [hW7]; exact HO7.out.keep fun j hj hlt => Below.heap_setCell _ _ _ _ (by have := HOV.out j hj; simp only; omega)
        have hs7 : W7.heap.size = w7.heap.size := by rw [hW7]; simp [World.setCell]
        obtain ⟨v', w9, hrun, hown9, hg9⟩ := run_append_one encK 23 54 23 (.agg #[.string ByteArray.empty, .int .i64 0]) 24 ⟨_, Tryd.underlying23, rfl⟩ infoToldK rfl (by omega) (by omega) (by omega) own7 (⟨xk, z⟩ : PK) (by rw [HQK.out]; omega) (by have := hat7.sz; omega)
        have hrun' : (Builtin.append_ #[23, 23] 23 #[v, .slice (some ⟨W7.heap.size, 0, none⟩) 1 1]).run Tryd.prog (W7.alloc (.cells #[.string xk, .int .i64 z] 54)) = .ok v' w9 := hrun
        have hg9 : (W7.alloc (.cells #[.string xk, .int .i64 z] 54)).grownBy w9 v.ownBlock := hg9
        obtain ⟨Av, nv, cv, hv'⟩ : ∃ A n c, v' = Value.slice A n c := by
          obtain ⟨A', c', h, _⟩ := hown9.form
          exact ⟨_, _, _, h⟩
        have hbA : Below W7.heap.size W7 (W7.alloc (.cells #[.string xk, .int .i64 z] 54)) := (Below.refl _ _).alloc (Nat.le_refl _) _
        have hszA : W7.heap.size ≤ w9.heap.size := Nat.le_trans hbA.size hg9.size
        have hsz7 := hat7.sz
        have hgl := hat7.gl
        have hgr := hat7.gr
        have hk9 : ∀ j : Nat, j < w1.heap.size + 1 → w9.heap[j]? = W7.heap[j]? := fun j hj => by
          rw [hg9.block j (Nat.lt_of_lt_of_le (by omega) hbA.size) (fun e => by have := own7.at_block j e.symm; omega), hbA.block j (by omega)]
        have hbel9 : Below w.heap.size w w9 := (bthen hat7.bel hbA).grown hg9 (bthen hat7.bel hbA).size (fun j hj => by have := own7.at_block j hj; omega)
        have hat10 : RkAt w w1 2 g S (.slice none 0 0) v' ⟨#[]⟩ 0 p7 e7 (w9.setCell ⟨w1.heap.size, 2, none⟩ v') :=
          ⟨(Below.heap_setCell _ _ _ _ (by simp only; omega)).trans ((hk9 _ (by omega)).trans hat7.h0), blk_set ((hk9 _ (by omega)).trans hat7.h1) 2 v',
           ⟨(Below.heap_setCell _ _ _ _ (by simp only; omega)).trans ((hk9 _ (by omega)).trans hat7.rd.1), hat7.rd.2⟩, below_set hbel9 (by simp only; omega) _, by simp [World.setCell]; omega, hgl, hgr⟩
        have hown10 : OwnL pcK 54 2 (w9.setCell ⟨w1.heap.size, 2, none⟩ v') (w1.heap.size + 1) v' (qs ++ [(⟨xk, z⟩ : PK)]) := hown9.keep fun j hj _ => Below.heap_setCell _ _ _ _ (by have := hown9.at_block j hj; simp only; omega)
        have HLF : Hid (RBr w w1 g S n (k + 1) v' (w9.setCell ⟨w1.heap.size, 2, none⟩ v')) :=
          ⟨p7, e7, qs ++ [(⟨xk, z⟩ : PK)], hat10, hown10, by rw [List.length_append, HQK.out]; rfl, fun c hc => by
            rcases List.mem_append.1 hc with h | h
            · exact HSM.out c h
            · rw [List.mem_singleton.1 h]; exact hxsm, fun p0 ho hk0 hb => by
            obtain ⟨h1, h2, h3⟩ := HCL0.out p0 ho hk0 hb
            obtain ⟨c0, hc0⟩ : ∃ c0, p0.kids[k]? = some c0 := ⟨_, List.getElem?_eq_getElem (by omega)⟩
            have hok0 : okKids p0.kids := by
              rcases ho with ⟨h, ho⟩ | ⟨h, ho⟩ | ⟨h, ho⟩
              · omega
              · exact ho.2.2.2
              · omega
            have hmem := List.mem_of_getElem? hc0
            have hdrop : p0.kids.drop k = c0 :: p0.kids.drop (k + 1) := by
              rw [List.drop_eq_getElem_cons (by omega)]
              congr 1
              rw [List.getElem?_eq_getElem (by omega)] at hc0
              exact Option.some.inj hc0
            rw [hdrop, List.flatMap_cons, List.append_assoc, show kidL c0 = textL c0.k ++ be16 c0.pg from rfl, List.append_assoc] at h3
            have hkk := okKeys_kids hok0.2.2.2 hmem
            have hnn := okNum_lt (hok0.2.2.1 c0 hmem)
            obtain ⟨h4, h5⟩ := HTxk.out c0.k _ hkk.2 h3
            obtain ⟨h6, h7⟩ := HTz.out c0.pg _ hnn.1 hnn.2 h5
            refine ⟨h1, ?_, h7⟩
            rw [take_snocA hc0, h2, h4, h6]⟩
        have hcs := cell_at ((hk9 w1.heap.size (by omega)).trans hat7.h1) 2 v rfl
        have hfs := free_at ((hk9 w1.heap.size (by omega)).trans hat7.h1) 2
        have hpv := cell_at HAT7.out.h1 2 v rfl
        have hne5 : w1.heap.size ≠ cb := by omega
        have hne6 : cb ≠ w1.heap.size := by omega
        rw [hs7, hW7] at hrun'
        subst hv'
        have HR := Lib.hid hrun'
        clear hrun hrun' own7 hat10 hown10 hown9 hat7 hW7 hs7 hsz7 hszA
        go_wp2_with (at_builtin; refine wpList_append_ran rfl (.tmp 80) (.tmp 82) 23 rfl _ _ _ _ rfl rfl HR.out ?_)
        exact ⟨⟨k + 1, .slice Av nv cv, by omega, by go_num, HLF.out⟩, by simp [intOf]; omega⟩
      have he : k = n := by omega
      subst he
      have hqn := HQK.out
      obtain ⟨A1, a1, hv1, ha1, hls⟩ := HO.out.form
      rw [hqn] at hv1 ha1
      subst hv1
      generalize wr = wz at *
      obtain ⟨q, hq0⟩ : ∃ q : PP, q = ⟨2, [], qs, ⟨#[]⟩, 0⟩ := ⟨_, rfl⟩
      have hq1 : q.kind = 2 := by rw [hq0]
      have hq2 : q.cells.length = 0 := by rw [hq0]; rfl
      have hq3 : q.kids.length = k := by rw [hq0]; exact hqn
      have hq4 : q.piece = ⟨#[]⟩ := by rw [hq0]
      have hq5 : q.next = 0 := by rw [hq0]
      have hob : 0 < qs.length → ∀ ad, A1 = some ad → w.heap.size < ad.block := fun h0 ad e => by
        subst e
        have := HO.out.at_block ad.block (by
          rcases HO.out.2 with ⟨h, _⟩ | ⟨g', cap, cur, h, _⟩
          · cases h
          · cases h
            rfl)
        have := HAT.out.gl
        have := HAT.out.gr
        omega
      have hlsC : Ls pcC wz none q.cells := by rw [hq0]; exact Ls.nil _ _
      have hlsK : Ls pcK wz A1 q.kids := by rw [hq0]; exact hls
      have hAb : 0 < q.cells.length → ∀ ad, (none : Option Addr) = some ad → w.heap.size < ad.block := fun _ _ h => by cases h
      have hBb : 0 < q.kids.length → ∀ ad, A1 = some ad → w.heap.size < ad.block := by rw [hq0]; exact hob
      have hbd : Bd q := by rw [hq0]; exact ⟨⟨by simp only; omega, by simp only; omega⟩, ⟨by simp only; omega, by simp only; omega⟩, Nat.zero_le _, Nat.zero_le _, by simp only; omega, fun c hc => (by cases hc), fun c hc => (HSM.out c hc).bd⟩
      have h255 : q.cells.length ≤ 255 := by omega
      have h255' : q.kids.length ≤ 255 := by omega
      have HCL : Hid (∀ p0, okPage p0 → S.data.toList = bodyL p0 → q = p0 ∧ e = 0) := fun p0 ho hb => by
        have hkd := (HKD.out p0 ho hb).symm
        obtain ⟨h1, h2, h3⟩ := HCL0.out p0 ho hkd hb
        refine ⟨?_, h3.1⟩
        rw [hq0]
        rcases ho with ⟨h, ho⟩ | ⟨h, ho⟩ | ⟨h, ho⟩
        · omega
        · obtain ⟨o1, o2, o3, _⟩ := ho
          cases p0
          simp only at h1 h2 o1 o2 o3 hkd
          rw [h2, h1, List.take_length, hkd, List.eq_nil_of_length_eq_zero o1, ba_zero o2, o3]
          rfl
        · omega
      clear hq0 hqn
      have HQC : Hid (∀ p0, okPage p0 → encL p0 = b.data.toList → q = p0 ∧ e = 0) := fun p0 hp0 he0 => HCL.out p0 hp0 (HTK.out p0 hp0 he0)
      have pz0 := cell_at HAT.out.h1 0 (.int .i64 2) rfl
      have pz1 := cell_at HAT.out.h1 1 (.slice none 0 0) rfl
      have pz2 := cell_at HAT.out.h1 2 (.slice A1 k a1) rfl
      have pz3 := cell_at HAT.out.h1 3 (.string ⟨#[]⟩) rfl
      have pz4 := cell_at HAT.out.h1 4 (.int .i64 0) rfl
      have pe := HAT.out.rd.cells.2.2
      have hbwz := HAT.out.bel
      have hgl := HAT.out.gl
      have hgr := HAT.out.gr
      have hszz := HAT.out.sz
      have hne1 : w.heap.size ≠ w1.heap.size := by omega
      have hne2 : w1.heap.size ≠ w.heap.size := by omega
      have hne3 : g ≠ w1.heap.size := by omega
      have hne4 : w1.heap.size ≠ g := by omega
      have hR := refRight_any q none A1 0 a1 wz hlsC hlsK hbd
      have hY := refBytes_any q none A1 0 a1
      unfold pageV at hR hY
      rw [hq1, hq2, hq3, hq4, hq5] at hR hY
      by_cases he : e = 0
      case neg =>
        have heb : (e == 0) = false := by simpa using he
        have hd0 := cell_at HAT.out.h0 0 (.int .i64 0) rfl
        have hd1 := cell_at HAT.out.h0 1 (.slice none 0 0) rfl
        have hd2 := cell_at HAT.out.h0 2 (.slice none 0 0) rfl
        have hd3 := cell_at HAT.out.h0 3 (.string ⟨#[]⟩) rfl
        have hd4 := cell_at HAT.out.h0 4 (.int .i64 0) rfl
        have hf0 := free_at HAT.out.h0 0
        have hf1 := free_at HAT.out.h0 1
        have hf2 := free_at HAT.out.h0 2
        have hf3 := free_at HAT.out.h0 3
        have hf4 := free_at HAT.out.h0 4
        have HPO : Hid (DecPost w b.data.toList (.returned (.tuple #[.agg #[.int .i64 0, .slice none 0 0, .slice none 0 0, .string ⟨#[]⟩, .int .i64 0], .int .i64 3])) ((((((wz.setCell ⟨w.heap.size, 0, none⟩ (.int .i64 0)).setCell ⟨w.heap.size, 1, none⟩ (.slice none 0 0)).setCell ⟨w.heap.size, 2, none⟩ (.slice none 0 0)).setCell ⟨w.heap.size, 3, none⟩ (.string ⟨#[]⟩)).setCell ⟨w.heap.size, 4, none⟩ (.int .i64 0)))) := dec_none (box_below hbwz _ _ _ _ _) (.inr (.inr (.inl ⟨HN.out, HSL.out, fun p0 hp0 he0 => he (HQC.out p0 hp0 he0).2, rfl, rfl⟩)))
        have HBK := Lib.hid (box_noneR HAT.out.h0 (.int .i64 0) (.slice none 0 0) (.slice none 0 0) (.string ⟨#[]⟩) (.int .i64 0))
        go_wp2
        refine bodyPost_ret (v := .tuple #[.agg #[.int .i64 0, .slice none 0 0, .slice none 0 0, .string ⟨#[]⟩, .int .i64 0], .int .i64 3]) ?_ rfl HPO.out
        have k0 := cell_at HBK.out 0 (.int .i64 0) rfl
        have k1 := cell_at HBK.out 1 (.slice none 0 0) rfl
        have k2 := cell_at HBK.out 2 (.slice none 0 0) rfl
        have k3 := cell_at HBK.out 3 (.string ⟨#[]⟩) rfl
        have k4 := cell_at HBK.out 4 (.int .i64 0) rfl
        simp [results, Tryd.results17, go_sem, k0, k1, k2, k3, k4]
      subst he
      go_wp2_with fail
      refine hR.mono ?_
      rintro x w7 ⟨rfl, hb7⟩
      have hat7 := HAT.out.below hb7
      have HAT7 := Lib.hid hat7
      have hbw7 := bthen hbwz hb7
      clear hat7 pe hR
      by_cases hok : okPage q
      case neg =>
        rw [decide_eq_false hok]
        have hd0 := cell_at HAT7.out.h0 0 (.int .i64 0) rfl
        have hd1 := cell_at HAT7.out.h0 1 (.slice none 0 0) rfl
        have hd2 := cell_at HAT7.out.h0 2 (.slice none 0 0) rfl
        have hd3 := cell_at HAT7.out.h0 3 (.string ⟨#[]⟩) rfl
        have hd4 := cell_at HAT7.out.h0 4 (.int .i64 0) rfl
        have hf0 := free_at HAT7.out.h0 0
        have hf1 := free_at HAT7.out.h0 1
        have hf2 := free_at HAT7.out.h0 2
        have hf3 := free_at HAT7.out.h0 3
        have hf4 := free_at HAT7.out.h0 4
        have HPO : Hid (DecPost w b.data.toList (.returned (.tuple #[.agg #[.int .i64 0, .slice none 0 0, .slice none 0 0, .string ⟨#[]⟩, .int .i64 0], .int .i64 3])) ((((((w7.setCell ⟨w.heap.size, 0, none⟩ (.int .i64 0)).setCell ⟨w.heap.size, 1, none⟩ (.slice none 0 0)).setCell ⟨w.heap.size, 2, none⟩ (.slice none 0 0)).setCell ⟨w.heap.size, 3, none⟩ (.string ⟨#[]⟩)).setCell ⟨w.heap.size, 4, none⟩ (.int .i64 0)))) := dec_none (box_below hbw7 _ _ _ _ _) (.inr (.inr (.inl ⟨HN.out, HSL.out, fun p0 hp0 he0 => hok ((HQC.out p0 hp0 he0).1 ▸ hp0), rfl, rfl⟩)))
        have HBK := Lib.hid (box_noneR HAT7.out.h0 (.int .i64 0) (.slice none 0 0) (.slice none 0 0) (.string ⟨#[]⟩) (.int .i64 0))
        go_wp2
        refine bodyPost_ret (v := .tuple #[.agg #[.int .i64 0, .slice none 0 0, .slice none 0 0, .string ⟨#[]⟩, .int .i64 0], .int .i64 3]) ?_ rfl HPO.out
        have k0 := cell_at HBK.out 0 (.int .i64 0) rfl
        have k1 := cell_at HBK.out 1 (.slice none 0 0) rfl
        have k2 := cell_at HBK.out 2 (.slice none 0 0) rfl
        have k3 := cell_at HBK.out 3 (.string ⟨#[]⟩) rfl
        have k4 := cell_at HBK.out 4 (.int .i64 0) rfl
        simp [results, Tryd.results17, go_sem, k0, k1, k2, k3, k4]
      rw [decide_eq_true hok]
      clear pz0 pz1 pz2 pz3 pz4
      have pz0 := cell_at HAT7.out.h1 0 (.int .i64 2) rfl
      have pz1 := cell_at HAT7.out.h1 1 (.slice none 0 0) rfl
      have pz2 := cell_at HAT7.out.h1 2 (.slice A1 k a1) rfl
      have pz3 := cell_at HAT7.out.h1 3 (.string ⟨#[]⟩) rfl
      have pz4 := cell_at HAT7.out.h1 4 (.int .i64 0) rfl
      go_wp2_with fail
      refine (hY w7 (hlsC.below hb7) (hlsK.below hb7) hbd hok).mono ?_
      rintro x w8 ⟨rfl, hb8⟩
      have HAT8 := Lib.hid (HAT7.out.below hb8)
      have hbw8 := bthen hbw7 hb8
      clear pz0 pz1 pz2 pz3 pz4 hY
      obtain ⟨M, hM⟩ : ∃ M, M = mk (encL q) := ⟨_, rfl⟩
      rw [← hM]
      have hse := same_eq M b
      have hMl : M = b ↔ encL q = b.data.toList := ⟨fun h => by
        rw [← h, hM, mk_list], fun h => by
        rw [hM, h]
        exact (str_eq b).symm⟩
      have HML := Lib.hid hMl
      clear hMl hM
      by_cases heq : M = b
      case neg =>
        rw [decide_eq_false heq] at hse
        have hd0 := cell_at HAT8.out.h0 0 (.int .i64 0) rfl
        have hd1 := cell_at HAT8.out.h0 1 (.slice none 0 0) rfl
        have hd2 := cell_at HAT8.out.h0 2 (.slice none 0 0) rfl
        have hd3 := cell_at HAT8.out.h0 3 (.string ⟨#[]⟩) rfl
        have hd4 := cell_at HAT8.out.h0 4 (.int .i64 0) rfl
        have hf0 := free_at HAT8.out.h0 0
        have hf1 := free_at HAT8.out.h0 1
        have hf2 := free_at HAT8.out.h0 2
        have hf3 := free_at HAT8.out.h0 3
        have hf4 := free_at HAT8.out.h0 4
        have HPO : Hid (DecPost w b.data.toList (.returned (.tuple #[.agg #[.int .i64 0, .slice none 0 0, .slice none 0 0, .string ⟨#[]⟩, .int .i64 0], .int .i64 3])) ((((((w8.setCell ⟨w.heap.size, 0, none⟩ (.int .i64 0)).setCell ⟨w.heap.size, 1, none⟩ (.slice none 0 0)).setCell ⟨w.heap.size, 2, none⟩ (.slice none 0 0)).setCell ⟨w.heap.size, 3, none⟩ (.string ⟨#[]⟩)).setCell ⟨w.heap.size, 4, none⟩ (.int .i64 0)))) := dec_none (box_below hbw8 _ _ _ _ _) (.inr (.inr (.inl ⟨HN.out, HSL.out, fun p0 hp0 he0 => heq (HML.out.2 ((HQC.out p0 hp0 he0).1 ▸ he0)), rfl, rfl⟩)))
        have HBK := Lib.hid (box_noneR HAT8.out.h0 (.int .i64 0) (.slice none 0 0) (.slice none 0 0) (.string ⟨#[]⟩) (.int .i64 0))
        go_wp2
        refine bodyPost_ret (v := .tuple #[.agg #[.int .i64 0, .slice none 0 0, .slice none 0 0, .string ⟨#[]⟩, .int .i64 0], .int .i64 3]) ?_ rfl HPO.out
        have k0 := cell_at HBK.out 0 (.int .i64 0) rfl
        have k1 := cell_at HBK.out 1 (.slice none 0 0) rfl
        have k2 := cell_at HBK.out 2 (.slice none 0 0) rfl
        have k3 := cell_at HBK.out 3 (.string ⟨#[]⟩) rfl
        have k4 := cell_at HBK.out 4 (.int .i64 0) rfl
        simp [results, Tryd.results17, go_sem, k0, k1, k2, k3, k4]
      rw [decide_eq_true heq] at hse
      have HEQ := Lib.hid (HML.out.1 heq)
      clear heq
      have pz0 := cell_at HAT8.out.h1 0 (.int .i64 2) rfl
      have pz1 := cell_at HAT8.out.h1 1 (.slice none 0 0) rfl
      have pz2 := cell_at HAT8.out.h1 2 (.slice A1 k a1) rfl
      have pz3 := cell_at HAT8.out.h1 3 (.string ⟨#[]⟩) rfl
      have pz4 := cell_at HAT8.out.h1 4 (.int .i64 0) rfl
      have hd0 := cell_at HAT8.out.h0 0 (.int .i64 0) rfl
      have hd1 := cell_at HAT8.out.h0 1 (.slice none 0 0) rfl
      have hd2 := cell_at HAT8.out.h0 2 (.slice none 0 0) rfl
      have hd3 := cell_at HAT8.out.h0 3 (.string ⟨#[]⟩) rfl
      have hd4 := cell_at HAT8.out.h0 4 (.int .i64 0) rfl
      have hf0 := free_at HAT8.out.h0 0
      have hf1 := free_at HAT8.out.h0 1
      have hf2 := free_at HAT8.out.h0 2
      have hf3 := free_at HAT8.out.h0 3
      have hf4 := free_at HAT8.out.h0 4
      obtain ⟨w9, hw9⟩ : ∃ w9, w9 = (((((w8.setCell ⟨w.heap.size, 0, none⟩ (.int .i64 2)).setCell ⟨w.heap.size, 1, none⟩ (.slice none 0 0)).setCell ⟨w.heap.size, 2, none⟩ (.slice A1 k a1)).setCell ⟨w.heap.size, 3, none⟩ (.string ⟨#[]⟩)).setCell ⟨w.heap.size, 4, none⟩ (.int .i64 0)) := ⟨_, rfl⟩
      have HBK : Hid (w9.heap[w.heap.size]? = some (.cells #[.int .i64 2, .slice none 0 0, .slice A1 k a1, .string ⟨#[]⟩, .int .i64 0] 25 (0, 0))) := by rw [hw9]; exact box_noneR HAT8.out.h0 _ _ _ _ _
      have hoth : ∀ i, i ≠ w.heap.size → w9.heap[i]? = w8.heap[i]? := fun i hi => by
        rw [hw9, Below.heap_setCell _ _ _ _ hi, Below.heap_setCell _ _ _ _ hi, Below.heap_setCell _ _ _ _ hi, Below.heap_setCell _ _ _ _ hi, Below.heap_setCell _ _ _ _ hi]
      have hsz9 : w9.heap.size = w8.heap.size := by rw [hw9]; simp [World.setCell]
      have keepC : ∀ {α : Type} {f : α → List Value} {A : Option Addr} {l : List α}, Ls f w8 A l → (0 < l.length → ∀ ad, A = some ad → w.heap.size < ad.block) → Ls f w9 A l := fun h hne h0 => by
        obtain ⟨ad, e, hlt, hc⟩ := h h0
        refine ⟨ad, e, by omega, fun j u hu => ?_⟩
        have hb := hoth (ad.add j).block (by rw [block_of_add]; have := hne h0 ad e; omega)
        exact (World.cell?_of_block (w := w8) hb).trans (hc j u hu)
      have HPO : Hid (DecPost w b.data.toList (.returned (.tuple #[.agg #[.int .i64 2, .slice none 0 0, .slice A1 k a1, .string ⟨#[]⟩, .int .i64 0], .int .i64 0])) w9) := by
        refine ⟨q, none, A1, 0, a1, 0, ?_, keepC ((hlsC.below hb7).below hb8) hAb, keepC ((hlsK.below hb7).below hb8) hBb, by rw [hw9]; exact box_below hbw8 _ _ _ _ _, hbd, h255, h255', .inr (.inr (.inr ⟨hok, HEQ.out, rfl⟩))⟩
        unfold pageV
        rw [hq1, hq2, hq3, hq4, hq5]
      have HW9 := Lib.hid hw9
      clear hw9 hoth hsz9 keepC
      go_wp2
      rw [← HW9.out]
      refine bodyPost_ret (v := .tuple #[.agg #[.int .i64 2, .slice none 0 0, .slice A1 k a1, .string ⟨#[]⟩, .int .i64 0], .int .i64 0]) ?_ rfl HPO.out
      have k0 := cell_at HBK.out 0 (.int .i64 2) rfl
      have k1 := cell_at HBK.out 1 (.slice none 0 0) rfl
      have k2 := cell_at HBK.out 2 (.slice A1 k a1) rfl
      have k3 := cell_at HBK.out 3 (.string ⟨#[]⟩) rfl
      have k4 := cell_at HBK.out 4 (.int .i64 0) rfl
      simp [results, Tryd.results17, go_sem, k0, k1, k2, k3, k4]
  by_cases t3 : t = 3
  case pos =>
    subst t3
    go_wp2_with fail
    rw [← HW3.out]
    refine (rtext_any W3 g S p1 e1 240 HAT3.out.rd (by omega)).mono ?_
    rintro x w4 ⟨rfl, r4, g4⟩
    obtain ⟨pc, hpc⟩ : ∃ k : ByteArray, k = ⟨(txtS S.data.toList p1 e1 240).toArray⟩ := ⟨_, rfl⟩
    rw [← hpc]
    have hxs : pc.size ≤ 60000 := by
      rw [hpc]
      have := txtS_small S.data.toList p1 e1 240
      show (txtS S.data.toList p1 e1 240).toArray.size ≤ _
      have h2 : S.data.toList.length = 252 := hSs
      simp
      omega
    have HT3 : Hid (∀ (s : ByteArray) rest, s.size ≤ 240 → Ahead S.data.toList p1 e1 (textL s ++ rest) → pc = s ∧ Ahead S.data.toList (txtP S.data.toList p1 e1 240) (txtE S.data.toList p1 e1 240) rest) := fun s rest hs ha => by
      obtain ⟨h1, h2⟩ := text_str (most := 240) (s := s) (by omega) (by omega) ha
      exact ⟨hpc.trans h1, h2⟩
    generalize txtP S.data.toList p1 e1 240 = p4 at *
    generalize txtE S.data.toList p1 e1 240 = e4 at *
    have HAT4 := Lib.hid (HAT3.out.next r4 g4)
    have y3 := cell_at HAT4.out.h1 3 (.string ⟨#[]⟩) rfl
    have y3f := free_at HAT4.out.h1 3
    obtain ⟨W5, hW5⟩ : ∃ W5, W5 = w4.setCell ⟨w1.heap.size, 3, none⟩ (.string pc) := ⟨_, rfl⟩
    have HAT5 : Hid (RkAt w w1 3 g S (.slice none 0 0) (.slice none 0 0) pc 0 p4 e4 W5) := by
      rw [hW5]
      have h := HAT4.out
      exact ⟨(Below.heap_setCell _ _ _ _ (by have := h.gl; have := h.gr; simp only; omega)).trans h.h0, blk_set h.h1 3 _, ⟨(Below.heap_setCell _ _ _ _ (by have := h.gr; simp only; omega)).trans h.rd.1, h.rd.2⟩, below_set h.bel (by have := h.gl; have := h.gr; simp only; omega) _, by simpa [World.setCell] using h.sz, h.gl, h.gr⟩
    have HW5 := Lib.hid hW5
    clear hW5 hpc r4 g4
    go_wp2_with fail
    rw [← HW5.out]
    refine (rtake_any W5 g S p4 e4 2 HAT5.out.rd (by omega) (by omega) (by omega)).mono ?_
    rintro x w6 ⟨rfl, r6, g6⟩
    obtain ⟨z, hz⟩ : ∃ z : Int, z = num (nextB S.data.toList p4 e4 2) := ⟨_, rfl⟩
    rw [← hz]
    have hzl : 0 ≤ z ∧ z < 65536 := by rw [hz]; have := num16 S.data.toList p4 e4; omega
    have HT4 : Hid (∀ x rest, 0 ≤ x → x < 65536 → Ahead S.data.toList p4 e4 (be16 x ++ rest) → z = x ∧ Ahead S.data.toList (nextP S.data.toList p4 e4 2) (nextE S.data.toList p4 e4 2) rest) := fun x rest h0 h1 ha => by
      rw [hz]
      exact take2_of h0 h1 ha
    generalize nextP S.data.toList p4 e4 2 = p at *
    generalize nextE S.data.toList p4 e4 2 = e at *
    have HAT6 := Lib.hid (HAT5.out.next r6 g6)
    have y4 := cell_at HAT6.out.h1 4 (.int .i64 0) rfl
    have y4f := free_at HAT6.out.h1 4
    obtain ⟨wz, hwz⟩ : ∃ wz, wz = w6.setCell ⟨w1.heap.size, 4, none⟩ (.int .i64 z) := ⟨_, rfl⟩
    have HAT : Hid (RkAt w w1 3 g S (.slice none 0 0) (.slice none 0 0) pc z p e wz) := by
      rw [hwz]
      have h := HAT6.out
      exact ⟨(Below.heap_setCell _ _ _ _ (by have := h.gl; have := h.gr; simp only; omega)).trans h.h0, blk_set h.h1 4 _, ⟨(Below.heap_setCell _ _ _ _ (by have := h.gr; simp only; omega)).trans h.rd.1, h.rd.2⟩, below_set h.bel (by have := h.gl; have := h.gr; simp only; omega) _, by simpa [World.setCell] using h.sz, h.gl, h.gr⟩
    obtain ⟨q, hq0⟩ : ∃ q : PP, q = ⟨3, [], [], pc, z⟩ := ⟨_, rfl⟩
    have hq1 : q.kind = 3 := by rw [hq0]
    have hq2 : q.cells.length = 0 := by rw [hq0]; rfl
    have hq3 : q.kids.length = 0 := by rw [hq0]; rfl
    have hq4 : q.piece = pc := by rw [hq0]
    have hq5 : q.next = z := by rw [hq0]
    have hlsC : Ls pcC wz none q.cells := by rw [hq0]; exact Ls.nil _ _
    have hlsK : Ls pcK wz none q.kids := by rw [hq0]; exact Ls.nil _ _
    have hAb : 0 < q.cells.length → ∀ ad, (none : Option Addr) = some ad → w.heap.size < ad.block := fun _ _ h => by cases h
    have hBb : 0 < q.kids.length → ∀ ad, (none : Option Addr) = some ad → w.heap.size < ad.block := fun _ _ h => by cases h
    have hbd : Bd q := by rw [hq0]; exact ⟨⟨by simp only; omega, by simp only; omega⟩, ⟨by simp only; omega, by simp only; omega⟩, by simp only; omega, Nat.zero_le _, Nat.zero_le _, fun c hc => (by cases hc), fun c hc => (by cases hc)⟩
    have h255 : q.cells.length ≤ 255 := by omega
    have h255' : q.kids.length ≤ 255 := by omega
    have HCL : Hid (∀ p0, okPage p0 → S.data.toList = bodyL p0 → q = p0 ∧ e = 0) := fun p0 ho hb => by
      obtain ⟨hkd, ha⟩ := HK.out p0 ho hb
      have hkd := hkd.symm
      unfold restL at ha
      rw [if_neg (by omega), if_neg (by omega), if_pos hkd, List.append_assoc] at ha
      rcases ho with ⟨h, ho⟩ | ⟨h, ho⟩ | ⟨h, ho⟩
      · omega
      · omega
      · obtain ⟨o1, o2, o3, o4, o5⟩ := ho
        obtain ⟨h1, h2⟩ := HT3.out p0.piece _ o4 ha
        have hn0 : 0 ≤ p0.next ∧ p0.next < 65536 := by
          rcases o5 with h | h
          · omega
          · exact okNum_lt h
        obtain ⟨h3, h4⟩ := HT4.out p0.next _ hn0.1 hn0.2 h2
        refine ⟨?_, h4.1⟩
        rw [hq0]
        cases p0
        simp only at h1 h3 o1 o2 hkd
        rw [h1, h3, hkd, List.eq_nil_of_length_eq_zero o1, List.eq_nil_of_length_eq_zero o2]
    have HWZ := Lib.hid hwz
    clear hq0 hwz hz r6 g6
    have HQC : Hid (∀ p0, okPage p0 → encL p0 = b.data.toList → q = p0 ∧ e = 0) := fun p0 hp0 he0 => HCL.out p0 hp0 (HTK.out p0 hp0 he0)
    have pz0 := cell_at HAT6.out.h1 0 (.int .i64 3) rfl
    have pz1 := cell_at HAT6.out.h1 1 (.slice none 0 0) rfl
    have pz2 := cell_at HAT6.out.h1 2 (.slice none 0 0) rfl
    have pz3 := cell_at HAT6.out.h1 3 (.string pc) rfl
    have pz4 := cell_at HAT6.out.h1 4 (.int .i64 0) rfl
    have pe := HAT6.out.rd.cells.2.2
    have hbwz := HAT.out.bel
    have hgl := HAT.out.gl
    have hgr := HAT.out.gr
    have hszz := HAT.out.sz
    have hne1 : w.heap.size ≠ w1.heap.size := by omega
    have hne2 : w1.heap.size ≠ w.heap.size := by omega
    have hne3 : g ≠ w1.heap.size := by omega
    have hne4 : w1.heap.size ≠ g := by omega
    have hR := refRight_any q none none 0 0 wz hlsC hlsK hbd
    have hY := refBytes_any q none none 0 0
    unfold pageV at hR hY
    rw [hq1, hq2, hq3, hq4, hq5] at hR hY
    by_cases he : e = 0
    case neg =>
      have heb : (e == 0) = false := by simpa using he
      have hd0 := cell_at HAT6.out.h0 0 (.int .i64 0) rfl
      have hd1 := cell_at HAT6.out.h0 1 (.slice none 0 0) rfl
      have hd2 := cell_at HAT6.out.h0 2 (.slice none 0 0) rfl
      have hd3 := cell_at HAT6.out.h0 3 (.string ⟨#[]⟩) rfl
      have hd4 := cell_at HAT6.out.h0 4 (.int .i64 0) rfl
      have hf0 := free_at HAT6.out.h0 0
      have hf1 := free_at HAT6.out.h0 1
      have hf2 := free_at HAT6.out.h0 2
      have hf3 := free_at HAT6.out.h0 3
      have hf4 := free_at HAT6.out.h0 4
      have HPO : Hid (DecPost w b.data.toList (.returned (.tuple #[.agg #[.int .i64 0, .slice none 0 0, .slice none 0 0, .string ⟨#[]⟩, .int .i64 0], .int .i64 3])) ((((((wz.setCell ⟨w.heap.size, 0, none⟩ (.int .i64 0)).setCell ⟨w.heap.size, 1, none⟩ (.slice none 0 0)).setCell ⟨w.heap.size, 2, none⟩ (.slice none 0 0)).setCell ⟨w.heap.size, 3, none⟩ (.string ⟨#[]⟩)).setCell ⟨w.heap.size, 4, none⟩ (.int .i64 0)))) := dec_none (box_below hbwz _ _ _ _ _) (.inr (.inr (.inl ⟨HN.out, HSL.out, fun p0 hp0 he0 => he (HQC.out p0 hp0 he0).2, rfl, rfl⟩)))
      have HBK := Lib.hid (box_noneR HAT.out.h0 (.int .i64 0) (.slice none 0 0) (.slice none 0 0) (.string ⟨#[]⟩) (.int .i64 0))
      go_wp2
      rw [← HWZ.out]
      refine bodyPost_ret (v := .tuple #[.agg #[.int .i64 0, .slice none 0 0, .slice none 0 0, .string ⟨#[]⟩, .int .i64 0], .int .i64 3]) ?_ rfl HPO.out
      have k0 := cell_at HBK.out 0 (.int .i64 0) rfl
      have k1 := cell_at HBK.out 1 (.slice none 0 0) rfl
      have k2 := cell_at HBK.out 2 (.slice none 0 0) rfl
      have k3 := cell_at HBK.out 3 (.string ⟨#[]⟩) rfl
      have k4 := cell_at HBK.out 4 (.int .i64 0) rfl
      simp [results, Tryd.results17, go_sem, k0, k1, k2, k3, k4]
    subst he
    go_wp2_with fail
    rw [← HWZ.out]
    refine hR.mono ?_
    rintro x w7 ⟨rfl, hb7⟩
    have hat7 := HAT.out.below hb7
    have HAT7 := Lib.hid hat7
    have hbw7 := bthen hbwz hb7
    clear hat7 pe hR
    by_cases hok : okPage q
    case neg =>
      rw [decide_eq_false hok]
      have hd0 := cell_at HAT7.out.h0 0 (.int .i64 0) rfl
      have hd1 := cell_at HAT7.out.h0 1 (.slice none 0 0) rfl
      have hd2 := cell_at HAT7.out.h0 2 (.slice none 0 0) rfl
      have hd3 := cell_at HAT7.out.h0 3 (.string ⟨#[]⟩) rfl
      have hd4 := cell_at HAT7.out.h0 4 (.int .i64 0) rfl
      have hf0 := free_at HAT7.out.h0 0
      have hf1 := free_at HAT7.out.h0 1
      have hf2 := free_at HAT7.out.h0 2
      have hf3 := free_at HAT7.out.h0 3
      have hf4 := free_at HAT7.out.h0 4
      have HPO : Hid (DecPost w b.data.toList (.returned (.tuple #[.agg #[.int .i64 0, .slice none 0 0, .slice none 0 0, .string ⟨#[]⟩, .int .i64 0], .int .i64 3])) ((((((w7.setCell ⟨w.heap.size, 0, none⟩ (.int .i64 0)).setCell ⟨w.heap.size, 1, none⟩ (.slice none 0 0)).setCell ⟨w.heap.size, 2, none⟩ (.slice none 0 0)).setCell ⟨w.heap.size, 3, none⟩ (.string ⟨#[]⟩)).setCell ⟨w.heap.size, 4, none⟩ (.int .i64 0)))) := dec_none (box_below hbw7 _ _ _ _ _) (.inr (.inr (.inl ⟨HN.out, HSL.out, fun p0 hp0 he0 => hok ((HQC.out p0 hp0 he0).1 ▸ hp0), rfl, rfl⟩)))
      have HBK := Lib.hid (box_noneR HAT7.out.h0 (.int .i64 0) (.slice none 0 0) (.slice none 0 0) (.string ⟨#[]⟩) (.int .i64 0))
      go_wp2
      refine bodyPost_ret (v := .tuple #[.agg #[.int .i64 0, .slice none 0 0, .slice none 0 0, .string ⟨#[]⟩, .int .i64 0], .int .i64 3]) ?_ rfl HPO.out
      have k0 := cell_at HBK.out 0 (.int .i64 0) rfl
      have k1 := cell_at HBK.out 1 (.slice none 0 0) rfl
      have k2 := cell_at HBK.out 2 (.slice none 0 0) rfl
      have k3 := cell_at HBK.out 3 (.string ⟨#[]⟩) rfl
      have k4 := cell_at HBK.out 4 (.int .i64 0) rfl
      simp [results, Tryd.results17, go_sem, k0, k1, k2, k3, k4]
    rw [decide_eq_true hok]
    clear pz0 pz1 pz2 pz3 pz4
    have pz0 := cell_at HAT7.out.h1 0 (.int .i64 3) rfl
    have pz1 := cell_at HAT7.out.h1 1 (.slice none 0 0) rfl
    have pz2 := cell_at HAT7.out.h1 2 (.slice none 0 0) rfl
    have pz3 := cell_at HAT7.out.h1 3 (.string pc) rfl
    have pz4 := cell_at HAT7.out.h1 4 (.int .i64 z) rfl
    go_wp2_with fail
    refine (hY w7 (hlsC.below hb7) (hlsK.below hb7) hbd hok).mono ?_
    rintro x w8 ⟨rfl, hb8⟩
    have HAT8 := Lib.hid (HAT7.out.below hb8)
    have hbw8 := bthen hbw7 hb8
    clear pz0 pz1 pz2 pz3 pz4 hY
    obtain ⟨M, hM⟩ : ∃ M, M = mk (encL q) := ⟨_, rfl⟩
    rw [← hM]
    have hse := same_eq M b
    have hMl : M = b ↔ encL q = b.data.toList := ⟨fun h => by
      rw [← h, hM, mk_list], fun h => by
      rw [hM, h]
      exact (str_eq b).symm⟩
    have HML := Lib.hid hMl
    clear hMl hM
    by_cases heq : M = b
    case neg =>
      rw [decide_eq_false heq] at hse
      have hd0 := cell_at HAT8.out.h0 0 (.int .i64 0) rfl
      have hd1 := cell_at HAT8.out.h0 1 (.slice none 0 0) rfl
      have hd2 := cell_at HAT8.out.h0 2 (.slice none 0 0) rfl
      have hd3 := cell_at HAT8.out.h0 3 (.string ⟨#[]⟩) rfl
      have hd4 := cell_at HAT8.out.h0 4 (.int .i64 0) rfl
      have hf0 := free_at HAT8.out.h0 0
      have hf1 := free_at HAT8.out.h0 1
      have hf2 := free_at HAT8.out.h0 2
      have hf3 := free_at HAT8.out.h0 3
      have hf4 := free_at HAT8.out.h0 4
      have HPO : Hid (DecPost w b.data.toList (.returned (.tuple #[.agg #[.int .i64 0, .slice none 0 0, .slice none 0 0, .string ⟨#[]⟩, .int .i64 0], .int .i64 3])) ((((((w8.setCell ⟨w.heap.size, 0, none⟩ (.int .i64 0)).setCell ⟨w.heap.size, 1, none⟩ (.slice none 0 0)).setCell ⟨w.heap.size, 2, none⟩ (.slice none 0 0)).setCell ⟨w.heap.size, 3, none⟩ (.string ⟨#[]⟩)).setCell ⟨w.heap.size, 4, none⟩ (.int .i64 0)))) := dec_none (box_below hbw8 _ _ _ _ _) (.inr (.inr (.inl ⟨HN.out, HSL.out, fun p0 hp0 he0 => heq (HML.out.2 ((HQC.out p0 hp0 he0).1 ▸ he0)), rfl, rfl⟩)))
      have HBK := Lib.hid (box_noneR HAT8.out.h0 (.int .i64 0) (.slice none 0 0) (.slice none 0 0) (.string ⟨#[]⟩) (.int .i64 0))
      go_wp2
      refine bodyPost_ret (v := .tuple #[.agg #[.int .i64 0, .slice none 0 0, .slice none 0 0, .string ⟨#[]⟩, .int .i64 0], .int .i64 3]) ?_ rfl HPO.out
      have k0 := cell_at HBK.out 0 (.int .i64 0) rfl
      have k1 := cell_at HBK.out 1 (.slice none 0 0) rfl
      have k2 := cell_at HBK.out 2 (.slice none 0 0) rfl
      have k3 := cell_at HBK.out 3 (.string ⟨#[]⟩) rfl
      have k4 := cell_at HBK.out 4 (.int .i64 0) rfl
      simp [results, Tryd.results17, go_sem, k0, k1, k2, k3, k4]
    rw [decide_eq_true heq] at hse
    have HEQ := Lib.hid (HML.out.1 heq)
    clear heq
    have pz0 := cell_at HAT8.out.h1 0 (.int .i64 3) rfl
    have pz1 := cell_at HAT8.out.h1 1 (.slice none 0 0) rfl
    have pz2 := cell_at HAT8.out.h1 2 (.slice none 0 0) rfl
    have pz3 := cell_at HAT8.out.h1 3 (.string pc) rfl
    have pz4 := cell_at HAT8.out.h1 4 (.int .i64 z) rfl
    have hd0 := cell_at HAT8.out.h0 0 (.int .i64 0) rfl
    have hd1 := cell_at HAT8.out.h0 1 (.slice none 0 0) rfl
    have hd2 := cell_at HAT8.out.h0 2 (.slice none 0 0) rfl
    have hd3 := cell_at HAT8.out.h0 3 (.string ⟨#[]⟩) rfl
    have hd4 := cell_at HAT8.out.h0 4 (.int .i64 0) rfl
    have hf0 := free_at HAT8.out.h0 0
    have hf1 := free_at HAT8.out.h0 1
    have hf2 := free_at HAT8.out.h0 2
    have hf3 := free_at HAT8.out.h0 3
    have hf4 := free_at HAT8.out.h0 4
    obtain ⟨w9, hw9⟩ : ∃ w9, w9 = (((((w8.setCell ⟨w.heap.size, 0, none⟩ (.int .i64 3)).setCell ⟨w.heap.size, 1, none⟩ (.slice none 0 0)).setCell ⟨w.heap.size, 2, none⟩ (.slice none 0 0)).setCell ⟨w.heap.size, 3, none⟩ (.string pc)).setCell ⟨w.heap.size, 4, none⟩ (.int .i64 z)) := ⟨_, rfl⟩
    have HBK : Hid (w9.heap[w.heap.size]? = some (.cells #[.int .i64 3, .slice none 0 0, .slice none 0 0, .string pc, .int .i64 z] 25 (0, 0))) := by rw [hw9]; exact box_noneR HAT8.out.h0 _ _ _ _ _
    have hoth : ∀ i, i ≠ w.heap.size → w9.heap[i]? = w8.heap[i]? := fun i hi => by
      rw [hw9, Below.heap_setCell _ _ _ _ hi, Below.heap_setCell _ _ _ _ hi, Below.heap_setCell _ _ _ _ hi, Below.heap_setCell _ _ _ _ hi, Below.heap_setCell _ _ _ _ hi]
    have hsz9 : w9.heap.size = w8.heap.size := by rw [hw9]; simp [World.setCell]
    have keepC : ∀ {α : Type} {f : α → List Value} {A : Option Addr} {l : List α}, Ls f w8 A l → (0 < l.length → ∀ ad, A = some ad → w.heap.size < ad.block) → Ls f w9 A l := fun h hne h0 => by
      obtain ⟨ad, e, hlt, hc⟩ := h h0
      refine ⟨ad, e, by omega, fun j u hu => ?_⟩
      have hb := hoth (ad.add j).block (by rw [block_of_add]; have := hne h0 ad e; omega)
      exact (World.cell?_of_block (w := w8) hb).trans (hc j u hu)
    have HPO : Hid (DecPost w b.data.toList (.returned (.tuple #[.agg #[.int .i64 3, .slice none 0 0, .slice none 0 0, .string pc, .int .i64 z], .int .i64 0])) w9) := by
      refine ⟨q, none, none, 0, 0, 0, ?_, keepC ((hlsC.below hb7).below hb8) hAb, keepC ((hlsK.below hb7).below hb8) hBb, by rw [hw9]; exact box_below hbw8 _ _ _ _ _, hbd, h255, h255', .inr (.inr (.inr ⟨hok, HEQ.out, rfl⟩))⟩
      unfold pageV
      rw [hq1, hq2, hq3, hq4, hq5]
    have HW9 := Lib.hid hw9
    clear hw9 hoth hsz9 keepC
    go_wp2
    rw [← HW9.out]
    refine bodyPost_ret (v := .tuple #[.agg #[.int .i64 3, .slice none 0 0, .slice none 0 0, .string pc, .int .i64 z], .int .i64 0]) ?_ rfl HPO.out
    have k0 := cell_at HBK.out 0 (.int .i64 3) rfl
    have k1 := cell_at HBK.out 1 (.slice none 0 0) rfl
    have k2 := cell_at HBK.out 2 (.slice none 0 0) rfl
    have k3 := cell_at HBK.out 3 (.string pc) rfl
    have k4 := cell_at HBK.out 4 (.int .i64 z) rfl
    simp [results, Tryd.results17, go_sem, k0, k1, k2, k3, k4]
  have HNO : Hid (∀ p0, okPage p0 → encL p0 ≠ b.data.toList) := fun p0 hp0 he0 => by
    have := (HK.out p0 hp0 (HTK.out p0 hp0 he0)).1
    rcases hp0 with ⟨h, _⟩ | ⟨h, _⟩ | ⟨h, _⟩ <;> omega
  have pe := HR1.out.cells.2.2
  have hbw3 := HAT3.out.bel
  have hs1 : w.heap.size < w1.heap.size := by omega
  have he := HE1.out
  subst he
  have hR := refRight_any ⟨t, [], [], ⟨#[]⟩, 0⟩ none none 0 0 W3 (Ls.nil _ _) (Ls.nil _ _) ⟨⟨by simp only; omega, by simp only; omega⟩, ⟨by simp only; omega, by simp only; omega⟩, Nat.zero_le _, Nat.zero_le _, Nat.zero_le _, fun c hc => (by cases hc), fun c hc => (by cases hc)⟩
  rw [show decide (okPage ⟨t, [], [], ⟨#[]⟩, 0⟩) = false from decide_eq_false fun h => by rcases h with ⟨h, _⟩ | ⟨h, _⟩ | ⟨h, _⟩ <;> simp only at h <;> omega] at hR
  unfold pageV at hR
  go_wp2_with fail
  rw [← HW3.out]
  refine hR.mono ?_
  rintro x w7 ⟨rfl, hb7⟩
  have HAT7 := Lib.hid (HAT3.out.below hb7)
  have hbw7 := bthen hbw3 hb7
  have hd0 := cell_at HAT7.out.h0 0 (.int .i64 0) rfl
  have hd1 := cell_at HAT7.out.h0 1 (.slice none 0 0) rfl
  have hd2 := cell_at HAT7.out.h0 2 (.slice none 0 0) rfl
  have hd3 := cell_at HAT7.out.h0 3 (.string ⟨#[]⟩) rfl
  have hd4 := cell_at HAT7.out.h0 4 (.int .i64 0) rfl
  have hf0 := free_at HAT7.out.h0 0
  have hf1 := free_at HAT7.out.h0 1
  have hf2 := free_at HAT7.out.h0 2
  have hf3 := free_at HAT7.out.h0 3
  have hf4 := free_at HAT7.out.h0 4
  have HPO : Hid (DecPost w b.data.toList (.returned (.tuple #[.agg #[.int .i64 0, .slice none 0 0, .slice none 0 0, .string ⟨#[]⟩, .int .i64 0], .int .i64 3])) ((((((w7.setCell ⟨w.heap.size, 0, none⟩ (.int .i64 0)).setCell ⟨w.heap.size, 1, none⟩ (.slice none 0 0)).setCell ⟨w.heap.size, 2, none⟩ (.slice none 0 0)).setCell ⟨w.heap.size, 3, none⟩ (.string ⟨#[]⟩)).setCell ⟨w.heap.size, 4, none⟩ (.int .i64 0)))) := dec_none (box_below hbw7 _ _ _ _ _) (.inr (.inr (.inl ⟨HN.out, HSL.out, HNO.out, rfl, rfl⟩)))
  have HBK := Lib.hid (box_noneR HAT7.out.h0 (.int .i64 0) (.slice none 0 0) (.slice none 0 0) (.string ⟨#[]⟩) (.int .i64 0))
  go_wp2
  refine bodyPost_ret (v := .tuple #[.agg #[.int .i64 0, .slice none 0 0, .slice none 0 0, .string ⟨#[]⟩, .int .i64 0], .int .i64 3]) ?_ rfl HPO.out
  have k0 := cell_at HBK.out 0 (.int .i64 0) rfl
  have k1 := cell_at HBK.out 1 (.slice none 0 0) rfl
  have k2 := cell_at HBK.out 2 (.slice none 0 0) rfl
  have k3 := cell_at HBK.out 3 (.string ⟨#[]⟩) rfl
  have k4 := cell_at HBK.out 4 (.int .i64 0) rfl
  simp [results, Tryd.results17, go_sem, k0, k1, k2, k3, k4]

end Go.Proofs.YtgicomadlhnkjaaDoor
