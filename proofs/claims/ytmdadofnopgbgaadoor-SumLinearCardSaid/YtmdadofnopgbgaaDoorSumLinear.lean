/-
  SumLinear: the check of bytes that are xored is xored of checks, for every two strings; no condition beyond the row's.
-/
import Derived.Test.YtmdadofnopgbgaaDoorSumAwake
import Derived.Test.YtmdadofnopgbgaaDoorSumLaid
import Derived.Test.YtmdadofnopgbgaaDoorRooms
import Derived.Test.YtmdadofnopgbgaaDoorDrawnV
import Derived.Test.YtmdadofnopgbgaaDoorTie
import Derived.Test.YtmdadofnopgbgaaDoorCards
import Derived.SevenTiedAt
namespace Go.Proofs.YtmdadofnopgbgaaDoor
open Go.RowKit
set_option linter.unusedVariables false
set_option linter.unusedSimpArgs false

/-- The xored bytes, as far as i. -/
def xorL (p q : List UInt8) (n i : Nat) : List UInt8 := (List.range n).map fun j => if j < i then p.getD j 0 ^^^ q.getD j 0 else 0
theorem xorL_length (p q : List UInt8) (n i : Nat) : (xorL p q n i).length = n := by simp [xorL]
theorem xorL_zero (p q : List UInt8) (n : Nat) : xorL p q n 0 = List.replicate n 0 := by
  apply List.ext_getElem
  · simp [xorL]
  · intro i h1 h2
    simp [xorL]
theorem xorL_succ (p q : List UInt8) (n i : Nat) (hi : i < n) : xorL p q n (i + 1) = (xorL p q n i).set i (p.getD i 0 ^^^ q.getD i 0) := by
  apply List.ext_getElem
  · simp [xorL]
  · intro j h1 h2
    rw [List.getElem_set]
    simp only [xorL, List.getElem_map, List.getElem_range]
    by_cases hj : i = j
    · subst hj
      simp
    · rw [if_neg hj]
      have : (j < i + 1) = (j < i) := by apply propext; omega
      simp only [this]
theorem xorL_all (p q : List UInt8) (n : Nat) (hp : n ≤ p.length) (hq : n ≤ q.length) : xorL p q n n = List.zipWith (· ^^^ ·) (p.take n) (q.take n) := by
  apply List.ext_getElem
  · simp [xorL]; omega
  · intro j h1 h2
    have hj : j < n := by simpa [xorL] using h1
    simp only [xorL, List.getElem_map, List.getElem_range, List.getElem_zipWith, List.getElem_take, if_pos hj]
    rw [List.getD_eq_getElem?_getD, List.getD_eq_getElem?_getD, List.getElem?_eq_getElem (by omega), List.getElem?_eq_getElem (by omega)]
    rfl
/-- What the operations of the last statement yield. -/
def linV (g k : Nat) (a b ea eb : ByteArray) (cx ca cb cz : BitVec 32) : Nat → Value → World → Prop
  | 0, v, _ => v = .slice (some ⟨g, 0, none⟩) k k
  | 1, v, _ => v = .int .u32 (cx.toNat : Int)
  | 2, v, _ => v = .string a
  | 3, v, _ => v = .int .i64 (k : Int)
  | 4, v, _ => v = .string ea
  | 5, v, w => ∃ A c, v = .slice A k c ∧ Rd w A ea.data.toList
  | 6, v, _ => v = .int .u32 (ca.toNat : Int)
  | 7, v, _ => v = .string b
  | 8, v, _ => v = .int .i64 (k : Int)
  | 9, v, _ => v = .string eb
  | 10, v, w => ∃ A c, v = .slice A k c ∧ Rd w A eb.data.toList
  | 11, v, _ => v = .int .u32 (cb.toNat : Int)
  | 12, v, _ => v = .int .u32 ((ca ^^^ cb).toNat : Int)
  | 13, v, _ => v = .int .i64 (k : Int)
  | 14, v, w => ∃ A c, v = .slice A k c ∧ Rd w A (List.replicate k 0)
  | 15, v, _ => v = .int .u32 (cz.toNat : Int)
  | 16, v, _ => v = .int .u32 ((ca ^^^ cb ^^^ cz).toNat : Int)
  | 17, v, _ => v = .bool true
  | 18, v, _ => v = .bool true
  | _, _, _ => True
theorem linV_later {g k : Nat} {a b ea eb : ByteArray} {cx ca cb cz : BitVec 32} (i : Nat) (v : Value) (w w' : World) (h : linV g k a b ea eb cx ca cb cz i v w) (hb : Below w.heap.size w w') : linV g k a b ea eb cx ca cb cz i v w' := by
  unfold linV at *
  split at h <;> first | exact h | (obtain ⟨A, c, e, hr⟩ := h; exact ⟨A, c, e, hr.below hb⟩)

set_option maxHeartbeats 2000000 in
theorem sumLinear_long (a b : ByteArray) (w : World) (hh : Half w) (h : 5000 < a.size ∨ 5000 < b.size) (hs : a.size ≤ 140737488351232) (ht : b.size ≤ 140737488351232) :
    Calls Tryd.prog 6 #[.string a, .string b] w fun e w' => e = .returned (.bool true) ∧ Below w.heap.size w w' := by
  by_cases h1 : 5000 < a.size
  · go_enter Tryd.func6, Tryd.ntmps6
    have hd : decide ((5000 : Int) < (a.size : Int)) = true := by simp; omega
    go_wp2_with fail
    refine (awake_any w hh).mono ?_
    rintro e w1 ⟨rfl, hb1⟩
    go_wp2_with fail
    refine (awake_any w1 (hh.below hb1)).mono ?_
    rintro e w2 ⟨rfl, hb2⟩
    go_wp2
    go_ret
    exact ⟨rfl, bthen hb1 hb2⟩
  · have hd : decide ((5000 : Int) < (a.size : Int)) = false := by simp; omega
    have hd2 : decide ((5000 : Int) < (b.size : Int)) = true := by simp; omega
    clear h
    go_enter Tryd.func6, Tryd.ntmps6
    go_wp2_with fail
    refine (awake_any w hh).mono ?_
    rintro e w1 ⟨rfl, hb1⟩
    go_wp2_with fail
    refine (awake_any w1 (hh.below hb1)).mono ?_
    rintro e w2 ⟨rfl, hb2⟩
    go_wp2
    go_ret
    exact ⟨rfl, bthen hb1 hb2⟩


set_option maxHeartbeats 4000000 in
theorem sumLinear_b (a b : ByteArray) (w : World) (hh : Half w) (hs : a.size ≤ 5000) (ht : b.size ≤ 5000) (hlt : b.size < a.size) :
    Calls Tryd.prog 6 #[.string a, .string b] w fun e w' => e = .returned (.bool true) ∧ Below w.heap.size w w' := by
  have hd : decide ((5000 : Int) < (a.size : Int)) = false := by simp; omega
  have hd2 : decide ((5000 : Int) < (b.size : Int)) = false := by simp; omega
  obtain ⟨n, hn⟩ : ∃ n, n = b.size := ⟨_, rfl⟩
  have hna : n ≤ a.size := by omega
  have hnb : n ≤ b.size := by omega
  have hn5 : n ≤ 5000 := by omega
  have hmk0 := fun w => run_make_bytes n n (Nat.le_refl _) (by omega) w
  have hmk := hmk0
  rw [hn] at hmk
  have HN := Lib.hid hn
  have HMK := Lib.hid hmk0
  clear hmk0 hn
  go_enter Tryd.func6, Tryd.ntmps6
  go_wp2_with fail
  refine (awake_any w hh).mono ?_
  rintro e w1 ⟨rfl, hb1⟩
  go_wp2
  rw [← HN.out]
  clear hmk hlt hd hd2
  have hb2 : Below w.heap.size w (w1.alloc (.cells (madeCells #[.int .u8 0] n) 5)) := hb1.alloc hb1.size _
  have hrow : (w1.alloc (.cells (madeCells #[.int .u8 0] n) 5)).heap[w1.heap.size]? = some (.cells (bcells (xorL a.data.toList b.data.toList n 0)).toArray 5 (0, 0)) := by
    rw [heap_alloc_new, made_list, xorL_zero]
    simp [bcells, u8]
  have hgw : w.heap.size ≤ w1.heap.size := hb1.size
  generalize w1.alloc (.cells (madeCells #[.int .u8 0] n) 5) = w2 at *
  generalize w1.heap.size = g at *
  have Hrow := Lib.hid hrow
  clear hrow hb1 w1
  go_loopw [30] (fun i wr => ∃ k : Nat, k ≤ n ∧ i = .int .i64 k ∧ Hid (wr.heap[g]? = some (.cells (bcells (xorL a.data.toList b.data.toList n k)).toArray 5 (0, 0))) ∧ w2.grownBy wr (some g)) (fun i _ => n - (intOf i).toNat)
  case atStart => exact ⟨0, Nat.zero_le _, rfl, Hrow, World.grownBy.refl _ _⟩
  case round =>
    obtain ⟨k, hk, rfl, HR, hgr⟩ := hrel
    by_cases hlt : k < n
    · have hka : k < a.size := by omega
      have hkb : k < b.size := by omega
      have hcell : ∃ u, wr.cell? ⟨g, k, none⟩ = some (.int .u8 u) := by
        rw [cell_of_block HR.out]
        refine ⟨((xorL a.data.toList b.data.toList n k)[k]'(by rw [xorL_length]; exact hlt)).toNat, ?_⟩
        rw [List.getElem?_toArray, bcells, List.getElem?_map, List.getElem?_eq_getElem (by rw [xorL_length]; exact hlt)]
        rfl
      obtain ⟨u, hcell⟩ := hcell
      have hfr : wr.frozen? ⟨g, k, none⟩ = false := by simp [World.frozen?, HR.out]
      go_wp2_with fail
      go_region
      have hx := xor8 a[k] b[k]
      have Hset : Hid (((wr.setCell ⟨g, k, none⟩ (.int .u8 ((a[k] ^^^ b[k]).toNat : Int))).drew).heap[g]? = some (.cells (bcells (xorL a.data.toList b.data.toList n (k + 1))).toArray 5 (0, 0))) := by
        refine (blk_set HR.out k _).trans ?_
        rw [xorL_succ _ _ _ _ hlt]
        have e1 : a.data.toList.getD k 0 = a[k] := by
          rw [List.getD_eq_getElem?_getD, List.getElem?_eq_getElem (show k < a.data.toList.length from hka)]
          simp
          rfl
        have e2 : b.data.toList.getD k 0 = b[k] := by
          rw [List.getD_eq_getElem?_getD, List.getElem?_eq_getElem (show k < b.data.toList.length from hkb)]
          simp
          rfl
        rw [e1, e2]
        simp [bcells, List.map_set, u8]
      rw [hx]
      have hg2 : w2.grownBy ((wr.setCell ⟨g, k, none⟩ (.int .u8 ((a[k] ^^^ b[k]).toNat : Int))).drew) (some g) := only_drewN (only_setCell hgr rfl _) 1
      generalize ((wr.setCell ⟨g, k, none⟩ (.int .u8 ((a[k] ^^^ b[k]).toNat : Int))).drew) = wq at *
      clear hx hcell hfr HR
      go_wp2
      exact ⟨⟨k + 1, by omega, by go_num, Hset, hg2⟩, by simp [intOf]; omega⟩
    have hkn : k = n := by omega
    subst hkn
    obtain ⟨Ca, Fa, hcva, hFa⟩ := bytes_of (a.extract 0 k)
    obtain ⟨Cb, Fb, hcvb, hFb⟩ := bytes_of (b.extract 0 k)
    have hea : (a.extract 0 k).size = k := by simp; omega
    have heb : (b.extract 0 k).size = k := by simp; omega
    have hla : (a.extract 0 k).data.toList = a.data.toList.take k := by simp
    have hlb : (b.extract 0 k).data.toList = b.data.toList.take k := by simp
    obtain ⟨ea, hxa⟩ : ∃ ea, ea = a.extract 0 k := ⟨_, rfl⟩
    obtain ⟨eb, hxb⟩ : ∃ eb, eb = b.extract 0 k := ⟨_, rfl⟩
    rw [← hxa] at hcva hFa hea hla
    rw [← hxb] at hcvb hFb heb hlb
    have HXA := Lib.hid hxa
    have HXB := Lib.hid hxb
    clear hxa hxb
    have bwr : Below w.heap.size w wr.drew := (below_only hb2 hgr hb2.size hgw).drew
    have hh0 := hh.below bwr
    have hrX : Rd wr.drew (some ⟨g, 0, none⟩) (xorL a.data.toList b.data.toList k k) := by
      have := rd_block (w := wr.drew) HR.out 0 k
      rwa [List.drop_zero, List.take_of_length_le (by rw [xorL_length]; exact Nat.le_refl _)] at this
    have hlin : Crc.crc (xorL a.data.toList b.data.toList k k) = Crc.crc ea.data.toList ^^^ Crc.crc eb.data.toList ^^^ Crc.crc (List.replicate k 0) := by
      rw [xorL_all _ _ _ hna hnb, ← hla, ← hlb, Crc.crc_linear _ _ (by rw [data_len, data_len, hea, heb]), data_len, hea]
    clear hla hlb
    go_wp2_with fail
    refine Dv.wp_region_vals (linV g k a b ea eb (Crc.crc (xorL a.data.toList b.data.toList k k)) (Crc.crc ea.data.toList) (Crc.crc eb.data.toList) (Crc.crc (List.replicate k 0))) (by kernel_rfl) (by kernel_rfl) (by kernel_rfl) linV_later (by kernel_rfl) ?_ ?_
    · refine ⟨?_, ?_, ?_, ?_, ?_, ?_, ?_, ?_, ?_, ?_, ?_, ?_, ?_, ?_, ?_, ?_, ?_, ?_, ?_, trivial⟩
      · refine Dv.step_val rfl fun a' w' hb hs hd => ⟨_, w', rfl, Below.refl _ _, ?_⟩
        exact hs.2.2 6 (by kernel_rfl)
      · refine Dv.step_free rfl fun a' w' hb hs hd => ?_
        have h0 : a'.eval (.tmp 44) = .slice (some ⟨g, 0, none⟩) k k := hd 0 (by decide)
        refine Dv.wp_call rfl Tryd.func12 (by kernel_rfl) (by kernel_rfl) (show _ = #[.slice (some ⟨g, 0, none⟩) k k] by simp [h0]) ((of_any (some ⟨g, 0, none⟩) k k (xorL a.data.toList b.data.toList k k) w' (hh0.below hb) (hrX.below hb) (xorL_length ..) (by omega)).mono ?_)
        rintro e w'' ⟨rfl, rfl⟩
        exact ⟨_, rfl, _, rfl, Below.refl _ _, rfl⟩
      · refine Dv.step_val rfl fun a' w' hb hs hd => ⟨_, w', rfl, Below.refl _ _, ?_⟩
        exact hs.2.2 0 (by kernel_rfl)
      · refine Dv.step_val rfl fun a' w' hb hs hd => ⟨_, w', rfl, Below.refl _ _, ?_⟩
        exact hs.2.2 5 (by kernel_rfl)
      · refine Dv.step_val rfl fun a' w' hb hs hd => ⟨.string ea, w', ?_, Below.refl _ _, rfl⟩
        have h1 : a'.eval (.tmp 46) = .string a := hd 2 (by decide)
        have h2 : a'.eval (.tmp 47) = .int .i64 (k : Int) := hd 3 (by decide)
        clear hd hs
        simp only [execOp, h1, Option.map_some, h2]
        rw [HXA.out]
        go_simp
      · refine Dv.step_val rfl fun a' w' hb hs hd => ⟨_, Fa w', ?_, (hFa w').2.2, ⟨some ⟨w'.heap.size, 0, none⟩, Ca w', rfl, (hFa w').1⟩⟩
        have h1 : a'.eval (.tmp 48) = .string ea := hd 4 (by decide)
        have := hcva w'
        rw [hea] at this
        clear hd hs
        simp only [execOp, h1]
        go_simp
      · refine Dv.step_free rfl fun a' w' hb hs hd => ?_
        obtain ⟨A, c, h0, hr⟩ : ∃ A c, a'.eval (.tmp 49) = .slice A k c ∧ Rd w' A ea.data.toList := hd 5 (by decide)
        refine Dv.wp_call rfl Tryd.func12 (by kernel_rfl) (by kernel_rfl) (show _ = #[.slice A k c] by simp [h0]) ((of_any A k c ea.data.toList w' (hh0.below hb) hr hea (by omega)).mono ?_)
        rintro e w'' ⟨rfl, rfl⟩
        exact ⟨_, rfl, _, rfl, Below.refl _ _, rfl⟩
      · refine Dv.step_val rfl fun a' w' hb hs hd => ⟨_, w', rfl, Below.refl _ _, ?_⟩
        exact hs.2.2 1 (by kernel_rfl)
      · refine Dv.step_val rfl fun a' w' hb hs hd => ⟨_, w', rfl, Below.refl _ _, ?_⟩
        exact hs.2.2 5 (by kernel_rfl)
      · refine Dv.step_val rfl fun a' w' hb hs hd => ⟨.string eb, w', ?_, Below.refl _ _, rfl⟩
        have h1 : a'.eval (.tmp 51) = .string b := hd 7 (by decide)
        have h2 : a'.eval (.tmp 52) = .int .i64 (k : Int) := hd 8 (by decide)
        clear hd hs
        simp only [execOp, h1, Option.map_some, h2]
        rw [HXB.out]
        go_simp
      · refine Dv.step_val rfl fun a' w' hb hs hd => ⟨_, Fb w', ?_, (hFb w').2.2, ⟨some ⟨w'.heap.size, 0, none⟩, Cb w', rfl, (hFb w').1⟩⟩
        have h1 : a'.eval (.tmp 53) = .string eb := hd 9 (by decide)
        have := hcvb w'
        rw [heb] at this
        clear hd hs
        simp only [execOp, h1]
        go_simp
      · refine Dv.step_free rfl fun a' w' hb hs hd => ?_
        obtain ⟨A, c, h0, hr⟩ : ∃ A c, a'.eval (.tmp 54) = .slice A k c ∧ Rd w' A eb.data.toList := hd 10 (by decide)
        refine Dv.wp_call rfl Tryd.func12 (by kernel_rfl) (by kernel_rfl) (show _ = #[.slice A k c] by simp [h0]) ((of_any A k c eb.data.toList w' (hh0.below hb) hr heb (by omega)).mono ?_)
        rintro e w'' ⟨rfl, rfl⟩
        exact ⟨_, rfl, _, rfl, Below.refl _ _, rfl⟩
      · refine Dv.step_val rfl fun a' w' hb hs hd => ⟨_, w', ?_, Below.refl _ _, rfl⟩
        have h1 : a'.eval (.tmp 50) = .int .u32 _ := hd 6 (by decide)
        have h2 : a'.eval (.tmp 55) = .int .u32 _ := hd 11 (by decide)
        have := xor32 (Crc.crc ea.data.toList) (Crc.crc eb.data.toList)
        generalize Crc.crc ea.data.toList ^^^ Crc.crc eb.data.toList = z at *
        clear hd hs
        simp only [execOp, h1, h2]
        go_simp
      · refine Dv.step_val rfl fun a' w' hb hs hd => ⟨_, w', rfl, Below.refl _ _, ?_⟩
        exact hs.2.2 5 (by kernel_rfl)
      · refine Dv.step_val rfl fun a' w' hb hs hd => ⟨_, w'.alloc (.cells (madeCells #[.int .u8 0] k) 5), ?_, (Below.refl _ _).alloc (Nat.le_refl _) _, ⟨some ⟨w'.heap.size, 0, none⟩, k, rfl, ?_⟩⟩
        · have h1 : a'.eval (.tmp 57) = .int .i64 (k : Int) := hd 13 (by decide)
          have := HMK.out w'
          clear hd hs
          simp only [execOp, h1]
          go_simp
        · have := rd_block (w := w'.alloc (.cells (madeCells #[.int .u8 0] k) 5)) (h := w'.heap.size) (l := List.replicate k 0) (by rw [heap_alloc_new, made_list]; simp [bcells, u8]) 0 k
          rwa [List.drop_zero, List.take_of_length_le (by simp)] at this
      · refine Dv.step_free rfl fun a' w' hb hs hd => ?_
        obtain ⟨A, c, h0, hr⟩ : ∃ A c, a'.eval (.tmp 58) = .slice A k c ∧ Rd w' A (List.replicate k 0) := hd 14 (by decide)
        refine Dv.wp_call rfl Tryd.func12 (by kernel_rfl) (by kernel_rfl) (show _ = #[.slice A k c] by simp [h0]) ((of_any A k c (List.replicate k 0) w' (hh0.below hb) hr (by simp) (by omega)).mono ?_)
        rintro e w'' ⟨rfl, rfl⟩
        exact ⟨_, rfl, _, rfl, Below.refl _ _, rfl⟩
      · refine Dv.step_val rfl fun a' w' hb hs hd => ⟨_, w', ?_, Below.refl _ _, rfl⟩
        have h1 : a'.eval (.tmp 56) = .int .u32 _ := hd 12 (by decide)
        have h2 : a'.eval (.tmp 59) = .int .u32 _ := hd 15 (by decide)
        have := xor32 (Crc.crc ea.data.toList ^^^ Crc.crc eb.data.toList) (Crc.crc (List.replicate k 0))
        generalize Crc.crc ea.data.toList ^^^ Crc.crc eb.data.toList ^^^ Crc.crc (List.replicate k 0) = z at *
        generalize Crc.crc ea.data.toList ^^^ Crc.crc eb.data.toList = y at *
        clear hd hs
        simp only [execOp, h1, h2]
        go_simp
      · refine Dv.step_val rfl fun a' w' hb hs hd => ⟨_, w', ?_, Below.refl _ _, rfl⟩
        have h1 : a'.eval (.tmp 45) = .int .u32 _ := hd 1 (by decide)
        have h2 : a'.eval (.tmp 60) = .int .u32 _ := hd 16 (by decide)
        rw [← hlin] at h2
        clear hd hs
        simp only [execOp, h1, h2]
        go_simp
      · refine Dv.step_val rfl fun a' w' hb hs hd => ⟨_, w', rfl, Below.refl _ _, ?_⟩
        exact hd 17 (by decide)
    · intro a' w' hb hs hv
      have h4 : a'.tmps.getD 4 undef = .bool true := hv 18 (by decide)
      have h5 : a'.defers = [] := hs.1
      have h6 : 4 < a'.tmps.size := by rw [hs.2.1]; simp
      have hbe := bthen (below_only hb2 hgr hb2.size hgw) hb
      clear hv hs
      obtain ⟨tm, df⟩ := a'
      simp only at h4 h5 h6
      subst h5
      go_wp2
      refine bodyPost_ret (results_tmp rfl _ _ _) rfl ?_
      exact ⟨congrArg Ending.returned h4, hbe⟩

set_option maxHeartbeats 4000000 in
theorem sumLinear_a (a b : ByteArray) (w : World) (hh : Half w) (hs : a.size ≤ 5000) (ht : b.size ≤ 5000) (hlt : ¬ b.size < a.size) :
    Calls Tryd.prog 6 #[.string a, .string b] w fun e w' => e = .returned (.bool true) ∧ Below w.heap.size w w' := by
  have hd : decide ((5000 : Int) < (a.size : Int)) = false := by simp; omega
  have hd2 : decide ((5000 : Int) < (b.size : Int)) = false := by simp; omega
  obtain ⟨n, hn⟩ : ∃ n, n = a.size := ⟨_, rfl⟩
  have hna : n ≤ a.size := by omega
  have hnb : n ≤ b.size := by omega
  have hn5 : n ≤ 5000 := by omega
  have hmk0 := fun w => run_make_bytes n n (Nat.le_refl _) (by omega) w
  have hmk := hmk0
  rw [hn] at hmk
  have HN := Lib.hid hn
  have HMK := Lib.hid hmk0
  clear hmk0 hn
  go_enter Tryd.func6, Tryd.ntmps6
  go_wp2_with fail
  refine (awake_any w hh).mono ?_
  rintro e w1 ⟨rfl, hb1⟩
  go_wp2
  rw [← HN.out]
  clear hmk hlt hd hd2
  have hb2 : Below w.heap.size w (w1.alloc (.cells (madeCells #[.int .u8 0] n) 5)) := hb1.alloc hb1.size _
  have hrow : (w1.alloc (.cells (madeCells #[.int .u8 0] n) 5)).heap[w1.heap.size]? = some (.cells (bcells (xorL a.data.toList b.data.toList n 0)).toArray 5 (0, 0)) := by
    rw [heap_alloc_new, made_list, xorL_zero]
    simp [bcells, u8]
  have hgw : w.heap.size ≤ w1.heap.size := hb1.size
  generalize w1.alloc (.cells (madeCells #[.int .u8 0] n) 5) = w2 at *
  generalize w1.heap.size = g at *
  have Hrow := Lib.hid hrow
  clear hrow hb1 w1
  go_loopw [30] (fun i wr => ∃ k : Nat, k ≤ n ∧ i = .int .i64 k ∧ Hid (wr.heap[g]? = some (.cells (bcells (xorL a.data.toList b.data.toList n k)).toArray 5 (0, 0))) ∧ w2.grownBy wr (some g)) (fun i _ => n - (intOf i).toNat)
  case atStart => exact ⟨0, Nat.zero_le _, rfl, Hrow, World.grownBy.refl _ _⟩
  case round =>
    obtain ⟨k, hk, rfl, HR, hgr⟩ := hrel
    by_cases hlt : k < n
    · have hka : k < a.size := by omega
      have hkb : k < b.size := by omega
      have hcell : ∃ u, wr.cell? ⟨g, k, none⟩ = some (.int .u8 u) := by
        rw [cell_of_block HR.out]
        refine ⟨((xorL a.data.toList b.data.toList n k)[k]'(by rw [xorL_length]; exact hlt)).toNat, ?_⟩
        rw [List.getElem?_toArray, bcells, List.getElem?_map, List.getElem?_eq_getElem (by rw [xorL_length]; exact hlt)]
        rfl
      obtain ⟨u, hcell⟩ := hcell
      have hfr : wr.frozen? ⟨g, k, none⟩ = false := by simp [World.frozen?, HR.out]
      go_wp2_with fail
      go_region
      have hx := xor8 a[k] b[k]
      have Hset : Hid (((wr.setCell ⟨g, k, none⟩ (.int .u8 ((a[k] ^^^ b[k]).toNat : Int))).drew).heap[g]? = some (.cells (bcells (xorL a.data.toList b.data.toList n (k + 1))).toArray 5 (0, 0))) := by
        refine (blk_set HR.out k _).trans ?_
        rw [xorL_succ _ _ _ _ hlt]
        have e1 : a.data.toList.getD k 0 = a[k] := by
          rw [List.getD_eq_getElem?_getD, List.getElem?_eq_getElem (show k < a.data.toList.length from hka)]
          simp
          rfl
        have e2 : b.data.toList.getD k 0 = b[k] := by
          rw [List.getD_eq_getElem?_getD, List.getElem?_eq_getElem (show k < b.data.toList.length from hkb)]
          simp
          rfl
        rw [e1, e2]
        simp [bcells, List.map_set, u8]
      rw [hx]
      have hg2 : w2.grownBy ((wr.setCell ⟨g, k, none⟩ (.int .u8 ((a[k] ^^^ b[k]).toNat : Int))).drew) (some g) := only_drewN (only_setCell hgr rfl _) 1
      generalize ((wr.setCell ⟨g, k, none⟩ (.int .u8 ((a[k] ^^^ b[k]).toNat : Int))).drew) = wq at *
      clear hx hcell hfr HR
      go_wp2
      exact ⟨⟨k + 1, by omega, by go_num, Hset, hg2⟩, by simp [intOf]; omega⟩
    have hkn : k = n := by omega
    subst hkn
    obtain ⟨Ca, Fa, hcva, hFa⟩ := bytes_of (a.extract 0 k)
    obtain ⟨Cb, Fb, hcvb, hFb⟩ := bytes_of (b.extract 0 k)
    have hea : (a.extract 0 k).size = k := by simp; omega
    have heb : (b.extract 0 k).size = k := by simp; omega
    have hla : (a.extract 0 k).data.toList = a.data.toList.take k := by simp
    have hlb : (b.extract 0 k).data.toList = b.data.toList.take k := by simp
    obtain ⟨ea, hxa⟩ : ∃ ea, ea = a.extract 0 k := ⟨_, rfl⟩
    obtain ⟨eb, hxb⟩ : ∃ eb, eb = b.extract 0 k := ⟨_, rfl⟩
    rw [← hxa] at hcva hFa hea hla
    rw [← hxb] at hcvb hFb heb hlb
    have HXA := Lib.hid hxa
    have HXB := Lib.hid hxb
    clear hxa hxb
    have bwr : Below w.heap.size w wr.drew := (below_only hb2 hgr hb2.size hgw).drew
    have hh0 := hh.below bwr
    have hrX : Rd wr.drew (some ⟨g, 0, none⟩) (xorL a.data.toList b.data.toList k k) := by
      have := rd_block (w := wr.drew) HR.out 0 k
      rwa [List.drop_zero, List.take_of_length_le (by rw [xorL_length]; exact Nat.le_refl _)] at this
    have hlin : Crc.crc (xorL a.data.toList b.data.toList k k) = Crc.crc ea.data.toList ^^^ Crc.crc eb.data.toList ^^^ Crc.crc (List.replicate k 0) := by
      rw [xorL_all _ _ _ hna hnb, ← hla, ← hlb, Crc.crc_linear _ _ (by rw [data_len, data_len, hea, heb]), data_len, hea]
    clear hla hlb
    go_wp2_with fail
    refine Dv.wp_region_vals (linV g k a b ea eb (Crc.crc (xorL a.data.toList b.data.toList k k)) (Crc.crc ea.data.toList) (Crc.crc eb.data.toList) (Crc.crc (List.replicate k 0))) (by kernel_rfl) (by kernel_rfl) (by kernel_rfl) linV_later (by kernel_rfl) ?_ ?_
    · refine ⟨?_, ?_, ?_, ?_, ?_, ?_, ?_, ?_, ?_, ?_, ?_, ?_, ?_, ?_, ?_, ?_, ?_, ?_, ?_, trivial⟩
      · refine Dv.step_val rfl fun a' w' hb hs hd => ⟨_, w', rfl, Below.refl _ _, ?_⟩
        exact hs.2.2 6 (by kernel_rfl)
      · refine Dv.step_free rfl fun a' w' hb hs hd => ?_
        have h0 : a'.eval (.tmp 44) = .slice (some ⟨g, 0, none⟩) k k := hd 0 (by decide)
        refine Dv.wp_call rfl Tryd.func12 (by kernel_rfl) (by kernel_rfl) (show _ = #[.slice (some ⟨g, 0, none⟩) k k] by simp [h0]) ((of_any (some ⟨g, 0, none⟩) k k (xorL a.data.toList b.data.toList k k) w' (hh0.below hb) (hrX.below hb) (xorL_length ..) (by omega)).mono ?_)
        rintro e w'' ⟨rfl, rfl⟩
        exact ⟨_, rfl, _, rfl, Below.refl _ _, rfl⟩
      · refine Dv.step_val rfl fun a' w' hb hs hd => ⟨_, w', rfl, Below.refl _ _, ?_⟩
        exact hs.2.2 0 (by kernel_rfl)
      · refine Dv.step_val rfl fun a' w' hb hs hd => ⟨_, w', rfl, Below.refl _ _, ?_⟩
        exact hs.2.2 5 (by kernel_rfl)
      · refine Dv.step_val rfl fun a' w' hb hs hd => ⟨.string ea, w', ?_, Below.refl _ _, rfl⟩
        have h1 : a'.eval (.tmp 46) = .string a := hd 2 (by decide)
        have h2 : a'.eval (.tmp 47) = .int .i64 (k : Int) := hd 3 (by decide)
        clear hd hs
        simp only [execOp, h1, Option.map_some, h2]
        rw [HXA.out]
        go_simp
      · refine Dv.step_val rfl fun a' w' hb hs hd => ⟨_, Fa w', ?_, (hFa w').2.2, ⟨some ⟨w'.heap.size, 0, none⟩, Ca w', rfl, (hFa w').1⟩⟩
        have h1 : a'.eval (.tmp 48) = .string ea := hd 4 (by decide)
        have := hcva w'
        rw [hea] at this
        clear hd hs
        simp only [execOp, h1]
        go_simp
      · refine Dv.step_free rfl fun a' w' hb hs hd => ?_
        obtain ⟨A, c, h0, hr⟩ : ∃ A c, a'.eval (.tmp 49) = .slice A k c ∧ Rd w' A ea.data.toList := hd 5 (by decide)
        refine Dv.wp_call rfl Tryd.func12 (by kernel_rfl) (by kernel_rfl) (show _ = #[.slice A k c] by simp [h0]) ((of_any A k c ea.data.toList w' (hh0.below hb) hr hea (by omega)).mono ?_)
        rintro e w'' ⟨rfl, rfl⟩
        exact ⟨_, rfl, _, rfl, Below.refl _ _, rfl⟩
      · refine Dv.step_val rfl fun a' w' hb hs hd => ⟨_, w', rfl, Below.refl _ _, ?_⟩
        exact hs.2.2 1 (by kernel_rfl)
      · refine Dv.step_val rfl fun a' w' hb hs hd => ⟨_, w', rfl, Below.refl _ _, ?_⟩
        exact hs.2.2 5 (by kernel_rfl)
      · refine Dv.step_val rfl fun a' w' hb hs hd => ⟨.string eb, w', ?_, Below.refl _ _, rfl⟩
        have h1 : a'.eval (.tmp 51) = .string b := hd 7 (by decide)
        have h2 : a'.eval (.tmp 52) = .int .i64 (k : Int) := hd 8 (by decide)
        clear hd hs
        simp only [execOp, h1, Option.map_some, h2]
        rw [HXB.out]
        go_simp
      · refine Dv.step_val rfl fun a' w' hb hs hd => ⟨_, Fb w', ?_, (hFb w').2.2, ⟨some ⟨w'.heap.size, 0, none⟩, Cb w', rfl, (hFb w').1⟩⟩
        have h1 : a'.eval (.tmp 53) = .string eb := hd 9 (by decide)
        have := hcvb w'
        rw [heb] at this
        clear hd hs
        simp only [execOp, h1]
        go_simp
      · refine Dv.step_free rfl fun a' w' hb hs hd => ?_
        obtain ⟨A, c, h0, hr⟩ : ∃ A c, a'.eval (.tmp 54) = .slice A k c ∧ Rd w' A eb.data.toList := hd 10 (by decide)
        refine Dv.wp_call rfl Tryd.func12 (by kernel_rfl) (by kernel_rfl) (show _ = #[.slice A k c] by simp [h0]) ((of_any A k c eb.data.toList w' (hh0.below hb) hr heb (by omega)).mono ?_)
        rintro e w'' ⟨rfl, rfl⟩
        exact ⟨_, rfl, _, rfl, Below.refl _ _, rfl⟩
      · refine Dv.step_val rfl fun a' w' hb hs hd => ⟨_, w', ?_, Below.refl _ _, rfl⟩
        have h1 : a'.eval (.tmp 50) = .int .u32 _ := hd 6 (by decide)
        have h2 : a'.eval (.tmp 55) = .int .u32 _ := hd 11 (by decide)
        have := xor32 (Crc.crc ea.data.toList) (Crc.crc eb.data.toList)
        generalize Crc.crc ea.data.toList ^^^ Crc.crc eb.data.toList = z at *
        clear hd hs
        simp only [execOp, h1, h2]
        go_simp
      · refine Dv.step_val rfl fun a' w' hb hs hd => ⟨_, w', rfl, Below.refl _ _, ?_⟩
        exact hs.2.2 5 (by kernel_rfl)
      · refine Dv.step_val rfl fun a' w' hb hs hd => ⟨_, w'.alloc (.cells (madeCells #[.int .u8 0] k) 5), ?_, (Below.refl _ _).alloc (Nat.le_refl _) _, ⟨some ⟨w'.heap.size, 0, none⟩, k, rfl, ?_⟩⟩
        · have h1 : a'.eval (.tmp 57) = .int .i64 (k : Int) := hd 13 (by decide)
          have := HMK.out w'
          clear hd hs
          simp only [execOp, h1]
          go_simp
        · have := rd_block (w := w'.alloc (.cells (madeCells #[.int .u8 0] k) 5)) (h := w'.heap.size) (l := List.replicate k 0) (by rw [heap_alloc_new, made_list]; simp [bcells, u8]) 0 k
          rwa [List.drop_zero, List.take_of_length_le (by simp)] at this
      · refine Dv.step_free rfl fun a' w' hb hs hd => ?_
        obtain ⟨A, c, h0, hr⟩ : ∃ A c, a'.eval (.tmp 58) = .slice A k c ∧ Rd w' A (List.replicate k 0) := hd 14 (by decide)
        refine Dv.wp_call rfl Tryd.func12 (by kernel_rfl) (by kernel_rfl) (show _ = #[.slice A k c] by simp [h0]) ((of_any A k c (List.replicate k 0) w' (hh0.below hb) hr (by simp) (by omega)).mono ?_)
        rintro e w'' ⟨rfl, rfl⟩
        exact ⟨_, rfl, _, rfl, Below.refl _ _, rfl⟩
      · refine Dv.step_val rfl fun a' w' hb hs hd => ⟨_, w', ?_, Below.refl _ _, rfl⟩
        have h1 : a'.eval (.tmp 56) = .int .u32 _ := hd 12 (by decide)
        have h2 : a'.eval (.tmp 59) = .int .u32 _ := hd 15 (by decide)
        have := xor32 (Crc.crc ea.data.toList ^^^ Crc.crc eb.data.toList) (Crc.crc (List.replicate k 0))
        generalize Crc.crc ea.data.toList ^^^ Crc.crc eb.data.toList ^^^ Crc.crc (List.replicate k 0) = z at *
        generalize Crc.crc ea.data.toList ^^^ Crc.crc eb.data.toList = y at *
        clear hd hs
        simp only [execOp, h1, h2]
        go_simp
      · refine Dv.step_val rfl fun a' w' hb hs hd => ⟨_, w', ?_, Below.refl _ _, rfl⟩
        have h1 : a'.eval (.tmp 45) = .int .u32 _ := hd 1 (by decide)
        have h2 : a'.eval (.tmp 60) = .int .u32 _ := hd 16 (by decide)
        rw [← hlin] at h2
        clear hd hs
        simp only [execOp, h1, h2]
        go_simp
      · refine Dv.step_val rfl fun a' w' hb hs hd => ⟨_, w', rfl, Below.refl _ _, ?_⟩
        exact hd 17 (by decide)
    · intro a' w' hb hs hv
      have h4 : a'.tmps.getD 4 undef = .bool true := hv 18 (by decide)
      have h5 : a'.defers = [] := hs.1
      have h6 : 4 < a'.tmps.size := by rw [hs.2.1]; simp
      have hbe := bthen (below_only hb2 hgr hb2.size hgw) hb
      clear hv hs
      obtain ⟨tm, df⟩ := a'
      simp only at h4 h5 h6
      subst h5
      go_wp2
      refine bodyPost_ret (results_tmp rfl _ _ _) rfl ?_
      exact ⟨congrArg Ending.returned h4, hbe⟩

theorem sumLinear_walk (a b : ByteArray) (w : World) (hh : Half w) (hs : a.size ≤ 140737488351232) (ht : b.size ≤ 140737488351232) :
    Calls Tryd.prog 6 #[.string a, .string b] w fun e w' => e = .returned (.bool true) ∧ Below w.heap.size w w' := by
  by_cases h : 5000 < a.size ∨ 5000 < b.size
  · exact sumLinear_long a b w hh h hs ht
  · by_cases hlt : b.size < a.size
    · exact sumLinear_b a b w hh (by omega) (by omega) hlt
    · exact sumLinear_a a b w hh (by omega) (by omega) hlt

end Go.Proofs.YtmdadofnopgbgaaDoor

namespace Go.Proofs.YtmdadofnopgbgaaDoor.sumLinear
open Go Go.ChangeShapes Go.WideShapes Go.ChangeAt Go.RowKit
open Go.ChangeMaps (open_string shut_string)
set_option linter.unusedVariables false

theorem own : ownKnob Tryd.prog.godebug = none := by kernel_rfl

set_option maxRecDepth 100000 in
theorem lifted (os : Os) (started : os.Started) (H : Type) (enc : TypeId × Value → H) :
    ReturnsInHanded {} Tryd.checked os 6 .any (fun w args => (Rows.sumLinearSpec.pre enc Tryd.prog Tryd.f6 [] false w args ∧ laidMetH Tryd.prog laidL w) ∧ sizedMet enc Tryd.prog Tryd.f6 (OpenSpec.ofChange Rows.sumLinearSpec) false w args)
      (Rows.sumLinearSpec.post enc Tryd.prog Tryd.f6 false true false false) := by
  refine returnsInHanded_of_change_and (C := Tryd.checked) (X := fun w _ => laidMetH Tryd.prog laidL w) (fun _ _ _ hh h => h.of_heap hh) own started (by kernel_rfl) Tryd.func6
    (ChangeSpec.witness_shaped (enc := enc) (C := Tryd.checked) (os := os) (X := fun w _ => laidMetH Tryd.prog laidL w) false (World.doorLaid Tryd.prog 14 os) #[.string ByteArray.empty, .string ByteArray.empty] 8 rfl (World.shaped_of_RefB (by kernel_rfl) (by kernel_rfl)) (by kernel_rfl) (by kernel_rfl) (by kernel_rfl) (door_met os _)) ?_
  intro W base args ds gs before hval0 hW hcnd hsz0 hL _
  have hval : ∀ (j : Nat) t v, Tryd.f6.params[j]? = some t → args[j]? = some v → Value.okWide Tryd.prog W .any base t v := hval0
  have hsz : (DataW.weightsEach Tryd.prog (Tryd.f6.params.toList ++ Rows.sumLinearSpec.plain.varTypes Tryd.prog) (ds ++ gs)).all (· ≤ reachBytes) = true := hsz0
  have hW' := hW
  obtain ⟨p, q, hA0, hV, rfl, hfz, hnd⟩ := hW
  have hA : DataW.TrodAll enc Tryd.prog W 0 (fun _ => true) true Tryd.f6.params.toList args.toList ds p := hA0
  rw [Tryd.params6] at hA hval hsz
  obtain ⟨v0, vs0, d0, ds0, p0, q0, hargs, rfl, rfl, h0, r0⟩ := trodAll_cons hA
  obtain ⟨v1, vs1, d1, ds1, p1, q1, rfl, rfl, rfl, h1, r1⟩ := trodAll_cons r0
  obtain ⟨rfl, rfl, rfl⟩ := trodAll_nil r1
  obtain rfl : args = #[v0, v1] := by cases args; simp_all
  obtain ⟨rfl, rfl⟩ := trodVars_none hV
  obtain ⟨a0, rfl, rfl, rfl, w0⟩ := open_string Tryd.underlying9 (hval 0 9 v0 rfl rfl) h0
  obtain ⟨a1, rfl, rfl, rfl, w1⟩ := open_string Tryd.underlying9 (hval 1 9 v1 rfl rfl) h1
  have z0 : a0.data.toList.length ≤ reachBytes := sized_string hsz (j := 0) (t := 9) rfl rfl
  have y0 : a0.size ≤ 140737488351232 := z0
  have z1 : a1.data.toList.length ≤ reachBytes := sized_string hsz (j := 1) (t := 9) rfl rfl
  have y1 : a1.size ≤ 140737488351232 := z1
  clear hA0 hval0 hsz hsz0
  simp only [List.append_nil] at hW'
  refine (sumLinear_walk a0 a1 W (half_of_laid hL) y0 y1).mono fun e W' ⟨he, bel⟩ => ?_
  subst he
  exact ⟨_, rfl, _, _, _, [], [], [], hW', trodAll_mk1 (shut_bool Tryd.underlying4 _), (trodAll_cons_mk (shut_string Tryd.underlying9 w0) (trodAll_cons_mk (shut_string Tryd.underlying9 w1) trodAll_mk0)), rfl, bel.frame _, fun h => by cases h⟩

theorem over : Rows.SumLinearSaid :=
  OpenClaim.holds_of_wide 6 Tryd.f6 rfl rfl rfl rfl rfl rfl rfl ⟨rfl, rfl, rfl, rfl, rfl⟩ rfl rfl rfl rfl rfl (by kernel_rfl) Tryd.func6 (by kernel_rfl)
    (of_decide_eq_true (by kernel_rfl)) (by unfold Func.isWrapper; first | (rw [if_pos (by decide +kernel)]; kernel_rfl) | (rw [if_neg (by decide +kernel)]; exact ⟨rfl, rfl⟩))
    (fun os started H enc _ => lifted os started H enc)

theorem proved : Rows.SumLinearCardSaid :=
  Claim7.holds_tied_plain_at .later [] [.data] true (true, "d16a18b312e7b072c3f036a8e61b2d0280fd23f419d00274463700ddae1bba83") false
    over (fun _ h => by cases h) (by kernel_rfl) (fun _ h => by cases h) sumLinear_row_tie rfl ⟨rfl, rfl⟩ (by kernel_rfl) rfl
    (fun f fn hf hfn => by
      obtain rfl : f = 6 := Option.some.inj ((show Tryd.prog.funcNamed "sapwood/sapwoodlaw02.SumLinear" = some 6 by kernel_rfl).symm.trans hf) |>.symm
      obtain rfl : fn = Tryd.f6 := (Option.some.inj (Tryd.func6.symm.trans hfn)).symm
      exact ⟨by kernel_rfl, fun j t ht => by
        rw [Tryd.params6] at ht
        have hm : t ∈ [9, 9] := by simpa using Array.mem_of_getElem? ht
        have hall : ([9, 9].all fun u => !Tryd.prog.wantsStandIn u) = true := by kernel_rfl
        exact (show Tryd.prog.wantsStandIn t = false by simpa using List.all_eq_true.1 hall t hm)⟩)
    (by kernel_rfl)
#print axioms proved

end Go.Proofs.YtmdadofnopgbgaaDoor.sumLinear
