/-
  The contracts of the device's current, Read, Bytes and Image; conditions stand at each.
-/
import Derived.Test.YthjgcbpanfiacaaDevWrite
namespace Go.Proofs.Ythjgcbpanfiacaa
open Go.RowKit Go.Sort
set_option linter.unusedVariables false

theorem rd_page {w : World} {g : Nat} {st : List UInt8} (hg : w.heap[g]? = some (.cells (bcells st).toArray 5 (0, 0))) (i : Nat) : Rd w (some ⟨g, i * 256, none⟩) (pageOf st i) := rd_block hg (i * 256) 256

/-- What current answers: a slice whose first bytes are the page's. -/
def CurPost (w : World) (st : List UInt8) (pd : List WR) (p : Nat) (e : Ending) (w' : World) : Prop := ∃ ad k c, e = .returned (.slice (some ad) k c) ∧ 256 ≤ k ∧ Rd w (some ad) (curN st pd p pd.length) ∧ w' = w

set_option maxHeartbeats 1600000 in
set_option maxRecDepth 100000 in
theorem current_any {w : World} {b n : Nat} {st : List UInt8} {pd : List WR} {F : Nat → Prop} (p : Nat) (hd : Dev w b n st pd F) (hp : p < n) (hfew : pd.length ≤ 1000000) :
    Calls Try.prog 29 #[.pointer (some ⟨b, 0, none⟩), .int .i64 (p : Int)] w (CurPost w st pd p) := by
  obtain ⟨g, v, hat, hF⟩ := hd
  obtain ⟨A, c, rfl⟩ := hat.form
  have h1 := cell_at hat.box 1 (.slice A pd.length c) rfl
  have h0 := cell_at hat.box 0 (.slice (some ⟨g, 0, none⟩) (n * 256) (n * 256)) rfl
  have hsm := hat.small
  have HAT := Lib.hid hat
  have hsl := run_slice_all
  have hpost : ∀ ad k c, 256 ≤ k → Rd w (some ad) (curN st pd p pd.length) → CurPost w st pd p (.returned (.slice (some ad) k c)) w := fun ad k c h1 h2 => ⟨ad, k, c, rfl, h1, h2, rfl⟩
  have HP := Lib.hid hpost
  obtain ⟨m, hm⟩ : ∃ m, m = pd.length := ⟨_, rfl⟩
  rw [← hm] at h1 hfew
  have Hm := Lib.hid hm
  generalize CurPost w st pd p = Post at *
  clear hat hm hF hpost
  go_enter Try.func29, Try.ntmps29
  go_wp2
  go_loopw [5] (fun i wr => ∃ k : Nat, k ≤ m ∧ i = .int .i64 ((k : Int) - 1) ∧ wr = w ∧ ∀ q y, k ≤ q → pd[q]? = some y → y.page ≠ p) (fun i _ => (intOf i + 1).toNat)
  case atStart => exact ⟨m, Nat.le_refl _, rfl, rfl, fun q y hq hy => by
    rw [List.getElem?_eq_none (by rw [← Hm.out]; exact hq)] at hy
    cases hy⟩
  case round =>
    obtain ⟨k, hk, rfl, rfl, hall⟩ := hrel
    have HA := Lib.hid hall
    clear hall
    by_cases hlt : 0 < k
    · obtain ⟨j, rfl⟩ : ∃ j, k = j + 1 := ⟨k - 1, by omega⟩
      obtain ⟨q, c', x, hv, hx, hqb, hqg, hql, hcp, hrd⟩ := HAT.out.wr (i := j) (by rw [← Hm.out]; omega)
      rw [← Hm.out] at hv
      cases hv
      rw [show (((j + 1 : Nat) : Int) - 1) = (j : Int) by omega]
      have HX := Lib.hid hx
      have HRD := Lib.hid hrd
      clear hx hrd
      by_cases hpg : x.page = p
      · rw [hpg] at hcp
        have HPG := Lib.hid hpg
        clear hpg
        go_wp2
        refine HP.out _ _ _ (Nat.le_refl _) ?_
        have e : pd.length = j + 1 + (pd.length - (j + 1)) := by have := Hm.out; omega
        rw [e, cur_last HX.out HPG.out _ (fun q y h1 h2 h3 => HA.out q y (by omega) h3)]
        exact HRD.out
      · have HPG := Lib.hid hpg
        have hpi : ¬ ((x.page : Int) = (p : Int)) := by omega
        clear hpg
        go_wp2
        refine ⟨⟨j, by omega, by go_num, by trivial, fun q y hq hy => ?_⟩, by simp [intOf]⟩
        rcases Nat.lt_or_ge j q with h | h
        · exact HA.out q y (by omega) hy
        · have : q = j := by omega
          subst this
          rw [HX.out] at hy
          cases hy
          exact HPG.out
    · obtain rfl : k = 0 := by omega
      have hpn : p * 256 + 256 ≤ n * 256 := by omega
      go_wp2
      refine HP.out _ _ _ (show 256 ≤ n * 256 - p * 256 by omega) ?_
      rw [cur_none _ (fun q y h1 h3 => HA.out q y (by omega) h3)]
      exact rd_page HAT.out.row p

/-- What Read answers: memory of its own that holds the page. -/
def ReadPost (w : World) (st : List UInt8) (pd : List WR) (p : Nat) (e : Ending) (w' : World) : Prop := ∃ g, e = .returned (.tuple #[.slice (some ⟨g, 0, none⟩) 256 256, .int .i64 0]) ∧ w.heap.size ≤ g ∧ w'.heap[g]? = some (.cells (bcells (curN st pd p pd.length)).toArray 5 (0, 0)) ∧ Below w.heap.size w w'

set_option maxHeartbeats 1600000 in
set_option maxRecDepth 100000 in
theorem read_any {w : World} {b n : Nat} {st : List UInt8} {pd : List WR} {F : Nat → Prop} (p : Nat) (hd : Dev w b n st pd F) (hp : p < n) (hfew : pd.length ≤ 1000000) :
    Calls Try.prog 16 #[.pointer (some ⟨b, 0, none⟩), .int .i64 (p : Int)] w (ReadPost w st pd p) := by
  have hlens := hd.lens
  have hcl := cur_len (pd := pd) hlens.1 hp pd.length
  have hmake := run_make_bytes 256 256 (Nat.le_refl _) (by omega) w
  rw [show ((256 : Nat) : Int) = 256 from rfl, made_list, ← bcells_zero] at hmake
  obtain ⟨w1, hw1⟩ : ∃ w1, w1 = w.alloc (.cells (bcells (List.replicate 256 0)).toArray 5) := ⟨_, rfl⟩
  rw [← hw1] at hmake
  have hb1 : Below w.heap.size w w1 := by rw [hw1]; exact (Below.refl _ _).alloc (Nat.le_refl _) _
  have hrow1 : w1.heap[w.heap.size]? = some (.cells (bcells (List.replicate 256 0)).toArray 5 (0, 0)) := by rw [hw1]; exact heap_alloc_new w _
  have HH := Lib.hid hd
  have H1 := Lib.hid (hd.below hb1)
  have HR1 := Lib.hid hrow1
  have HB1 := Lib.hid hb1
  have HC := Lib.hid hcl
  have hpost : ∀ w', w'.heap[w.heap.size]? = some (.cells (bcells (curN st pd p pd.length)).toArray 5 (0, 0)) → Below w.heap.size w w' → ReadPost w st pd p (.returned (.tuple #[.slice (some ⟨w.heap.size, 0, none⟩) 256 256, .int .i64 0])) w' := fun w' h1 h2 => ⟨_, rfl, Nat.le_refl _, h1, h2⟩
  have HP := Lib.hid hpost
  clear hw1 hb1 hrow1 hd hlens hcl hpost
  go_enter Try.func16, Try.ntmps16
  go_wp2_with fail
  refine (has_any (p : Int) HH.out).mono ?_
  rw [decide_eq_true (show (0 : Int) ≤ p ∧ (p : Int) < n by omega)]
  rintro e w0 ⟨rfl, rfl⟩
  go_wp2_with fail
  refine (current_any p H1.out hp hfew).mono ?_
  rintro e w2 ⟨ad, k, c, rfl, hk, hrd, rfl⟩
  obtain ⟨w3, hrun, hrow3, hgr3⟩ := run_copy_mid (g := w0.heap.size) (off := 0) (d := 256) (c := 256) (m := k) (mc := c) 3 HR1.out hrd (by rw [HC.out, show Nat.min k 256 = min k 256 from rfl]; omega) (by rw [HC.out]; simp)
  rw [HC.out] at hrun
  have HR3 := Lib.hid hrow3
  have HG3 := Lib.hid hgr3
  clear hrow3 hgr3 hrd
  go_wp2
  go_ret2
  refine HP.out _ ?_ (below_only HB1.out HG3.out (Nat.le_trans (Nat.le_refl _) HB1.out.size) (Nat.le_refl _))
  have := HR3.out
  rw [splice_full (by rw [HC.out]; simp)] at this
  exact this
theorem read_no {w : World} {b n : Nat} {st : List UInt8} {pd : List WR} {F : Nat → Prop} (i : Int) (hd : Dev w b n st pd F) (hno : ¬ (0 ≤ i ∧ i < n)) :
    Calls Try.prog 16 #[.pointer (some ⟨b, 0, none⟩), .int .i64 i] w fun e w' => e = .returned (.tuple #[.slice none 0 0, .int .i64 1]) ∧ w' = w := by
  go_enter Try.func16, Try.ntmps16
  go_wp2_with fail
  refine (has_any i hd).mono ?_
  rw [decide_eq_false hno]
  rintro e w1 ⟨rfl, rfl⟩
  go_wp2
  go_ret2
  exact ⟨rfl, by trivial⟩
theorem read_nil (i : Int) (w : World) :
    Calls Try.prog 16 #[.pointer none, .int .i64 i] w fun e w' => e = .returned (.tuple #[.slice none 0 0, .int .i64 1]) ∧ w' = w := by
  go_enter Try.func16, Try.ntmps16
  go_wp2_with fail
  refine (has_nil i w).mono ?_
  rintro e w1 ⟨rfl, rfl⟩
  go_wp2
  go_ret2
  exact ⟨rfl, by trivial⟩

end Go.Proofs.Ythjgcbpanfiacaa
