/-
  A device in memory: its box, its stored pages, its pending writes; which blocks a call may turn; conditions stand at each.
-/
import Derived.Test.YthjgcbpanfiacaaDevPure
import Derived.Test.YthjgcbpanfiacaaRooms
import Derived.Test.YthjgcbpanfiacaaDrawnC
namespace Go.Proofs.Ythjgcbpanfiacaa
open Go.RowKit Go.Sort
set_option linter.unusedVariables false

/-- Only blocks of F have turned; there may be new ones. -/
structure Keep (F : Nat → Prop) (w w' : World) : Prop where
  os : w'.os = w.os
  tape : w'.tape = w.tape
  output : w'.output = w.output
  size : w.heap.size ≤ w'.heap.size
  block : ∀ k, k < w.heap.size → ¬ F k → w'.heap[k]? = w.heap[k]?
theorem Keep.of_below {F : Nat → Prop} {w w' : World} (h : Below w.heap.size w w') : Keep F w w' := ⟨h.os, h.tape, h.output, h.size, fun k hk _ => h.block k hk⟩
theorem Keep.refl (F : Nat → Prop) (w : World) : Keep F w w := .of_below (Below.refl _ _)
theorem Keep.trans {F : Nat → Prop} {a b c : World} (h : Keep F a b) (k : Keep F b c) : Keep F a c :=
  ⟨k.os.trans h.os, k.tape.trans h.tape, k.output.trans h.output, Nat.le_trans h.size k.size, fun i hi hn => (k.block i (Nat.lt_of_lt_of_le hi h.size) hn).trans (h.block i hi hn)⟩
theorem Keep.mono {F G : Nat → Prop} {a b : World} (h : Keep F a b) (hs : ∀ i, i < a.heap.size → F i → G i) : Keep G a b := ⟨h.os, h.tape, h.output, h.size, fun i hi hn => h.block i hi fun hf => hn (hs i hi hf)⟩
theorem Keep.below {F : Nat → Prop} {B : Nat} {a b : World} (h : Keep F a b) (hB : B ≤ a.heap.size) (hF : ∀ i, F i → B ≤ i) : Below B a b := ⟨h.os, h.tape, h.output, h.size, fun i hi => h.block i (by omega) fun hf => by have := hF i hf; omega⟩
/-- With a base: all below it stays. -/
theorem Keep.base {B : Nat} {a w w' : World} (h : Below B a w) (hB : B ≤ w.heap.size) (hk : Keep (fun i => B ≤ i) w w') : Below B a w' := h.trans (hk.below hB fun _ h => h)
theorem Keep.of_only {F : Nat → Prop} {a b : World} {g : Nat} (h : a.grownBy b (some g)) (hg : F g) : Keep F a b := ⟨h.os, h.tape, h.output, h.size, fun i hi hn => h.block i hi fun e => hn (by cases e; exact hg)⟩
theorem Keep.of_grown {F : Nat → Prop} {a b : World} {r : Option Nat} (h : a.grownBy b r) (hg : ∀ g, r = some g → F g) : Keep F a b := ⟨h.os, h.tape, h.output, h.size, fun i hi hn => h.block i hi fun e => hn (hg i e.symm)⟩
theorem Keep.set {F : Nat → Prop} {a b : World} (h : Keep F a b) {p : Addr} (hp : F p.block ∨ a.heap.size ≤ p.block) (u : Value) : Keep F a (b.setCell p u) :=
  ⟨h.os, h.tape, h.output, by simpa [World.setCell] using h.size, fun i hi hn => (Below.heap_setCell b p u i (by
    rintro rfl
    rcases hp with hp | hp
    · exact hn hp
    · omega)).trans (h.block i hi hn)⟩
theorem Keep.drewN {F : Nat → Prop} {a b : World} (h : Keep F a b) (n : Nat) : Keep F a (b.drewN n) := ⟨h.os, h.tape, h.output, h.size, h.block⟩
theorem Rd.keep {F : Nat → Prop} {w w' : World} {A : Option Addr} {l : List UInt8} (h : Rd w A l) (hk : Keep F w w') (hF : ∀ ad, A = some ad → ¬ F ad.block) : Rd w' A l := fun h0 => by
  obtain ⟨ad, e, hlt, hc⟩ := h h0
  exact ⟨ad, e, Nat.lt_of_lt_of_le hlt hk.size, fun j u hu => (World.cell?_of_block (w := w) (by rw [block_of_add]; exact hk.block _ hlt (hF ad e))).trans (hc j u hu)⟩

/-- A device in its three blocks. -/
structure DevAt (w : World) (b g : Nat) (v : Value) (n : Nat) (st : List UInt8) (pd : List WR) : Prop where
  box : w.heap[b]? = some (.cells #[.slice (some ⟨g, 0, none⟩) (n * 256) (n * 256), v] 61 (0, 0))
  row : w.heap[g]? = some (.cells (bcells st).toArray 5 (0, 0))
  own : OwnL wcells 65 257 w 0 v pd
  len : st.length = n * 256
  small : n ≤ 512
  fits : ∀ x ∈ pd, x.page < n
  bg : b ≠ g
  bv : v.ownBlock ≠ some b
  gv : v.ownBlock ≠ some g
/-- A device whose blocks are of F. -/
def Dev (w : World) (b n : Nat) (st : List UInt8) (pd : List WR) (F : Nat → Prop) : Prop := ∃ g v, DevAt w b g v n st pd ∧ ∀ i, (i = b ∨ i = g ∨ v.ownBlock = some i) → F i ∧ i < w.heap.size

theorem DevAt.lt {w : World} {b g n : Nat} {v : Value} {st : List UInt8} {pd : List WR} (h : DevAt w b g v n st pd) : ∀ i, (i = b ∨ i = g ∨ v.ownBlock = some i) → i < w.heap.size := by
  rintro i (rfl | rfl | hi)
  · exact lt_of_block h.box
  · exact lt_of_block h.row
  · exact h.own.lt i hi
theorem DevAt.keep {w w' : World} {b g n : Nat} {v : Value} {st : List UInt8} {pd : List WR} (h : DevAt w b g v n st pd) (hk : ∀ i, (i = b ∨ i = g ∨ v.ownBlock = some i) → w'.heap[i]? = w.heap[i]?) : DevAt w' b g v n st pd :=
  ⟨(hk b (.inl rfl)).trans h.box, (hk g (.inr (.inl rfl))).trans h.row, h.own.keep fun i hi _ => hk i (.inr (.inr hi)), h.len, h.small, h.fits, h.bg, h.bv, h.gv⟩
theorem Dev.keep {w w' : World} {b n : Nat} {st : List UInt8} {pd : List WR} {F G : Nat → Prop} (h : Dev w b n st pd F) (hk : Keep G w w') (hd : ∀ i, F i → i < w.heap.size → ¬ G i) : Dev w' b n st pd F := by
  obtain ⟨g, v, hat, hF⟩ := h
  exact ⟨g, v, hat.keep fun i hi => hk.block i (hF i hi).2 (hd i (hF i hi).1 (hF i hi).2), fun i hi => ⟨(hF i hi).1, Nat.lt_of_lt_of_le (hF i hi).2 hk.size⟩⟩
theorem Dev.below {w w' : World} {b n : Nat} {st : List UInt8} {pd : List WR} {F : Nat → Prop} (h : Dev w b n st pd F) (hb : Below w.heap.size w w') : Dev w' b n st pd F :=
  h.keep (G := fun _ => False) (.of_below hb) fun _ _ _ hf => hf
theorem Dev.mono {w : World} {b n : Nat} {st : List UInt8} {pd : List WR} {F G : Nat → Prop} (h : Dev w b n st pd F) (hs : ∀ i, i < w.heap.size → F i → G i) : Dev w b n st pd G := by
  obtain ⟨g, v, hat, hF⟩ := h
  exact ⟨g, v, hat, fun i hi => ⟨hs i (hF i hi).2 (hF i hi).1, (hF i hi).2⟩⟩
theorem Dev.lens {w : World} {b n : Nat} {st : List UInt8} {pd : List WR} {F : Nat → Prop} (h : Dev w b n st pd F) : st.length = n * 256 ∧ n ≤ 512 ∧ ∀ x ∈ pd, x.page < n := by
  obtain ⟨g, v, hat, hF⟩ := h
  exact ⟨hat.len, hat.small, hat.fits⟩
/-- What F was, and what is new. -/
def Grew (F : Nat → Prop) (N : Nat) (i : Nat) : Prop := F i ∨ N ≤ i

theorem cell_at {w : World} {g : Nat} {cs : Array Value} {t : TypeId} (h : w.heap[g]? = some (.cells cs t (0, 0))) (j : Nat) (u : Value) (hu : cs[j]? = some u) : w.cell? ⟨g, j, none⟩ = some u := (cell_of_block h j).trans hu
theorem free_at {w : World} {g : Nat} {cs : Array Value} {t : TypeId} (h : w.heap[g]? = some (.cells cs t (0, 0))) (j : Nat) : w.frozen? ⟨g, j, none⟩ = false := by simp [World.frozen?, h]

/-- The cells of one pending write. -/
theorem DevAt.wr {w : World} {b g n : Nat} {v : Value} {st : List UInt8} {pd : List WR} (h : DevAt w b g v n st pd) {i : Nat} (hi : i < pd.length) :
    ∃ q c x, v = .slice (some ⟨q, 0, none⟩) pd.length c ∧ pd[i]? = some x ∧ q ≠ b ∧ q ≠ g ∧ q < w.heap.size ∧ w.cell? ⟨q, i * 257, none⟩ = some (.int .i64 (x.page : Int)) ∧ Rd w (some ⟨q, i * 257 + 1, none⟩) x.bytes := by
  rcases h.own.2 with ⟨rfl, h0⟩ | ⟨q, cap, cur, rfl, hb, hh, hc, _, hs, ht⟩
  · omega
  · have hcell := h.own.cells (g := q) rfl
    have hx : pd[i]? = some pd[i] := List.getElem?_eq_getElem hi
    have e : ∀ j, ((⟨q, 0, none⟩ : Addr).add j) = ⟨q, j, none⟩ := fun j => by unfold Addr.add; split <;> simp_all
    refine ⟨q, cap, pd[i], rfl, hx, fun e => h.bv (by rw [← e]; rfl), fun e => h.gv (by rw [← e]; rfl), lt_of_block hh, ?_, fun _ => ⟨_, rfl, lt_of_block hh, fun j u hu => ?_⟩⟩
    · have := hcell (i * 257 + 0) (.int .i64 ((pd[i]).page : Int)) ((wenc.at_ pd i 0 _ hx (by omega)).trans rfl)
      rw [e, Nat.add_zero] at this
      exact this
    · have hj : j < 256 := by
        have := (List.getElem?_eq_some_iff.1 hu).1
        rwa [bcells_length, (pd[i]).len] at this
      have := hcell (i * 257 + (j + 1)) u ((wenc.at_ pd i (j + 1) _ hx (by omega)).trans (by simpa [wcells] using hu))
      rw [e] at this
      have e2 : ((⟨q, i * 257 + 1, none⟩ : Addr).add j) = ⟨q, i * 257 + (j + 1), none⟩ := by
        have h0 := e (i * 257 + (j + 1))
        have h1 : ∀ o j, ((⟨q, o, none⟩ : Addr).add j) = ⟨q, o + j, none⟩ := fun o j => by unfold Addr.add; split <;> simp_all
        rw [h1, Nat.add_assoc, Nat.add_comm 1 j]
      rw [e2]
      exact this
theorem DevAt.form {w : World} {b g n : Nat} {v : Value} {st : List UInt8} {pd : List WR} (h : DevAt w b g v n st pd) : ∃ A c, v = .slice A pd.length c := by
  obtain ⟨A, c, e, _⟩ := h.own.form
  exact ⟨A, c, e⟩

end Go.Proofs.Ythjgcbpanfiacaa
