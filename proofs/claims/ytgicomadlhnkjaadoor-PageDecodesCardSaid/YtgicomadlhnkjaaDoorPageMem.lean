/-
  Pages in memory: cells and kids as cells of memory, a page by value, what is asked of its numbers and strings; and the contracts of page.isNumber, rightContent, rightKeys, rightPiece and the reference's Number; conditions stand at each.
-/
import Derived.Test.YtgicomadlhnkjaaDoorLs
import Derived.Test.YtgicomadlhnkjaaDoorPagePure
import Derived.Test.YtgicomadlhnkjaaDoorPairSmall
namespace Go.Proofs.YtgicomadlhnkjaaDoor
open Go.RowKit Go.Sort
set_option linter.unusedVariables false

/-- A number of 64 bits. -/
def I64 (x : Int) : Prop := -9223372036854775808 ≤ x ∧ x ≤ 9223372036854775807
def pcC (c : PC) : List Value := [.string c.k, .string c.v, .int .i64 c.sz, .int .i64 c.st]
def pcK (c : PK) : List Value := [.string c.k, .int .i64 c.pg]
theorem encC : Enc pcC 4 := ⟨fun _ => rfl, fun x u hu => by
  simp only [pcC, List.mem_cons, List.not_mem_nil, or_false] at hu
  rcases hu with rfl | rfl | rfl | rfl <;> rfl⟩
theorem encK : Enc pcK 2 := ⟨fun _ => rfl, fun x u hu => by
  simp only [pcK, List.mem_cons, List.not_mem_nil, or_false] at hu
  rcases hu with rfl | rfl <;> rfl⟩
/-- What a cell's numbers and strings are at most. -/
structure BdC (c : PC) : Prop where
  k : c.k.size ≤ 140737488351232
  v : c.v.size ≤ 140737488351232
  sz : I64 c.sz
  st : I64 c.st
structure BdK (c : PK) : Prop where
  k : c.k.size ≤ 140737488351232
  pg : I64 c.pg
structure Bd (p : PP) : Prop where
  kind : I64 p.kind
  next : I64 p.next
  piece : p.piece.size ≤ 140737488351232
  cl : p.cells.length ≤ 100000000000
  kl : p.kids.length ≤ 100000000000
  cells : ∀ c ∈ p.cells, BdC c
  kids : ∀ c ∈ p.kids, BdK c

theorem Ls.atC {w : World} {A : Option Addr} {l : List PC} (h : Ls pcC w A l) {i : Nat} (hi : i < l.length) :
    ∃ ad x, A = some ad ∧ l[i]? = some x ∧ ad.block < w.heap.size ∧ w.cell? (ad.add (i * 4)) = some (.string x.k) ∧ w.cell? ⟨(ad.add (i * 4)).block, (ad.add (i * 4)).off + 1, none⟩ = some (.string x.v) ∧
      w.cell? ⟨(ad.add (i * 4)).block, (ad.add (i * 4)).off + 2, none⟩ = some (.int .i64 x.sz) ∧ w.cell? ⟨(ad.add (i * 4)).block, (ad.add (i * 4)).off + 3, none⟩ = some (.int .i64 x.st) := by
  obtain ⟨ad, x, rfl, hx, hlt, hc⟩ := h.at_ encC hi
  exact ⟨ad, x, rfl, hx, hlt, hc 0 _ (by omega) rfl, hc 1 _ (by omega) rfl, hc 2 _ (by omega) rfl, hc 3 _ (by omega) rfl⟩
theorem Ls.atK {w : World} {A : Option Addr} {l : List PK} (h : Ls pcK w A l) {i : Nat} (hi : i < l.length) :
    ∃ ad x, A = some ad ∧ l[i]? = some x ∧ ad.block < w.heap.size ∧ w.cell? (ad.add (i * 2)) = some (.string x.k) ∧ w.cell? ⟨(ad.add (i * 2)).block, (ad.add (i * 2)).off + 1, none⟩ = some (.int .i64 x.pg) := by
  obtain ⟨ad, x, rfl, hx, hlt, hc⟩ := h.at_ encK hi
  exact ⟨ad, x, rfl, hx, hlt, hc 0 _ (by omega) rfl, hc 1 _ (by omega) rfl⟩

def cellV (c : PC) : Value := .agg #[.string c.k, .string c.v, .int .i64 c.sz, .int .i64 c.st]

theorem isNumber_any (n : Int) (w : World) (hn : I64 n) :
    Calls Tryd.prog 45 #[.int .i64 n] w fun e w' => e = .returned (.bool (decide (okNum n))) ∧ w = w' := by
  by_cases h1 : 2 ≤ n
  · by_cases h2 : n < 512
    · rw [show decide (okNum n) = true from decide_eq_true ⟨h1, by omega⟩]
      go_enter Tryd.func45, Tryd.ntmps45
      go_wp2
      go_ret
      exact ⟨rfl, rfl⟩
    · rw [show decide (okNum n) = false from decide_eq_false fun h => by have := h.2; omega]
      go_enter Tryd.func45, Tryd.ntmps45
      go_wp2
      go_ret
      exact ⟨rfl, rfl⟩
  · rw [show decide (okNum n) = false from decide_eq_false fun h => h1 h.1]
    go_enter Tryd.func45, Tryd.ntmps45
    go_wp2
    go_ret
    exact ⟨rfl, rfl⟩

theorem refNumber_any (n : Int) (w : World) (hn : I64 n) :
    Calls Tryd.prog 28 #[.int .i64 n] w fun e w' => e = .returned (.bool (decide (okNum n))) ∧ w = w' := by
  by_cases h1 : 2 ≤ n
  · by_cases h2 : n ≤ 511
    · rw [show decide (okNum n) = true from decide_eq_true ⟨h1, h2⟩]
      go_enter Tryd.func28, Tryd.ntmps28
      go_wp2
      go_ret
      exact ⟨rfl, rfl⟩
    · rw [show decide (okNum n) = false from decide_eq_false fun h => h2 h.2]
      go_enter Tryd.func28, Tryd.ntmps28
      go_wp2
      go_ret
      exact ⟨rfl, rfl⟩
  · rw [show decide (okNum n) = false from decide_eq_false fun h => h1 h.1]
    go_enter Tryd.func28, Tryd.ntmps28
    go_wp2
    go_ret
    exact ⟨rfl, rfl⟩

theorem rightPiece_any (s : ByteArray) (n : Int) (w : World) (hs : s.size ≤ 140737488351232) (hn : I64 n) :
    Calls Tryd.prog 25 #[.string s, .int .i64 n] w fun e w' => e = .returned (.bool (decide (okPiece s n))) ∧ w = w' := by
  by_cases h1 : 1 ≤ s.size
  · by_cases h2 : s.size ≤ 240
    · by_cases h3 : n = 0
      · rw [show decide (okPiece s n) = true from decide_eq_true ⟨h1, h2, .inl h3⟩]
        go_enter Tryd.func25, Tryd.ntmps25
        go_wp2
        go_ret
        exact ⟨rfl, rfl⟩
      · rw [show decide (okPiece s n) = decide (okNum n) from decide_eq_decide.2 ⟨fun h => h.2.2.resolve_left h3, fun h => ⟨h1, h2, .inr h⟩⟩]
        go_enter Tryd.func25, Tryd.ntmps25
        go_wp2_with fail
        refine (isNumber_any n w hn).mono ?_
        rintro e w1 ⟨rfl, rfl⟩
        have h4 : (n == 0) = false := by simpa using h3
        go_wp2
        go_ret
        exact ⟨rfl, rfl⟩
    · rw [show decide (okPiece s n) = false from decide_eq_false fun h => h2 h.2.1]
      go_enter Tryd.func25, Tryd.ntmps25
      go_wp2
      go_ret
      exact ⟨rfl, rfl⟩
  · rw [show decide (okPiece s n) = false from decide_eq_false fun h => h1 h.1]
    go_enter Tryd.func25, Tryd.ntmps25
    go_wp2
    go_ret
    exact ⟨rfl, rfl⟩

theorem rightContent_any (c : PC) (w : World) (hc : BdC c) :
    Calls Tryd.prog 43 #[cellV c] w fun e w' => e = .returned (.bool (decide (okBody c))) ∧ Below w.heap.size w w' := by
  obtain ⟨ck, cv, cz, cs⟩ := c
  obtain ⟨b1, b2, b3, b4⟩ := hc
  simp only at b1 b2 b3 b4
  unfold cellV
  simp only
  have he := empty_eq cv
  by_cases h1 : cz = 0 ∧ cs = 0
  · obtain ⟨rfl, rfl⟩ := h1
    rw [show decide (okBody ⟨ck, cv, 0, 0⟩) = decide ((cv.size : Int) ≤ 24) from decide_eq_decide.2 ⟨fun h => by
      rcases h with ⟨_, _, h⟩ | ⟨_, h, _⟩
      · simp only at h; omega
      · simp only at h; omega, fun h => .inl ⟨rfl, rfl, by simp only; omega⟩⟩]
    go_enter Tryd.func43, Tryd.ntmps43
    go_wp2
    go_ret
    exact ⟨rfl, (Below.refl _ _).alloc (Nat.le_refl _) _⟩
  · have hx : okBody ⟨ck, cv, cz, cs⟩ ↔ cv.size = 0 ∧ 25 ≤ cz ∧ cz ≤ 400 ∧ okNum cs := ⟨fun h => by
      rcases h with ⟨h2, h3, _⟩ | h
      · exact absurd ⟨h2, h3⟩ h1
      · exact h, fun h => .inr h⟩
    rw [show decide (okBody ⟨ck, cv, cz, cs⟩) = decide (cv.size = 0 ∧ 25 ≤ cz ∧ cz ≤ 400 ∧ okNum cs) from decide_eq_decide.2 hx]
    clear hx
    have hz : decide (cz = 0) = true → decide (cs = 0) = false := fun h => decide_eq_false fun h2 => h1 ⟨of_decide_eq_true h, h2⟩
    by_cases h2 : cv.size = 0
    · rw [decide_eq_true h2] at he
      by_cases h3 : 24 < cz
      · by_cases h4 : cz ≤ 400
        · rw [show decide (cv.size = 0 ∧ 25 ≤ cz ∧ cz ≤ 400 ∧ okNum cs) = decide (okNum cs) from decide_eq_decide.2 ⟨fun h => h.2.2.2, fun h => ⟨h2, by omega, h4, h⟩⟩]
          go_enter Tryd.func43, Tryd.ntmps43
          go_wp2_with fail
          refine (isNumber_any cs _ b4).mono ?_
          rintro e w1 ⟨rfl, rfl⟩
          go_wp2
          go_ret
          exact ⟨rfl, (Below.refl _ _).alloc (Nat.le_refl _) _⟩
        · rw [show decide (cv.size = 0 ∧ 25 ≤ cz ∧ cz ≤ 400 ∧ okNum cs) = false from decide_eq_false fun h => h4 h.2.2.1]
          go_enter Tryd.func43, Tryd.ntmps43
          go_wp2
          go_ret
          exact ⟨rfl, (Below.refl _ _).alloc (Nat.le_refl _) _⟩
      · rw [show decide (cv.size = 0 ∧ 25 ≤ cz ∧ cz ≤ 400 ∧ okNum cs) = false from decide_eq_false fun h => by omega]
        by_cases h5 : cz = 0
        · have h6 : ¬ cs = 0 := fun h => h1 ⟨h5, h⟩
          go_enter Tryd.func43, Tryd.ntmps43
          go_wp2
          go_ret
          exact ⟨rfl, (Below.refl _ _).alloc (Nat.le_refl _) _⟩
        · go_enter Tryd.func43, Tryd.ntmps43
          go_wp2
          go_ret
          exact ⟨rfl, (Below.refl _ _).alloc (Nat.le_refl _) _⟩
    · rw [decide_eq_false h2] at he
      rw [show decide (cv.size = 0 ∧ 25 ≤ cz ∧ cz ≤ 400 ∧ okNum cs) = false from decide_eq_false fun h => h2 h.1]
      by_cases h5 : cz = 0
      · have h6 : ¬ cs = 0 := fun h => h1 ⟨h5, h⟩
        go_enter Tryd.func43, Tryd.ntmps43
        go_wp2
        go_ret
        exact ⟨rfl, (Below.refl _ _).alloc (Nat.le_refl _) _⟩
      · go_enter Tryd.func43, Tryd.ntmps43
        go_wp2
        go_ret
        exact ⟨rfl, (Below.refl _ _).alloc (Nat.le_refl _) _⟩

theorem keyNo_ok (k : ByteArray) : (keyNo k = 0) ↔ okKey k := by
  unfold keyNo okKey
  split
  · omega
  · split <;> omega

set_option maxHeartbeats 400000 in
theorem rightKeys_any (A : Option Addr) (n c : Nat) (l : List Ent) (w : World) (hr : Es w A l) (hn : l.length = n) (hb : n ≤ 100000000000) (hs : ∀ e ∈ l, e.k.size ≤ 140737488351232) :
    Calls Tryd.prog 44 #[.slice A n c] w fun e w' => e = .returned (.bool (decide (okKeys l))) ∧ Below w.heap.size w w' := by
  have Hn := Lib.hid hn
  have HS := Lib.hid hs
  clear hn hs
  go_enter Tryd.func44, Tryd.ntmps44
  go_wp2
  go_loopw [7] (fun i wr => ∃ k : Nat, k ≤ n ∧ i = .int .i64 k ∧ Below w.heap.size w wr ∧ ∀ j e, j < k → l[j]? = some e → okKey e.k) (fun i _ => n - (intOf i).toNat)
  case atStart => exact ⟨0, Nat.zero_le _, rfl, Below.refl _ _, fun j _ hj => absurd hj (by omega)⟩
  case round =>
    obtain ⟨k, hk, rfl, hbw, hall⟩ := hrel
    have HA := Lib.hid hall
    clear hall
    by_cases hlt : k < n
    · obtain ⟨ad, x, rfl, hx, hl, h1, h2⟩ := (hr.below hbw).at_ (i := k) (by rw [Hn.out]; exact hlt)
      have hxs := HS.out x (List.mem_of_getElem? hx)
      have Hx := Lib.hid hx
      clear hx
      go_wp2_with fail
      refine (key_any x.k _ hxs).mono ?_
      rintro e w1 ⟨rfl, rfl⟩
      have hb1 : Below w.heap.size w (wr.alloc (.cells #[.string x.k, .string x.v] 88)) := hbw.alloc hbw.size _
      by_cases hd : keyNo x.k = 0
      · rw [hd]
        go_wp2
        refine ⟨⟨k + 1, by omega, by go_num, hb1, fun j e hj he => ?_⟩, by simp [intOf]; omega⟩
        rcases Nat.lt_or_ge j k with h | h
        · exact HA.out j e h he
        · have : j = k := by omega
          subst this
          rw [Hx.out] at he
          cases he
          exact (keyNo_ok _).1 hd
      · go_wp2
        go_ret
        rw [show decide (okKeys l) = false from decide_eq_false fun h => hd ((keyNo_ok _).2 (h.1 x (List.mem_of_getElem? Hx.out)))]
        exact ⟨rfl, hb1⟩
    · have he : k = n := by omega
      subst he
      go_wp2_with fail
      refine (rise_any A k c l wr (hr.below hbw) Hn.out hb).mono ?_
      rintro e w1 ⟨rfl, hb1⟩
      go_wp2
      go_ret
      rw [show decide (okKeys l) = decide (Sorted l) from decide_eq_decide.2 ⟨fun h => h.2, fun h => ⟨fun e he => by
        obtain ⟨j, hj⟩ := List.getElem?_of_mem he
        exact HA.out j e (by have := (List.getElem?_eq_some_iff.1 hj).1; rw [Hn.out] at this; exact this) hj, h⟩⟩]
      exact ⟨rfl, bthen hbw hb1⟩

end Go.Proofs.YtgicomadlhnkjaaDoor
