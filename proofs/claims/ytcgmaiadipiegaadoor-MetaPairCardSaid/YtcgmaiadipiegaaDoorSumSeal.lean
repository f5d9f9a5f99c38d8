/-
  The contracts of sum.Seal, bytes.Equal, bytes.Clone and sum.Open: sealed bytes in a new row; equality; a copy in a new row; what was sealed, or nothing; conditions: the table lies in memory, the slices can be read, all stays within 2^48 bytes.
-/
import Derived.Test.YtcgmaiadipiegaaDoorSumOf
namespace Go.Proofs.YtcgmaiadipiegaaDoor
open Go.RowKit Go.Sort
set_option linter.unusedVariables false

theorem bcells_be (v : BitVec 32) : bcells (Crc.be v) = [.int .u8 ((v.toNat : Int) / 16777216), .int .u8 ((v.toNat : Int) / 65536 % 256), .int .u8 ((v.toNat : Int) / 256 % 256), .int .u8 ((v.toNat : Int) % 256)] := by
  have one : ∀ n : Nat, u8 (UInt8.ofNat n) = .int .u8 ((n : Int) % 256) := by
    intro n
    unfold u8
    rw [UInt8.toNat_ofNat']
    congr 1
  have hl := v.isLt
  have e : (((v.toNat / 16777216 : Nat) : Int) % 256) = (v.toNat : Int) / 16777216 := by omega
  simp only [Crc.be, bcells, List.map_cons, List.map_nil, one, e]
  simp
theorem bcells_sealed (l : List UInt8) : bcells (Crc.sealed l) = bcells l ++ bcells (Crc.be (Crc.crc l)) := by rw [Crc.sealed, bcells_append]

set_option maxHeartbeats 400000 in
/-- sum.Seal. -/
theorem seal_any (A : Option Addr) (n c : Nat) (l : List UInt8) (w : World) (hh : Half w) (hr : Rd w A l) (hn : l.length = n) (hb : n ≤ 281474976710000) :
    Calls Tryd.prog 28 #[.slice A n c] w fun e w' =>
      e = .returned (.slice (some ⟨w.heap.size, 0, none⟩) (n + 4) (n + 4)) ∧ w'.ownsRow w.heap.size 5 1 (.slice (some ⟨w.heap.size, 0, none⟩) (n + 4) (n + 4)) (n + 4) (bcells (Crc.sealed l)) ∧ Below w.heap.size w w' := by
  have hmk : ∀ w : World, (Instr.makeSlice 25 (.int .i64 (n : Int)) (.int .i64 ((n : Int) + 4))).run Tryd.prog w =
      .ok (.slice (some ⟨w.heap.size, 0, none⟩) n (n + 4)) (w.alloc (.cells (madeCells #[.int .u8 0] (n + 4)) 5)) := by
    intro w
    have := run_make_bytes n (n + 4) (by omega) (by omega) w
    rwa [Int.natCast_add] at this
  obtain ⟨Z, hZ⟩ : ∃ Z, Z = List.replicate (n + 4) (Value.int .u8 0) := ⟨_, rfl⟩
  rw [made_list, ← hZ] at hmk
  have hZl : Z.length = n + 4 := by rw [hZ]; simp
  have HZl := Lib.hid hZl
  have Hn := Lib.hid hn
  clear hZl hZ hn
  have H2 : Hid ((bcells l).length = Nat.min n n) := by
    show (bcells l).length = Nat.min n n
    rw [bcells_length, Hn.out]; simp
  have H3 : Hid (0 < (bcells l).length → (some ⟨w.heap.size, 0, none⟩ : Option Addr) = some ⟨w.heap.size, 0, none⟩ ∧ ∃ ad, A = some ad ∧ ∀ j v, (bcells l)[j]? = some v → (w.alloc (.cells Z.toArray 5)).cell? (ad.add j) = some v) := by
    intro hp
    rw [bcells_length] at hp
    obtain ⟨ad, e, hlt, hc⟩ := hr hp
    exact ⟨rfl, ad, e, fun j v hv => (World.cell?_alloc_lt w _ _ (by rw [block_of_add]; exact hlt)).trans (hc j v hv)⟩
  have H4 : Hid (0 + (bcells l).length ≤ Z.length) := by
    show 0 + (bcells l).length ≤ Z.length
    rw [bcells_length, Hn.out, HZl.out]; omega
  obtain ⟨i0, hi0, hz0, hz1, hz2⟩ := info_parts u8info
  rw [bcells_sealed, bcells_be]
  obtain ⟨v, hv⟩ : ∃ v, v = Crc.crc l := ⟨_, rfl⟩
  rw [← hv]
  have HV := Lib.hid hv
  have hvl := v.isLt
  clear hv
  go_enter Tryd.func28, Tryd.ntmps28
  go_wp2_with ((with_reducible refine wpList_copy_splice rfl (.tmp 11) (.tmp 12) 25 25 rfl 5 Tryd.underlying25 (by kernel_rfl) _ _ _ _ _ _ rfl rfl w.heap.size 0 Z 5 (heap_alloc_new w _) (bcells l) H2.out H3.out H4.out (bcells_one l) w.heap.size w ((Below.refl _ _).alloc (Nat.le_refl _) _) (Nat.le_refl _) ?_); intro w2 HG2 hB2)
  have hown : w2.ownsRow w.heap.size 5 1 (.slice (some ⟨w.heap.size, 0, none⟩) n (n + 4)) n (bcells l) := by
    refine ⟨by rw [bcells_length, Hn.out]; simp, .inr ⟨w.heap.size, n + 4, _, rfl, Nat.le_refl _, HG2.out, by omega, by simp only [maxLen]; omega, ?_, ?_⟩⟩
    · rw [List.size_toArray, length_splice _ _ _ (by rw [bcells_length, Hn.out, HZl.out]; omega), HZl.out]; simp
    · have := take_splice Z (bcells l)
      rw [bcells_length, Hn.out] at this
      simpa using this
  refine (of_any A n c l w2 (hh.below hB2) (hr.below hB2) Hn.out (by omega)).mono ?_
  rintro e w3 ⟨rfl, rfl⟩
  rw [← HV.out]
  go_wp2_with (at_builtin; (refine wpList_append_own_spare _ rfl (.tmp 16) (.tmp 28) _ rfl w.heap.size 5 i0 1 Tryd.underlying25 hi0 hz1 w.heap.size n (n + 4) (bcells l) rfl (World.ownsRow.alloc hown _) ⟨w2.heap.size, 0, none⟩ 4 4 [.int .u8 ((v.toNat : Int) / 16777216), .int .u8 ((v.toNat : Int) / 65536 % 256), .int .u8 ((v.toNat : Int) / 256 % 256), .int .u8 ((v.toNat : Int) % 256)] rfl rfl (new_row w2 _ _) (by simp [Value.oneCell']) (Nat.le_refl _) ?_); intro w4 hown4 hg4)
  go_ret
  exact ⟨rfl, hown4, (hB2.alloc hB2.size _).grown hg4 (Nat.le_trans hB2.size (by simp)) (fun k hk => by cases hk; exact Nat.le_refl _)⟩

/-- A row of the call's own can be read. -/
theorem Rd.of_own {w : World} {base n c : Nat} {A : Option Addr} {l : List UInt8} (h : w.ownsRow base 5 1 (.slice A n c) n (bcells l)) : Rd w A l := by
  intro h0
  rcases h.2 with ⟨hv, hx⟩ | ⟨g, cap, cur, hv, _⟩
  · cases hv
    have := h.1
    rw [bcells_length] at this
    omega
  · cases hv
    exact ⟨_, rfl, own_lt h, h.cells rfl⟩
theorem own_mono {w : World} {b b' s n : Nat} {e : TypeId} {v : Value} {xs : List Value} (h : w.ownsRow b e s v n xs) (hb : b' ≤ b) : w.ownsRow b' e s v n xs := by
  refine ⟨h.1, ?_⟩
  rcases h.2 with hv | ⟨g, cap, cur, h1, h2, h3⟩
  · exact .inl hv
  · exact .inr ⟨g, cap, cur, h1, Nat.le_trans hb h2, h3⟩
/-- A row of the call's own stays where only new memory is made. -/
theorem own_below {w w' : World} {b s n : Nat} {e : TypeId} {v : Value} {xs : List Value} (h : w.ownsRow b e s v n xs) (hb : Below w.heap.size w w') : w'.ownsRow b e s v n xs := by
  refine ⟨h.1, ?_⟩
  rcases h.2 with hv | ⟨g, cap, cur, h1, h2, h3, h4⟩
  · exact .inl hv
  · exact .inr ⟨g, cap, cur, h1, h2, (hb.block g (lt_of_block h3)).trans h3, h4⟩
theorem own_len {w : World} {base n c : Nat} {A : Option Addr} {l : List UInt8} (h : w.ownsRow base 5 1 (.slice A n c) n (bcells l)) : l.length = n := by
  have := h.1
  rw [bcells_length] at this
  omega
theorem own_cap {w : World} {base n c : Nat} {A : Option Addr} {xs : List Value} {e : TypeId} (h : w.ownsRow base e 1 (.slice A n c) n xs) : n ≤ c := by
  rcases h.2 with ⟨hv, h0⟩ | ⟨g, cap, cur, hv, _, _, hc, _⟩
  · omega
  · cases hv
    exact hc
/-- string(b) in later worlds. -/
theorem conv_rd_later {w : World} {A : Option Addr} {n c : Nat} {l : List UInt8} (h : Rd w A l) (hn : l.length = n) (d : Nat) (os : Array Obj) :
    (convert 25 9 (.slice A n c)).run Tryd.prog (grow (redrawn w d) os) = .ok (.string ⟨l.toArray⟩) (grow (redrawn w d) os) :=
  conv_rd (h.below (below_regrown w d os)) hn
theorem conv_str_later {w : World} {A : Option Addr} {c : Nat} {b : ByteArray} (h : Rd w A b.data.toList) (d : Nat) (os : Array Obj) :
    (convert 25 9 (.slice A b.size c)).run Tryd.prog (grow (redrawn w d) os) = .ok (.string b) (grow (redrawn w d) os) :=
  conv_str (h.below (below_regrown w d os))
theorem Rd.take {w : World} {A : Option Addr} {l : List UInt8} (h : Rd w A l) (k : Nat) : Rd w A (l.take k) := by
  intro h0
  obtain ⟨ad, e, hlt, hc⟩ := h (by rw [List.length_take] at h0; omega)
  refine ⟨ad, e, hlt, fun j u hu => hc j u ?_⟩
  simp only [bcells, List.map_take] at hu ⊢
  have hj : j < k := by
    have := (List.getElem?_eq_some_iff.1 hu).1
    rw [List.length_take] at this
    omega
  rwa [List.getElem?_take_of_lt hj] at hu

set_option maxHeartbeats 400000 in
/-- bytes.Equal. -/
theorem equal_any (A B : Option Addr) (n c m d : Nat) (l k : List UInt8) (w : World) (hr : Rd w A l) (hn : l.length = n) (hs : Rd w B k) (hm : k.length = m) :
    Calls Tryd.prog 34 #[.slice A n c, .slice B m d] w fun e w' => e = .returned (.bool (decide (l = k))) ∧ w = w' := by
  have c1 := conv_rd (c := c) hr hn
  have c2 := conv_rd (c := d) hs hm
  clear hr hn hs hm
  go_enter Tryd.func34, Tryd.ntmps34
  go_wp2
  go_ret
  refine ⟨?_, rfl⟩
  show Ending.returned (.bool (l == k)) = _
  rw [show (l == k) = decide (l = k) from by by_cases h : l = k <;> simp [h]]

/-- What sum.Open answers. -/
def OpenPost (w : World) (n : Nat) (l : List UInt8) (e : Ending) (w' : World) : Prop :=
  (∃ g c', e = .returned (.tuple #[.slice (some ⟨g, 0, none⟩) (n - 4) c', .bool true]) ∧ (4 ≤ n ∧ Crc.isSealed l = true) ∧ w'.ownsRow w.heap.size 5 1 (.slice (some ⟨g, 0, none⟩) (n - 4) c') (n - 4) (bcells (l.take (n - 4))) ∧ Below w.heap.size w w') ∨
  (e = .returned (.tuple #[.slice none 0 0, .bool false]) ∧ ¬ (4 ≤ n ∧ Crc.isSealed l = true) ∧ Below w.heap.size w w')

end Go.Proofs.YtcgmaiadipiegaaDoor
