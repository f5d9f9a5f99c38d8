/-
  Words that are numbers below 64, once as numbers and once as texts of that many zeros: the contracts of both memories in the same words; conditions stand at each.
-/
import Derived.Test.YthalghjnnfohaaaCellHelp
import Derived.Test.YthalghjnnfohaaaDrawnW
namespace Go.Proofs.Ythalghjnnfohaaa
open Go.RowKit Go.Sort
set_option linter.unusedVariables false
set_option linter.unusedSimpArgs false

/-- A text of n zeros. -/
def zeros (n : Nat) : ByteArray := ⟨(List.replicate n 0).toArray⟩
theorem zeros_size (n : Nat) : (zeros n).size = n := by simp [zeros, ByteArray.size]
theorem zeros_inj (a b : Nat) (h : zeros a = zeros b) : a = b := by rw [← zeros_size a, h, zeros_size]
def upI (n : Nat) : Int := (n : Int)
theorem upI_inj (a b : Nat) (h : upI a = upI b) : a = b := by unfold upI at h; omega
/-- The words as numbers, and as texts. -/
def asI (N : List Nat) : List Value := (N.map upI).map (.int .i64)
def asS (N : List Nat) : List Value := (N.map zeros).map .string

theorem loadNI {w : World} {b g : Nat} {N : List Nat} {s c : Nat} (h : MemI w b g (asI N) s c) (i : Int) (hs : s ≤ 1000000) :
    Calls Try.prog 11 #[.pointer (some ⟨b, 0, none⟩), .int .i64 i] w fun e w' =>
      e = .returned (.tuple #[.int .i64 ((getW 0 N i : Nat) : Int), .int .i64 (errW N.length i)]) ∧ MemI w' b g (asI N) (stepW N.length i s) c ∧ Keep (Of b g) w w' := by
  have := loadI (l := N.map upI) h i hs
  rwa [show getW 0 (N.map upI) i = upI (getW 0 N i) from getW_map upI 0 N i, List.length_map] at this
theorem loadNS {w : World} {b g : Nat} {N : List Nat} {s c : Nat} (h : MemS w b g (asS N) s c) (i : Int) (hs : s ≤ 1000000) :
    Calls Try.prog 20 #[.pointer (some ⟨b, 0, none⟩), .int .i64 i] w fun e w' =>
      e = .returned (.tuple #[.string (zeros (getW 0 N i)), .int .i64 (errW N.length i)]) ∧ MemS w' b g (asS N) (stepW N.length i s) c ∧ Keep (Of b g) w w' := by
  have := loadS (l := N.map zeros) h i hs
  rwa [show getW ByteArray.empty (N.map zeros) i = zeros (getW 0 N i) from getW_map zeros 0 N i, List.length_map] at this
theorem storeNI {w : World} {b g : Nat} {N : List Nat} {s c : Nat} (h : MemI w b g (asI N) s c) (i : Int) (x : Nat) (hs : s ≤ 1000000) :
    Calls Try.prog 13 #[.pointer (some ⟨b, 0, none⟩), .int .i64 i, .int .i64 (x : Int)] w fun e w' =>
      e = .returned (.int .i64 (errW N.length i)) ∧ MemI w' b g (asI (setW N i x)) (stepW N.length i s) c ∧ Keep (Of b g) w w' := by
  have := storeI (l := N.map upI) h i (upI x) hs
  rwa [setW_map upI, List.length_map] at this
theorem storeNS {w : World} {b g : Nat} {N : List Nat} {s c : Nat} (h : MemS w b g (asS N) s c) (i : Int) (x : Nat) (hs : s ≤ 1000000) :
    Calls Try.prog 21 #[.pointer (some ⟨b, 0, none⟩), .int .i64 i, .string (zeros x)] w fun e w' =>
      e = .returned (.int .i64 (errW N.length i)) ∧ MemS w' b g (asS (setW N i x)) (stepW N.length i s) c ∧ Keep (Of b g) w w' := by
  have := storeS (l := N.map zeros) h i (zeros x) hs
  rwa [setW_map zeros, List.length_map] at this
theorem casNI {w : World} {b g : Nat} {N : List Nat} {s c : Nat} (h : MemI w b g (asI N) s c) (i : Int) (old x : Nat) (hs : s ≤ 1000000) (hc : c ≤ 1000000) :
    Calls Try.prog 15 #[.pointer (some ⟨b, 0, none⟩), .int .i64 i, .int .i64 (old : Int), .int .i64 (x : Int)] w fun e w' =>
      e = .returned (.tuple #[.bool (swapW N i old), .int .i64 (errW N.length i)]) ∧ MemI w' b g (asI (casW N i old x)) (stepW N.length i s) (changeW N i old c) ∧ Keep (Of b g) w w' := by
  have := casI (l := N.map upI) h i (upI old) (upI x) hs hc
  rwa [swapW_map upI upI_inj, casW_map upI upI_inj, changeW_map upI upI_inj, List.length_map] at this
theorem casNS {w : World} {b g : Nat} {N : List Nat} {s c : Nat} (h : MemS w b g (asS N) s c) (i : Int) (old x : Nat) (hs : s ≤ 1000000) (hc : c ≤ 1000000) :
    Calls Try.prog 22 #[.pointer (some ⟨b, 0, none⟩), .int .i64 i, .string (zeros old), .string (zeros x)] w fun e w' =>
      e = .returned (.tuple #[.bool (swapW N i old), .int .i64 (errW N.length i)]) ∧ MemS w' b g (asS (casW N i old x)) (stepW N.length i s) (changeW N i old c) ∧ Keep (Of b g) w w' := by
  have := casS (l := N.map zeros) h i (zeros old) (zeros x) hs hc
  rwa [swapW_map zeros zeros_inj, casW_map zeros zeros_inj, changeW_map zeros zeros_inj, List.length_map] at this

/-- Both memories, of the same words and counts. -/
abbrev BothN (B : Nat) (w : World) (b g b2 g2 : Nat) (N M : List Nat) (s c s2 c2 : Nat) : Prop := Two 55 3 62 9 B w b g b2 g2 (asI N) (asS M) s c s2 c2

/-- What the operations of 's, t := string(make([]byte, p)), string(make([]byte, q))' yield. -/
def MadeAt (p : Nat) (v : Value) (w : World) : Prop := ∃ h, v = .slice (some ⟨h, 0, none⟩) p p ∧ w.heap[h]? = some (.cells (bcells (List.replicate p 0)).toArray 5 (0, 0))
def textV (p q : Nat) : Nat → Value → World → Prop
  | 0, v, _ => v = .int .i64 (p : Int)
  | 1, v, w => MadeAt p v w
  | 2, v, _ => v = .string (zeros p)
  | 3, v, _ => v = .int .i64 (q : Int)
  | 4, v, w => MadeAt q v w
  | 5, v, _ => v = .string (zeros q)
  | 6, v, _ => v = .string (zeros p)
  | 7, v, _ => v = .string (zeros q)
  | _, _, _ => True
theorem MadeAt.later {p : Nat} {v : Value} {w w' : World} (h : MadeAt p v w) (hb : Below w.heap.size w w') : MadeAt p v w' := by
  obtain ⟨g, e, hg⟩ := h
  exact ⟨g, e, (hb.block g (lt_of_block hg)).trans hg⟩
theorem textV_later (p q : Nat) : ∀ i v w w', textV p q i v w → Below w.heap.size w w' → textV p q i v w'
  | 0, _, _, _, h, _ => h
  | 1, _, _, _, h, hb => MadeAt.later h hb
  | 2, _, _, _, h, _ => h
  | 3, _, _, _, h, _ => h
  | 4, _, _, _, h, hb => MadeAt.later h hb
  | 5, _, _, _, h, _ => h
  | 6, _, _, _, h, _ => h
  | 7, _, _, _, h, _ => h
  | _ + 8, _, _, _, _, _ => trivial
theorem made_bytes (p : Nat) (hp : p ≤ 64) (w : World) : ∃ w', (Instr.makeSlice 49 (.int .i64 (p : Int)) (.int .i64 (p : Int))).run Try.prog w = .ok (.slice (some ⟨w.heap.size, 0, none⟩) p p) w' ∧ Below w.heap.size w w' ∧ MadeAt p (.slice (some ⟨w.heap.size, 0, none⟩) p p) w' := by
  have h := run_make_bytes p p (Nat.le_refl _) (by omega) w
  rw [made_list, show List.replicate p (Value.int .u8 0) = bcells (List.replicate p 0) by simp [bcells, u8]] at h
  exact ⟨_, h, (Below.refl _ _).alloc (Nat.le_refl _) _, _, rfl, heap_alloc_new w _⟩
theorem made_text {p : Nat} {v : Value} {w : World} (h : MadeAt p v w) : (convert 49 9 v).run Try.prog w = .ok (.string (zeros p)) w := by
  obtain ⟨g, rfl, hg⟩ := h
  have hr := rd_block hg 0 p
  rw [List.drop_zero, List.take_of_length_le (by simp)] at hr
  exact conv_rd hr (by simp)
/-- The lowest six bits. -/
def p63 (x : Int) : Nat := (x % 64).toNat
theorem p63_lt (x : Int) : p63 x < 64 := by unfold p63; omega
theorem i64_mask (z : Int) (k : Nat) (hk : k ≤ 62) (m : Int) (hm : m = ((2 ^ k - 1 : Nat) : Int)) : bits .and .i64 z m = z % ((2 ^ k : Nat) : Int) := by
  subst hm
  have hp : 0 < 2 ^ k := Nat.two_pow_pos k
  have hple : 2 ^ k ≤ 2 ^ 62 := Nat.pow_le_pow_right (by omega) hk
  have hdvd : (2 : Nat) ^ k ∣ 2 ^ 64 := Nat.pow_dvd_pow 2 (by omega)
  show IntKind.i64.wrap ((BitVec.ofInt 64 z &&& BitVec.ofInt 64 ((2 ^ k - 1 : Nat) : Int)).toNat : Int) = _
  rw [BitVec.toNat_and, BitVec.ofInt_natCast, BitVec.toNat_ofNat, BitVec.toNat_ofInt]
  rw [Nat.mod_eq_of_lt (show 2 ^ k - 1 < 2 ^ 64 by omega), Nat.and_two_pow_sub_one_eq_mod]
  have h1 : (((z % ((2 ^ 64 : Nat) : Int)).toNat % 2 ^ k : Nat) : Int) = z % ((2 ^ k : Nat) : Int) := by
    rw [Int.natCast_emod, Int.toNat_of_nonneg (Int.emod_nonneg _ (by decide))]
    exact Int.emod_emod_of_dvd _ (Int.natCast_dvd_natCast.2 hdvd)
  rw [h1, IntKind.wrap_i64]
  have h2 := Int.emod_nonneg z (show ((2 ^ k : Nat) : Int) ≠ 0 by omega)
  have h3 := Int.emod_lt_of_pos z (show (0 : Int) < ((2 ^ k : Nat) : Int) by omega)
  omega
theorem and63 (x : Int) : bits .and .i64 x 63 = (p63 x : Int) := by
  rw [i64_mask x 6 (by omega) 63 rfl]
  unfold p63
  omega

end Go.Proofs.Ythalghjnnfohaaa
