/-
  The law FixBack answers true for every two numbers, every text and every cut: what was put is taken as it was, and cut off anywhere it is ErrShort; no conditions.
-/
import Derived.Test.YtpobnifjgajgkaaFixConv
import Derived.Test.YtpobnifjgajgkaaFixText
import Derived.ProofKit
import Derived.OpenShut
import Derived.Carry
import Derived.ShutString
import Derived.SizedLaws
namespace Go.Proofs.Ytpobnifjgajgkaa
open Go.RowKit Go.Sort
set_option linter.unusedVariables false

/-! What is taken from bytes that are known. -/
theorem next_mid (A B C : List UInt8) (p s : Int) (hp : p = A.length) (hs : s = B.length) :
    nextB (A ++ (B ++ C)) p 0 s = B ∧ nextP (A ++ (B ++ C)) p 0 s = p + s ∧ nextE (A ++ (B ++ C)) p 0 s = 0 := by
  subst hp hs
  have h : ((B.length : Nat) : Int) ≤ ((A ++ (B ++ C)).length : Int) - A.length := by simp; omega
  refine ⟨?_, ?_, ?_⟩
  · simp only [nextB, true_and, if_pos h]
    simp
  · simp only [nextP, true_and, if_pos h]
  · simp only [nextE, if_pos h, if_true]
theorem next_short' (l : List UInt8) (p s : Int) (h : (l.length : Int) - p < s) : nextB l p 0 s = [] ∧ nextP l p 0 s = p ∧ nextE l p 0 s = 2 := by
  have h' : ¬ (s ≤ (l.length : Int) - p) := by omega
  simp [nextB, nextP, nextE, h']
theorem next_stop (l : List UInt8) (p e s : Int) (h : e ≠ 0) : nextB l p e s = [] ∧ nextP l p e s = p ∧ nextE l p e s = e := by
  simp [nextB, nextP, nextE, h]
theorem b8_toNat (x : Int) : ((b8 x).toNat : Int) = x % 256 := by
  have := u8_b8 x
  unfold u8 at this
  injection this
theorem num_be16 (x : Int) (h0 : 0 ≤ x) (h1 : x ≤ 65535) : (num (be16 x) : Int) = x := by
  have e : num (be16 x) = (b8 (x / 256)).toNat * 256 + (b8 x).toNat := by simp [num, be16]
  rw [e, Int.natCast_add, Int.natCast_mul, b8_toNat, b8_toNat]
  omega
theorem num_be32 (x : Int) (h0 : 0 ≤ x) (h1 : x ≤ 4294967295) : (num (be32 x) : Int) = x := by
  have e : num (be32 x) = (((b8 (x / 16777216)).toNat * 256 + (b8 (x / 65536)).toNat) * 256 + (b8 (x / 256)).toNat) * 256 + (b8 x).toNat := by simp [num, be32]
  rw [e]
  have h1 := b8_toNat (x / 16777216)
  have h2 := b8_toNat (x / 65536)
  have h3 := b8_toNat (x / 256)
  have h4 := b8_toNat x
  omega
theorem txt_mid (A C : List UInt8) (S : List UInt8) (p most : Int) (hp : p = A.length) (hS : S.length ≤ 65535) (hm : most = S.length) :
    txtS (A ++ (be16 S.length ++ (S ++ C))) p 0 most = S ∧ txtP (A ++ (be16 S.length ++ (S ++ C))) p 0 most = p + 2 + S.length ∧ txtE (A ++ (be16 S.length ++ (S ++ C))) p 0 most = 0 := by
  obtain ⟨h1, h2, h3⟩ := next_mid A (be16 S.length) (S ++ C) p 2 hp (by simp [be16])
  have hN := num_be16 S.length (by omega) (by omega)
  obtain ⟨h4, h5, h6⟩ := next_mid (A ++ be16 S.length) S C (p + 2) (num (be16 S.length)) (by subst hp; simp [be16]) hN
  rw [List.append_assoc] at h4 h5 h6
  have hm' : ¬ (most < (num (be16 S.length) : Int)) := by omega
  simp only [txtS, txtP, txtE, h1, h2, h3, ne_eq, not_true, if_false, hm', h4, h5, h6]
  refine ⟨trivial, by rw [hN], trivial⟩

/-- Cut off anywhere, all three takings end in ErrShort. -/
theorem cut_short (x y : Int) (S : List UInt8) (hS : S.length ≤ 65535) (k : Nat) (hk : k < 8 + S.length) (L : List UInt8) (hL : L = (be16 x ++ (be32 y ++ (be16 S.length ++ S))).take k) :
    txtE L (nextP L (nextP L 0 0 2) (nextE L 0 0 2) 4) (nextE L (nextP L 0 0 2) (nextE L 0 0 2) 4) S.length = 2 := by
  have hlen : (be16 x ++ (be32 y ++ (be16 S.length ++ S))).length = 8 + S.length := by simp [be16, be32]; omega
  have hLl : L.length = k := by rw [hL, List.length_take, hlen]; omega
  by_cases h2 : k < 2
  · obtain ⟨_, a2, a3⟩ := next_short' L 0 2 (by omega)
    rw [a2, a3]
    obtain ⟨_, b2, b3⟩ := next_stop L 0 2 4 (by omega)
    rw [b2, b3]
    simp [txtE, (next_stop L 0 2 2 (by omega)).2.2]
  · by_cases h6 : k < 6
    · have e : L = [] ++ (be16 x ++ ((be32 y ++ (be16 S.length ++ S)).take (k - 2))) := by
        rw [hL, List.take_append, List.take_of_length_le (by simp [be16]; omega)]
        simp [be16]
      obtain ⟨_, a2, a3⟩ := next_mid [] (be16 x) ((be32 y ++ (be16 S.length ++ S)).take (k - 2)) 0 2 (by simp) (by simp [be16])
      rw [← e] at a2 a3
      rw [a2, a3]
      obtain ⟨_, b2, b3⟩ := next_short' L (0 + 2) 4 (by omega)
      rw [b2, b3]
      simp [txtE, (next_stop L 2 2 2 (by omega)).2.2]
    · have e : L = [] ++ (be16 x ++ (be32 y ++ ((be16 S.length ++ S).take (k - 6)))) := by
        rw [hL, List.take_append, List.take_of_length_le (by simp [be16]; omega), List.take_append, List.take_of_length_le (by simp [be16, be32]; omega)]
        simp [be16, be32]
        omega
      obtain ⟨_, a2, a3⟩ := next_mid [] (be16 x) (be32 y ++ ((be16 S.length ++ S).take (k - 6))) 0 2 (by simp) (by simp [be16])
      obtain ⟨_, b2, b3⟩ := next_mid (be16 x) (be32 y) ((be16 S.length ++ S).take (k - 6)) (0 + 2) 4 (by simp [be16]) (by simp [be32])
      rw [← e] at a2 a3
      rw [a2, a3]
      rw [List.nil_append] at e
      rw [← e] at b2 b3
      rw [b2, b3]
      by_cases h8 : k < 8
      · have c3 : nextE L 6 0 2 = 2 := (next_short' L 6 2 (by omega)).2.2
        simp [txtE, c3]
      · have e2 : L = (be16 x ++ be32 y) ++ (be16 S.length ++ (S.take (k - 8))) := by
          rw [e, List.take_append, List.take_of_length_le (by simp [be16]; omega)]
          simp [be16]
          congr 1
        obtain ⟨c1, c2, c3⟩ := next_mid (be16 x ++ be32 y) (be16 S.length) (S.take (k - 8)) (0 + 2 + 4) 2 (by simp [be16, be32]) (by simp [be16])
        rw [← e2] at c1 c2 c3
        have hN := num_be16 S.length (by omega) (by omega)
        have d3 := (next_short' L (0 + 2 + 4 + 2) S.length (by omega)).2.2
        simp only [txtE, c1, c2, c3, ne_eq, not_true, if_false, hN, Int.lt_irrefl, d3]

theorem u32_mask (z : Int) (h0 : 0 ≤ z) (h1 : z < 4294967296) : bits .and .u32 z 65535 = z % 65536 := by
  rw [u32_and z 65535 h0 h1 (by omega) (by omega)]
  have : z.toNat &&& (65535 : Int).toNat = z.toNat % 65536 := Nat.and_two_pow_sub_one_eq_mod z.toNat 16
  rw [this]
  omega

theorem Rd.of_own {w : World} {base g n c : Nat} {l : List UInt8} (h : w.ownsRow base 5 1 (.slice (some ⟨g, 0, none⟩) n c) n (bcells l)) : Rd w (some ⟨g, 0, none⟩) l := fun _ => ⟨_, rfl, own_lt h, h.cells (g := g) rfl⟩
theorem Rd.cut {w : World} {A : Option Addr} {l : List UInt8} (h : Rd w A l) (k : Nat) : Rd w A (l.take k) := fun h0 => by
  have h1 : 0 < l.length := by rw [List.length_take] at h0; omega
  obtain ⟨ad, e, hlt, hc⟩ := h h1
  refine ⟨ad, e, hlt, fun j u hu => hc j u ?_⟩
  simp only [bcells, List.map_take] at hu
  have hj : j < k := by
    rcases Nat.lt_or_ge j k with hj | hj
    · exact hj
    · rw [List.getElem?_eq_none (by rw [List.length_take]; omega)] at hu
      cases hu
  rw [List.getElem?_take_of_lt hj] at hu
  exact hu

set_option maxHeartbeats 1000000 in
theorem fixBack_long (a0 a1 : Int) (s : ByteArray) (a3 : Int) (hs : 65535 < s.size) (hs2 : s.size ≤ 140737488351232) (w : World) :
    Calls Try.prog 5 #[.int .u32 a0, .int .u32 a1, .string s, .int .u64 a3] w fun e w' => e = .returned (.bool true) ∧ Below w.heap.size w w' := by
  go_enter Try.func5, Try.ntmps5
  go_wp2_with fail
  refine (awake_any _).mono ?_
  rintro x w1 ⟨rfl, hb1⟩
  go_wp2_with fail
  refine (awake_any _).mono ?_
  rintro x w2 ⟨rfl, hb2⟩
  go_wp2
  go_ret
  exact ⟨rfl, bthen hb1 hb2⟩

set_option maxHeartbeats 2000000 in
theorem fixBack_walk (a0 a1 : Int) (s : ByteArray) (a3 : Int) (h0 : 0 ≤ a0) (h0' : a0 < 4294967296) (h1 : 0 ≤ a1) (h1' : a1 < 4294967296) (h3 : 0 ≤ a3) (h3' : a3 < 18446744073709551616) (hs : s.size ≤ 65535) (w : World) :
    Calls Try.prog 5 #[.int .u32 a0, .int .u32 a1, .string s, .int .u64 a3] w fun e w' => e = .returned (.bool true) ∧ Below w.heap.size w w' := by
  obtain ⟨X, hX⟩ : ∃ X, X = a0 % 65536 := ⟨_, rfl⟩
  have hand := u32_mask a0 h0 h0'
  rw [← hX] at hand
  have hX0 : 0 ≤ X := by omega
  have hX1 : X ≤ 65535 := by omega
  clear hX
  go_enter Try.func5, Try.ntmps5
  go_wp2_with fail
  refine (awake_any _).mono ?_
  rintro x w1 ⟨rfl, hb1⟩
  go_wp2_with fail
  refine (put16_any none 0 0 [] X _ (Rd.nil _ _) rfl (by omega) (by omega) (by omega)).mono ?_
  rintro x w2 ⟨rfl, hown2, hb2⟩
  go_wp2_with fail
  refine (put32_any _ 2 2 (be16 X) a1 _ (Rd.of_own hown2) rfl (by omega) (by omega) (by omega)).mono ?_
  rintro x w3 ⟨rfl, hown3, hb3⟩
  go_wp2_with fail
  refine (putText_short _ 6 6 (be16 X ++ be32 a1) s _ (Rd.of_own hown3) rfl (by omega) hs).mono ?_
  rintro x w4 ⟨rfl, hown4, hb4⟩
  obtain ⟨N, hN⟩ : ∃ N, N = 6 + 2 + s.size := ⟨_, rfl⟩
  obtain ⟨cp, hcp⟩ : ∃ cp, cp = 6 + (2 + s.size) := ⟨_, rfl⟩
  obtain ⟨S, hS⟩ : ∃ S, S = s.data.toList := ⟨_, rfl⟩
  have hSl : S.length = s.size := by rw [hS]; rfl
  obtain ⟨O, hO⟩ : ∃ O, O = be16 X ++ (be32 a1 ++ (be16 S.length ++ S)) := ⟨_, rfl⟩
  have hOl : O.length = N := by rw [hO, hN]; simp [be16, be32, hSl]; omega
  rw [← hN, ← hcp] at hown4 ⊢
  have hrd4 : Rd w4 (some ⟨w3.heap.size, 0, none⟩) O := by
    have := Rd.of_own hown4
    rw [← hS, ← hSl] at this
    rw [hO]
    simpa using this
  have m1 : nextB O 0 0 2 = be16 X ∧ nextP O 0 0 2 = 2 ∧ nextE O 0 0 2 = 0 := by
    rw [hO]; exact next_mid [] (be16 X) _ 0 2 rfl rfl
  have m2 : nextB O 2 0 4 = be32 a1 ∧ nextP O 2 0 4 = 6 ∧ nextE O 2 0 4 = 0 := by
    rw [hO]; exact next_mid (be16 X) (be32 a1) _ 2 4 rfl rfl
  have m3 : txtS O 6 0 s.size = S ∧ txtP O 6 0 s.size = N ∧ txtE O 6 0 s.size = 0 := by
    have h := txt_mid (be16 X ++ be32 a1) [] S 6 S.length rfl (by omega) rfl
    rw [List.append_nil, List.append_assoc, ← hO, hSl] at h
    refine ⟨h.1, ?_, h.2.2⟩
    rw [h.2.1]
    omega
  have v1 := num_be16 X hX0 hX1
  have v2 := num_be32 a1 h1 (by omega)
  have hs1 : s = ⟨S.toArray⟩ := by rw [hS]
  have M1 := Lib.hid m1
  have M2 := Lib.hid m2
  have M3 := Lib.hid m3
  have V1 := Lib.hid v1
  have V2 := Lib.hid v2
  have HS1 := Lib.hid hs1
  have HSl := Lib.hid hSl
  have HO := Lib.hid hO
  have HOl := Lib.hid hOl
  have hNlo : 8 + s.size ≤ N := by omega
  have hNhi : N ≤ 8 + s.size := by omega
  have hcl : N ≤ cp := by omega
  have hcu : cp ≤ N := by omega
  have hb04 : Below w.heap.size w w4 := bthen (bthen (bthen hb1 hb2) hb3) hb4
  clear m1 m2 m3 v1 v2 hs1 hSl hO hOl hN hcp hS hown2 hown3 hown4 hb1 hb2 hb3 hb4
  go_wp2_with fail
  refine (read_any _ N cp O _ hrd4 HOl.out (by omega)).mono ?_
  rintro x w5 ⟨g, rfl, r5, hg5, hb5⟩
  have R5 := Lib.hid r5
  clear r5
  go_wp2_with fail
  refine (take16_any w5 g _ O 0 0 R5.out (by rw [HOl.out]; omega)).mono ?_
  rintro x w6 ⟨rfl, r6, hg6⟩
  rw [M1.out.2.1, M1.out.2.2] at r6
  rw [M1.out.1, V1.out]
  have R6 := Lib.hid r6
  clear r6
  go_wp2_with fail
  refine (take32_any w6 g _ O 2 0 R6.out (by rw [HOl.out]; omega)).mono ?_
  rintro x w7 ⟨rfl, r7, hg7⟩
  rw [M2.out.2.1, M2.out.2.2] at r7
  rw [M2.out.1, V2.out]
  have R7 := Lib.hid r7
  clear r7
  go_wp2_with fail
  refine (text_any w7 g _ O 6 0 s.size R7.out (by rw [HOl.out]; omega)).mono ?_
  rintro x w8 ⟨rfl, r8, hg8⟩
  rw [M3.out.2.1, M3.out.2.2] at r8
  rw [M3.out.1, ← HS1.out]
  have R8 := Lib.hid r8
  clear r8
  go_wp2_with fail
  refine (err_some w8 g _ O N 0 R8.out).mono ?_
  rintro x w9 ⟨rfl, rfl⟩
  go_wp2_with fail
  refine (at_some w8 g _ O N 0 R8.out).mono ?_
  rintro x w9 ⟨rfl, rfl⟩
  have hne : ((N : Int) != 8 + (s.size : Int)) = false := by
    rw [bne_eq_false_iff_eq]; omega
  have hm0 : 0 ≤ a3 % (N : Int) := Int.emod_nonneg _ (by omega)
  have hm1 : a3 % (N : Int) < (N : Int) := Int.emod_lt_of_pos _ (by omega)
  have hm2 : a3 % (N : Int) ≤ (cp : Int) := by omega
  have hb48 : Below w4.heap.size w4 w8 := by
    have k6 := below_only hb5 hg6 hb5.size hg5
    have k7 := below_only k6 hg7 k6.size hg5
    exact below_only k7 hg8 k7.size hg5
  have hrd8 := hrd4.below hb48
  have hb08 : Below w.heap.size w w8 := bthen hb04 hb48
  clear hb04 hb48 hg6 hg7 hg8 hb5 hrd4
  go_wp2_with fail
  obtain ⟨k, hk⟩ : ∃ k, k = (a3 % (N : Int)).toNat := ⟨_, rfl⟩
  have hkN : k < N := by omega
  obtain ⟨L, hL⟩ : ∃ L, L = O.take k := ⟨_, rfl⟩
  have hLl : L.length = k := by rw [hL, List.length_take, HOl.out]; omega
  have hcs := cut_short X a1 S (by rw [HSl.out]; omega) k (by rw [HSl.out]; omega) L (by rw [hL, HO.out])
  rw [HSl.out] at hcs
  rw [← hk]
  have hrdL : Rd w8 (some ⟨w3.heap.size, 0, none⟩) L := by rw [hL]; exact hrd8.cut k
  have HLl := Lib.hid hLl
  have HCS := Lib.hid hcs
  have hkb : L.length ≤ 281474976710656 := by omega
  clear hk hL hLl hcs
  refine (read_any _ k cp L _ hrdL HLl.out (by omega)).mono ?_
  rintro x w9 ⟨g2, rfl, r9, hg9, hb9⟩
  have R9 := Lib.hid r9
  clear r9
  go_wp2_with fail
  refine (take16_any w9 g2 _ L 0 0 R9.out hkb).mono ?_
  rintro x w10 ⟨rfl, r10, hg10⟩
  have R10 := Lib.hid r10
  clear r10
  go_wp2_with fail
  refine (take32_any w10 g2 _ L _ _ R10.out hkb).mono ?_
  rintro x w11 ⟨rfl, r11, hg11⟩
  have R11 := Lib.hid r11
  clear r11
  go_wp2_with fail
  refine (text_any w11 g2 _ L _ _ s.size R11.out hkb).mono ?_
  rintro x w12 ⟨rfl, r12, hg12⟩
  rw [HCS.out] at r12
  have R12 := Lib.hid r12
  clear r12
  go_wp2_with fail
  refine (err_some w12 g2 _ L _ 2 R12.out).mono ?_
  rintro x w13 ⟨rfl, rfl⟩
  go_wp2
  go_ret
  have k10 := below_only hb9 hg10 hb9.size hg9
  have k11 := below_only k10 hg11 k10.size hg9
  exact ⟨rfl, bthen hb08 (below_only k11 hg12 k11.size hg9)⟩

theorem u32_bounds {n : Int} (h : (Lit.int .u32 n).wf = true) : 0 ≤ n ∧ n < 4294967296 := by
  have : 0 ≤ n ∧ n ≤ 4294967295 := by simpa [Lit.wf, IntKind.min, IntKind.max, IntKind.signed, IntKind.bits] using h
  omega
theorem u64_bounds {n : Int} (h : (Lit.int .u64 n).wf = true) : 0 ≤ n ∧ n < 18446744073709551616 := by
  have : 0 ≤ n ∧ n ≤ 18446744073709551615 := by simpa [Lit.wf, IntKind.min, IntKind.max, IntKind.signed, IntKind.bits] using h
  omega
theorem fixBack_row (a0 a1 : Int) (s : ByteArray) (a3 : Int) (w0 : (Lit.int .u32 a0).wf = true) (w1 : (Lit.int .u32 a1).wf = true) (hs : s.size ≤ 140737488351232) (w3 : (Lit.int .u64 a3).wf = true) (w : World) :
    Calls Try.prog 5 #[.int .u32 a0, .int .u32 a1, .string s, .int .u64 a3] w fun e w' => e = .returned (.bool true) ∧ Below w.heap.size w w' := by
  by_cases h : s.size ≤ 65535
  · exact fixBack_walk a0 a1 s a3 (u32_bounds w0).1 (u32_bounds w0).2 (u32_bounds w1).1 (u32_bounds w1).2 (u64_bounds w3).1 (u64_bounds w3).2 h w
  · exact fixBack_long a0 a1 s a3 (by omega) hs w

end Go.Proofs.Ytpobnifjgajgkaa

namespace Go.Proofs.Ytpobnifjgajgkaa.fixBack
open Go.ChangeShapes Go.WideShapes Go.ChangeAt Go.RowKit
open Go.ChangeMaps (open_string shut_string)
set_option linter.unusedVariables false

theorem own : ownKnob Try.prog.godebug = none := by kernel_rfl

set_option maxRecDepth 100000 in
theorem lifted (os : Os) (started : os.Started) (H : Type) (enc : TypeId × Value → H) :
    ReturnsInHanded {} Try.checked os 5 .any (Rows.fixBackSpec.pre6 enc Try.prog Try.f5 Rows.fixBackRow.domain false) (Rows.fixBackSpec.post enc Try.prog Try.f5 false true false false) := by
  refine returnsInHanded_of_change_sized (C := Try.checked) own started (by kernel_rfl) Try.func5
    (ChangeSpec.witness6 (enc := enc) (C := Try.checked) false ⟨#[], #[.int .u32 0, .int .u32 0, .string ByteArray.empty, .int .u64 0], []⟩ 8 (by kernel_rfl) (by kernel_rfl) (by kernel_rfl) (by kernel_rfl)) ?_
  intro W base args ds gs before hval0 hW hcnd hsz0 _
  have hval : ∀ (j : Nat) t v, Try.f5.params[j]? = some t → args[j]? = some v → Value.okWide Try.prog W .any base t v := hval0
  have hsz : (DataW.weightsEach Try.prog (Try.f5.params.toList ++ Rows.fixBackSpec.plain.varTypes Try.prog) (ds ++ gs)).all (· ≤ reachBytes) = true := hsz0
  have hW' := hW
  obtain ⟨p, q, hA0, hV, rfl, hfz, hnd⟩ := hW
  have hA : DataW.TrodAll enc Try.prog W 0 (fun _ => true) true Try.f5.params.toList args.toList ds p := hA0
  rw [Try.params5] at hA hval hsz
  obtain ⟨v0, vs0, d0, ds0, p0, q0, hargs, rfl, rfl, h0, r0⟩ := trodAll_cons hA
  obtain ⟨v1, vs1, d1, ds1, p1, q1, rfl, rfl, rfl, h1, r1⟩ := trodAll_cons r0
  obtain ⟨v2, vs2, d2, ds2, p2, q2, rfl, rfl, rfl, h2, r2⟩ := trodAll_cons r1
  obtain ⟨v3, vs3, d3, ds3, p3, q3, rfl, rfl, rfl, h3, r3⟩ := trodAll_cons r2
  obtain ⟨rfl, rfl, rfl⟩ := trodAll_nil r3
  obtain rfl : args = #[v0, v1, v2, v3] := by cases args; simp_all
  obtain ⟨rfl, rfl⟩ := trodVars_none hV
  obtain ⟨a0, rfl, rfl, rfl, w0⟩ := open_int Try.underlying43 (hval 0 43 v0 rfl rfl) h0
  obtain ⟨a1, rfl, rfl, rfl, w1⟩ := open_int Try.underlying43 (hval 1 43 v1 rfl rfl) h1
  obtain ⟨a2, rfl, rfl, rfl, w2⟩ := open_string Try.underlying9 (hval 2 9 v2 rfl rfl) h2
  obtain ⟨a3, rfl, rfl, rfl, w3⟩ := open_int Try.underlying44 (hval 3 44 v3 rfl rfl) h3
  have z2 : a2.data.toList.length ≤ reachBytes := sized_string hsz (j := 2) (t := 9) rfl rfl
  have y2 : a2.size ≤ 140737488351232 := z2
  clear hA0 hval0 hsz hsz0
  simp only [List.append_nil] at hW'
  refine (fixBack_row a0 a1 a2 a3 w0 w1 y2 w3 W).mono fun e W' ⟨he, bel⟩ => ?_
  subst he
  exact ⟨_, rfl, _, _, _, [], [], [], hW', trodAll_mk1 (shut_bool Try.underlying4 _), (trodAll_cons_mk (shut_int Try.underlying43 w0) (trodAll_cons_mk (shut_int Try.underlying43 w1) (trodAll_cons_mk (shut_string Try.underlying9 w2) (trodAll_cons_mk (shut_int Try.underlying44 w3) trodAll_mk0)))), rfl, bel.frame _, fun h => by cases h⟩

theorem over : Rows.fixBackRow.holds Try.pinned (OpenSpec.ofChange Rows.fixBackSpec) :=
  OpenClaim.holds_of_wide 5 Try.f5 rfl rfl rfl rfl rfl rfl rfl ⟨rfl, rfl, rfl, rfl, rfl⟩ rfl rfl rfl rfl rfl (by kernel_rfl) Try.func5 (by kernel_rfl)
    (of_decide_eq_true (by kernel_rfl)) (by unfold Func.isWrapper; first | (rw [if_pos (by decide +kernel)]; kernel_rfl) | (rw [if_neg (by decide +kernel)]; exact ⟨rfl, rfl⟩))
    (fun os started H enc _ => lifted os started H enc)

theorem proved : Rows.FixBackSaid := over
#print axioms proved

end Go.Proofs.Ytpobnifjgajgkaa.fixBack
