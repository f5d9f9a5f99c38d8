/-
  Nodes of the reference in memory, compared by their addresses; the contract of the reference's find; conditions stand at each.
-/
import Derived.Test.YtelenboncejdaaaGreatDoorShRefC
namespace Go.Proofs.YtelenboncejdaaaGreatDoor
open Go.RowKit Go.Sort
set_option linter.unusedVariables false
set_option linter.unusedSimpArgs false

/-- A node of the reference lies in a block: its entries, its kids. -/
def RefAt (w : World) (r : Nat) (u v : Value) : Prop := w.heap[r]? = some (.cells #[u, v] 137 (0, 0))
theorem RefAt.below {w w' : World} {r : Nat} {u v : Value} (h : RefAt w r u v) (hb : Below w.heap.size w w') : RefAt w' r u v := (hb.block _ (lt_of_block h)).trans h
theorem refInfo : (Tryz.prog.info? 137).map (·.size) = some 2 := by kernel_rfl
theorem equal_rn {a b : Nat} {w : World} {u v u' v' : Value} (ha : RefAt w a u v) (hb : RefAt w b u' v') : (Op.equal 67 (.pointer (some ⟨a, 0, none⟩)) (.pointer (some ⟨b, 0, none⟩))).run Tryz.prog w = .ok (decide (a = b)) w := by
  obtain ⟨j, hj, hj6⟩ := Option.map_eq_some_iff.1 refInfo
  by_cases hne : a = b
  · subst hne
    have hs := run_sameAddr_same (P := Tryz.prog) (w := w) ⟨a, 0, none⟩
    have h : ∀ d : Nat, (Op.equalIn (d + 1) 67 (.pointer (some ⟨a, 0, none⟩)) (.pointer (some ⟨a, 0, none⟩))).run Tryz.prog w = .ok true w := fun d => by
      simp [Op.equalIn, run_underlying Tryz.underlying67, sizeOf, typeInfo, hj, hj6, hs]
    simp [Op.equal, Op.maxDepth, h 9999]
  · have hab : (⟨a, 0, none⟩ : Addr) ≠ ⟨b, 0, none⟩ := fun e => hne (by cases e; rfl)
    have hs := run_sameAddr_other (P := Tryz.prog) (w := w) hab ha hb
    have h : ∀ d : Nat, (Op.equalIn (d + 1) 67 (.pointer (some ⟨a, 0, none⟩)) (.pointer (some ⟨b, 0, none⟩))).run Tryz.prog w = .ok false w := fun d => by
      simp [Op.equalIn, run_underlying Tryz.underlying67, sizeOf, typeInfo, hj, hj6, hs]
    simp [Op.equal, Op.maxDepth, h 9999, hne]
theorem eql_rn {a b : Nat} {w : World} {u v u' v' : Value} (ha : RefAt w a u v) (hb : RefAt w b u' v') : (binOp .eql 67 (.pointer (some ⟨a, 0, none⟩)) (.pointer (some ⟨b, 0, none⟩))).run Tryz.prog w = .ok (.bool (decide (a = b))) w := by
  simp only [binOp]
  simp [equal_rn ha hb]
theorem eql_pn {a b : Nat} {w : World} {M N : NR} (ha : NodeAt w a M) (hb : NodeAt w b N) : (binOp .eql 25 (.pointer (some ⟨a, 0, none⟩)) (.pointer (some ⟨b, 0, none⟩))).run Tryz.prog w = .ok (.bool (decide (a = b))) w := by
  have h := equal_pn ha hb
  unfold pn at h
  simp only [binOp]
  simp [h]

/-- The pages of a node that is known, or none. -/
def findK (l : List KN) (r : Nat) : List Int := ((l.find? fun x => x.p == some r).map (·.l)).getD []
theorem findK_cons (x : KN) (l : List KN) (r : Nat) : findK (x :: l) r = if x.p = some r then x.l else findK l r := by
  unfold findK
  rw [List.find?_cons]
  by_cases h : x.p = some r
  · simp [h]
  · rw [show (x.p == some r) = false by simpa using h, if_neg h]
theorem findK_skip {r : Nat} : ∀ {l : List KN} {k : Nat} {x : KN}, (∀ j y, j < k → l[j]? = some y → y.p ≠ some r) → l[k]? = some x → x.p = some r → findK l r = x.l
  | [], k, x, _, h, _ => by simp at h
  | y :: l, 0, x, _, h, hp => by
    simp only [List.getElem?_cons_zero, Option.some.injEq] at h
    rw [findK_cons, h, if_pos hp]
  | y :: l, k + 1, x, hk, h, hp => by
    rw [findK_cons, if_neg (hk 0 y (Nat.succ_pos k) rfl)]
    exact findK_skip (fun j z hj hz => hk (j + 1) z (Nat.succ_lt_succ hj) (by simpa using hz)) (by simpa using h) hp
theorem findK_none {r : Nat} : ∀ {l : List KN}, (∀ y ∈ l, y.p ≠ some r) → findK l r = []
  | [], _ => rfl
  | y :: l, h => by
    rw [findK_cons, if_neg (h y (List.mem_cons_self ..))]
    exact findK_none fun z hz => h z (List.mem_cons_of_mem _ hz)

set_option maxHeartbeats 2000000 in
set_option maxRecDepth 100000 in
theorem find_known {w : World} {A : Option Addr} {n c r : Nat} {K : List KN} {u v : Value} (ha : ArgK w A n K) (hn : n ≤ 100000) (hr : RefAt w r u v) (hk : ∀ x ∈ K, ∃ b u v, x.p = some b ∧ RefAt w b u v) :
    Calls Tryz.prog 59 #[.slice A n c, .pointer (some ⟨r, 0, none⟩)] w fun e w' => ∃ B m d, e = .returned (.slice B m d) ∧ m = (findK K r).length ∧ Ls icell w' B (findK K r) ∧ w' = w := by
  have HA := Lib.hid ha
  have HR := Lib.hid hr
  have HK := Lib.hid hk
  clear ha hr hk
  go_enter Tryz.func59, Tryz.ntmps59
  go_wp2
  go_loopw [8] (fun s8 wr => ∃ k : Nat, k ≤ n ∧ s8 = .int .i64 k ∧ Hid (∀ j y, j < k → K[j]? = some y → y.p ≠ some r) ∧ wr = w) (fun s8 _ => n - (intOf s8).toNat)
  case atStart => exact ⟨0, Nat.zero_le _, rfl, Lib.hid (fun j y h => by omega), rfl⟩
  case round =>
    obtain ⟨k, hk, rfl, HL, rfl⟩ := hrel
    by_cases hlt : k < n
    · obtain ⟨ad, x, rfl, hx, hl1, hcx⟩ := HA.out.ls.at_ encKn (i := k) (by rw [HA.out.len]; exact hlt)
      obtain ⟨b, u1, v1, hxp, hb⟩ := HK.out x (List.mem_of_getElem? hx)
      have q0 := hcx 0 (.pointer (x.p.map fun b => ⟨b, 0, none⟩)) (by omega) rfl
      have q1 : wr.cell? ⟨(ad.add (k * 2)).block, (ad.add (k * 2)).off + 1, none⟩ = some (.slice x.A x.l.length x.c) := hcx 1 (.slice x.A x.l.length x.c) (by omega) rfl
      rw [add_of_add] at q0
      rw [hxp] at q0
      simp only [Nat.add_zero, Option.map_some] at q0
      have he := eql_rn hb HR.out
      have HX := Lib.hid hx
      have HXP := Lib.hid hxp
      have HRW := Lib.hid (HA.out.rows x (List.mem_of_getElem? hx))
      obtain ⟨m, hm⟩ : ∃ m, m = x.l.length := ⟨_, rfl⟩
      rw [← hm] at q1
      have HM := Lib.hid hm
      clear hx hcx hxp hb hm
      by_cases hbr : b = r
      · rw [decide_eq_true hbr] at he
        have HF : Hid (findK K r = x.l) := Lib.hid (findK_skip HL.out HX.out (by rw [HXP.out, hbr]))
        clear hbr
        go_wp2
        go_ret
        exact ⟨_, _, _, rfl, by rw [HF.out]; exact HM.out, by rw [HF.out]; exact HRW.out, rfl⟩
      · rw [decide_eq_false hbr] at he
        have HL2 : Hid (∀ j y, j < k + 1 → K[j]? = some y → y.p ≠ some r) := Lib.hid (fun j y hj hy => by
          rcases Nat.lt_or_ge j k with h | h
          · exact HL.out j y h hy
          · have : j = k := by omega
            subst this
            rw [HX.out] at hy
            cases hy
            rw [HXP.out]
            intro e
            exact hbr (by simpa using e))
        clear hbr
        go_wp2
        exact ⟨⟨k + 1, by omega, by go_num, HL2, trivial⟩, by simp [intOf]; omega⟩
    · have HF : Hid (findK K r = []) := Lib.hid (findK_none fun y hy => by
        obtain ⟨j, hj⟩ := List.getElem?_of_mem hy
        have := (List.getElem?_eq_some_iff.1 hj).1
        exact HL.out j y (by rw [HA.out.len] at this; omega) hj)
      go_wp2
      go_ret
      exact ⟨none, 0, 0, rfl, by rw [HF.out]; rfl, by rw [HF.out]; exact Ls.nil _ _, rfl⟩

end Go.Proofs.YtelenboncejdaaaGreatDoor
