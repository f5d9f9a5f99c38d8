/-
  Which nodes were told to the reference (told's list), in memory; the contract of told for a node that was told; conditions stand at each.
-/
import Derived.Test.YtelenboncejdaaaGreatDoorShFind
namespace Go.Proofs.YtelenboncejdaaaGreatDoor
open Go.RowKit Go.Sort
set_option linter.unusedVariables false
set_option linter.unusedSimpArgs false

/-- A node, and the reference's. -/
def pcPg (x : Nat × Nat) : List Value := [.pointer (some ⟨x.1, 0, none⟩), .pointer (some ⟨x.2, 0, none⟩)]
theorem encPg : Enc pcPg 2 := ⟨fun _ => rfl, fun x u hu => by
  simp only [pcPg, List.mem_cons, List.not_mem_nil, or_false] at hu
  rcases hu with rfl | rfl <;> rfl⟩
/-- The list of what was told, behind its box. -/
structure Memo (W : World) (base sb : Nat) (v : Value) (l : List (Nat × Nat)) : Prop where
  box : W.heap[sb]? = some (.cells #[v] 60 (0, 0))
  row : OwnL pcPg 74 2 W base v l
  nodes : ∀ x ∈ l, (∃ N, NodeAt W x.1 N) ∧ ∃ u v, RefAt W x.2 u v
theorem Memo.below {W W' : World} {base sb : Nat} {v : Value} {l : List (Nat × Nat)} (h : Memo W base sb v l) (hb : Below W.heap.size W W') : Memo W' base sb v l :=
  ⟨(hb.block _ (lt_of_block h.box)).trans h.box, h.row.below hb, fun x hx => by
    obtain ⟨⟨N, h1⟩, u, v, h2⟩ := h.nodes x hx
    exact ⟨⟨N, h1.below hb⟩, u, v, h2.below hb⟩⟩

set_option maxHeartbeats 2000000 in
set_option maxRecDepth 100000 in
theorem told_old {w : World} {base sb b r i : Nat} {v : Value} {l : List (Nat × Nat)} {N : NR} (hm : Memo w base sb v l) (hl : l.length ≤ 100000) (hN : NodeAt w b N) (hi : l[i]? = some (b, r)) (hf : ∀ (j : Nat) (y : Nat × Nat), j < i → l[j]? = some y → y.1 ≠ b) :
    Calls Tryz.prog 32 #[pn b, .pointer (some ⟨sb, 0, none⟩)] w fun e w' => e = .returned (.pointer (some ⟨r, 0, none⟩)) ∧ w' = w := by
  obtain ⟨A, c, rfl, hc, hr⟩ := hm.row.form
  obtain ⟨n, hn⟩ : ∃ n, l.length = n := ⟨_, rfl⟩
  have c0 := cell_at hm.box 0 _ rfl
  rw [hn] at c0 hc hl
  have HM := Lib.hid hm
  have HR := Lib.hid hr
  have HN := Lib.hid hn
  have HNd := Lib.hid hN
  have HI := Lib.hid hi
  have HF := Lib.hid hf
  have hin : i < n := by rw [← hn]; exact (List.getElem?_eq_some_iff.1 hi).1
  clear hm hr hn hN hi hf
  unfold pn
  go_enter Tryz.func32, Tryz.ntmps32
  go_wp2
  go_loopw [15] (fun s15 wr => ∃ k : Nat, k ≤ i ∧ s15 = .int .i64 k ∧ wr = w) (fun s15 _ => n - (intOf s15).toNat)
  case atStart => exact ⟨0, Nat.zero_le _, rfl, rfl⟩
  case round =>
    obtain ⟨k, hk, rfl, rfl⟩ := hrel
    have hlt : k < n := by omega
    obtain ⟨ad, x, rfl, hx, hl1, hcx⟩ := HR.out.at_ encPg (i := k) (by rw [HN.out]; exact hlt)
    obtain ⟨⟨M, hM⟩, _⟩ := HM.out.nodes x (List.mem_of_getElem? hx)
    have q0 := hcx 0 (.pointer (some ⟨x.1, 0, none⟩)) (by omega) rfl
    have q1 : wr.cell? ⟨(ad.add (k * 2)).block, (ad.add (k * 2)).off + 1, none⟩ = some (.pointer (some ⟨x.2, 0, none⟩)) := hcx 1 _ (by omega) rfl
    rw [add_of_add] at q0
    simp only [Nat.add_zero] at q0
    have he := eql_pn hM HNd.out
    by_cases hki : k = i
    · subst hki
      rw [HI.out] at hx
      cases hx
      rw [decide_eq_true rfl] at he
      clear hcx hM
      go_wp2
      go_ret
      exact ⟨rfl, rfl⟩
    · rw [decide_eq_false (HF.out k x (by omega) hx)] at he
      clear hcx hM hx
      go_wp2
      exact ⟨⟨k + 1, by omega, by go_num, trivial⟩, by simp [intOf]; omega⟩

end Go.Proofs.YtelenboncejdaaaGreatDoor
