/-
  Several texts in one: TreeRows, TreeSet, TreeAdd, TreeNodes. Each says what it proves, and under which conditions.
-/
import Derived.Test.YtelenboncejdaaaGreatDoorK9
import Derived.Maps.RangeWalk
import Derived.Maps.OwnSet

/-
  Rows whose elements are of one cell and whose spare cells are nil: append of one element, and what stays of trees; conditions stand at each.
-/
namespace Go.Proofs.YtelenboncejdaaaGreatDoor
open Go.RowKit Go.Sort
set_option linter.unusedVariables false
set_option linter.unusedSimpArgs false

/-- A row of one-cell elements in a block of the call's own; what is spare is z. -/
def RowZ (t : TypeId) (z : Value) (w : World) (base : Nat) (v : Value) (xs : List Value) : Prop :=
  (v = .slice none 0 0 ∧ xs = []) ∨ ∃ g cap, v = .slice (some ⟨g, 0, none⟩) xs.length cap ∧ base ≤ g ∧ w.heap[g]? = some (.cells (xs ++ List.replicate (cap - xs.length) z).toArray t (0, 0)) ∧ xs.length ≤ cap ∧ cap ≤ maxLen
/-- At most spare cells of rows of type t have turned. -/
structure Soft (t : TypeId) (z : Value) (w w' : World) : Prop where
  size : w.heap.size ≤ w'.heap.size
  cell : ∀ a u, w.cell? a = some u → u ≠ z → w'.cell? a = some u
  block : ∀ (b : Nat) (cs : Array Value) (t' : TypeId), w.heap[b]? = some (.cells cs t' (0, 0)) → t' ≠ t → w'.heap[b]? = w.heap[b]?
theorem Soft.of_below {t : TypeId} {z : Value} {w w' : World} (h : Below w.heap.size w w') : Soft t z w w' :=
  ⟨h.size, fun a u hu _ => by
    have hlt : a.block < w.heap.size := World.block_lt_of_cell? w a hu
    exact (h.cell hlt).trans hu, fun b cs t' hb _ => h.block b (lt_of_block hb)⟩
section
variable {t : TypeId} {z : Value} {w w' : World}
theorem NodeAt.soft {b : Nat} {N : NR} (h : NodeAt w b N) (hs : Soft t z w w') (ht : 103 ≠ t) : NodeAt w' b N := h.keep (hs.block b _ _ h ht)
theorem Es.soft {A : Option Addr} {l : List Ent} (h : Es w A l) (hs : Soft t z w w') (hz : ∀ s, Value.string s ≠ z) : Es w' A l := fun h0 => by
  obtain ⟨ad, e, hlt, hc⟩ := h h0
  refine ⟨ad, e, Nat.lt_of_lt_of_le hlt hs.size, fun j x hx => hs.cell _ _ (hc j x hx) fun e => ?_⟩
  have : ∀ (l : List Ent) x, x ∈ ecells l → ∃ s, x = Value.string s := by
    intro l
    induction l with
    | nil => intro x hx; simp [ecells] at hx
    | cons y l ih =>
      intro x hx
      simp only [ecells, List.mem_cons] at hx
      rcases hx with rfl | rfl | hx
      · exact ⟨_, rfl⟩
      · exact ⟨_, rfl⟩
      · exact ih x hx
  obtain ⟨s, hs'⟩ := this l x (List.mem_of_getElem? hx)
  exact hz s (hs' ▸ e)
theorem Ls.soft {A : Option Addr} {ks : List ST} (h : Ls pcP w A (ptrS ks)) (hs : Soft t z w w') (hz : ∀ a, Value.pointer (some a) ≠ z) : Ls pcP w' A (ptrS ks) := fun h0 => by
  obtain ⟨ad, e, hlt, hc⟩ := h h0
  refine ⟨ad, e, Nat.lt_of_lt_of_le hlt hs.size, fun j x hx => hs.cell _ _ (hc j x hx) fun e => ?_⟩
  obtain ⟨p, hp, hm⟩ := List.mem_flatMap.1 (List.mem_of_getElem? hx)
  simp only [pcP, List.mem_singleton] at hm
  simp only [ptrS, ptrs, nbs, List.map_map, List.mem_map, Function.comp] at hp
  obtain ⟨k, _, rfl⟩ := hp
  exact hz _ (hm ▸ e)
theorem Tr.soft (hs : Soft t z w w') (ht : 103 ≠ t) (hz : ∀ s, Value.string s ≠ z) (hp : ∀ a, Value.pointer (some a) ≠ z) : ∀ {h : Nat} {s : ST}, Tr w h s → Tr w' h s
  | 0, s, k => ⟨k.1.soft hs ht, k.2.1, k.2.2.1.soft hs hz, k.2.2.2⟩
  | h + 1, s, ⟨ks, t1, t2, t3, t4, t5, t6, t7, t8⟩ => ⟨ks, t1.soft hs ht, t2, t3.soft hs hp, t4, t5, t6, fun k hk => ⟨Tr.soft hs ht hz hp (t7 k hk).1, (t7 k hk).2⟩, t8⟩
theorem TreeIs.soft {T : TO} (h : TreeIs w T) (hs : Soft t z w w') (ht : 103 ≠ t) (hz : ∀ s, Value.string s ≠ z) (hp : ∀ a, Value.pointer (Option.some a) ≠ z) : TreeIs w' T := fun x hx => (h x hx).soft hs ht hz hp
theorem RowZ.below {base : Nat} {v : Value} {xs : List Value} (h : RowZ t z w base v xs) (hb : Below w.heap.size w w') : RowZ t z w' base v xs := by
  rcases h with h | ⟨g, cap, h1, h2, h3, h4⟩
  · exact .inl h
  · exact .inr ⟨g, cap, h1, h2, (hb.block g (lt_of_block h3)).trans h3, h4⟩
theorem RowZ.soft {t' : TypeId} {z' : Value} {base : Nat} {v : Value} {xs : List Value} (h : RowZ t' z' w base v xs) (hs : Soft t z w w') (ht : t' ≠ t) : RowZ t' z' w' base v xs := by
  rcases h with h | ⟨g, cap, h1, h2, h3, h4⟩
  · exact .inl h
  · exact .inr ⟨g, cap, h1, h2, (hs.block g _ _ h3 ht).trans h3, h4⟩
end
/-- An element of the row. -/
theorem RowZ.at_ {t : TypeId} {z : Value} {w : World} {base : Nat} {v : Value} {xs : List Value} (h : RowZ t z w base v xs) {i : Nat} {u : Value} (hu : xs[i]? = some u) : ∃ ad c, v = .slice (some ad) xs.length c ∧ w.cell? (ad.add i) = some u := by
  rcases h with ⟨_, rfl⟩ | ⟨g, cap, h1, h2, h3, h4⟩
  · simp at hu
  · refine ⟨⟨g, 0, none⟩, cap, h1, ?_⟩
    rw [show (⟨g, 0, none⟩ : Addr).add i = ⟨g, i, none⟩ by unfold Addr.add; split <;> simp_all]
    refine cell_at h3 i u ?_
    have hi := (List.getElem?_eq_some_iff.1 hu).1
    simp only [List.getElem?_toArray]
    rw [List.getElem?_append_left hi]
    exact hu
theorem RowZ.form {t : TypeId} {z : Value} {w : World} {base : Nat} {v : Value} {xs : List Value} (h : RowZ t z w base v xs) : ∃ A c, v = .slice A xs.length c := by
  rcases h with ⟨rfl, rfl⟩ | ⟨g, cap, h1, _⟩
  · exact ⟨none, 0, rfl⟩
  · exact ⟨_, _, h1⟩

/-- append(v, u), where u lies alone in block h. -/
theorem append_z (ts t ty : TypeId) (z : Value) (by_ : Nat) (hu : ∃ d, Tryz.prog.underlying ts = some d ∧ d = .slice t) (hi : (Tryz.prog.info? t).map (fun i => (i.zero, i.size, i.bytes)) = some (some z, 1, by_)) (hz : z.cells = #[z]) (hz1 : z.oneCell' = true) (hby : by_ ≤ 1000)
    {w : World} {base : Nat} {v : Value} {xs : List Value} (hown : RowZ t z w base v xs) (u : Value) (hu1 : u.oneCell' = true) {h : Nat} (hh : w.heap[h]? = some (.cells #[u] t (0, 0))) (hb : xs.length ≤ 1000) (hbase : base ≤ w.heap.size) :
    ∃ v' w', (Builtin.append_ #[ts, ts] ty #[v, .slice (some ⟨h, 0, none⟩) 1 1]).run Tryz.prog w = .ok v' w' ∧ RowZ t z w' base v' (xs ++ [u]) ∧ Soft t z w w' ∧ w.grownBy w' v.ownBlock := by
  obtain ⟨i0, hi0, hz0, hs1, hb1⟩ := info_parts hi
  obtain ⟨d, hu, rfl⟩ := hu
  have hnews : ∀ j x, [u][j]? = some x → w.cell? ((⟨h, 0, none⟩ : Addr).add j) = some x := fun j x hj => by
    rw [show (⟨h, 0, none⟩ : Addr).add j = ⟨h, j, none⟩ by unfold Addr.add; split <;> simp_all, cell_of_row w h j _ _ _ hh]
    simpa using hj
  have hzc : ∀ n, Builtin.zeroCells z.cells n = (List.replicate n z).toArray := fun n => by
    unfold Builtin.zeroCells
    rw [hz]
    apply Array.ext
    · simp
    · intro i h1 h2
      simp [Nat.mod_one]
  have bel : ∀ o, Below w.heap.size w (w.drew.alloc o) := fun o => (Below.refl _ _).drew.alloc (Nat.le_refl _) o
  rcases hown with ⟨rfl, rfl⟩ | ⟨g, cap, rfl, hbg, hg, hnc, hcm⟩
  · have hr := run_append_nil (P := Tryz.prog) w ts ty t i0 z hu hi0 hz0 ⟨h, 0, none⟩ 1 1 [u] (by rw [hs1]; rfl) hnews (by omega) (by omega) (by rw [hb1]; omega)
    have hge := grownCap_ge w 1 0 t
    have hcm := grownCap_le_maxLen w 1 0 t (by simp only [maxLen]; omega)
    refine ⟨_, _, hr, .inr ⟨w.heap.size, grownCap w 1 0 t, rfl, hbase, ?_, hge, hcm⟩, Soft.of_below (bel _), ⟨rfl, rfl, rfl, (bel _).size, fun k hk _ => (bel _).block k hk⟩⟩
    rw [hzc]
    have e1 : [u].toArray ++ (List.replicate (grownCap w 1 0 t - 1) z).toArray = ([] ++ [u] ++ List.replicate (grownCap w 1 0 t - ([] ++ [u] : List Value).length) z).toArray := by simp
    rw [e1]
    exact heap_alloc_new w.drew _
  · by_cases hroom : xs.length + 1 ≤ cap
    · have hr := run_append_room (P := Tryz.prog) w ts ty t i0 hu hi0 g xs.length cap _ hg ⟨h, 0, none⟩ 1 1 [u] (by rw [hs1]; rfl) hnews (by intro x hx; rw [List.mem_singleton.1 hx]; exact hu1) hroom (by rw [hs1]; simp; omega)
      rw [hs1] at hr
      have hnew : (((xs ++ List.replicate (cap - xs.length) z).toArray.toList.take (xs.length * 1)) ++ [u] ++ ((xs ++ List.replicate (cap - xs.length) z).toArray.toList.drop (xs.length * 1 + [u].length))) = (xs ++ [u]) ++ List.replicate (cap - (xs ++ [u]).length) z := by
        simp only [Nat.mul_one, List.length_singleton, List.length_append]
        rw [List.take_left, ← List.drop_drop, List.drop_left, List.drop_replicate, Nat.sub_sub]
      rw [hnew] at hr
      have hold : ∀ (j : Nat) (x : Value), (xs ++ List.replicate (cap - xs.length) z)[j]? = some x → x ≠ z → j < xs.length := fun j x hx hxz => by
        rcases Nat.lt_or_ge j xs.length with h1 | h1
        · exact h1
        · rw [List.getElem?_append_right h1] at hx
          exact absurd (List.eq_of_mem_replicate (List.mem_of_getElem? hx)) hxz
      refine ⟨_, _, hr, .inr ⟨g, cap, by simp, hbg, setRow_heap _ _ _ _ _ _ hg, by simpa using hroom, hcm⟩, ⟨by simp [World.setRow], fun a x hx hxz => ?_, fun b cs t' hb' ht' => ?_⟩, ?_⟩
      · by_cases hab : a.block = g
        · unfold World.cell? at hx ⊢
          rw [hab, hg] at hx
          rw [hab, setRow_heap _ _ _ _ _ _ hg]
          simp only at hx ⊢
          split at hx
          · cases hx
          · rename_i hsp
            rw [if_neg hsp]
            have hx' : (xs ++ List.replicate (cap - xs.length) z)[a.off]? = some x := by simpa using hx
            have hlt := hold _ _ hx' hxz
            rw [List.getElem?_append_left hlt] at hx'
            have : (xs ++ [u] ++ List.replicate (cap - (xs ++ [u]).length) z)[a.off]? = some x := by
              rw [List.append_assoc, List.getElem?_append_left hlt]
              exact hx'
            simpa using this
        · rw [cell_setRow_other w g _ a hab]
          exact hx
      · refine setRow_other w g b _ fun e => ?_
        subst e
        rw [hg] at hb'
        simp only [Option.some.injEq, Obj.cells.injEq] at hb'
        exact ht' hb'.2.1.symm
      · exact ⟨rfl, rfl, rfl, by simp [World.setRow], fun k hk hne => setRow_other w g k _ fun e => hne (by rw [e]; rfl)⟩
    · have holds : ∀ j x, xs[j]? = some x → w.cell? ((⟨g, 0, none⟩ : Addr).add j) = some x := fun j x hj => by
        rw [show (⟨g, 0, none⟩ : Addr).add j = ⟨g, j, none⟩ by unfold Addr.add; split <;> simp_all]
        refine cell_at hg j x ?_
        simp only [List.getElem?_toArray]
        rw [List.getElem?_append_left (List.getElem?_eq_some_iff.1 hj).1]
        exact hj
      have hbytes : (xs.length + 1) * i0.bytes ≤ 140737488355328 := by
        have : (xs.length + 1) * i0.bytes ≤ 1001 * 1000 := Nat.mul_le_mul (by omega) (by rw [hb1]; exact hby)
        omega
      have hr := run_append_grow (P := Tryz.prog) w ts ty t i0 z hu hi0 hz0 ⟨g, 0, none⟩ xs.length cap xs (by rw [hs1]; omega) holds ⟨h, 0, none⟩ 1 1 [u] (by rw [hs1]; rfl) hnews (by omega) (by omega) (growslice_fits (by omega) hbytes)
      have hge := grownCap_ge w (xs.length + 1) cap t
      have hcm' := grownCap_le_maxLen w (xs.length + 1) cap t (by simp only [maxLen]; omega)
      refine ⟨_, _, hr, .inr ⟨w.heap.size, grownCap w (xs.length + 1) cap t, by simp, hbase, ?_, by simpa using hge, hcm'⟩, Soft.of_below (bel _), ⟨rfl, rfl, rfl, (bel _).size, fun k hk _ => (bel _).block k hk⟩⟩
      rw [hzc]
      have e1 : xs.toArray ++ [u].toArray ++ (List.replicate (grownCap w (xs.length + 1) cap t - (xs.length + 1)) z).toArray = (xs ++ [u] ++ List.replicate (grownCap w (xs.length + 1) cap t - (xs ++ [u]).length) z).toArray := by simp
      rw [e1]
      exact heap_alloc_new w.drew _

end Go.Proofs.YtelenboncejdaaaGreatDoor

/-
  Sets of nodes (map[*node.Node]struct{}): what stands in the map's block, a store, a look-up; conditions: the keys are nodes in memory.
-/
namespace Go.Proofs.YtelenboncejdaaaGreatDoor
open Go.RowKit Go.Sort
open Go.ChangeMaps (setBlock)
set_option linter.unusedVariables false
set_option linter.unusedSimpArgs false

/-- The entries of a set, in the order in which they came. -/
def ents (bs : List Nat) : List MapEntry := bs.zipIdx.map fun p => ⟨pn p.1, .agg #[], p.2⟩
def SetAt (w : World) (m : Nat) (bs : List Nat) : Prop := w.heap[m]? = some (.map (ents bs).toArray bs.length)
def Nodes' (w : World) (bs : List Nat) : Prop := ∀ x ∈ bs, ∃ N, NodeAt w x N
theorem ents_len (bs : List Nat) : (ents bs).length = bs.length := by simp [ents]
theorem ents_at (bs : List Nat) (i : Nat) : (ents bs)[i]? = (bs[i]?).map fun b => ⟨pn b, .agg #[], i⟩ := by
  simp [ents, List.getElem?_zipIdx]
  cases bs[i]? <;> rfl
theorem ents_snoc (bs : List Nat) (b : Nat) : ents (bs ++ [b]) = ents bs ++ [⟨pn b, .agg #[], bs.length⟩] := by
  simp [ents, List.zipIdx_append]
theorem equal_pn {a b : Nat} {w : World} {M N : NR} (ha : NodeAt w a M) (hb : NodeAt w b N) : (Op.equal 25 (pn a) (pn b)).run Tryz.prog w = .ok (decide (a = b)) w := by
  have hi : (Tryz.prog.info? 103).map (·.size) = some 6 := by kernel_rfl
  obtain ⟨j, hj, hj6⟩ := Option.map_eq_some_iff.1 hi
  by_cases hne : a = b
  · subst hne
    have hs := run_sameAddr_same (P := Tryz.prog) (w := w) ⟨a, 0, none⟩
    have h : ∀ d : Nat, (Op.equalIn (d + 1) 25 (pn a) (pn a)).run Tryz.prog w = .ok true w := fun d => by
      simp [Op.equalIn, run_underlying Tryz.underlying25, sizeOf, typeInfo, hj, hj6, hs]
    simp [Op.equal, Op.maxDepth, h 9999]
  · have hab : (⟨a, 0, none⟩ : Addr) ≠ ⟨b, 0, none⟩ := fun e => hne (by cases e; rfl)
    have hs := run_sameAddr_other (P := Tryz.prog) (w := w) hab ha hb
    have h : ∀ d : Nat, (Op.equalIn (d + 1) 25 (pn a) (pn b)).run Tryz.prog w = .ok false w := fun d => by
      simp [Op.equalIn, run_underlying Tryz.underlying25, sizeOf, typeInfo, hj, hj6, hs]
    simp [Op.equal, Op.maxDepth, h 9999, hne]
theorem asking (b : Nat) (w : World) {M : NR} (hb : NodeAt w b M) : ∀ (l : List Nat) (k i : Nat), Nodes' w l →
    (b ∉ l ∧ (Instr.findAsking 25 (pn b) ((l.zipIdx k).map fun p => ⟨pn p.1, .agg #[], p.2⟩) i).run Tryz.prog w = .ok none w) ∨
    ∃ j, l[j]? = some b ∧ (Instr.findAsking 25 (pn b) ((l.zipIdx k).map fun p => ⟨pn p.1, .agg #[], p.2⟩) i).run Tryz.prog w = .ok (some (i + j, .agg #[])) w
  | [], k, i, _ => .inl ⟨by simp, by simp [Instr.findAsking]⟩
  | x :: l, k, i, h => by
    obtain ⟨N, hN⟩ := h x (List.mem_cons_self ..)
    have he := equal_pn hb hN
    by_cases hx : b = x
    · refine .inr ⟨0, by rw [hx]; rfl, ?_⟩
      rw [decide_eq_true hx] at he
      simp [Instr.findAsking, he]
    · rw [decide_eq_false hx] at he
      rcases asking b w hb l (k + 1) (i + 1) fun y hy => h y (List.mem_cons_of_mem _ hy) with ⟨h1, h2⟩ | ⟨j, h1, h2⟩
      · refine .inl ⟨by simp [hx, h1], ?_⟩
        simp only [List.zipIdx_cons, List.map_cons, Instr.findAsking, Sem.run_bind, he, Result.andThen_ok, Bool.false_eq_true, if_false]
        exact h2
      · refine .inr ⟨j + 1, by simpa using h1, ?_⟩
        simp only [List.zipIdx_cons, List.map_cons, Instr.findAsking, Sem.run_bind, he, Result.andThen_ok, Bool.false_eq_true, if_false]
        rw [h2]
        simp
        omega
theorem find_set {w : World} {bs : List Nat} {b : Nat} {M : NR} (hb : NodeAt w b M) (h : Nodes' w bs) :
    (b ∉ bs ∧ (Instr.findKey 25 (pn b) (ents bs)).run Tryz.prog w = .ok none w) ∨ ∃ j, bs[j]? = some b ∧ (Instr.findKey 25 (pn b) (ents bs)).run Tryz.prog w = .ok (some (j, .agg #[])) w := by
  cases bs with
  | nil =>
    refine .inl ⟨by simp, ?_⟩
    simp [Instr.findKey, run_underlying Tryz.underlying25, ents, Instr.findNow]
  | cons x l =>
    have hnow : ∀ d, Instr.findNow (.pointer d) (pn b) (ents (x :: l)) 0 = none := fun d => by
      simp [ents, Instr.findNow, Instr.sameNow]
    have := asking b w hb (x :: l) 0 0 h
    simp only [Nat.zero_add] at this
    rcases this with ⟨h1, h2⟩ | ⟨j, h1, h2⟩
    · refine .inl ⟨h1, ?_⟩
      simp only [Instr.findKey, Sem.run_bind, run_underlying Tryz.underlying25, Result.andThen_ok, hnow]
      exact h2
    · refine .inr ⟨j, h1, ?_⟩
      simp only [Instr.findKey, Sem.run_bind, run_underlying Tryz.underlying25, Result.andThen_ok, hnow]
      exact h2

/-- A set with one more. -/
def ins (bs : List Nat) (b : Nat) : List Nat := if b ∈ bs then bs else bs ++ [b]
theorem mem_ins {bs : List Nat} {b x : Nat} : x ∈ ins bs b ↔ x ∈ bs ∨ x = b := by
  unfold ins
  split
  · rename_i h
    exact ⟨.inl, fun hx => hx.elim id fun e => e ▸ h⟩
  · simp
theorem ins_nodup {bs : List Nat} {b : Nat} (h : bs.Nodup) : (ins bs b).Nodup := by
  unfold ins
  split
  · exact h
  · rename_i hb
    refine List.nodup_append.2 ⟨h, by simp, fun x hx y hy => ?_⟩
    rw [List.mem_singleton.1 hy]
    exact fun e => hb (e ▸ hx)
theorem setBlock_at {w : World} {m : Nat} {o o' : Obj} (h : w.heap[m]? = some o) : (setBlock w m o').heap[m]? = some o' := by
  have hlt : m < w.heap.size := (Array.getElem?_eq_some_iff.1 h).1
  simp [setBlock, hlt]
theorem setBlock_other (w : World) (m k : Nat) (o : Obj) (h : k ≠ m) : (setBlock w m o).heap[k]? = w.heap[k]? := by
  simp [setBlock, Array.getElem?_setIfInBounds_ne (Ne.symm h)]
theorem grown_setBlock (w : World) (m : Nat) (o : Obj) : w.grownBy (setBlock w m o) (some m) := ⟨rfl, rfl, rfl, by simp [setBlock], fun k _ hne => setBlock_other w m k o fun e => hne (by rw [e])⟩
theorem run_setObj_map {P : Program} {w : World} {r : Nat} {es : Array MapEntry} {c : Nat} (hr : w.heap[r]? = some (.map es c)) (o' : Obj) (ho : ∃ es' c', o' = .map es' c') : (setObj r o').run P w = .ok () (setBlock w r o') := by
  obtain ⟨es', c', rfl⟩ := ho
  simp [setObj, Sem.run, hr, setBlock]
theorem check_pn' (em : Bool) (v : Value) (w : World) (n : Nat) : (Instr.checkKey em (n + 1) 25 v).run Tryz.prog w = .ok () w := by
  simp [Instr.checkKey, run_underlying Tryz.underlying25]
theorem check_pn (em : Bool) (v : Value) (w : World) : (Instr.checkKey em 10000 25 v).run Tryz.prog w = .ok () w := check_pn' em v w 9999
theorem same_pn (a : Option Addr) : ∀ n : Nat, Instr.sameBits n (.pointer a) (.pointer a) = true := fun n => by cases n <;> simp [Instr.sameBits]
theorem stays_pn (b : Nat) (w : World) : (Instr.keyThatStays (pn b) (pn b)).run Tryz.prog w = .ok (pn b) w := by
  have h : Instr.keyThatStays (pn b) (pn b) = (pure (pn b) : Sem Value) := by
    unfold Instr.keyThatStays pn
    rw [if_pos (same_pn _ 10000)]
  rw [h, Sem.run_pure]
theorem modify_same (bs : List Nat) (b j : Nat) (h : bs[j]? = some b) : (ents bs).toArray.modify j (fun e => { e with key := pn b, val := .agg #[] }) = (ents bs).toArray := by
  apply Array.ext_getElem?
  intro i
  rw [Array.getElem?_modify]
  split
  · rename_i e
    subst e
    simp [ents_at, h]
  · rfl
/-- s[b] = struct{}{}. -/
theorem put_set {w : World} {m b : Nat} {bs : List Nat} {M : NR} (hs : SetAt w m bs) (hb : NodeAt w b M) (h : Nodes' w bs) :
    ∃ w', (Instr.mapUpdate 123 (.map (some m)) (pn b) (.agg #[])).run Tryz.prog w = .ok () w' ∧ SetAt w' m (ins bs b) ∧ w.grownBy w' (some m) := by
  have hs' : w.heap[m]? = some (.map (ents bs).toArray bs.length) := hs
  rcases find_set hb h with ⟨h1, h2⟩ | ⟨j, h1, h2⟩
  · refine ⟨setBlock w m (.map (ents (bs ++ [b])).toArray (bs ++ [b]).length), ?_, ?_, grown_setBlock w m _⟩
    · have ho := run_setObj_map (P := Tryz.prog) hs' (.map (ents (bs ++ [b])).toArray (bs ++ [b]).length) ⟨_, _, rfl⟩
      have e1 : (ents bs).toArray.push ⟨pn b, .agg #[], bs.length⟩ = (ents (bs ++ [b])).toArray := by rw [ents_snoc]; simp
      have e2 : bs.length + 1 = (bs ++ [b]).length := by simp
      simp only [Instr.mapUpdate, Sem.run_bind, run_underlying Tryz.underlying123, Result.andThen_ok, MapKept.run_getObj_map hs', check_pn, h2]
      rw [e1, e2]
      exact ho
    · unfold ins
      rw [if_neg h1]
      exact setBlock_at hs'
  · refine ⟨setBlock w m (.map (ents bs).toArray bs.length), ?_, ?_, grown_setBlock w m _⟩
    · have ho := run_setObj_map (P := Tryz.prog) hs' (.map (ents bs).toArray bs.length) ⟨_, _, rfl⟩
      have hk : (((ents bs).toArray[j]?).map (·.key)).getD (pn b) = pn b := by simp [ents_at, h1]
      simp only [Instr.mapUpdate, Sem.run_bind, run_underlying Tryz.underlying123, Result.andThen_ok, MapKept.run_getObj_map hs', check_pn, h2]
      rw [hk, stays_pn]
      simp only [Result.andThen_ok]
      rw [modify_same bs b j h1]
      exact ho
    · unfold ins
      rw [if_pos (List.mem_of_getElem? h1)]
      exact setBlock_at hs'

/-- _, found := s[b]. -/
theorem has_set {w : World} {m b : Nat} {bs : List Nat} {M : NR} (hs : SetAt w m bs) (hb : NodeAt w b M) (h : Nodes' w bs) :
    (Instr.lookup 123 (.map (some m)) (pn b) true).run Tryz.prog w = .ok (.tuple #[.agg #[], .bool (decide (b ∈ bs))]) w := by
  have hs' : w.heap[m]? = some (.map (ents bs).toArray bs.length) := hs
  have hz : ∀ w : World, (zeroValue 125).run Tryz.prog w = .ok (.agg #[]) w := fun w => by kernel_rfl
  rcases find_set hb h with ⟨h1, h2⟩ | ⟨j, h1, h2⟩
  · simp only [Instr.lookup, Sem.run_bind, run_underlying Tryz.underlying123, Result.andThen_ok, MapKept.run_getObj_map hs', check_pn, h2, hz, Sem.run_pure, decide_eq_false h1, if_true]
  · simp only [Instr.lookup, Sem.run_bind, run_underlying Tryz.underlying123, Result.andThen_ok, MapKept.run_getObj_map hs', check_pn, h2, Sem.run_pure, decide_eq_true (List.mem_of_getElem? h1), if_true]
section
variable {P : Program} {w : World} {ops : Array Oper} {rest : List Oper} {o : Oper} {a : Act} {Q : Exit → Act → World → Prop}
theorem wpList_mapUpdate_ran (hg : o.guard = none) (m x v : Operand) (t : TypeId) (hop : o.op = Op.mapUpdate t m x v) (vm key val : Value) (hm : a.eval m = vm) (hx : a.eval x = key) (hv : a.eval v = val)
    {w' : World} (hrun : (Instr.mapUpdate t vm key val).run P w = .ok () w') (hK : wpList P ops Q rest (a.put o.dst undef) w') : wpList P ops Q (o :: rest) a w := by
  refine wpList_plain hg fun K' hK' => ?_
  unfold Oper.wp
  simp [execOp, hop, hm, hx, hv, hrun, Result.andThen]
  exact hK' _ _ hK
theorem wpList_lookup_ran (hg : o.guard = none) (m x : Operand) (t : TypeId) (c : Bool) (hop : o.op = Op.lookup t m x c) (vm key : Value) (hm : a.eval m = vm) (hx : a.eval x = key)
    {v : Value} (hrun : (Instr.lookup t vm key c).run P w = .ok v w) (hK : wpList P ops Q rest (a.put o.dst v) w) : wpList P ops Q (o :: rest) a w := by
  refine wpList_plain hg fun K' hK' => ?_
  unfold Oper.wp
  simp [execOp, hop, hm, hx, hrun, Result.andThen]
  exact hK' _ _ hK
theorem wpList_range_ran (hg : o.guard = none) (m : Operand) (t : TypeId) (hop : o.op = Op.range t m) (vm : Value) (hm : a.eval m = vm)
    {v : Value} {w' : World} (hrun : (Instr.range t vm).run P w = .ok v w') (hK : wpList P ops Q rest (a.put o.dst v) w') : wpList P ops Q (o :: rest) a w := by
  refine wpList_plain hg fun K' hK' => ?_
  unfold Oper.wp
  simp [execOp, hop, hm, hrun, Result.andThen]
  exact hK' _ _ hK
theorem wpList_next_ran (hg : o.guard = none) (it : Operand) (hop : o.op = Op.next it false) (vm : Value) (hm : a.eval it = vm)
    {v : Value} {w' : World} (hrun : ∀ ty, (Instr.next vm false ty).run P w = .ok v w') (hK : wpList P ops Q rest (a.put o.dst v) w') : wpList P ops Q (o :: rest) a w := by
  refine wpList_plain hg fun K' hK' => ?_
  unfold Oper.wp
  simp [execOp, hop, hm, hrun, Result.andThen]
  exact hK' _ _ hK
theorem wpList_entry_ran (hg : o.guard = none) (it : Operand) (hop : o.op = Op.entry it) (vm : Value) (hm : a.eval it = vm)
    {v : Value} (hrun : (Instr.entry vm).run P w = .ok v w) (hK : wpList P ops Q rest (a.put o.dst v) w) : wpList P ops Q (o :: rest) a w := by
  refine wpList_plain hg fun K' hK' => ?_
  unfold Oper.wp
  simp [execOp, hop, hm, hrun, Result.andThen]
  exact hK' _ _ hK
end

end Go.Proofs.YtelenboncejdaaaGreatDoor

/-
  The contract of tree.set.add: the nodes of a tree join the set; conditions: the tree is valid and lies in memory, or is nil.
-/
namespace Go.Proofs.YtelenboncejdaaaGreatDoor
open Go.RowKit Go.Sort
open Go.ChangeMaps (setBlock)
set_option linter.unusedVariables false
set_option linter.unusedSimpArgs false

structure AddPre (w0 w : World) (m : Nat) (bs : List Nat) : Prop where
  below : Below w0.heap.size w0 w
  at_ : SetAt w m bs
  ge : w0.heap.size ≤ m
  nodes : Nodes' w0 bs
def AddPost (w0 w : World) (m : Nat) (bs ids : List Nat) (r : Ending) (w' : World) : Prop :=
  r = .returned (.tuple #[]) ∧ ∃ bs', AddPre w0 w' m bs' ∧ (bs.Nodup → bs'.Nodup) ∧ (∀ x, x ∈ bs' ↔ x ∈ bs ∨ x ∈ ids) ∧ w.grownBy w' (some m)
theorem AddPre.lt {w0 w : World} {m : Nat} {bs : List Nat} (h : AddPre w0 w m bs) : m < w.heap.size := (Array.getElem?_eq_some_iff.1 h.at_).1
theorem AddPre.nodes' {w0 w : World} {m : Nat} {bs : List Nat} (h : AddPre w0 w m bs) : Nodes' w bs := fun x hx => by
  obtain ⟨N, hN⟩ := h.nodes x hx
  exact ⟨N, hN.below h.below⟩
theorem AddPre.next {w0 w w' : World} {m : Nat} {bs : List Nat} (h : AddPre w0 w m bs) (hb : Below w.heap.size w w') : AddPre w0 w' m bs :=
  ⟨bthen h.below hb, (hb.block m h.lt).trans h.at_, h.ge, h.nodes⟩
theorem grown_of_below {w w' : World} (h : Below w.heap.size w w') (r : Option Nat) : w.grownBy w' r := ⟨h.os, h.tape, h.output, h.size, fun k hk _ => h.block k hk⟩
theorem Tr.nodeAt {w : World} : ∀ {h : Nat} {s : ST}, Tr w h s → ∀ x ∈ s.ids, ∃ N, NodeAt w x N
  | 0, s, k, x, hx => by
    rw [k.2.2.2.2, List.mem_singleton] at hx
    exact ⟨_, hx ▸ k.1⟩
  | h + 1, s, ⟨ks, t1, t2, t3, t4, t5, t6, t7, t8, t9⟩, x, hx => by
    rw [t9] at hx
    rcases List.mem_cons.1 hx with rfl | hx
    · exact ⟨_, t1⟩
    · obtain ⟨k, hk, hx⟩ := List.mem_flatMap.1 hx
      exact (t7 k hk).1.nodeAt x hx
theorem idsOf_take_succ {ks : List ST} {j : Nat} {k : ST} (h : ks[j]? = some k) : idsOf (ks.take (j + 1)) = idsOf (ks.take j) ++ k.ids := by
  rw [List.take_add_one, h, idsOf_append]
  simp [idsOf]

set_option maxHeartbeats 2000000 in
set_option maxRecDepth 100000 in
theorem add_gen {w0 w : World} {m b : Nat} {N : NR} {bs : List Nat} {ks : List ST} {n : Nat} (hN : NodeAt w0 b N) (hp : Ls pcP w0 N.ka (ptrS ks)) (hn : ks.length = n) (hk : N.kn = n) (h2 : n ≤ 1000)
    (hall : ∀ k ∈ ks, ∀ w bs, AddPre w0 w m bs → Calls Tryz.prog 55 #[.map (some m), pn k.b] w (AddPost w0 w m bs k.ids)) (hpre : AddPre w0 w m bs) :
    Calls Tryz.prog 55 #[.map (some m), pn b] w (AddPost w0 w m bs (b :: idsOf ks)) := by
  have hnw := hN.below hpre.below
  obtain ⟨w1, hput, hs1, hg1⟩ := put_set hpre.at_ hnw hpre.nodes'
  have hpre1 : AddPre w0 w1 m (ins bs b) := ⟨hpre.below.grown hg1 hpre.below.size (fun j hj => by cases hj; exact hpre.ge), hs1, hpre.ge, fun x hx => by
    rcases mem_ins.1 hx with hx | rfl
    · exact hpre.nodes x hx
    · exact ⟨_, hN⟩⟩
  have HN := Lib.hid hN
  have HP := Lib.hid hp
  have Hn := Lib.hid hn
  have HK := Lib.hid hk
  have HALL := Lib.hid hall
  have HPUT := Lib.hid hput
  have HG1 := Lib.hid hg1
  have HPRE1 := Lib.hid hpre1
  clear hN hp hn hk hall hput hg1 hs1 hpre1 hpre hnw
  go_enter Tryz.func55, Tryz.ntmps55
  go_wp2_with fail
  rw [HPUT.out]
  go_wp2_with fail
  refine (kids_any (HN.out.below HPRE1.out.below) (HP.out.below HPRE1.out.below) (by rw [HK.out, ptrS_len, Hn.out]) (by rw [HK.out]; omega)).mono ?_
  rintro r w2 ⟨v2, rfl, ho2, hb2⟩
  obtain ⟨A2, c2, rfl, hc2, hls2, hge2⟩ := ho2.slice
  rw [ptrS_len, Hn.out] at hc2 ⊢
  have HPRE2 := Lib.hid (HPRE1.out.next hb2)
  have HG2 := Lib.hid (HG1.out.trans (grown_of_below hb2 (some m)))
  rw [ptrS_len, Hn.out] at ho2
  have HO2 := Lib.hid ho2
  have HLT := Lib.hid HPRE1.out.lt
  clear ho2 hls2 hb2
  go_wp2
  go_loopw [14] (fun s14 wr => ∃ (j : Nat) (bj : List Nat), j ≤ n ∧ s14 = .int .i64 j ∧ AddPre w0 wr m bj ∧ ((ins bs b).Nodup → bj.Nodup) ∧ (∀ x, x ∈ bj ↔ x ∈ ins bs b ∨ x ∈ idsOf (ks.take j)) ∧ OwnP wr w1.heap.size (.slice A2 n c2) (ptrS ks) ∧ w.grownBy wr (some m)) (fun s14 _ => n - (intOf s14).toNat)
  case atStart => exact ⟨0, _, Nat.zero_le _, rfl, HPRE2.out, id, by simp [idsOf], HO2.out, HG2.out⟩
  case round =>
    obtain ⟨j, bj, hj, rfl, hpj, hnd, hmem, hop, hgj⟩ := hrel
    by_cases hlt : j < n
    · obtain ⟨k, hk⟩ : ∃ k, ks[j]? = some k := ⟨_, List.getElem?_eq_getElem (by rw [Hn.out]; exact hlt)⟩
      obtain ⟨ad, x, rfl, hx, hadl, hcx⟩ := Ls.node_at (ownP_ls hop) (i := j) (by rw [nbs_len, Hn.out]; exact hlt)
      rw [nbs_at hk] at hx
      cases hx
      have HKJ := Lib.hid hk
      have HPJ := Lib.hid hpj
      have HND := Lib.hid hnd
      have HMEM := Lib.hid hmem
      have HGJ := Lib.hid hgj
      have HOP := Lib.hid hop
      clear hk hpj hnd hmem hgj hop
      go_wp2_with fail
      refine (HALL.out k (List.mem_of_getElem? HKJ.out) wr bj HPJ.out).mono ?_
      rintro r w3 ⟨rfl, b3, hp3, hnd3, hmem3, hg3⟩
      have hop3 : OwnP w3 w1.heap.size (.slice (some ad) n c2) (ptrS ks) := HOP.out.keep fun g hg hlt => hg3.block g hlt fun e => by
        have h1 : ad.block = g := by simpa [Value.ownBlock] using hg
        have h2 := hge2 ad rfl
        have h3 := HLT.out
        have h4 : g = m := Option.some.inj e
        omega
      have HX := Lib.hid (And.intro hp3 (And.intro (fun h => hnd3 (HND.out h)) (And.intro hop3 (HGJ.out.trans hg3))))
      have HM3 : Hid (∀ x, x ∈ b3 ↔ x ∈ ins bs b ∨ x ∈ idsOf (ks.take (j + 1))) := Lib.hid fun x => by
        rw [hmem3, HMEM.out, idsOf_take_succ HKJ.out, List.mem_append, or_assoc]
      clear hp3 hnd3 hmem3 hg3 hop3 hcx
      go_wp2
      exact ⟨⟨j + 1, b3, by omega, by go_num, HX.out.1, HX.out.2.1, HM3.out, HX.out.2.2.1, HX.out.2.2.2⟩, by simp [intOf]; omega⟩
    · have he : j = n := by omega
      subst he
      rw [List.take_of_length_le (by rw [Hn.out]; exact Nat.le_refl _)] at hmem
      have HPOST : Hid (AddPost w0 w m bs (b :: idsOf ks) (.returned (.tuple #[])) wr) := Lib.hid ⟨rfl, bj, hpj, fun h => hnd (ins_nodup h), fun x => by rw [hmem, mem_ins, List.mem_cons, or_assoc], hgj⟩
      clear hop hmem hnd hpj hgj
      go_wp2
      go_end0
      exact HPOST.out

theorem add_tr {w0 : World} {m : Nat} : ∀ (h : Nat) (w : World) (bs : List Nat) (s : ST), Tr w0 h s → AddPre w0 w m bs → Calls Tryz.prog 55 #[.map (some m), pn s.b] w (AddPost w0 w m bs s.ids)
  | 0, w, bs, s, ⟨hN, hL, hE, hok, hid⟩, hp => by
    have := add_gen (ks := []) (n := 0) hN (Ls.nil (f := pcP) _ _) rfl hL.kn (by omega) (fun k hk => by cases hk) hp
    rw [hid]
    simpa [idsOf] using this
  | h + 1, w, bs, s, ⟨ks, hN, hB, hP, hk2, hk6, hso, hks, hfl, hid⟩, hp => by
    rw [hid]
    exact add_gen (n := ks.length) hN hP rfl (by rw [hB.kn, nbs_len]) (by omega) (fun k hk w' bs' hp' => add_tr h w' bs' k (hks k hk).1 hp') hp
set_option maxHeartbeats 1000000 in
set_option maxRecDepth 100000 in
theorem add_nil (w : World) (v : Value) : Calls Tryz.prog 55 #[v, .pointer none] w fun r w' => r = .returned (.tuple #[]) ∧ w' = w := by
  go_enter Tryz.func55, Tryz.ntmps55
  go_wp2
  refine bodyPost_ret (results_none rfl _ _ _) rfl ?_
  exact ⟨rfl, rfl⟩
theorem add_any {w0 w : World} {m : Nat} {bs : List Nat} {T : TO} (ht : TreeIs w0 T) (hp : AddPre w0 w m bs) : Calls Tryz.prog 55 #[.map (some m), tb T] w (AddPost w0 w m bs (tids T)) := by
  cases T with
  | none =>
    refine (add_nil w _).mono ?_
    rintro r w' ⟨rfl, rfl⟩
    exact ⟨rfl, bs, hp, id, fun x => by simp [tids], grown_of_below (Below.refl _ _) _⟩
  | some x => exact add_tr x.1 w bs x.2 (ht x rfl) hp

end Go.Proofs.YtelenboncejdaaaGreatDoor

/-
  The contract of tree.Nodes: how many nodes a tree has, and how many of them it shares with another one; conditions: both are valid and lie in memory, or are nil.
-/
namespace Go.Proofs.YtelenboncejdaaaGreatDoor
open Go.RowKit Go.Sort
open Go.ChangeMaps (setBlock)
set_option linter.unusedVariables false
set_option linter.unusedSimpArgs false

theorem nodup_sub : ∀ {l m : List Nat}, l.Nodup → (∀ x ∈ l, x ∈ m) → l.length ≤ m.length
  | [], m, _, _ => Nat.zero_le _
  | x :: l, m, hn, h => by
    obtain ⟨h1, h2⟩ := List.nodup_cons.1 hn
    have hx := h x (List.mem_cons_self ..)
    have := nodup_sub (m := m.erase x) h2 fun y hy => (List.mem_erase_of_ne (fun e => h1 (by rw [← e]; exact hy))).2 (h y (List.mem_cons_of_mem _ hy))
    rw [List.length_erase_of_mem hx] at this
    have := List.length_pos_of_mem hx
    simp only [List.length_cons]
    omega
theorem idsOf_len : ∀ {ks : List ST}, (∀ k ∈ ks, k.ids.length + 1 ≤ 2 * k.l.length) → (idsOf ks).length + ks.length ≤ 2 * (flat ks).length
  | [], _ => by simp [idsOf, flat]
  | k :: ks, h => by
    have h1 := h k (List.mem_cons_self ..)
    have h2 := idsOf_len fun x hx => h x (List.mem_cons_of_mem _ hx)
    rw [show idsOf (k :: ks) = k.ids ++ idsOf ks from rfl, show flat (k :: ks) = k.l ++ flat ks from rfl]
    simp only [List.length_append, List.length_cons]
    omega
theorem Tr.ids_len {w : World} : ∀ {h : Nat} {s : ST}, Tr w h s → s.ids.length + 1 ≤ 2 * s.l.length
  | 0, s, k => by
    have := okLeaf_len k.2.2.2.1
    rw [k.2.2.2.2, List.length_singleton]
    omega
  | h + 1, s, ⟨ks, t1, t2, t3, t4, t5, t6, t7, t8, t9⟩ => by
    have := idsOf_len fun k hk => (t7 k hk).1.ids_len
    rw [t8, t9, List.length_cons]
    omega
theorem tids_len {w : World} {T : TO} (ht : TreeIs w T) : (tids T).length ≤ 2 * (tl T).length := by
  cases T with
  | none => simp [tids]
  | some x =>
    have := (ht x rfl).ids_len
    show x.2.ids.length ≤ 2 * x.2.l.length
    omega

/-- How many of those that are left lie in the other set. -/
def toCome (bs cs : List Nat) (seen : Array Nat) : Nat := bs.zipIdx.countP fun p => decide (p.1 ∈ cs) && !seen.contains p.2
theorem toCome_start (bs cs : List Nat) : toCome bs cs #[] = (bs.filter fun x => decide (x ∈ cs)).length := by
  have h1 : ∀ (l : List Nat) (k : Nat), (l.zipIdx k).countP (fun p => decide (p.1 ∈ cs) && !(#[] : Array Nat).contains p.2) = (l.filter fun x => decide (x ∈ cs)).length := by
    intro l
    induction l with
    | nil => intro k; rfl
    | cons x l ih =>
      intro k
      rw [List.zipIdx_cons, List.countP_cons, ih, List.filter_cons]
      by_cases hx : x ∈ cs <;> simp [hx]
  exact h1 bs 0
theorem count_push (f : Nat → Bool) (seen : Array Nat) (b i : Nat) (hs : seen.contains i = false) : ∀ (l : List Nat) (k : Nat), k ≤ i → l[i - k]? = some b →
    (l.zipIdx k).countP (fun p => f p.1 && !seen.contains p.2) = (l.zipIdx k).countP (fun p => f p.1 && !(seen.push i).contains p.2) + (if f b then 1 else 0)
  | [], k, _, h => by simp at h
  | x :: l, k, hk, h => by
    have hpush : ∀ y, (seen.push i).contains y = (seen.contains y || y == i) := fun y => contains_push seen i y
    rw [List.zipIdx_cons, List.countP_cons, List.countP_cons]
    by_cases he : k = i
    · subst he
      have hx : x = b := by simpa using h
      subst hx
      have hrest : ∀ (l : List Nat) (j : Nat), k < j → (l.zipIdx j).countP (fun p => f p.1 && !seen.contains p.2) = (l.zipIdx j).countP (fun p => f p.1 && !(seen.push k).contains p.2) := by
        intro l
        induction l with
        | nil => intro j _; rfl
        | cons y l ih =>
          intro j hj
          have hjk : (j == k) = false := beq_eq_false_iff_ne.2 (by omega)
          rw [List.zipIdx_cons, List.countP_cons, List.countP_cons, ih (j + 1) (by omega)]
          simp only [hpush, hjk, Bool.or_false]
      rw [hrest l (k + 1) (by omega)]
      simp only [hs, hpush, beq_self_eq_true, Bool.or_true, Bool.not_true, Bool.and_false, Bool.not_false, Bool.and_true]
      simp
    · have hlt : k < i := by omega
      have hki : (k == i) = false := beq_eq_false_iff_ne.2 (by omega)
      have h' : l[i - (k + 1)]? = some b := by
        rw [show i - k = (i - (k + 1)) + 1 by omega, List.getElem?_cons_succ] at h
        exact h
      rw [count_push f seen b i hs l (k + 1) (by omega) h']
      simp only [hpush, hki, Bool.or_false]
      omega
theorem toCome_push {bs cs : List Nat} {seen : Array Nat} {b i : Nat} (hs : seen.contains i = false) (hb : bs[i]? = some b) : toCome bs cs seen = toCome bs cs (seen.push i) + if b ∈ cs then 1 else 0 := by
  have := count_push (fun x => decide (x ∈ cs)) seen b i hs bs 0 (Nat.zero_le _) (by simpa using hb)
  simpa [toCome] using this
theorem ents_mem {bs : List Nat} {e : MapEntry} (he : e ∈ (ents bs).toArray.toList) : ∃ i b, bs[i]? = some b ∧ e = ⟨pn b, .agg #[], i⟩ := by
  obtain ⟨i, hi⟩ := List.getElem?_of_mem he
  change (ents bs)[i]? = some e at hi
  rw [ents_at] at hi
  obtain ⟨b, hb, rfl⟩ := Option.map_eq_some_iff.1 hi
  exact ⟨i, b, hb, rfl⟩
theorem toCome_end {bs cs : List Nat} {seen : Array Nat} (h : (leftOf (ents bs).toArray seen).size = 0) : toCome bs cs seen = 0 := by
  have hall := all_seen _ _ h
  unfold toCome
  rw [List.countP_eq_zero]
  rintro ⟨b, i⟩ hp
  have hb : bs[i]? = some b := by
    have := List.mem_zipIdx_iff_getElem?.1 hp
    simpa using this
  have hm : (⟨pn b, .agg #[], i⟩ : MapEntry) ∈ (ents bs).toArray.toList := by
    exact List.mem_of_getElem? (l := ents bs) (i := i) (by rw [ents_at, hb]; rfl)
  have h3 : seen.contains i = true := hall _ hm
  show ¬ (decide (b ∈ cs) && !seen.contains i) = true
  rw [h3]
  simp
theorem ents_born (bs : List Nat) : ((ents bs).toArray.toList.map (·.born)).Nodup := by
  show ((ents bs).map (·.born)).Nodup
  have : (ents bs).map (·.born) = List.range bs.length := by
    simp only [ents, List.map_map]
    apply List.ext_getElem?
    intro i
    simp only [List.getElem?_map, List.getElem?_zipIdx, List.getElem?_range]
    by_cases hi : i < bs.length
    · simp [hi]
    · simp [hi]
  rw [this]
  exact List.nodup_range
theorem ents_old (bs : List Nat) : ∀ x ∈ (ents bs).toArray.toList, x.born < bs.length := fun x hx => by
  obtain ⟨i, b, hb, rfl⟩ := ents_mem hx
  exact (List.getElem?_eq_some_iff.1 hb).1
/-- len(s). -/
theorem len_set {w : World} {m : Nat} {bs : List Nat} (hs : SetAt w m bs) (ty : TypeId) : (Builtin.len_ #[123] ty #[.map (some m)]).run Tryz.prog w = .ok (.int .i64 bs.length) w := by
  have hs' : w.heap[m]? = some (.map (ents bs).toArray bs.length) := hs
  simp [Builtin.len_, run_underlying Tryz.underlying123, MapKept.run_getObj_map hs', goInt, Result.andThen, ents_len]
theorem rangeLeft_eq {w : World} {m r : Nat} {es : Array MapEntry} {c : Nat} {x : Option Nat} {since c0 : Nat} {seen : Array Nat} (hb : w.heap[m]? = some (.map es c)) (hr : w.heap[r]? = some (.mapIter x since seen c0)) : w.rangeLeft m r = (leftOf es seen).size := by
  simp only [World.rangeLeft, hb, hr]
/-- What tree.Nodes answers. -/
def NodesPost (w : World) (T U : TO) (r : Ending) (w' : World) : Prop :=
  ∃ bs : List Nat, r = .returned (.tuple #[.int .i64 bs.length, .int .i64 (bs.filter fun x => decide (x ∈ tids U)).length]) ∧ bs.Nodup ∧ (∀ x, x ∈ bs ↔ x ∈ tids T) ∧ bs.length ≤ (tids T).length ∧ Below w.heap.size w w'

set_option maxHeartbeats 2000000 in
set_option maxRecDepth 100000 in
theorem nodes_two {w : World} {T U : TO} (ht : TreeIs w T) (hu : TreeIs w U) (hl : (tl T).length ≤ 1000000) : Calls Tryz.prog 24 #[tb T, tb U] w (NodesPost w T U) := by
  have hmm := @run_makeMap Tryz.prog
  have HT := Lib.hid ht
  have HU := Lib.hid hu
  have HLEN := Lib.hid (Nat.le_trans (tids_len ht) (Nat.mul_le_mul_left 2 hl))
  clear ht hu hl
  go_enter Tryz.func24, Tryz.ntmps24
  go_wp2_with fail
  have hb1 : Below w.heap.size w ((w.alloc (.map #[] 0)).alloc (.map #[] 0)) := ((Below.refl _ _).alloc (Nat.le_refl _) _).alloc (by simp) _
  have e1 : (w.alloc (.map #[] 0)).heap.size = w.heap.size + 1 := by simp
  have hm1 : SetAt ((w.alloc (.map #[] 0)).alloc (.map #[] 0)) w.heap.size [] := by
    unfold SetAt
    rw [heap_alloc_old _ _ (by rw [e1]; omega), heap_alloc_new]
    rfl
  have hm2 : SetAt ((w.alloc (.map #[] 0)).alloc (.map #[] 0)) (w.heap.size + 1) [] := by
    unfold SetAt
    rw [← e1, heap_alloc_new]
    rfl
  have hsz2 : w.heap.size + 1 < ((w.alloc (.map #[] 0)).alloc (.map #[] 0)).heap.size := by simp
  obtain ⟨m1, hm1e⟩ : ∃ m, m = w.heap.size := ⟨_, rfl⟩
  obtain ⟨m2, hm2e⟩ : ∃ m, m = w.heap.size + 1 := ⟨_, rfl⟩
  rw [← hm2e] at hm2 hsz2 ⊢
  rw [show Value.map (some w.heap.size) = Value.map (some m1) by rw [hm1e]]
  rw [← hm1e] at hm1
  have hne : m1 ≠ m2 := by omega
  have hge1 : w.heap.size ≤ m1 := by omega
  have hge2 : w.heap.size ≤ m2 := by omega
  generalize (w.alloc (.map #[] 0)).alloc (.map #[] 0) = W1 at hb1 hm1 hm2 hsz2 ⊢
  clear hm1e hm2e e1 hmm
  refine (add_any HT.out ⟨hb1, hm1, hge1, fun x hx => by cases hx⟩).mono ?_
  rintro r wA ⟨rfl, bs, hpA, hndA, hmemA, hgA⟩
  have hm2A : SetAt wA m2 [] := (hgA.block m2 hsz2 fun e => hne (Option.some.inj e).symm).trans hm2
  have HPA := Lib.hid hpA
  have HM2A := Lib.hid hm2A
  have HNA := Lib.hid (hndA List.nodup_nil)
  have HMA := Lib.hid hmemA
  have HNE := Lib.hid hne
  have HGE1 := Lib.hid hge1
  have HGE2 := Lib.hid hge2
  clear hb1 hm1 hm2 hsz2 hpA hndA hmemA hgA hm2A hne hge1 hge2
  go_wp2_with fail
  refine (add_any HU.out ⟨HPA.out.below, HM2A.out, HGE2.out, fun x hx => by cases hx⟩).mono ?_
  rintro r wB ⟨rfl, cs, hpB, hndB, hmemB, hgB⟩
  have HPB := Lib.hid hpB
  have HMB := Lib.hid hmemB
  have HSB : Hid (SetAt wB m1 bs) := Lib.hid ((hgB.block m1 HPA.out.lt fun e => HNE.out (Option.some.inj e)).trans HPA.out.at_)
  have hrg := run_range_map (P := Tryz.prog) wB 123 25 125 m1 (ents bs).toArray bs.length Tryz.underlying123 HSB.out
  have HR0 : Hid ((wB.alloc (.mapIter (some m1) bs.length #[] bs.length)).heap[wB.heap.size]? = some (.mapIter (some m1) bs.length #[] bs.length)) := Lib.hid (heap_alloc_new _ _)
  have HS1 : Hid (SetAt (wB.alloc (.mapIter (some m1) bs.length #[] bs.length)) m1 bs) := Lib.hid ((heap_alloc_old _ _ (Array.getElem?_eq_some_iff.1 HSB.out).1).trans HSB.out)
  have HS2 : Hid (SetAt (wB.alloc (.mapIter (some m1) bs.length #[] bs.length)) m2 cs) := Lib.hid ((heap_alloc_old _ _ HPB.out.lt).trans HPB.out.at_)
  have HBW : Hid (Below w.heap.size w (wB.alloc (.mapIter (some m1) bs.length #[] bs.length))) := Lib.hid (HPB.out.below.alloc HPB.out.below.size _)
  have HGR : Hid (w.heap.size ≤ wB.heap.size ∧ wB.heap.size ≠ m1 ∧ wB.heap.size ≠ m2) := Lib.hid ⟨HPB.out.below.size, fun e => by
    have := (Array.getElem?_eq_some_iff.1 HSB.out).1
    omega, fun e => by
    have := HPB.out.lt
    omega⟩
  clear hpB hndB hmemB hgB
  go_wp2_with fail
  obtain ⟨r, hr⟩ : ∃ r, r = wB.heap.size := ⟨_, rfl⟩
  rw [← hr] at HR0 HGR ⊢
  clear hr
  go_loopw [5] (fun s5 wr => ∃ (seen : Array Nat) (c0 k : Nat), s5 = .int .i64 k ∧ wr.heap[r]? = some (.mapIter (some m1) bs.length seen c0) ∧ bs.length ≤ c0 ∧ SetAt wr m1 bs ∧ SetAt wr m2 cs ∧ Below w.heap.size w wr ∧ k + toCome bs cs seen = (bs.filter fun x => decide (x ∈ cs)).length) (fun _ wr => wr.rangeLeft m1 r)
  case atStart => exact ⟨#[], _, 0, rfl, HR0.out, Nat.le_refl _, HS1.out, HS2.out, HBW.out, by rw [toCome_start]; omega⟩
  case round =>
    obtain ⟨seen, c0, k, rfl, hrr, hc0, hs1, hs2, hbw, htot⟩ := hrel
    have hkb : k ≤ 2000000 := by
      have h1 := List.length_filter_le (fun x => decide (x ∈ cs)) bs
      have h2 := nodup_sub HNA.out fun x hx => ((HMA.out x).1 hx).resolve_left (by simp)
      have h3 := HLEN.out
      omega
    have HC0 := Lib.hid hc0
    have HS1 := Lib.hid hs1
    have HS2 := Lib.hid hs2
    have HBW := Lib.hid hbw
    have HTOT := Lib.hid htot
    have HRR := Lib.hid hrr
    clear hc0 hs1 hs2 hbw htot hrr
    rcases run_next_at (P := Tryz.prog) wr 0 r m1 bs.length c0 seen (ents bs).toArray bs.length HRR.out HS1.out (ents_old bs) HC0.out with ⟨h0, hrun⟩ | ⟨e, he, w1, hw1, hrun⟩
    · have hnx : ∀ ty, (Instr.next (.pointer (some ⟨r, 0, none⟩)) false ty).run Tryz.prog wr = .ok (.tuple #[.bool false]) wr := fun ty => hrun
      have hls := fun ty => len_set HS1.out ty
      have hke : k = (bs.filter fun x => decide (x ∈ cs)).length := by
        have := HTOT.out
        rw [toCome_end h0] at this
        omega
      have HPOST : Hid (NodesPost w T U (.returned (.tuple #[.int .i64 bs.length, .int .i64 k])) wr) := Lib.hid ⟨bs, by
        rw [hke]
        have : (fun x => decide (x ∈ cs)) = fun x => decide (x ∈ tids U) := by
          funext x
          congr 1
          rw [HMB.out]
          simp
        rw [this], HNA.out, fun x => by rw [HMA.out]; simp, nodup_sub HNA.out fun x hx => ((HMA.out x).1 hx).resolve_left (by simp), HBW.out⟩
      clear hrun h0 hke
      go_wp2
      go_ret2
      exact HPOST.out
    · obtain ⟨hem, hsn⟩ := mem_left he
      obtain ⟨i, b, hbi, rfl⟩ := ents_mem hem
      have hlf := left_shrinks _ _ _ he
      have hh1 : w1.heap = wr.heap := by rcases hw1 with rfl | rfl <;> rfl
      have hbw1 : Below w.heap.size w w1 := by
        rcases hw1 with rfl | rfl
        · exact HBW.out
        · exact HBW.out.drew
      have hr1 : w1.heap[r]? = some (.mapIter (some m1) bs.length seen c0) := by rw [hh1]; exact HRR.out
      have hs11 : SetAt w1 m1 bs := by unfold SetAt; rw [hh1]; exact HS1.out
      have hs21 : SetAt w1 m2 cs := by unfold SetAt; rw [hh1]; exact HS2.out
      simp only at hrun hsn hlf
      obtain ⟨w2, hw2⟩ : ∃ w2, w2 = setBlock w1 r (.mapIter (some m1) bs.length (seen.push i) bs.length) := ⟨_, rfl⟩
      have hr2 : w2.heap[r]? = some (.mapIter (some m1) bs.length (seen.push i) bs.length) := by rw [hw2]; exact setBlock_at hr1
      have hs12 : SetAt w2 m1 bs := by unfold SetAt; rw [hw2, setBlock_other _ _ _ _ (Ne.symm HGR.out.2.1)]; exact hs11
      have hs22 : SetAt w2 m2 cs := by unfold SetAt; rw [hw2, setBlock_other _ _ _ _ (Ne.symm HGR.out.2.2)]; exact hs21
      have hbw2 : Below w.heap.size w w2 := by
        rw [hw2]
        exact hbw1.grown (grown_setBlock _ _ _) hbw1.size fun j hj => by cases hj; exact HGR.out.1
      rw [← hw2] at hrun
      have hnx : ∀ ty, (Instr.next (.pointer (some ⟨r, 0, none⟩)) false ty).run Tryz.prog wr = .ok (.tuple #[.bool true, pn b, .agg #[]]) w2 := fun ty => hrun
      have hen := run_entry_at (P := Tryz.prog) w2 r m1 bs.length seen (ents bs).toArray bs.length _ hr2 hs12 hem (ents_born bs)
      obtain ⟨M, hM⟩ := HPA.out.nodes b (List.mem_of_getElem? hbi)
      have hhas := has_set hs22 (hM.below hbw2) fun x hx => by
        obtain ⟨N, hN⟩ := HPB.out.nodes x hx
        exact ⟨N, hN.below hbw2⟩
      have hto := toCome_push (cs := cs) hsn hbi
      have hlt1 : m1 < w2.heap.size := (Array.getElem?_eq_some_iff.1 hs12).1
      have hlt2 : m2 < w2.heap.size := (Array.getElem?_eq_some_iff.1 hs22).1
      have hltr : r < w2.heap.size := (Array.getElem?_eq_some_iff.1 hr2).1
      have HM0 : Hid (wr.rangeLeft m1 r = (leftOf (ents bs).toArray seen).size) := Lib.hid (rangeLeft_eq HS1.out HRR.out)
      have HALL : Hid (∀ o, (w2.alloc o).heap[r]? = some (.mapIter (some m1) bs.length (seen.push i) bs.length) ∧ SetAt (w2.alloc o) m1 bs ∧ SetAt (w2.alloc o) m2 cs ∧ Below w.heap.size w (w2.alloc o) ∧ (w2.alloc o).rangeLeft m1 r < wr.rangeLeft m1 r) := Lib.hid fun o => by
        have g1 := (heap_alloc_old w2 o hltr).trans hr2
        have g2 : SetAt (w2.alloc o) m1 bs := (heap_alloc_old w2 o hlt1).trans hs12
        refine ⟨g1, g2, (heap_alloc_old w2 o hlt2).trans hs22, hbw2.alloc hbw2.size _, ?_⟩
        rw [HM0.out, rangeLeft_eq g2 g1]
        exact hlf
      by_cases hbc : b ∈ cs
      · rw [decide_eq_true hbc] at hhas
        rw [if_pos hbc] at hto
        have HK : Hid (k + 1 + toCome bs cs (seen.push i) = (bs.filter fun x => decide (x ∈ cs)).length) := Lib.hid (by rw [← HTOT.out, hto]; omega)
        clear he hem hsn hbi hlf hh1 hbw1 hr1 hs11 hs21 hw2 hr2 hs12 hs22 hbw2 hrun hM hto hlt1 hlt2 hltr hw1 hbc
        go_wp2
        obtain ⟨g1, g2, g3, g4, g5⟩ := HALL.out (.cells #[] 125)
        exact ⟨⟨_, _, k + 1, by push_cast; rfl, g1, Nat.le_refl _, g2, g3, g4, HK.out⟩, g5⟩
      · rw [decide_eq_false hbc] at hhas
        rw [if_neg hbc] at hto
        have HK : Hid (k + toCome bs cs (seen.push i) = (bs.filter fun x => decide (x ∈ cs)).length) := Lib.hid (by rw [← HTOT.out, hto]; omega)
        clear he hem hsn hbi hlf hh1 hbw1 hr1 hs11 hs21 hw2 hr2 hs12 hs22 hbw2 hrun hM hto hlt1 hlt2 hltr hw1 hbc
        go_wp2
        obtain ⟨g1, g2, g3, g4, g5⟩ := HALL.out (.cells #[] 125)
        exact ⟨⟨_, _, k, rfl, g1, Nat.le_refl _, g2, g3, g4, HK.out⟩, g5⟩

end Go.Proofs.YtelenboncejdaaaGreatDoor
