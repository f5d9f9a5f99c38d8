/-
  Several texts in one: TreeRows, TreeSet. Each says what it proves, and under which conditions.
-/
import Derived.Test.YtmpmeifpfmobfaaGreatDoorK9
import Derived.Maps.RangeWalk
import Derived.Maps.OwnSet

/-
  Rows whose elements are of one cell and whose spare cells are nil: append of one element, and what stays of trees; conditions stand at each.
-/
namespace Go.Proofs.YtmpmeifpfmobfaaGreatDoor
open Go.RowKit Go.Sort
set_option linter.unusedVariables false
set_option linter.unusedSimpArgs false

/-- A row of one-cell elements in a block of the call's own; what is spare is z. -/
def RowZ (t : TypeId) (z : Value) (w : World) (base : Nat) (v : Value) (xs : List Value) : Prop :=
  (v = .slice none 0 0 ∧ xs = []) ∨ ∃ g cap, v = .slice (some ⟨g, 0, none⟩) xs.length cap ∧ base ≤ g ∧ w.heap[g]? = some (.cells (xs ++ List.replicate (cap - xs.length) z).toArray t (0, 0)) ∧ xs.length ≤ cap ∧ cap ≤ maxLen
/-- At most spare cells of rows of type t have turned. -/
structure Soft (t : TypeId) (z : Value) (w w' : World) : Prop where
  size : w.heap.size ≤ w'.heap.size
  cell : ∀ a u, w.cell? a = some u → u ≠ z → w'.cell? a = some u
  block : ∀ (b : Nat) (cs : Array Value) (t' : TypeId), w.heap[b]? = some (.cells cs t' (0, 0)) → t' ≠ t → w'.heap[b]? = w.heap[b]?
theorem Soft.of_below {t : TypeId} {z : Value} {w w' : World} (h : Below w.heap.size w w') : Soft t z w w' :=
  ⟨h.size, fun a u hu _ => by
    have hlt : a.block < w.heap.size := World.block_lt_of_cell? w a hu
    exact (h.cell hlt).trans hu, fun b cs t' hb _ => h.block b (lt_of_block hb)⟩
section
variable {t : TypeId} {z : Value} {w w' : World}
theorem NodeAt.soft {b : Nat} {N : NR} (h : NodeAt w b N) (hs : Soft t z w w') (ht : 115 ≠ t) : NodeAt w' b N := h.keep (hs.block b _ _ h ht)
theorem Es.soft {A : Option Addr} {l : List Ent} (h : Es w A l) (hs : Soft t z w w') (hz : ∀ s, Value.string s ≠ z) : Es w' A l := fun h0 => by
  obtain ⟨ad, e, hlt, hc⟩ := h h0
  refine ⟨ad, e, Nat.lt_of_lt_of_le hlt hs.size, fun j x hx => hs.cell _ _ (hc j x hx) fun e => ?_⟩
  have : ∀ (l : List Ent) x, x ∈ ecells l → ∃ s, x = Value.string s := by
    intro l
    induction l with
    | nil => intro x hx; simp [ecells] at hx
    | cons y l ih =>
      intro x hx
      simp only [ecells, List.mem_cons] at hx
      rcases hx with rfl | rfl | hx
      · exact ⟨_, rfl⟩
      · exact ⟨_, rfl⟩
      · exact ih x hx
  obtain ⟨s, hs'⟩ := this l x (List.mem_of_getElem? hx)
  exact hz s (hs' ▸ e)
theorem Ls.soft {A : Option Addr} {ks : List ST} (h : Ls pcP w A (ptrS ks)) (hs : Soft t z w w') (hz : ∀ a, Value.pointer (some a) ≠ z) : Ls pcP w' A (ptrS ks) := fun h0 => by
  obtain ⟨ad, e, hlt, hc⟩ := h h0
  refine ⟨ad, e, Nat.lt_of_lt_of_le hlt hs.size, fun j x hx => hs.cell _ _ (hc j x hx) fun e => ?_⟩
  obtain ⟨p, hp, hm⟩ := List.mem_flatMap.1 (List.mem_of_getElem? hx)
  simp only [pcP, List.mem_singleton] at hm
  simp only [ptrS, ptrs, nbs, List.map_map, List.mem_map, Function.comp] at hp
  obtain ⟨k, _, rfl⟩ := hp
  exact hz _ (hm ▸ e)
theorem Tr.soft (hs : Soft t z w w') (ht : 115 ≠ t) (hz : ∀ s, Value.string s ≠ z) (hp : ∀ a, Value.pointer (some a) ≠ z) : ∀ {h : Nat} {s : ST}, Tr w h s → Tr w' h s
  | 0, s, k => ⟨k.1.soft hs ht, k.2.1, k.2.2.1.soft hs hz, k.2.2.2⟩
  | h + 1, s, ⟨ks, t1, t2, t3, t4, t5, t6, t7, t8⟩ => ⟨ks, t1.soft hs ht, t2, t3.soft hs hp, t4, t5, t6, fun k hk => ⟨Tr.soft hs ht hz hp (t7 k hk).1, (t7 k hk).2⟩, t8⟩
theorem TreeIs.soft {T : TO} (h : TreeIs w T) (hs : Soft t z w w') (ht : 115 ≠ t) (hz : ∀ s, Value.string s ≠ z) (hp : ∀ a, Value.pointer (Option.some a) ≠ z) : TreeIs w' T := fun x hx => (h x hx).soft hs ht hz hp
theorem RowZ.below {base : Nat} {v : Value} {xs : List Value} (h : RowZ t z w base v xs) (hb : Below w.heap.size w w') : RowZ t z w' base v xs := by
  rcases h with h | ⟨g, cap, h1, h2, h3, h4⟩
  · exact .inl h
  · exact .inr ⟨g, cap, h1, h2, (hb.block g (lt_of_block h3)).trans h3, h4⟩
theorem RowZ.soft {t' : TypeId} {z' : Value} {base : Nat} {v : Value} {xs : List Value} (h : RowZ t' z' w base v xs) (hs : Soft t z w w') (ht : t' ≠ t) : RowZ t' z' w' base v xs := by
  rcases h with h | ⟨g, cap, h1, h2, h3, h4⟩
  · exact .inl h
  · exact .inr ⟨g, cap, h1, h2, (hs.block g _ _ h3 ht).trans h3, h4⟩
end
/-- An element of the row. -/
theorem RowZ.at_ {t : TypeId} {z : Value} {w : World} {base : Nat} {v : Value} {xs : List Value} (h : RowZ t z w base v xs) {i : Nat} {u : Value} (hu : xs[i]? = some u) : ∃ ad c, v = .slice (some ad) xs.length c ∧ w.cell? (ad.add i) = some u := by
  rcases h with ⟨_, rfl⟩ | ⟨g, cap, h1, h2, h3, h4⟩
  · simp at hu
  · refine ⟨⟨g, 0, none⟩, cap, h1, ?_⟩
    rw [show (⟨g, 0, none⟩ : Addr).add i = ⟨g, i, none⟩ by unfold Addr.add; split <;> simp_all]
    refine cell_at h3 i u ?_
    have hi := (List.getElem?_eq_some_iff.1 hu).1
    simp only [List.getElem?_toArray]
    rw [List.getElem?_append_left hi]
    exact hu
theorem RowZ.form {t : TypeId} {z : Value} {w : World} {base : Nat} {v : Value} {xs : List Value} (h : RowZ t z w base v xs) : ∃ A c, v = .slice A xs.length c := by
  rcases h with ⟨rfl, rfl⟩ | ⟨g, cap, h1, _⟩
  · exact ⟨none, 0, rfl⟩
  · exact ⟨_, _, h1⟩

/-- append(v, u), where u lies alone in block h. -/
theorem append_z (ts t ty : TypeId) (z : Value) (by_ : Nat) (hu : ∃ d, Tryz.prog.underlying ts = some d ∧ d = .slice t) (hi : (Tryz.prog.info? t).map (fun i => (i.zero, i.size, i.bytes)) = some (some z, 1, by_)) (hz : z.cells = #[z]) (hz1 : z.oneCell' = true) (hby : by_ ≤ 1000)
    {w : World} {base : Nat} {v : Value} {xs : List Value} (hown : RowZ t z w base v xs) (u : Value) (hu1 : u.oneCell' = true) {h : Nat} (hh : w.heap[h]? = some (.cells #[u] t (0, 0))) (hb : xs.length ≤ 1000) (hbase : base ≤ w.heap.size) :
    ∃ v' w', (Builtin.append_ #[ts, ts] ty #[v, .slice (some ⟨h, 0, none⟩) 1 1]).run Tryz.prog w = .ok v' w' ∧ RowZ t z w' base v' (xs ++ [u]) ∧ Soft t z w w' ∧ w.grownBy w' v.ownBlock := by
  obtain ⟨i0, hi0, hz0, hs1, hb1⟩ := info_parts hi
  obtain ⟨d, hu, rfl⟩ := hu
  have hnews : ∀ j x, [u][j]? = some x → w.cell? ((⟨h, 0, none⟩ : Addr).add j) = some x := fun j x hj => by
    rw [show (⟨h, 0, none⟩ : Addr).add j = ⟨h, j, none⟩ by unfold Addr.add; split <;> simp_all, cell_of_row w h j _ _ _ hh]
    simpa using hj
  have hzc : ∀ n, Builtin.zeroCells z.cells n = (List.replicate n z).toArray := fun n => by
    unfold Builtin.zeroCells
    rw [hz]
    apply Array.ext
    · simp
    · intro i h1 h2
      simp [Nat.mod_one]
  have bel : ∀ o, Below w.heap.size w (w.drew.alloc o) := fun o => (Below.refl _ _).drew.alloc (Nat.le_refl _) o
  rcases hown with ⟨rfl, rfl⟩ | ⟨g, cap, rfl, hbg, hg, hnc, hcm⟩
  · have hr := run_append_nil (P := Tryz.prog) w ts ty t i0 z hu hi0 hz0 ⟨h, 0, none⟩ 1 1 [u] (by rw [hs1]; rfl) hnews (by omega) (by omega) (by rw [hb1]; omega)
    have hge := grownCap_ge w 1 0 t
    have hcm := grownCap_le_maxLen w 1 0 t (by simp only [maxLen]; omega)
    refine ⟨_, _, hr, .inr ⟨w.heap.size, grownCap w 1 0 t, rfl, hbase, ?_, hge, hcm⟩, Soft.of_below (bel _), ⟨rfl, rfl, rfl, (bel _).size, fun k hk _ => (bel _).block k hk⟩⟩
    rw [hzc]
    have e1 : [u].toArray ++ (List.replicate (grownCap w 1 0 t - 1) z).toArray = ([] ++ [u] ++ List.replicate (grownCap w 1 0 t - ([] ++ [u] : List Value).length) z).toArray := by simp
    rw [e1]
    exact heap_alloc_new w.drew _
  · by_cases hroom : xs.length + 1 ≤ cap
    · have hr := run_append_room (P := Tryz.prog) w ts ty t i0 hu hi0 g xs.length cap _ hg ⟨h, 0, none⟩ 1 1 [u] (by rw [hs1]; rfl) hnews (by intro x hx; rw [List.mem_singleton.1 hx]; exact hu1) hroom (by rw [hs1]; simp; omega)
      rw [hs1] at hr
      have hnew : (((xs ++ List.replicate (cap - xs.length) z).toArray.toList.take (xs.length * 1)) ++ [u] ++ ((xs ++ List.replicate (cap - xs.length) z).toArray.toList.drop (xs.length * 1 + [u].length))) = (xs ++ [u]) ++ List.replicate (cap - (xs ++ [u]).length) z := by
        simp only [Nat.mul_one, List.length_singleton, List.length_append]
        rw [List.take_left, ← List.drop_drop, List.drop_left, List.drop_replicate, Nat.sub_sub]
      rw [hnew] at hr
      have hold : ∀ (j : Nat) (x : Value), (xs ++ List.replicate (cap - xs.length) z)[j]? = some x → x ≠ z → j < xs.length := fun j x hx hxz => by
        rcases Nat.lt_or_ge j xs.length with h1 | h1
        · exact h1
        · rw [List.getElem?_append_right h1] at hx
          exact absurd (List.eq_of_mem_replicate (List.mem_of_getElem? hx)) hxz
      refine ⟨_, _, hr, .inr ⟨g, cap, by simp, hbg, setRow_heap _ _ _ _ _ _ hg, by simpa using hroom, hcm⟩, ⟨by simp [World.setRow], fun a x hx hxz => ?_, fun b cs t' hb' ht' => ?_⟩, ?_⟩
      · by_cases hab : a.block = g
        · unfold World.cell? at hx ⊢
          rw [hab, hg] at hx
          rw [hab, setRow_heap _ _ _ _ _ _ hg]
          simp only at hx ⊢
          split at hx
          · cases hx
          · rename_i hsp
            rw [if_neg hsp]
            have hx' : (xs ++ List.replicate (cap - xs.length) z)[a.off]? = some x := by simpa using hx
            have hlt := hold _ _ hx' hxz
            rw [List.getElem?_append_left hlt] at hx'
            have : (xs ++ [u] ++ List.replicate (cap - (xs ++ [u]).length) z)[a.off]? = some x := by
              rw [List.append_assoc, List.getElem?_append_left hlt]
              exact hx'
            simpa using this
        · rw [cell_setRow_other w g _ a hab]
          exact hx
      · refine setRow_other w g b _ fun e => ?_
        subst e
        rw [hg] at hb'
        simp only [Option.some.injEq, Obj.cells.injEq] at hb'
        exact ht' hb'.2.1.symm
      · exact ⟨rfl, rfl, rfl, by simp [World.setRow], fun k hk hne => setRow_other w g k _ fun e => hne (by rw [e]; rfl)⟩
    · have holds : ∀ j x, xs[j]? = some x → w.cell? ((⟨g, 0, none⟩ : Addr).add j) = some x := fun j x hj => by
        rw [show (⟨g, 0, none⟩ : Addr).add j = ⟨g, j, none⟩ by unfold Addr.add; split <;> simp_all]
        refine cell_at hg j x ?_
        simp only [List.getElem?_toArray]
        rw [List.getElem?_append_left (List.getElem?_eq_some_iff.1 hj).1]
        exact hj
      have hbytes : (xs.length + 1) * i0.bytes ≤ 140737488355328 := by
        have : (xs.length + 1) * i0.bytes ≤ 1001 * 1000 := Nat.mul_le_mul (by omega) (by rw [hb1]; exact hby)
        omega
      have hr := run_append_grow (P := Tryz.prog) w ts ty t i0 z hu hi0 hz0 ⟨g, 0, none⟩ xs.length cap xs (by rw [hs1]; omega) holds ⟨h, 0, none⟩ 1 1 [u] (by rw [hs1]; rfl) hnews (by omega) (by omega) (growslice_fits (by omega) hbytes)
      have hge := grownCap_ge w (xs.length + 1) cap t
      have hcm' := grownCap_le_maxLen w (xs.length + 1) cap t (by simp only [maxLen]; omega)
      refine ⟨_, _, hr, .inr ⟨w.heap.size, grownCap w (xs.length + 1) cap t, by simp, hbase, ?_, by simpa using hge, hcm'⟩, Soft.of_below (bel _), ⟨rfl, rfl, rfl, (bel _).size, fun k hk _ => (bel _).block k hk⟩⟩
      rw [hzc]
      have e1 : xs.toArray ++ [u].toArray ++ (List.replicate (grownCap w (xs.length + 1) cap t - (xs.length + 1)) z).toArray = (xs ++ [u] ++ List.replicate (grownCap w (xs.length + 1) cap t - (xs ++ [u]).length) z).toArray := by simp
      rw [e1]
      exact heap_alloc_new w.drew _

end Go.Proofs.YtmpmeifpfmobfaaGreatDoor

/-
  Sets of nodes (map[*node.Node]struct{}): what stands in the map's block, a store, a look-up; conditions: the keys are nodes in memory.
-/
namespace Go.Proofs.YtmpmeifpfmobfaaGreatDoor
open Go.RowKit Go.Sort
open Go.ChangeMaps (setBlock)
set_option linter.unusedVariables false
set_option linter.unusedSimpArgs false

/-- The entries of a set, in the order in which they came. -/
def ents (bs : List Nat) : List MapEntry := bs.zipIdx.map fun p => ⟨pn p.1, .agg #[], p.2⟩
def SetAt (w : World) (m : Nat) (bs : List Nat) : Prop := w.heap[m]? = some (.map (ents bs).toArray bs.length)
def Nodes' (w : World) (bs : List Nat) : Prop := ∀ x ∈ bs, ∃ N, NodeAt w x N
theorem ents_len (bs : List Nat) : (ents bs).length = bs.length := by simp [ents]
theorem ents_at (bs : List Nat) (i : Nat) : (ents bs)[i]? = (bs[i]?).map fun b => ⟨pn b, .agg #[], i⟩ := by
  simp [ents, List.getElem?_zipIdx]
  cases bs[i]? <;> rfl
theorem ents_snoc (bs : List Nat) (b : Nat) : ents (bs ++ [b]) = ents bs ++ [⟨pn b, .agg #[], bs.length⟩] := by
  simp [ents, List.zipIdx_append]
theorem equal_pn {a b : Nat} {w : World} {M N : NR} (ha : NodeAt w a M) (hb : NodeAt w b N) : (Op.equal 25 (pn a) (pn b)).run Tryz.prog w = .ok (decide (a = b)) w := by
  have hi : (Tryz.prog.info? 115).map (·.size) = some 6 := by kernel_rfl
  obtain ⟨j, hj, hj6⟩ := Option.map_eq_some_iff.1 hi
  by_cases hne : a = b
  · subst hne
    have hs := run_sameAddr_same (P := Tryz.prog) (w := w) ⟨a, 0, none⟩
    have h : ∀ d : Nat, (Op.equalIn (d + 1) 25 (pn a) (pn a)).run Tryz.prog w = .ok true w := fun d => by
      simp [Op.equalIn, run_underlying Tryz.underlying25, sizeOf, typeInfo, hj, hj6, hs]
    simp [Op.equal, Op.maxDepth, h 9999]
  · have hab : (⟨a, 0, none⟩ : Addr) ≠ ⟨b, 0, none⟩ := fun e => hne (by cases e; rfl)
    have hs := run_sameAddr_other (P := Tryz.prog) (w := w) hab ha hb
    have h : ∀ d : Nat, (Op.equalIn (d + 1) 25 (pn a) (pn b)).run Tryz.prog w = .ok false w := fun d => by
      simp [Op.equalIn, run_underlying Tryz.underlying25, sizeOf, typeInfo, hj, hj6, hs]
    simp [Op.equal, Op.maxDepth, h 9999, hne]
theorem asking (b : Nat) (w : World) {M : NR} (hb : NodeAt w b M) : ∀ (l : List Nat) (k i : Nat), Nodes' w l →
    (b ∉ l ∧ (Instr.findAsking 25 (pn b) ((l.zipIdx k).map fun p => ⟨pn p.1, .agg #[], p.2⟩) i).run Tryz.prog w = .ok none w) ∨
    ∃ j, l[j]? = some b ∧ (Instr.findAsking 25 (pn b) ((l.zipIdx k).map fun p => ⟨pn p.1, .agg #[], p.2⟩) i).run Tryz.prog w = .ok (some (i + j, .agg #[])) w
  | [], k, i, _ => .inl ⟨by simp, by simp [Instr.findAsking]⟩
  | x :: l, k, i, h => by
    obtain ⟨N, hN⟩ := h x (List.mem_cons_self ..)
    have he := equal_pn hb hN
    by_cases hx : b = x
    · refine .inr ⟨0, by rw [hx]; rfl, ?_⟩
      rw [decide_eq_true hx] at he
      simp [Instr.findAsking, he]
    · rw [decide_eq_false hx] at he
      rcases asking b w hb l (k + 1) (i + 1) fun y hy => h y (List.mem_cons_of_mem _ hy) with ⟨h1, h2⟩ | ⟨j, h1, h2⟩
      · refine .inl ⟨by simp [hx, h1], ?_⟩
        simp only [List.zipIdx_cons, List.map_cons, Instr.findAsking, Sem.run_bind, he, Result.andThen_ok, Bool.false_eq_true, if_false]
        exact h2
      · refine .inr ⟨j + 1, by simpa using h1, ?_⟩
        simp only [List.zipIdx_cons, List.map_cons, Instr.findAsking, Sem.run_bind, he, Result.andThen_ok, Bool.false_eq_true, if_false]
        rw [h2]
        simp
        omega
theorem find_set {w : World} {bs : List Nat} {b : Nat} {M : NR} (hb : NodeAt w b M) (h : Nodes' w bs) :
    (b ∉ bs ∧ (Instr.findKey 25 (pn b) (ents bs)).run Tryz.prog w = .ok none w) ∨ ∃ j, bs[j]? = some b ∧ (Instr.findKey 25 (pn b) (ents bs)).run Tryz.prog w = .ok (some (j, .agg #[])) w := by
  cases bs with
  | nil =>
    refine .inl ⟨by simp, ?_⟩
    simp [Instr.findKey, run_underlying Tryz.underlying25, ents, Instr.findNow]
  | cons x l =>
    have hnow : ∀ d, Instr.findNow (.pointer d) (pn b) (ents (x :: l)) 0 = none := fun d => by
      simp [ents, Instr.findNow, Instr.sameNow]
    have := asking b w hb (x :: l) 0 0 h
    simp only [Nat.zero_add] at this
    rcases this with ⟨h1, h2⟩ | ⟨j, h1, h2⟩
    · refine .inl ⟨h1, ?_⟩
      simp only [Instr.findKey, Sem.run_bind, run_underlying Tryz.underlying25, Result.andThen_ok, hnow]
      exact h2
    · refine .inr ⟨j, h1, ?_⟩
      simp only [Instr.findKey, Sem.run_bind, run_underlying Tryz.underlying25, Result.andThen_ok, hnow]
      exact h2

/-- A set with one more. -/
def ins (bs : List Nat) (b : Nat) : List Nat := if b ∈ bs then bs else bs ++ [b]
theorem mem_ins {bs : List Nat} {b x : Nat} : x ∈ ins bs b ↔ x ∈ bs ∨ x = b := by
  unfold ins
  split
  · rename_i h
    exact ⟨.inl, fun hx => hx.elim id fun e => e ▸ h⟩
  · simp
theorem ins_nodup {bs : List Nat} {b : Nat} (h : bs.Nodup) : (ins bs b).Nodup := by
  unfold ins
  split
  · exact h
  · rename_i hb
    refine List.nodup_append.2 ⟨h, by simp, fun x hx y hy => ?_⟩
    rw [List.mem_singleton.1 hy]
    exact fun e => hb (e ▸ hx)
theorem setBlock_at {w : World} {m : Nat} {o o' : Obj} (h : w.heap[m]? = some o) : (setBlock w m o').heap[m]? = some o' := by
  have hlt : m < w.heap.size := (Array.getElem?_eq_some_iff.1 h).1
  simp [setBlock, hlt]
theorem setBlock_other (w : World) (m k : Nat) (o : Obj) (h : k ≠ m) : (setBlock w m o).heap[k]? = w.heap[k]? := by
  simp [setBlock, Array.getElem?_setIfInBounds_ne (Ne.symm h)]
theorem grown_setBlock (w : World) (m : Nat) (o : Obj) : w.grownBy (setBlock w m o) (some m) := ⟨rfl, rfl, rfl, by simp [setBlock], fun k _ hne => setBlock_other w m k o fun e => hne (by rw [e])⟩
theorem run_setObj_map {P : Program} {w : World} {r : Nat} {es : Array MapEntry} {c : Nat} (hr : w.heap[r]? = some (.map es c)) (o' : Obj) (ho : ∃ es' c', o' = .map es' c') : (setObj r o').run P w = .ok () (setBlock w r o') := by
  obtain ⟨es', c', rfl⟩ := ho
  simp [setObj, Sem.run, hr, setBlock]
theorem check_pn' (em : Bool) (v : Value) (w : World) (n : Nat) : (Instr.checkKey em (n + 1) 25 v).run Tryz.prog w = .ok () w := by
  simp [Instr.checkKey, run_underlying Tryz.underlying25]
theorem check_pn (em : Bool) (v : Value) (w : World) : (Instr.checkKey em 10000 25 v).run Tryz.prog w = .ok () w := check_pn' em v w 9999
theorem same_pn (a : Option Addr) : ∀ n : Nat, Instr.sameBits n (.pointer a) (.pointer a) = true := fun n => by cases n <;> simp [Instr.sameBits]
theorem stays_pn (b : Nat) (w : World) : (Instr.keyThatStays (pn b) (pn b)).run Tryz.prog w = .ok (pn b) w := by
  have h : Instr.keyThatStays (pn b) (pn b) = (pure (pn b) : Sem Value) := by
    unfold Instr.keyThatStays pn
    rw [if_pos (same_pn _ 10000)]
  rw [h, Sem.run_pure]
theorem modify_same (bs : List Nat) (b j : Nat) (h : bs[j]? = some b) : (ents bs).toArray.modify j (fun e => { e with key := pn b, val := .agg #[] }) = (ents bs).toArray := by
  apply Array.ext_getElem?
  intro i
  rw [Array.getElem?_modify]
  split
  · rename_i e
    subst e
    simp [ents_at, h]
  · rfl
section
variable {P : Program} {w : World} {ops : Array Oper} {rest : List Oper} {o : Oper} {a : Act} {Q : Exit → Act → World → Prop}
theorem wpList_mapUpdate_ran (hg : o.guard = none) (m x v : Operand) (t : TypeId) (hop : o.op = Op.mapUpdate t m x v) (vm key val : Value) (hm : a.eval m = vm) (hx : a.eval x = key) (hv : a.eval v = val)
    {w' : World} (hrun : (Instr.mapUpdate t vm key val).run P w = .ok () w') (hK : wpList P ops Q rest (a.put o.dst undef) w') : wpList P ops Q (o :: rest) a w := by
  refine wpList_plain hg fun K' hK' => ?_
  unfold Oper.wp
  simp [execOp, hop, hm, hx, hv, hrun, Result.andThen]
  exact hK' _ _ hK
theorem wpList_lookup_ran (hg : o.guard = none) (m x : Operand) (t : TypeId) (c : Bool) (hop : o.op = Op.lookup t m x c) (vm key : Value) (hm : a.eval m = vm) (hx : a.eval x = key)
    {v : Value} (hrun : (Instr.lookup t vm key c).run P w = .ok v w) (hK : wpList P ops Q rest (a.put o.dst v) w) : wpList P ops Q (o :: rest) a w := by
  refine wpList_plain hg fun K' hK' => ?_
  unfold Oper.wp
  simp [execOp, hop, hm, hx, hrun, Result.andThen]
  exact hK' _ _ hK
theorem wpList_range_ran (hg : o.guard = none) (m : Operand) (t : TypeId) (hop : o.op = Op.range t m) (vm : Value) (hm : a.eval m = vm)
    {v : Value} {w' : World} (hrun : (Instr.range t vm).run P w = .ok v w') (hK : wpList P ops Q rest (a.put o.dst v) w') : wpList P ops Q (o :: rest) a w := by
  refine wpList_plain hg fun K' hK' => ?_
  unfold Oper.wp
  simp [execOp, hop, hm, hrun, Result.andThen]
  exact hK' _ _ hK
theorem wpList_next_ran (hg : o.guard = none) (it : Operand) (hop : o.op = Op.next it false) (vm : Value) (hm : a.eval it = vm)
    {v : Value} {w' : World} (hrun : ∀ ty, (Instr.next vm false ty).run P w = .ok v w') (hK : wpList P ops Q rest (a.put o.dst v) w') : wpList P ops Q (o :: rest) a w := by
  refine wpList_plain hg fun K' hK' => ?_
  unfold Oper.wp
  simp [execOp, hop, hm, hrun, Result.andThen]
  exact hK' _ _ hK
theorem wpList_entry_ran (hg : o.guard = none) (it : Operand) (hop : o.op = Op.entry it) (vm : Value) (hm : a.eval it = vm)
    {v : Value} (hrun : (Instr.entry vm).run P w = .ok v w) (hK : wpList P ops Q rest (a.put o.dst v) w) : wpList P ops Q (o :: rest) a w := by
  refine wpList_plain hg fun K' hK' => ?_
  unfold Oper.wp
  simp [execOp, hop, hm, hrun, Result.andThen]
  exact hK' _ _ hK
end

end Go.Proofs.YtmpmeifpfmobfaaGreatDoor
