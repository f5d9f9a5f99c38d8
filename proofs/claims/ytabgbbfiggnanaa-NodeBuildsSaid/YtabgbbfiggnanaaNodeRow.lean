/-
  A row of nodes that grows: pointers in a row of the call's own, nodes beside it; writing into it; what is known of leaves of one entry each; conditions stand at each.
-/
import Derived.Test.YtabgbbfiggnanaaNodeFew
import Derived.Test.YtabgbbfiggnanaaDrawnC
import Derived.Test.YtabgbbfiggnanaaGrow
namespace Go.Proofs.Ytabgbbfiggnanaa
open Go.RowKit Go.Sort
set_option linter.unusedVariables false
set_option linter.unusedSimpArgs false

/-- A row of pointers to nodes: the row is the call's own, the nodes lie elsewhere. -/
structure Row (w : World) (base : Nat) (v : Value) (L : List (Nat × NR)) : Prop where
  own : OwnP w base v (ptrs L)
  all : All w L
  apart : ∀ g, v.ownBlock = some g → ∀ x ∈ L, x.1 ≠ g
  base : base ≤ w.heap.size
theorem Row.nil_ (w : World) (base : Nat) (h : base ≤ w.heap.size) : Row w base (.slice none 0 0) [] := ⟨OwnL.nil_ _ _ _, fun x hx => (by cases hx), fun g hg => (by simp [Value.ownBlock] at hg), h⟩
theorem Row.below {w w' : World} {base : Nat} {v : Value} {L : List (Nat × NR)} (h : Row w base v L) (hb : Below w.heap.size w w') : Row w' base v L := ⟨h.own.below hb, h.all.below hb, h.apart, Nat.le_trans h.base hb.size⟩
theorem ptrs_append (L M : List (Nat × NR)) : ptrs (L ++ M) = ptrs L ++ ptrs M := by simp [ptrs]
theorem krs_append (L M : List (Nat × NR)) : krs (L ++ M) = krs L ++ krs M := by simp [krs]
theorem Row.form {w : World} {base : Nat} {v : Value} {L : List (Nat × NR)} (h : Row w base v L) : ∃ A c, v = .slice A L.length c ∧ L.length ≤ c ∧ Ls pcP w A (ptrs L) := by
  obtain ⟨A, c, e, hc, hl⟩ := h.own.form
  rw [ptrs_len] at e hc
  exact ⟨A, c, e, hc, hl⟩
/-- append(v, n): n's pointer lies in block h. -/
theorem Row.push {w : World} {base : Nat} {v : Value} {L : List (Nat × NR)} (h : Row w base v L) {b : Nat} {N : NR} (hn : NodeAt w b N) (hb : ∀ g, v.ownBlock = some g → b ≠ g) (hl : L.length ≤ 1000) {k : Nat} (hk : w.heap[k]? = some (.cells #[pn b] 30 (0, 0))) :
    ∃ v' w', (Builtin.append_ #[25, 25] 25 #[v, .slice (some ⟨k, 0, none⟩) 1 1]).run Try.prog w = .ok v' w' ∧ Row w' base v' (L ++ [(b, N)]) ∧ w.grownBy w' v.ownBlock ∧ (v'.ownBlock = v.ownBlock ∨ v'.ownBlock = some w.heap.size) := by
  obtain ⟨v', w', h1, h2, h3, h4⟩ := run_append_at encP 25 30 25 _ _ ⟨_, Try.underlying25, rfl⟩ ptrInfo rfl (by omega) (by omega) h.own (some b) (h := k) hk (by rw [ptrs_len]; omega) h.base
  have keep : ∀ x : Nat × NR, NodeAt w x.1 x.2 → (∀ g, v.ownBlock = some g → x.1 ≠ g) → NodeAt w' x.1 x.2 := fun x hx hg => hx.keep (h3.block x.1 hx.lt fun e => hg _ e.symm rfl)
  refine ⟨v', w', h1, ⟨?_, ?_, ?_, Nat.le_trans h.base h3.size⟩, h3, h4⟩
  · rw [ptrs_append]
    exact h2
  · intro x hx
    rcases List.mem_append.1 hx with hx | hx
    · exact keep x (h.all x hx) fun g hg => h.apart g hg x hx
    · rw [List.mem_singleton] at hx
      subst hx
      exact keep (b, N) hn hb
  · intro g hg x hx
    have hlt : x.1 < w.heap.size ∧ ∀ g, v.ownBlock = some g → x.1 ≠ g := by
      rcases List.mem_append.1 hx with hx | hx
      · exact ⟨(h.all x hx).lt, fun g hg => h.apart g hg x hx⟩
      · rw [List.mem_singleton] at hx
        subst hx
        exact ⟨hn.lt, hb⟩
    rcases h4 with h4 | h4
    · exact hlt.2 g (h4 ▸ hg)
    · rw [h4] at hg
      cases hg
      have := hlt.1
      omega
/-- All stays but the row. -/
theorem Row.grow_below {a w w' : World} {base : Nat} {v : Value} {L : List (Nat × NR)} (h : Row w base v L) (hb : Below base a w) (hg : w.grownBy w' v.ownBlock) : Below base a w' := h.own.grow_below hb h.base hg

/-- Writing a pointer into the row. -/
theorem Row.write {w : World} {base g n c : Nat} {L : List (Nat × NR)} (h : Row w base (.slice (some ⟨g, 0, none⟩) n c) L) {j : Nat} (hj : j < L.length) {x : Nat × NR} (hx : NodeAt w x.1 x.2) (hxg : x.1 ≠ g) :
    Row (w.setCell ⟨g, j, none⟩ (pn x.1)) base (.slice (some ⟨g, 0, none⟩) n c) (L.set j x) := by
  have hsz : (w.setCell ⟨g, j, none⟩ (pn x.1)).heap.size = w.heap.size := by simp [World.setCell]
  have mem : ∀ y ∈ L.set j x, NodeAt w y.1 y.2 ∧ y.1 ≠ g := fun y hy => by
    rcases List.mem_or_eq_of_mem_set hy with h1 | rfl
    · exact ⟨h.all y h1, h.apart g rfl y h1⟩
    · exact ⟨hx, hxg⟩
  refine ⟨?_, ?_, ?_, by rw [hsz]; exact h.base⟩
  · obtain ⟨hl, ho⟩ := h.own
    have hp : ptrs (L.set j x) = (ptrs L).set j (some x.1) := by simp [ptrs, List.map_set]
    have hlen : (ptrs (L.set j x)).length = (ptrs L).length := by rw [hp, List.length_set]
    have hflat : (ptrs (L.set j x)).flatMap pcP = ((ptrs L).flatMap pcP).set j (pn x.1) := by
      rw [hp]
      have : ∀ l : List (Option Nat), l.flatMap pcP = l.map ptr := fun l => by
        induction l with
        | nil => rfl
        | cons y l ih => rw [List.flatMap_cons, ih]; rfl
      rw [this, this, List.map_set]
      rfl
    refine ⟨by rw [encP.flen], ?_⟩
    rcases ho with ⟨hv, _⟩ | ⟨g', cap, cur, hv, hb, hh, hc, hm, hs, ht⟩
    · cases hv
    · cases hv
      refine .inr ⟨g, c, _, by rw [hlen], hb, blk_set hh j _, by rw [hlen]; exact hc, hm, by simpa using hs, ?_⟩
      rw [hflat, ← ht, hlen]
      simp [List.take_set]
  · intro y hy
    exact (mem y hy).1.keep (Below.heap_setCell w _ _ y.1 (mem y hy).2)
  · intro g' hg' y hy
    cases hg'
    exact (mem y hy).2

/-- A kid that is a leaf of one entry. -/
def oneK (e : Ent) : KR := ⟨1, e.k, e.k, true, false⟩
theorem kr_one {N : NR} {e : Ent} (h : LeafR N [e]) : N.kr = oneK e := by
  have h1 := h.h
  have h2 := h.lo e rfl
  have h3 := h.hi e rfl
  have h4 := h.lk
  have h5 := h.en
  have h6 := h.kn
  unfold NR.kr oneK
  rw [h1, h2, h3, h4, h5, h6]
  rfl
theorem Row.drew {w : World} {base : Nat} {v : Value} {L : List (Nat × NR)} (h : Row w base v L) : Row w.drew base v L := h.below (Below.refl _ _).drew
/-- Where the row lies, and that it may be written. -/
theorem Row.block {w : World} {base n c : Nat} {A : Option Addr} {L : List (Nat × NR)} (h : Row w base (.slice A n c) L) (h0 : 0 < L.length) : ∃ g, A = some ⟨g, 0, none⟩ ∧ base ≤ g ∧ g < w.heap.size ∧ (∀ j, w.frozen? ⟨g, j, none⟩ = false) ∧
    ∀ j x, L[j]? = some x → w.cell? ⟨g, j, none⟩ = some (pn x.1) := by
  obtain ⟨A', _, e, _, hls⟩ := h.form
  simp only [Value.slice.injEq] at e
  rw [← e.1] at hls
  rcases h.own.2 with ⟨hv, h1⟩ | ⟨g, cap, cur, hv, hb, hh, _⟩
  · rw [ptrs_len] at h1
    omega
  · simp only [Value.slice.injEq] at hv
    obtain ⟨rfl, _⟩ := hv
    refine ⟨g, rfl, hb, lt_of_block hh, fun j => by simp [World.frozen?, hh], fun j x hx => ?_⟩
    obtain ⟨ad, y, e, hy, _, hc⟩ := hls.node_at (i := j) (List.getElem?_eq_some_iff.1 hx).1
    cases e
    rw [hx] at hy
    cases hy
    rwa [show (⟨g, 0, none⟩ : Addr).add j = ⟨g, j, none⟩ by unfold Addr.add; split <;> simp_all] at hc
/-- Two pointers of the row changed for each other. -/
structure Swapped (w w' : World) (base g n c : Nat) (L L' : List (Nat × NR)) : Prop where
  row : Row w' base (.slice (some ⟨g, 0, none⟩) n c) L'
  other : ∀ k, k ≠ g → w'.heap[k]? = w.heap[k]?
  size : w'.heap.size = w.heap.size
  below : ∀ a, Below base a w → base ≤ g → Below base a w'
theorem Row.swap {w : World} {base g n c : Nat} {L : List (Nat × NR)} (h : Row w base (.slice (some ⟨g, 0, none⟩) n c) L) {i j : Nat} {x y : Nat × NR} (hx : L[i]? = some x) (hy : L[j]? = some y) :
    Swapped w ((w.setCell ⟨g, i, none⟩ (pn y.1)).setCell ⟨g, j, none⟩ (pn x.1)).drew base g n c L ((L.set i y).set j x) := by
  have hi := (List.getElem?_eq_some_iff.1 hx).1
  have hj := (List.getElem?_eq_some_iff.1 hy).1
  have mx := List.mem_of_getElem? hx
  have my := List.mem_of_getElem? hy
  have hxg := h.apart g rfl x mx
  have h1 := h.write hi (h.all y my) (h.apart g rfl y my)
  have nx : NodeAt (w.setCell ⟨g, i, none⟩ (pn y.1)) x.1 x.2 := (h.all x mx).keep (Below.heap_setCell w _ _ x.1 hxg)
  have h2 := h1.write (j := j) (by rw [List.length_set]; exact hj) nx hxg
  refine ⟨h2.drew, fun k hk => ?_, by simp [World.setCell], fun a hb hg => ?_⟩
  · exact (Below.heap_setCell _ _ _ k hk).trans (Below.heap_setCell w _ _ k hk)
  · exact (below_set (below_set hb (p := ⟨g, i, none⟩) hg (pn y.1)) (p := ⟨g, j, none⟩) hg (pn x.1)).drew
theorem Ls.keep {α : Type} {f : α → List Value} {w w' : World} {A : Option Addr} {l : List α} (h : Ls f w A l) (hb : ∀ ad, A = some ad → w'.heap[ad.block]? = w.heap[ad.block]?) (hs : w.heap.size ≤ w'.heap.size) : Ls f w' A l := fun h0 => by
  obtain ⟨ad, e, hlt, hc⟩ := h h0
  exact ⟨ad, e, Nat.lt_of_lt_of_le hlt hs, fun j u hu => (World.cell?_of_block (w := w) (a := ad.add j) (by rw [block_of_add]; exact hb ad e)).trans (hc j u hu)⟩
theorem Ones.swap_krs {L : List (Nat × NR)} {l : List Ent} (h : krs L = l.map oneK) {i j : Nat} {x y : Nat × NR} {a b : Ent} (hx : L[i]? = some x) (hy : L[j]? = some y) (ha : l[i]? = some a) (hb : l[j]? = some b) : krs ((L.set i y).set j x) = ((l.set i b).set j a).map oneK := by
  have e1 : x.2.kr = oneK a := by
    have h1 := krs_at hx
    rw [h, List.getElem?_map, ha] at h1
    exact (Option.some.inj h1).symm
  have e2 : y.2.kr = oneK b := by
    have h1 := krs_at hy
    rw [h, List.getElem?_map, hb] at h1
    exact (Option.some.inj h1).symm
  have h3 : krs ((L.set i y).set j x) = ((krs L).set i y.2.kr).set j x.2.kr := by simp [krs, List.map_set]
  rw [h3, h, e1, e2, List.map_set, List.map_set]

theorem okBr_ones {l : List Ent} (h2 : 2 ≤ l.length) (h6 : l.length ≤ 6) : okBr (l.map oneK) = decide (Sorted l) := by
  by_cases h : Sorted l
  · rw [decide_eq_true h]
    refine okBr_good (by simpa using h2) (by simpa using h6) fun j a b ha hb => ?_
    simp only [List.getElem?_map, Option.map_eq_some_iff] at ha hb
    obtain ⟨x, hx, rfl⟩ := ha
    obtain ⟨y, hy, rfl⟩ := hb
    exact ⟨rfl, sorted_lt h (Nat.lt_succ_self j) hx hy⟩
  · rw [decide_eq_false h]
    refine Bool.eq_false_iff.2 fun hk => h (sorted_of_adj fun j a b ha hb => ?_)
    exact (okBr_adj hk j (oneK a) (oneK b) (by simp [ha]) (by simp [hb])).2
/-- A list with two of its elements changed for each other. -/
theorem sorted_swap {l : List Ent} (hs : Sorted l) {x y : Nat} {a b : Ent} (ha : l[x]? = some a) (hb : l[y]? = some b) : Sorted ((l.set x b).set y a) ↔ x = y := by
  have hx := (List.getElem?_eq_some_iff.1 ha).1
  have hy := (List.getElem?_eq_some_iff.1 hb).1
  constructor
  · intro h
    rcases Nat.lt_trichotomy x y with hlt | he | hgt
    · exfalso
      have h1 : ((l.set x b).set y a)[x]? = some b := by
        rw [List.getElem?_set_ne (by omega), List.getElem?_set_self hx]
      have h2 : ((l.set x b).set y a)[y]? = some a := List.getElem?_set_self (by rw [List.length_set]; exact hy)
      exact kl_asymm (sorted_lt h hlt h1 h2) (sorted_lt hs hlt ha hb)
    · exact he
    · exfalso
      have h1 : ((l.set x b).set y a)[x]? = some b := by
        rw [List.getElem?_set_ne (by omega), List.getElem?_set_self hx]
      have h2 : ((l.set x b).set y a)[y]? = some a := List.getElem?_set_self (by rw [List.length_set]; exact hy)
      exact kl_asymm (sorted_lt h hgt h2 h1) (sorted_lt hs hgt hb ha)
  · rintro rfl
    rw [ha] at hb
    cases hb
    rw [List.set_set]
    have : l.set x a = l := by
      obtain ⟨hl, rfl⟩ := List.getElem?_eq_some_iff.1 ha
      exact List.set_getElem_self hl
    rw [this]
    exact hs

end Go.Proofs.Ytabgbbfiggnanaa
