/-
  append onto a row of the call's own, the element anywhere in memory: the row behind, what may have turned, where it lies; conditions stand at each.
-/
import Derived.Test.YtpchihgdcpbjiaaRooms
import Derived.Test.YtpchihgdcpbjiaaLs
namespace Go.Proofs.Ytpchihgdcpbjiaa
open Go.RowKit Go.Sort
set_option linter.unusedVariables false

/-- Where what was appended to lies: where it lay, or in a new block. -/
theorem append_block {w : World} {t ty e : TypeId} {i : TypeInfo} {z : Value} {size by_ : Nat} (ht : Try.prog.underlying t = some (.slice e)) (hi : Try.prog.info? e = some i) (hz : i.zero = some z) (hsize : i.size = size) (hby : i.bytes = by_) (hzs : z.cells.size = size)
    {base : Nat} {v : Value} {n : Nat} {xs : List Value} (hown : w.ownsRow base e size v n xs) {a : Addr} {m c : Nat} {news : List Value} (hl : news.length = m * size) (hnews : ∀ j u, news[j]? = some u → w.cell? (a.add j) = some u) (h1 : ∀ u ∈ news, u.oneCell' = true)
    (hm : 0 < m) (h63 : n + m ≤ maxLen) (hbytes : (n + m) * by_ ≤ 140737488355328) {v' : Value} {w' : World} (hrun : (Builtin.append_ #[t, t] ty #[v, .slice (some a) m c]).run Try.prog w = .ok v' w') : v'.ownBlock = v.ownBlock ∨ v'.ownBlock = some w.heap.size := by
  subst hsize
  subst hby
  have hsmall : n + m ≤ 9223372036854775807 := by simp only [maxLen] at h63; omega
  rcases hown.2 with ⟨rfl, rfl⟩ | ⟨g, cap, cur, rfl, hbg, hg, hnc, hcm, hcs, htake⟩
  · have hr := run_append_nil (P := Try.prog) w t ty e i z ht hi hz a m c news hl hnews (by omega) (by omega) (by have hb := hbytes; simp only [Nat.zero_add] at hb; omega)
    rw [hrun] at hr
    cases hr
    exact .inr rfl
  · by_cases hroom : n + m ≤ cap
    · have hfit : n * i.size + news.length ≤ cur.size := by rw [hl, hcs, ← Nat.add_mul]; exact Nat.mul_le_mul_right _ hroom
      have hr := run_append_room (P := Try.prog) w t ty e i ht hi g n cap cur hg a m c news hl hnews h1 hroom hfit
      rw [hrun] at hr
      cases hr
      exact .inl rfl
    · have holds : ∀ j u, xs[j]? = some u → w.cell? ((⟨g, 0, none⟩ : Addr).add j) = some u := hown.cells (g := g) rfl
      have hr := run_append_grow (P := Try.prog) w t ty e i z ht hi hz ⟨g, 0, none⟩ n cap xs hown.1 holds a m c news hl hnews (by omega) (by omega) (growslice_fits (by omega) hbytes)
      rw [hrun] at hr
      cases hr
      exact .inr rfl


set_option maxRecDepth 100000 in
/-- append(v, x): x lies in block h. -/
theorem run_append_at {α : Type} {f : α → List Value} {k : Nat} (he : Enc f k) (ts t ty : TypeId) (z : Value) (by_ : Nat) (hu : ∃ d, Try.prog.underlying ts = some d ∧ d = .slice t) (hi : (Try.prog.info? t).map (fun i => (i.zero, i.size, i.bytes)) = some (some z, k, by_)) (hz : z.cells.size = k) (hk : 0 < k) (hby : by_ ≤ 1000)
    {w : World} {base : Nat} {v : Value} {xs : List α} (hown : OwnL f t k w base v xs) (x : α) {h : Nat} (hh : w.heap[h]? = some (.cells (f x).toArray t (0, 0))) (hb : xs.length ≤ 1000000) (hbase : base ≤ w.heap.size) :
    ∃ v' w', (Builtin.append_ #[ts, ts] ty #[v, .slice (some ⟨h, 0, none⟩) 1 1]).run Try.prog w = .ok v' w' ∧ OwnL f t k w' base v' (xs ++ [x]) ∧ w.grownBy w' v.ownBlock ∧ (v'.ownBlock = v.ownBlock ∨ v'.ownBlock = some w.heap.size) := by
  obtain ⟨i0, hi0, hz0, hz1, hz2⟩ := info_parts hi
  obtain ⟨d, hu, rfl⟩ := hu
  have hcells : ∀ j u, (f x)[j]? = some u → w.cell? ((⟨h, 0, none⟩ : Addr).add j) = some u := fun j u hj => by
    rw [show (⟨h, 0, none⟩ : Addr).add j = ⟨h, j, none⟩ by unfold Addr.add; split <;> simp_all, cell_of_row w h j _ _ _ hh]
    simpa using hj
  have hs : (xs.length + 1) * by_ ≤ 140737488355328 := by
    have : (xs.length + 1) * by_ ≤ 1000001 * 1000 := Nat.mul_le_mul (by omega) hby
    omega
  obtain ⟨v', w', h1, h2, h3, _⟩ := run_append_own (P := Try.prog) w base ts ty t i0 z k by_ hu hi0 hz0 hz1 hz2 hz hk v xs.length (xs.flatMap f) hown ⟨h, 0, none⟩ 1 1 (f x) (by rw [he.len]; omega) hcells (he.one x) (by simp only [maxLen]; omega) hs hbase
  have h5 := append_block hu hi0 hz0 hz1 hz2 hz hown (a := ⟨h, 0, none⟩) (m := 1) (c := 1) (by rw [he.len]; omega) hcells (he.one x) (by omega) (by simp only [maxLen]; omega) hs h1
  refine ⟨v', w', h1, ?_, h3, h5⟩
  unfold OwnL
  rw [List.flatMap_append, List.length_append]
  simpa using h2

set_option maxRecDepth 100000 in
/-- append(s[:n:n], x): no room, so it goes into a new row; x lies in block h. -/
theorem run_append_full {α : Type} {f : α → List Value} {k : Nat} (he : Enc f k) (ts t ty : TypeId) (z : Value) (by_ : Nat) (hu : ∃ d, Try.prog.underlying ts = some d ∧ d = .slice t) (hi : (Try.prog.info? t).map (fun i => (i.zero, i.size, i.bytes)) = some (some z, k, by_)) (hz : z.cells.size = k) (hk : 0 < k) (hby : by_ ≤ 1000)
    {w : World} {A : Option Addr} {xs : List α} {n : Nat} (hr : Ls f w A xs) (hn : xs.length = n) (x : α) {h : Nat} (hh : w.heap[h]? = some (.cells (f x).toArray t (0, 0))) (hb : n ≤ 1000000) :
    ∃ v' w', (Builtin.append_ #[ts, ts] ty #[.slice A n n, .slice (some ⟨h, 0, none⟩) 1 1]).run Try.prog w = .ok v' w' ∧ OwnL f t k w' w.heap.size v' (xs ++ [x]) ∧ Below w.heap.size w w' := by
  subst hn
  obtain ⟨i0, hi0, hz0, hz1, hz2⟩ := info_parts hi
  obtain ⟨d, hu, rfl⟩ := hu
  have hcells : ∀ j u, (f x)[j]? = some u → w.cell? ((⟨h, 0, none⟩ : Addr).add j) = some u := fun j u hj => by
    rw [show (⟨h, 0, none⟩ : Addr).add j = ⟨h, j, none⟩ by unfold Addr.add; split <;> simp_all, cell_of_row w h j _ _ _ hh]
    simpa using hj
  have hs : (xs.length + 1) * by_ ≤ 140737488355328 := by
    have : (xs.length + 1) * by_ ≤ 1000001 * 1000 := Nat.mul_le_mul (by omega) hby
    omega
  have hlen : (xs.flatMap f ++ f x).length = (xs.length + 1) * k := by rw [List.length_append, he.flen, he.len, Nat.add_mul, Nat.one_mul]
  have grown : ∀ old, OwnL f t k (w.drew.alloc (.cells ((xs.flatMap f).toArray ++ (f x).toArray ++ Builtin.zeroCells z.cells (grownCap w (xs.length + 1) old t - (xs.length + 1))) t)) w.heap.size (.slice (some ⟨w.heap.size, 0, none⟩) (xs.length + 1) (grownCap w (xs.length + 1) old t)) (xs ++ [x]) := by
    intro old
    have hge := grownCap_ge w (xs.length + 1) old t
    have hcm : grownCap w (xs.length + 1) old t ≤ maxLen := grownCap_le_maxLen w (xs.length + 1) old t (by simp only [maxLen]; omega)
    have e1 : (xs ++ [x]).length = xs.length + 1 := by simp
    have e2 : (xs ++ [x]).flatMap f = xs.flatMap f ++ f x := by rw [List.flatMap_append]; simp
    unfold OwnL
    rw [e1, e2]
    refine ⟨hlen, .inr ⟨w.heap.size, _, _, rfl, Nat.le_refl _, heap_alloc_new w.drew _, hge, hcm, ?_, ?_⟩⟩
    · simp only [Array.size_append, List.size_toArray, size_zeroCells, hz, he.flen, he.len]
      rw [show xs.length * k + k = (xs.length + 1) * k by rw [Nat.add_mul, Nat.one_mul], ← Nat.add_mul]
      congr 1
      omega
    · simp only [Array.toList_append, List.append_assoc]
      rw [← List.append_assoc, ← hlen]
      exact List.take_left
  have bel : ∀ o, Below w.heap.size w (w.drew.alloc o) := fun o => (Below.refl _ _).drew.alloc (Nat.le_refl _) o
  rcases A with _ | ad
  · have h0 : xs = [] := by
      rcases Nat.eq_zero_or_pos xs.length with h0 | h0
      · exact List.eq_nil_of_length_eq_zero h0
      · obtain ⟨ad, e, _⟩ := hr h0
        cases e
    subst h0
    have hr := run_append_nil (P := Try.prog) w ts ty t i0 z hu hi0 hz0 ⟨h, 0, none⟩ 1 1 (f x) (by rw [he.len, hz1]; omega) hcells (by omega) (by omega) (by rw [hz2]; omega)
    refine ⟨_, _, hr, ?_, bel _⟩
    have hg := grown 0
    simpa using hg
  · have holds : ∀ j u, (xs.flatMap f)[j]? = some u → w.cell? (ad.add j) = some u := by
      intro j u hj
      have hl : 0 < xs.length := by
        have := (List.getElem?_eq_some_iff.1 hj).1
        rw [he.flen] at this
        rcases Nat.eq_zero_or_pos xs.length with h0 | h0
        · rw [h0] at this
          omega
        · exact h0
      obtain ⟨ad', e, _, hc⟩ := hr hl
      cases e
      exact hc j u hj
    have hr := run_append_grow (P := Try.prog) w ts ty t i0 z hu hi0 hz0 ad xs.length xs.length (xs.flatMap f) (by rw [he.flen, hz1]) holds ⟨h, 0, none⟩ 1 1 (f x) (by rw [he.len, hz1]; omega) hcells (by omega) (by omega) (growslice_fits (by omega) (by rw [hz2]; exact hs))
    exact ⟨_, _, hr, grown _, bel _⟩

end Go.Proofs.Ytpchihgdcpbjiaa
