/-
  The contract of awake: it answers true; besides: a device beside other memory, the current contents behind one more write; conditions stand at each.
-/
import Derived.Test.YthjgcbpanfiacaaDevHelp
namespace Go.Proofs.Ythjgcbpanfiacaa
open Go.RowKit Go.Sort
set_option linter.unusedVariables false
set_option linter.unusedSimpArgs false

theorem Dev.tight {w : World} {b n : Nat} {st : List UInt8} {pd : List WR} {F : Nat → Prop} (h : Dev w b n st pd F) : Dev w b n st pd (fun i => F i ∧ i < w.heap.size) := h.mono fun i hi hf => ⟨hf, hi⟩
theorem Dev.set {w : World} {b n : Nat} {st : List UInt8} {pd : List WR} {F : Nat → Prop} (h : Dev w b n st pd F) {p : Addr} (hp : ¬ F p.block) (u : Value) : Dev (w.setCell p u) b n st pd F :=
  h.keep (G := fun i => i = p.block) ((Keep.refl (fun i => i = p.block) w).set (.inl rfl) u) fun i hi _ e => hp (by rw [← e]; exact hi)
theorem Dev.drew {w : World} {b n : Nat} {st : List UInt8} {pd : List WR} {F : Nat → Prop} (h : Dev w b n st pd F) : Dev w.drew b n st pd F := h.keep (G := fun _ => False) (.of_below (Below.refl _ _).drew) fun _ _ _ hf => hf

theorem foldN_snoc {α σ : Type} {f : Nat → α → σ → σ} {s : σ} (l : List α) (x : α) : foldN f s (l ++ [x]) (l ++ [x]).length = f l.length x (foldN f s l l.length) := by
  rw [List.length_append, List.length_singleton, foldN_succ (x := x) (by simp), foldN_append _ _ (Nat.le_refl _)]
theorem cur_snoc (st : List UInt8) (pd : List WR) (x : WR) (i : Nat) : curN st (pd ++ [x]) i (pd ++ [x]).length = if x.page = i then x.bytes else curN st pd i pd.length := foldN_snoc pd x
theorem all_snoc (st : List UInt8) (pd : List WR) (x : WR) : allN st (pd ++ [x]) (pd ++ [x]).length = app x 256 (allN st pd pd.length) := foldN_snoc pd x

theorem below_set {B : Nat} {a w : World} (h : Below B a w) (hB : B ≤ w.heap.size) {p : Addr} (hp : B ≤ p.block) (u : Value) : Below B a (w.setCell p u) :=
  Keep.base h hB ((Keep.refl (fun i => B ≤ i) w).set (.inl hp) u)
theorem cur_nil (st : List UInt8) (i : Nat) : curN st [] i ([] : List WR).length = pageOf st i := rfl
/-- What was synced is read, the last write of its page. -/
theorem cur_synced {st : List UInt8} {pd : List WR} {n i : Nat} (hs : st.length = n * 256) (hp : ∀ x ∈ pd, x.page < n) (hi : i < n) : curN (allN st pd pd.length) [] i ([] : List WR).length = curN st pd i pd.length := by
  rw [cur_nil, page_all hs hp hi]

/-- full, and then a Write of it. -/
theorem writeFull_any {w : World} {b n : Nat} {st : List UInt8} {pd : List WR} {F : Nat → Prop} (p : Nat) (y : UInt8) (g c : Nat) (hd : Dev w b n st pd F) (hp : p < n) (hg : w.heap[g]? = some (.cells (bcells (List.replicate 256 y)).toArray 5 (0, 0))) (hfew : pd.length ≤ 1000000) :
    Calls Try.prog 14 #[.pointer (some ⟨b, 0, none⟩), .int .i64 (p : Int), .slice (some ⟨g, 0, none⟩) 256 c] w fun e w' =>
      e = .returned (.int .i64 0) ∧ Dev w' b n st (pd ++ [fullW p y]) (Grew F w.heap.size) ∧ Keep F w w' :=
  write_any (fullW p y) _ c hd hp (rd_whole hg) hfew

theorem full_cell {w : World} {g : Nat} {y : UInt8} (hg : w.heap[g]? = some (.cells (bcells (List.replicate 256 y)).toArray 5 (0, 0))) {j : Nat} (hj : j < 256) : w.cell? ⟨g, j, none⟩ = some (.int .u8 (y.toNat : Int)) := by
  refine cell_at hg j _ ?_
  simp only [bcells, List.map_replicate, List.getElem?_toArray]
  rw [List.getElem?_replicate, if_pos hj]
  rfl

set_option maxRecDepth 100000 in
set_option maxHeartbeats 1600000 in
theorem devAwake_any (w : World) : Calls Try.prog 9 #[] w fun e w' => e = .returned (.bool true) ∧ Below w.heap.size w w' := by
  go_enter Try.func9, Try.ntmps9
  go_wp2_with fail
  refine (new_any 2 w).mono ?_
  rintro e w1 ⟨b, rfl, hd, hb1⟩
  rw [show pagesN 2 = 2 from rfl] at hd
  have HD := Lib.hid hd
  have HB := Lib.hid hb1
  clear hd hb1
  generalize List.replicate (2 * 256) (0 : UInt8) = st at HD
  go_wp2_with fail
  refine (pages_any HD.out).mono ?_
  rintro e w2 ⟨rfl, rfl⟩
  go_wp2_with fail
  refine (full_any 7 w2).mono ?_
  rintro e w3 ⟨g, rfl, hg, hrow, hb3⟩
  have HD3 := Lib.hid (HD.out.below hb3)
  have HB3 := Lib.hid (bthen HB.out hb3)
  have HR := Lib.hid hrow
  clear hrow hb3 HB HD
  go_wp2_with fail
  refine (writeFull_any 1 7 g 256 HD3.out (by omega) HR.out (by simp)).mono ?_
  rintro e w4 ⟨rfl, hd4, hk4⟩
  have HD4 := Lib.hid hd4
  have HB4 := Lib.hid (Keep.base HB3.out HB3.out.size hk4)
  clear hd4 hk4 HR HD3 HB3
  go_wp2_with fail
  refine (read_any 1 HD4.out (by omega) (by simp)).mono ?_
  rintro e w5 ⟨g5, rfl, hg5, hrow5, hb5⟩
  rw [cur_snoc, if_pos (by rfl)] at hrow5
  have hc := full_cell hrow5 (j := 0) (by omega)
  have HD5 := Lib.hid (HD4.out.below hb5)
  have HB5 := Lib.hid (bthen HB4.out hb5)
  clear hrow5 hb5 HD4 HB4
  rw [show ((7 : UInt8).toNat : Int) = 7 from rfl] at hc
  go_wp2_with fail
  refine (waiting_any HD5.out).mono ?_
  rintro e w6 ⟨rfl, rfl⟩
  go_wp2
  go_ret
  exact ⟨rfl, HB5.out⟩

end Go.Proofs.Ythjgcbpanfiacaa
