/-
  The contract of cursor.first: the first entry that an iterator yields whose key isn't a given one; conditions: the iterator yields a list of entries.
-/
import Derived.Test.YtkooaechcbopnaaCurPure
import Derived.RangeFuncBox
namespace Go.Proofs.Ytkooaechcbopnaa
open Go.RowKit Go.Sort Go.Shelf Rt
set_option linter.unusedVariables false
set_option linter.unusedSimpArgs false
attribute [local go_sem] Oper.semAt_some wide_fn wide_depth

theorem setCell_size (W : World) (a : Addr) (u : Value) : (W.setCell a u).heap.size = W.heap.size := by
  show (W.heap.modify _ _).size = _
  rw [Array.size_modify]
theorem shut_below {Ds : List Nat} {A B : World} {n : Nat} (h : Shut Ds A B) (hd : ∀ D ∈ Ds, n ≤ D) : Below n A B :=
  ⟨h.1.os, h.1.tape, h.1.output, h.1.size, fun k hk => h.2 k fun hm => by have := hd k hm; omega⟩
theorem cells_set {w : World} {g : Nat} {t : TypeId} {cs : Array Value} (h : w.heap[g]? = some (.cells cs t (0, 0))) (i : Nat) (u : Value) : (w.setCell ⟨g, i, none⟩ u).heap[g]? = some (.cells (cs.setIfInBounds i u) t (0, 0)) := by
  simp [World.setCell, Array.getElem?_modify, h]
theorem Rt.Stp.set {T T' : BS} {A B : World} (h : Stp T A T' B) {p : Addr} (hp : T' p.block) (u : Value) : Stp T A T' (B.setCell p u) :=
  h.trans ⟨⟨rfl, rfl, rfl, by rw [setCell_size]; exact Nat.le_refl _⟩, fun _ _ h => h, fun i hi => by rw [setCell_size]; exact h.lt i hi, fun i hi ht => Below.heap_setCell _ _ _ i fun e => ht (by rw [e]; exact hp)⟩

/-- The boxes of what first answers. -/
def ansC (o : Option Ent) : Array Value := #[.string (keyO o), .string (valO o)]
structure ResB (b : Nat) (T : BS) (W : World) (o : Option Ent) : Prop where
  e : W.heap[b]? = some (.cells (ansC o) 39 (0, 0))
  f : W.heap[b + 1]? = some (.cells #[.bool o.isSome] 4 (0, 0))
  own : T b ∧ T (b + 1)
theorem ResB.abd {b : Nat} (n : Nat) : Abd n (fun (o : Option Ent) T W => ResB b T W o) := fun s T A A' h q =>
  ⟨(q.same b (at_lt h.e) (.inr h.own.1)).trans h.e, (q.same (b + 1) (at_lt h.f) (.inr h.own.2)).trans h.f, h.own⟩
theorem ResB.put {b : Nat} {T : BS} {W : World} {o : Option Ent} (h : ResB b T W o) (hT : ∀ i, T i → i < W.heap.size) (k v : ByteArray) (r : Bool) (o' : Option Ent) (ho : ansC o' = #[.string k, .string v]) (hr : o'.isSome = r) :
    Stp T W T (((W.setCell ⟨b, 0, none⟩ (.string k)).setCell ⟨b, 1, none⟩ (.string v)).setCell ⟨b + 1, 0, none⟩ (.bool r)) ∧
      ResB b T (((W.setCell ⟨b, 0, none⟩ (.string k)).setCell ⟨b, 1, none⟩ (.string v)).setCell ⟨b + 1, 0, none⟩ (.bool r)) o' := by
  refine ⟨(((Stp.refl hT).set (p := ⟨b, 0, none⟩) h.own.1 _).set (p := ⟨b, 1, none⟩) h.own.1 _).set (p := ⟨b + 1, 0, none⟩) h.own.2 _, ?_, ?_, h.own⟩
  · refine (Below.heap_setCell _ _ _ b (by simp)).trans ((cells_set (cells_set h.e 0 _) 1 _).trans ?_)
    rw [ho]
    cases o <;> rfl
  · refine (cells_set ((Below.heap_setCell _ _ _ (b + 1) (by simp)).trans ((Below.heap_setCell _ _ _ (b + 1) (by simp)).trans h.f)) 0 _).trans ?_
    rw [hr]
    rfl

set_option maxHeartbeats 4000000 in
set_option maxRecDepth 100000 in
theorem first_gives {w : World} {gf : Nat} {lb : Array Value} {K : BS} {xs : List Ent} (left : ByteArray) (eg : ∀ args w, (callFunc gf args).run Try.prog w = .ok (.enter gf args) w)
    (hG : ∀ W, Below w.heap.size w W → Gives Try.prog gf lb encE xs K W) (hK : ∀ k, K k → k < w.heap.size) :
    Calls Try.prog 27 #[.func (.func gf) #[] lb, .string left] w fun e w' => e = .returned (ansV (hit left xs)) ∧ Below w.heap.size w w' := by
  have HEG := Lib.hid eg
  have HG := Lib.hid hG
  have HK := Lib.hid hK
  clear eg hG hK
  refine callsIn_wide (n := 0).1 (callsIn_of_wp_marks Try.func27 rfl trivial ?_ rfl)
  simp only [Try.ntmps27, List.size_toArray, List.length_cons, List.length_nil, Nat.reduceAdd, Nat.reduceSub, Array.replicate_succ, Array.replicate_zero, List.push_toArray, List.append_toArray, List.nil_append, List.cons_append]
  gi_wp2_with fail
  obtain ⟨w1, hw1⟩ : ∃ w1, ((w.alloc (.cells #[.string left] 9)).alloc (.cells #[.string ⟨#[]⟩, .string ⟨#[]⟩] 39)).alloc (.cells #[.bool false] 4) = w1 := ⟨_, rfl⟩
  have hb1 : Below w.heap.size w w1 := by rw [← hw1]; exact (((Below.refl _ _).alloc (Nat.le_refl _) _).alloc (by simp) _).alloc (by simp <;> omega) _
  have hl1 : w1.heap[w.heap.size]? = some (.cells #[.string left] 9 (0, 0)) := by
    rw [← hw1]
    exact (Below.heap_alloc _ _ _ (by simp; omega)).trans ((Below.heap_alloc _ _ _ (by simp)).trans (heap_alloc_new w _))
  have he1 : w1.heap[w.heap.size + 1]? = some (.cells #[.string ⟨#[]⟩, .string ⟨#[]⟩] 39 (0, 0)) := by
    rw [← hw1]
    refine (Below.heap_alloc _ _ _ (by simp)).trans ?_
    have := heap_alloc_new (w.alloc (.cells #[.string left] 9)) (.cells #[.string ⟨#[]⟩, .string ⟨#[]⟩] 39)
    rwa [World.size_alloc] at this
  have hf1 : w1.heap[w.heap.size + 1 + 1]? = some (.cells #[.bool false] 4 (0, 0)) := by
    rw [← hw1]
    have := heap_alloc_new ((w.alloc (.cells #[.string left] 9)).alloc (.cells #[.string ⟨#[]⟩, .string ⟨#[]⟩] 39)) (.cells #[.bool false] 4)
    rwa [World.size_alloc, World.size_alloc] at this
  have hs1 : w1.heap.size = w.heap.size + 3 := by rw [← hw1]; simp
  rw [hw1]
  have HB1 := Lib.hid hb1
  have HL1 := Lib.hid hl1
  have HR1 : Hid (ResB (w.heap.size + 1) (fun i => i = w.heap.size + 1 ∨ i = w.heap.size + 2) w1 none) := Lib.hid ⟨he1, hf1, .inl rfl, .inr rfl⟩
  have HS1 := Lib.hid hs1
  clear hw1 hb1 hl1 he1 hf1
  refine wpIn_range (gf := gf) (lb := lb) rfl HEG.out (encs := encE) (fun _ => rfl) (fun W' hb' => HG.out W' (HB1.out.trans (hb'.mono (by omega))))
    (T := fun i => i = w.heap.size + 1 ∨ i = w.heap.size + 2) (fun i hi => ⟨by omega, fun hK => by have := HK.out i hK; omega⟩) (fun i hi => by have := HK.out i hi; omega)
    (fun pre T' W' => ResB (w.heap.size + 1) T' W' none ∧ ∀ x ∈ pre, x.k = left) (fun c pre T' W' => c = .ret ∧ ∃ e, hit left xs = some e ∧ ResB (w.heap.size + 1) T' W' (some e))
    ?hI (fun c => ?hIx) ?h0 ?round ?done ?stop
  case hI => exact fun s T A B j q => ⟨ResB.abd _ _ _ _ _ j.1 q, j.2⟩
  case hIx => exact fun s T A B ⟨j1, e, j2, j3⟩ q => ⟨j1, e, j2, ResB.abd _ _ _ _ _ j3 q⟩
  case h0 => exact ⟨HR1.out, fun x hx => by cases hx⟩
  case round =>
    rintro lo pre e T' W' hpre ⟨hres, hall⟩ hst hnl hl hrl C hC
    have HC := Lib.hid hC
    have HSr := Lib.hid hst
    have HNl := Lib.hid hnl
    have HLi := Lib.hid hl
    have HPr := Lib.hid hpre
    have HRes := Lib.hid hres
    have HAll := Lib.hid hall
    rw [show encE e = #[.string e.k, .string e.v] from rfl]
    clear hpre hres hall hst hnl hl hrl hC hs1
    gi_wp2_with fail
    refine HC.out _ _ (Below.refl _ _) fun W'' hB => ?_
    have HR3 := Lib.hid (ResB.abd w1.heap.size _ _ _ _ HRes.out (hB.qt (by have := HLi.out; omega) HNl.out))
    have hle := hB.cell (HSr.out.cell (cell_row HL1.out 0 _ rfl) (by simp)) (by have := HLi.out; have := HS1.out; show w.heap.size ≠ lo; omega)
    have HTl : Hid (∀ i, T' i → i < W''.heap.size) := Lib.hid fun i hi => by rw [hB.size]; exact HSr.out.lt i hi
    have q0 := cell_row HR3.out.e 0 _ rfl
    have q1 := cell_row HR3.out.e 1 _ rfl
    have q2 := cell_row HR3.out.f 0 _ rfl
    have f0 : W''.frozen? ⟨w.heap.size + 1, 0, none⟩ = false := by simp [World.frozen?, HR3.out.e]
    have f1 : W''.frozen? ⟨w.heap.size + 1, 1, none⟩ = false := by simp [World.frozen?, HR3.out.e]
    have f2 : W''.frozen? ⟨w.heap.size + 1 + 1, 0, none⟩ = false := by simp [World.frozen?, HR3.out.f]
    have hse := same_eq e.k left
    clear hB
    by_cases hd : e.k = left
    · rw [decide_eq_true hd] at hse
      gi_wp2_with fail
      exact ⟨T', .refl HTl.out, HR3.out, fun x hx => by
        rcases List.mem_append.1 hx with hx | hx
        · exact HAll.out x hx
        · rw [List.mem_singleton.1 hx]; exact hd⟩
    · rw [decide_eq_false hd] at hse
      have HP := Lib.hid (HR3.out.put HTl.out e.k e.v true (some e) rfl rfl)
      gi_wp2_with fail
      exact ⟨T', HP.out.1, rfl, e, hit_prefix HPr.out HAll.out hd, HP.out.2⟩
  case done =>
    rintro D T' W' ⟨hres, hall⟩ hst hD hTD hh
    have HN : Hid (hit left xs = none) := Lib.hid (hit_none hall)
    have HBW := Lib.hid (HB1.out.trans (hst.below (by omega) fun k hk => by omega))
    have HD : Hid (∀ E ∈ [D], w.heap.size ≤ E ∧ ¬ T' E) := Lib.hid fun E hE => by rw [List.mem_singleton] at hE; subst hE; exact ⟨by omega, hTD⟩
    have HH : Hid (∀ E ∈ [D], W'.heap[E]? = some (.deferred (some []))) := Lib.hid fun E hE => by rw [List.mem_singleton] at hE; subst hE; exact hh
    have HRes := Lib.hid hres
    have q0 := cell_row hres.e 0 _ rfl
    have q1 := cell_row hres.e 1 _ rfl
    have q2 := cell_row hres.f 0 _ rfl
    have f0 : W'.frozen? ⟨w.heap.size + 1, 0, none⟩ = false := by simp [World.frozen?, hres.e]
    have f1 : W'.frozen? ⟨w.heap.size + 1, 1, none⟩ = false := by simp [World.frozen?, hres.e]
    have f2 : W'.frozen? ⟨w.heap.size + 1 + 1, 0, none⟩ = false := by simp [World.frozen?, hres.f]
    have HTl : Hid (∀ i, T' i → i < W'.heap.size) := Lib.hid hst.lt
    have HT0 : Hid (∀ k, T' k → ¬ k < w.heap.size) := Lib.hid fun k hk hlt => by have := hst.own k (by omega) hk; omega
    have HP := Lib.hid (HRes.out.put HTl.out ⟨#[]⟩ ⟨#[]⟩ false none rfl rfl)
    clear hres hall hst hD hTD hh hs1
    gi_wp2_with fail
    obtain ⟨W3, hW3⟩ : ∃ W3, W3 = ((W'.setCell ⟨w.heap.size + 1, 0, none⟩ (.string ⟨#[]⟩)).setCell ⟨w.heap.size + 1, 1, none⟩ (.string ⟨#[]⟩)).setCell ⟨w.heap.size + 1 + 1, 0, none⟩ (.bool false) := ⟨_, rfl⟩
    rw [← hW3] at HP ⊢
    refine leaves_marks [D] W3 (by simp) (fun E hE => (HP.out.1.same E (at_lt (HH.out E hE)) (HD.out E hE).2).trans (HH.out E hE)) fun w' hs => ?_
    have hr := ResB.abd w.heap.size _ _ _ _ HP.out.2 (shut_qt hs HD.out)
    have hb := HBW.out.trans ((HP.out.1.below HBW.out.size fun k hk => Nat.le_of_not_lt fun h => HT0.out k hk h).trans (shut_below hs fun E hE => (HD.out E hE).1))
    have q0 := cell_row hr.e 0 _ rfl
    have q1 := cell_row hr.e 1 _ rfl
    have q2 := cell_row hr.f 0 _ rfl
    rw [HN.out]
    refine ⟨ansV none, ?_, rfl, hb⟩
    simp [results, Try.f27, go_sem, q0, q1, q2, ansV, ansE, ansC]
  case stop =>
    rintro D c pre T' W' hne hpre ⟨rfl, e, he, hres⟩ hst hD hTD hh
    have HN := Lib.hid he
    have HBW := Lib.hid (HB1.out.trans (hst.below (by omega) fun k hk => by omega))
    have HD : Hid (∀ E ∈ [D], w.heap.size ≤ E ∧ ¬ T' E) := Lib.hid fun E hE => by rw [List.mem_singleton] at hE; subst hE; exact ⟨by omega, hTD⟩
    have HH : Hid (∀ E ∈ [D], W'.heap[E]? = some (.deferred (some []))) := Lib.hid fun E hE => by rw [List.mem_singleton] at hE; subst hE; exact hh
    have HRes := Lib.hid hres
    clear hres hne hpre hst hD hTD hh hs1
    gi_wp2_with fail
    refine leaves_marks [D] W' (by simp) HH.out fun w' hs => ?_
    have hr := ResB.abd w.heap.size _ _ _ _ HRes.out (shut_qt hs HD.out)
    have hb := HBW.out.trans (shut_below hs fun E hE => (HD.out E hE).1)
    have q0 := cell_row hr.e 0 _ rfl
    have q1 := cell_row hr.e 1 _ rfl
    have q2 := cell_row hr.f 0 _ rfl
    rw [HN.out]
    refine ⟨ansV (some e), ?_, rfl, hb⟩
    simp [results, Try.f27, go_sem, q0, q1, q2, ansV, ansE, ansC]

end Go.Proofs.Ytkooaechcbopnaa
