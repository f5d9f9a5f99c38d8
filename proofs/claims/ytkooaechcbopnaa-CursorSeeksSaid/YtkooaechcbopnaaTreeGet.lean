/-
  The contract of tree.Get; conditions: the tree is valid and lies in memory, or is nil.
-/
import Derived.Test.YtkooaechcbopnaaTreePath
namespace Go.Proofs.Ytkooaechcbopnaa
open Go.RowKit Go.Sort
set_option linter.unusedVariables false

set_option maxHeartbeats 1000000 in
set_option maxRecDepth 100000 in
theorem path_nil (w : World) (key : ByteArray) : Calls Try.prog 46 #[.pointer none, .string key] w fun r w' => r = .returned (.slice none 0 0) ∧ w = w' := by
  go_enter Try.func46, Try.ntmps46
  go_wp2
  go_loopw [0, 5] (fun s0 s5 wr => s0 = .pointer none ∧ s5 = .slice none 0 0 ∧ w = wr) (fun _ s5 _ => 0)
  case atStart => exact ⟨rfl, rfl, rfl⟩
  case round =>
    obtain ⟨rfl, rfl, rfl⟩ := hrel
    go_wp2
    go_ret
    exact ⟨rfl, rfl⟩

/-- The value of a key, and whether there is one. -/
def lookV (o : Option ByteArray) : Value := .tuple #[.string (o.getD ByteArray.empty), .bool o.isSome]
/-- A tree of few levels. -/
def Low (T : TO) : Prop := ∀ x, T = some x → x.1 ≤ 90000
theorem TreeIs.low {w : World} {T : TO} (h : TreeIs w T) (hl : (tl T).length ≤ 80000) : Low T := fun x hx => by
  subst hx
  have := (h x rfl).len
  have h2 : (tl (Option.some x)).length = x.2.l.length := rfl
  omega

set_option maxHeartbeats 2000000 in
set_option maxRecDepth 100000 in
theorem get_tr {w : World} {h : Nat} {s : ST} {key : ByteArray} (ht : Tr w h s) (hh : h ≤ 90000) :
    Calls Try.prog 32 #[pn s.b, .string key] w fun r w' => r = .returned (lookV (look s.l key)) ∧ Below w.heap.size w w' := by
  have HT := Lib.hid ht
  obtain ⟨o, ho⟩ : ∃ o, o = look s.l key := ⟨_, rfl⟩
  rw [← ho]
  have HO := Lib.hid ho
  clear ht ho
  go_enter Try.func32, Try.ntmps32
  go_wp2_with fail
  refine (path_tr HT.out hh).mono ?_
  rintro r w1 ⟨v1, ps, rfl, ho1, hwy, hb1⟩
  obtain ⟨A, c, rfl, hc, hls⟩ := ho1.form
  have hln := hwy.length
  rw [ptrS_len, hln] at hc ⊢
  obtain ⟨k, hk, tk, hlk⟩ := hwy.last HT.out
  obtain ⟨ad, x, rfl, hx, hadl, hcx⟩ := Ls.node_at hls (i := h) (by rw [nbs_len, hln]; omega)
  rw [nbs_at hk] at hx
  cases hx
  obtain ⟨hN, hL, hE, hok, hid⟩ := tk.below hb1
  have hlen := okLeaf_len hok
  have HN := Lib.hid hN
  have HL := Lib.hid hL
  have HE := Lib.hid hE
  have HS := Lib.hid (okLeaf_sorted hok)
  have HB1 := Lib.hid hb1
  have HLK := Lib.hid hlk
  have hh0 : ¬ (h : Int) + 1 = 0 := by omega
  clear ho1 hls hwy hln hk tk hN hL hE hok hid hb1 hlk
  go_wp2_with fail
  refine (entries_any HN.out HE.out HL.out.en.symm (by rw [HL.out.en]; omega)).mono ?_
  rintro r w2 ⟨v2, rfl, ho2, hb2⟩
  obtain ⟨A2, c2, rfl, hc2, hes2⟩ := ho2.form
  obtain ⟨n, hn⟩ : ∃ n, k.l.length = n := ⟨_, rfl⟩
  rw [hn] at hc2 hlen ⊢
  have Hn := Lib.hid hn
  have HES := Lib.hid hes2
  have HB2 := Lib.hid (bthen HB1.out hb2)
  clear hcx ho2 hes2 hb2 hn
  go_wp2_with fail
  refine (find_any A2 n c2 k.l key w2 HES.out Hn.out (by omega)).mono ?_
  rintro r w3 ⟨i, f, rfl, hpl, hb3⟩
  have HB3 := Lib.hid (bthen HB2.out hb3)
  rcases hpl.look HS.out with ⟨rfl, e, he, hek, hle⟩ | ⟨rfl, hle⟩
  · have hil : i < n := by rw [← Hn.out]; exact (List.getElem?_eq_some_iff.1 he).1
    obtain ⟨ad2, y, rfl, hy, hadl2, hy0, hy1⟩ := (HES.out.below hb3).at_ (i := i) (by rw [Hn.out]; exact hil)
    rw [he] at hy
    cases hy
    have HF := Lib.hid (show o = some e.v by rw [HO.out, ← HLK.out, hle])
    clear hpl he hek hle hb3
    go_wp2
    go_ret2
    rw [HF.out]
    exact ⟨rfl, HB3.out⟩
  · have HF := Lib.hid (show o = none by rw [HO.out, ← HLK.out, hle])
    clear hpl hle hb3
    go_wp2
    go_ret2
    rw [HF.out]
    exact ⟨rfl, HB3.out⟩
theorem get_nil (w : World) (key : ByteArray) : Calls Try.prog 32 #[.pointer none, .string key] w fun r w' => r = .returned (lookV none) ∧ Below w.heap.size w w' := by
  go_enter Try.func32, Try.ntmps32
  go_wp2_with fail
  refine (path_nil w key).mono ?_
  rintro r w1 ⟨rfl, rfl⟩
  go_wp2
  go_ret2
  exact ⟨rfl, Below.refl _ _⟩
theorem get_any {w : World} {T : TO} {key : ByteArray} (ht : TreeIs w T) (hl : Low T) :
    Calls Try.prog 32 #[tb T, .string key] w fun r w' => r = .returned (lookV (look (tl T) key)) ∧ Below w.heap.size w w' := by
  cases T with
  | none => exact get_nil w key
  | some x => exact get_tr (ht x rfl) (hl x rfl)

end Go.Proofs.Ytkooaechcbopnaa
