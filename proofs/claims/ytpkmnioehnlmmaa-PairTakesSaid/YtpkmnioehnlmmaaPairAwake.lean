/-
  The contract of awake: it answers true; no condition.
-/
import Derived.Test.YtpkmnioehnlmmaaPairSmall
namespace Go.Proofs.Ytpkmnioehnlmmaa
open Go.RowKit Go.Sort
set_option linter.unusedVariables false

def ka : ByteArray := ⟨#[97]⟩
def kb : ByteArray := ⟨#[98]⟩
def kc : ByteArray := ⟨#[99]⟩

theorem put_ca : put [⟨kc, ByteArray.empty⟩] ⟨ka, ByteArray.empty⟩ = [⟨ka, ByteArray.empty⟩, ⟨kc, ByteArray.empty⟩] := by decide
theorem sorted_one (e : Ent) : Sorted [e] := by simp [Sorted]
theorem place_b {i : Nat} {f : Bool} (h : Place [⟨ka, ByteArray.empty⟩, ⟨kc, ByteArray.empty⟩] kb i f) : i = 1 ∧ f = false := by
  have hs : Sorted [⟨ka, ByteArray.empty⟩, ⟨kc, ByteArray.empty⟩] := by decide
  have h1 := h.le
  simp only [List.length_cons, List.length_nil] at h1
  have hi : i = 1 := by
    rcases Nat.lt_trichotomy i 1 with h2 | h2 | h2
    · have : i = 0 := by omega
      subst this
      exact absurd (show kl ka kb by decide) (h.above hs 0 _ (Nat.le_refl _) rfl)
    · exact h2
    · exact absurd (h.under hs 1 _ h2 rfl) (show ¬ kl kc kb by decide)
  subst hi
  refine ⟨rfl, ?_⟩
  cases f with
  | false => rfl
  | true =>
    obtain ⟨e, he, hk⟩ := h.found.1 rfl
    simp only [List.getElem?_cons_succ, List.getElem?_cons_zero, Option.some.injEq] at he
    subst he
    exact absurd hk (by decide)

set_option maxHeartbeats 800000 in
theorem awake_any (w : World) : Calls Try.prog 9 #[] w fun e w' => e = .returned (.bool true) ∧ Below w.heap.size w w' := by
  go_enter Try.func9, Try.ntmps9
  go_wp2_with fail
  refine (with_any (some ⟨w.heap.size, 0, none⟩) 1 1 [⟨kc, ByteArray.empty⟩] ⟨ka, ByteArray.empty⟩ _ (box_es w ⟨kc, ByteArray.empty⟩ 30) rfl (Nat.le_refl _) (by omega)).mono ?_
  rintro e w1 ⟨i, f, v, rfl, hp, hown, hb1⟩
  rw [hp.wth (sorted_one _), put_ca] at hown
  clear hp
  have hb0 : Below w.heap.size w (w.alloc (.cells #[.string kc, .string ByteArray.empty] 30)) := (Below.refl _ _).alloc (Nat.le_refl _) _
  have hb01 := bthen hb0 hb1
  obtain ⟨A, c, rfl, hc, hes⟩ := hown.form
  obtain ⟨ad, x, rfl, hx, _, h1, h2⟩ := hes.at_ (i := 0) (by simp)
  clear hb0 hb1 hown
  simp only [List.getElem?_cons_zero, Option.some.injEq] at hx
  subst hx
  go_wp2_with fail
  refine (find_any (some ad) 2 c _ kb w1 hes rfl (by omega)).mono ?_
  rintro e w2 ⟨i, f, rfl, hp, hb2⟩
  obtain ⟨rfl, rfl⟩ := place_b hp
  have h3 : w2.cell? ad = some (.string ⟨#[97]⟩) := by
    have := (hb2.cell (by rw [block_of_add]; assumption)).trans h1
    simpa [Addr.add, ka] using this
  have hbe := bthen hb01 hb2
  clear h1 h2 hes hp hb01 hb2
  go_wp2_with fail
  refine (key_any ⟨#[]⟩ w2 (by simp [ByteArray.size])).mono ?_
  rintro e w3 ⟨rfl, rfl⟩
  rw [show keyNo ⟨#[]⟩ = 1 from rfl]
  go_wp2
  go_ret
  exact ⟨rfl, hbe⟩

end Go.Proofs.Ytpkmnioehnlmmaa
