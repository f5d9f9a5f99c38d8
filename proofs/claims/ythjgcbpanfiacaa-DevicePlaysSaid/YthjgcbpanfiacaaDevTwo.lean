/-
  A device and the reference's device in one memory, each in blocks of its own; conditions stand at each.
-/
import Derived.Test.YthjgcbpanfiacaaDevRefC
import Derived.Test.YthjgcbpanfiacaaDevRefD
namespace Go.Proofs.Ythjgcbpanfiacaa
open Go.RowKit Go.Sort
set_option linter.unusedVariables false
set_option linter.unusedSimpArgs false

theorem Ref.tight {w : World} {b n : Nat} {st : List UInt8} {pd : List WR} {F : Nat → Prop} (h : Ref w b n st pd F) : Ref w b n st pd (fun i => F i ∧ i < w.heap.size) := h.mono fun i hi hf => ⟨hf, hi⟩
/-- A device and the reference's, above a base. -/
def Two (B : Nat) (w : World) (d r n : Nat) (st : List UInt8) (pd : List WR) (st' : List UInt8) (pd' : List WR) : Prop :=
  B ≤ w.heap.size ∧ ∃ col : Nat → Bool, Dev w d n st pd (fun i => B ≤ i ∧ col i = true) ∧ Ref w r n st' pd' (fun i => B ≤ i ∧ col i = false)
section
variable {B : Nat} {w w' : World} {d r n : Nat} {st st' : List UInt8} {pd pd' : List WR}
theorem Two.below (h : Two B w d r n st pd st' pd') (hb : Below w.heap.size w w') : Two B w' d r n st pd st' pd' := by
  obtain ⟨h1, col, h2, h3⟩ := h
  exact ⟨Nat.le_trans h1 hb.size, col, h2.below hb, h3.below hb⟩
theorem Two.dev (h : Two B w d r n st pd st' pd') : ∃ F, Dev w d n st pd F := by
  obtain ⟨h1, col, h2, h3⟩ := h
  exact ⟨_, h2⟩
theorem Two.ref (h : Two B w d r n st pd st' pd') : ∃ F, Ref w r n st' pd' F := by
  obtain ⟨h1, col, h2, h3⟩ := h
  exact ⟨_, h3⟩
/-- One more device beside the reference's. -/
theorem Two.make {B : Nat} {w w1 w2 : World} (hB : B ≤ w.heap.size) (hd : Dev w1 d n st pd (fun i => w.heap.size ≤ i)) (hb : Below w.heap.size w w1) (hr : Ref w2 r n st' pd' (fun i => w1.heap.size ≤ i)) (hb2 : Below w1.heap.size w1 w2) : Two B w2 d r n st pd st' pd' := by
  refine ⟨Nat.le_trans hB (Nat.le_trans hb.size hb2.size), fun i => decide (i < w1.heap.size), ?_, ?_⟩
  · exact (hd.tight.below hb2).mono fun i _ hi => ⟨Nat.le_trans hB hi.1, decide_eq_true hi.2⟩
  · exact hr.mono fun i _ hi => ⟨Nat.le_trans hB (Nat.le_trans hb.size hi), decide_eq_false (by omega)⟩

/-- The device's blocks as a list. -/
theorem Two.devList (h : Two B w d r n st pd st' pd') : ∃ L : List Nat, (∀ i ∈ L, B ≤ i ∧ i < w.heap.size) ∧ Dev w d n st pd (fun i => i ∈ L) ∧
    ∀ w' st2 pd2, Dev w' d n st2 pd2 (Grew (fun i => i ∈ L) w.heap.size) → Keep (fun i => i ∈ L) w w' → Two B w' d r n st2 pd2 st' pd' ∧ Below B w w' := by
  obtain ⟨h1, col, ⟨g, v, hat, hF⟩, h3⟩ := h
  refine ⟨[d, g] ++ v.ownBlock.toList, ?_, ⟨g, v, hat, ?_⟩, ?_⟩
  · intro i hi
    have hm : i = d ∨ i = g ∨ v.ownBlock = some i := by
      rcases List.mem_append.1 hi with h | h
      · rcases List.mem_cons.1 h with h | h
        · exact .inl h
        · exact .inr (.inl (List.mem_singleton.1 h))
      · exact .inr (.inr (by simpa using h))
    exact ⟨(hF i hm).1.1, (hF i hm).2⟩
  · rintro i (rfl | rfl | h)
    · exact ⟨by simp, (hF _ (.inl rfl)).2⟩
    · exact ⟨by simp, (hF _ (.inr (.inl rfl))).2⟩
    · exact ⟨List.mem_append.2 (.inr (by simpa using h)), (hF _ (.inr (.inr h))).2⟩
  · intro w' st2 pd2 hd hk
    have hL : ∀ i, i ∈ [d, g] ++ v.ownBlock.toList → (B ≤ i ∧ col i = true) := fun i hi => by
      rcases List.mem_append.1 hi with h | h
      · rcases List.mem_cons.1 h with rfl | h
        · exact (hF _ (.inl rfl)).1
        · rw [List.mem_singleton.1 h]
          exact (hF _ (.inr (.inl rfl))).1
      · exact (hF i (.inr (.inr (by simpa using h)))).1
    refine ⟨⟨Nat.le_trans h1 hk.size, fun i => if i < w.heap.size then col i else true, ?_, ?_⟩, hk.below h1 fun i hi => (hL i hi).1⟩
    · refine hd.mono fun i _ hi => ?_
      rcases hi with hi | hi
      · refine ⟨(hL i hi).1, ?_⟩
        by_cases h : i < w.heap.size
        · exact (if_pos h).trans (hL i hi).2
        · exact if_neg h
      · exact ⟨Nat.le_trans h1 hi, if_neg (show ¬ i < w.heap.size by omega)⟩
    · refine (h3.tight.keep hk fun i hi _ hf => ?_).mono fun i _ hi => ⟨hi.1.1, (if_pos hi.2).trans hi.1.2⟩
      have := (hL i hf).2
      rw [hi.1.2] at this
      cases this
/-- The reference's blocks as a list. -/
theorem Two.refList (h : Two B w d r n st pd st' pd') : ∃ L : List Nat, (∀ i ∈ L, B ≤ i ∧ i < w.heap.size) ∧ Ref w r n st' pd' (fun i => i ∈ L) ∧
    ∀ w' st2 pd2, Ref w' r n st2 pd2 (Grew (fun i => i ∈ L) w.heap.size) → Keep (fun i => i ∈ L) w w' → Two B w' d r n st pd st2 pd2 ∧ Below B w w' := by
  obtain ⟨h1, col, h3, h4, vP, vW, hat, hF⟩ := h
  refine ⟨[r] ++ (vP.ownBlock.toList ++ vW.ownBlock.toList), ?_, ⟨h4, vP, vW, hat, ?_⟩, ?_⟩
  · intro i hi
    have hm : i = r ∨ vP.ownBlock = some i ∨ vW.ownBlock = some i := by
      rcases List.mem_append.1 hi with h | h
      · exact .inl (List.mem_singleton.1 h)
      · rcases List.mem_append.1 h with h | h
        · exact .inr (.inl (by simpa using h))
        · exact .inr (.inr (by simpa using h))
    exact ⟨(hF i hm).1.1, (hF i hm).2⟩
  · rintro i (rfl | h | h)
    · exact ⟨by simp, (hF _ (.inl rfl)).2⟩
    · exact ⟨List.mem_append.2 (.inr (List.mem_append.2 (.inl (by simpa using h)))), (hF _ (.inr (.inl h))).2⟩
    · exact ⟨List.mem_append.2 (.inr (List.mem_append.2 (.inr (by simpa using h)))), (hF _ (.inr (.inr h))).2⟩
  · intro w' st2 pd2 hd hk
    have hL : ∀ i, i ∈ [r] ++ (vP.ownBlock.toList ++ vW.ownBlock.toList) → (B ≤ i ∧ col i = false) := fun i hi => by
      rcases List.mem_append.1 hi with h | h
      · rw [List.mem_singleton.1 h]
        exact (hF _ (.inl rfl)).1
      · rcases List.mem_append.1 h with h | h
        · exact (hF i (.inr (.inl (by simpa using h)))).1
        · exact (hF i (.inr (.inr (by simpa using h)))).1
    refine ⟨⟨Nat.le_trans h1 hk.size, fun i => if i < w.heap.size then col i else false, ?_, ?_⟩, hk.below h1 fun i hi => (hL i hi).1⟩
    · refine (h3.tight.keep hk fun i hi _ hf => ?_).mono fun i _ hi => ⟨hi.1.1, (if_pos hi.2).trans hi.1.2⟩
      have := (hL i hf).2
      rw [hi.1.2] at this
      cases this
    · refine hd.mono fun i _ hi => ?_
      rcases hi with hi | hi
      · refine ⟨(hL i hi).1, ?_⟩
        by_cases h : i < w.heap.size
        · exact (if_pos h).trans (hL i hi).2
        · exact if_neg h
      · exact ⟨Nat.le_trans h1 hi, if_neg (show ¬ i < w.heap.size by omega)⟩

/-- Both lists of blocks, for a step of the device and one of the reference behind it. -/
theorem Two.both (h : Two B w d r n st pd st' pd') : ∃ Ld Lr : List Nat, (∀ i ∈ Ld ++ Lr, i < w.heap.size) ∧ Dev w d n st pd (fun i => i ∈ Ld) ∧ Ref w r n st' pd' (fun i => i ∈ Lr) ∧
    ∀ w1 w2, Below w.heap.size w w1 → Keep (fun i => i ∈ Ld) w1 w2 → Ref w2 r n st' pd' (fun i => i ∈ Lr) ∧
      ∀ w3 st2 pd2 st3 pd3, Dev w2 d n st2 pd2 (Grew (fun i => i ∈ Ld) w1.heap.size) → Ref w3 r n st3 pd3 (Grew (fun i => i ∈ Lr) w2.heap.size) → Keep (fun i => i ∈ Lr) w2 w3 → Two B w3 d r n st2 pd2 st3 pd3 ∧ Below B w w3 := by
  obtain ⟨h1, col, ⟨g, v, hat, hF⟩, h4, vP, vW, hrt, hG⟩ := h
  have hL : ∀ i, i ∈ [d, g] ++ v.ownBlock.toList → (B ≤ i ∧ col i = true) ∧ i < w.heap.size := fun i hi => by
    rcases List.mem_append.1 hi with h | h
    · rcases List.mem_cons.1 h with rfl | h
      · exact hF _ (.inl rfl)
      · rw [List.mem_singleton.1 h]
        exact hF _ (.inr (.inl rfl))
    · exact hF i (.inr (.inr (by simpa using h)))
  have hM : ∀ i, i ∈ [r] ++ (vP.ownBlock.toList ++ vW.ownBlock.toList) → (B ≤ i ∧ col i = false) ∧ i < w.heap.size := fun i hi => by
    rcases List.mem_append.1 hi with h | h
    · rw [List.mem_singleton.1 h]
      exact hG _ (.inl rfl)
    · rcases List.mem_append.1 h with h | h
      · exact hG i (.inr (.inl (by simpa using h)))
      · exact hG i (.inr (.inr (by simpa using h)))
  have hd0 : Dev w d n st pd (fun i => i ∈ [d, g] ++ v.ownBlock.toList) := ⟨g, v, hat, by
    rintro i (rfl | rfl | h)
    · exact ⟨by simp, (hF _ (.inl rfl)).2⟩
    · exact ⟨by simp, (hF _ (.inr (.inl rfl))).2⟩
    · exact ⟨List.mem_append.2 (.inr (by simpa using h)), (hF _ (.inr (.inr h))).2⟩⟩
  have hr0 : Ref w r n st' pd' (fun i => i ∈ [r] ++ (vP.ownBlock.toList ++ vW.ownBlock.toList)) := ⟨h4, vP, vW, hrt, by
    rintro i (rfl | h | h)
    · exact ⟨by simp, (hG _ (.inl rfl)).2⟩
    · exact ⟨List.mem_append.2 (.inr (List.mem_append.2 (.inl (by simpa using h)))), (hG _ (.inr (.inl h))).2⟩
    · exact ⟨List.mem_append.2 (.inr (List.mem_append.2 (.inr (by simpa using h)))), (hG _ (.inr (.inr h))).2⟩⟩
  generalize [d, g] ++ v.ownBlock.toList = Ld at *
  generalize [r] ++ (vP.ownBlock.toList ++ vW.ownBlock.toList) = Lr at *
  have hdis : ∀ i, i ∈ Ld → i ∈ Lr → False := fun i ha hb => by
    have e1 := (hL i ha).1.2
    rw [(hM i hb).1.2] at e1
    cases e1
  refine ⟨Ld, Lr, ?_, hd0, hr0, fun w1 w2 hb1 hk2 => ⟨(hr0.below hb1).keep hk2 fun i hi _ hf => hdis i hf hi, fun w3 st2 pd2 st3 pd3 hd2 hr3 hk3 => ?_⟩⟩
  · intro i hi
    rcases List.mem_append.1 hi with h | h
    · exact (hL i h).2
    · exact (hM i h).2
  · have hs1 := hb1.size
    have hs2 := hk2.size
    have hs3 := hk3.size
    refine ⟨⟨by omega, fun i => decide (i ∈ Ld ∨ (w1.heap.size ≤ i ∧ i < w2.heap.size)), ?_, ?_⟩, ?_⟩
    · refine (hd2.tight.keep hk3 fun i hi _ hf => ?_).mono fun i _ hi => ?_
      · rcases hi.1 with h | h
        · exact hdis i h hf
        · have := (hM i hf).2
          omega
      · rcases hi.1 with h | h
        · exact ⟨(hL i h).1.1, decide_eq_true (.inl h)⟩
        · exact ⟨by omega, decide_eq_true (.inr ⟨h, hi.2⟩)⟩
    · refine hr3.mono fun i _ hi => ?_
      rcases hi with h | h
      · refine ⟨(hM i h).1.1, decide_eq_false ?_⟩
        rintro (h2 | h2)
        · exact hdis i h2 h
        · have := (hM i h).2
          omega
      · refine ⟨by omega, decide_eq_false ?_⟩
        rintro (h2 | h2)
        · have := (hL i h2).2
          omega
        · omega
    · refine ((hb1.mono h1).trans (hk2.below (by omega) fun i hi => (hL i hi).1.1)).trans (hk3.below (by omega) fun i hi => (hM i hi).1.1)

theorem syncT_any (h : Two B w d r n st pd st' pd') (hfew : pd.length ≤ 1000000) :
    Calls Try.prog 18 #[.pointer (some ⟨d, 0, none⟩)] w fun e w' => e = .returned (.tuple #[]) ∧ Two B w' d r n (allN st pd pd.length) [] st' pd' ∧ Below B w w' := by
  obtain ⟨L, _, hd, hput⟩ := h.devList
  exact (sync_any hd hfew).mono fun e w' ⟨g1, g2, g3⟩ => ⟨g1, hput _ _ _ (g2.mono fun i _ hi => .inl hi) g3⟩
theorem crashT_any (h : Two B w d r n st pd st' pd') (keep : Nat) (torn part : Int) (hfew : pd.length ≤ 1000000) (hkeep : keep < 18446744073709551616) :
    Calls Try.prog 20 #[.pointer (some ⟨d, 0, none⟩), .int .u64 (keep : Int), .int .i64 torn, .int .i64 part] w fun e w' => e = .returned (.tuple #[]) ∧ Two B w' d r n (crashN keep torn part st pd pd.length) [] st' pd' ∧ Below B w w' := by
  obtain ⟨L, _, hd, hput⟩ := h.devList
  exact (crash_any keep torn part hd hfew hkeep).mono fun e w' ⟨g1, g2, g3⟩ => ⟨g1, hput _ _ _ (g2.mono fun i _ hi => .inl hi) g3⟩
theorem refSyncT_any (h : Two B w d r n st pd st' pd') (hfew : pd'.length ≤ 1000000) :
    Calls Try.prog 19 #[.pointer (some ⟨r, 0, none⟩)] w fun e w' => e = .returned (.tuple #[]) ∧ Two B w' d r n st pd (allN st' pd' pd'.length) [] ∧ Below B w w' := by
  obtain ⟨L, _, hd, hput⟩ := h.refList
  exact (refSync_any hd hfew).mono fun e w' ⟨g1, g2, g3⟩ => ⟨g1, hput _ _ _ (g2.mono fun i _ hi => .inl hi) g3⟩
theorem refCrashT_any (h : Two B w d r n st pd st' pd') (keep : Nat) (torn part : Int) (hfew : pd'.length ≤ 1000000) (hkeep : keep < 18446744073709551616) :
    Calls Try.prog 21 #[.pointer (some ⟨r, 0, none⟩), .int .u64 (keep : Int), .int .i64 torn, .int .i64 part] w fun e w' => e = .returned (.tuple #[]) ∧ Two B w' d r n st pd (crashN keep torn part st' pd' pd'.length) [] ∧ Below B w w' := by
  obtain ⟨L, _, hd, hput⟩ := h.refList
  exact (refCrash_any keep torn part hd hfew hkeep).mono fun e w' ⟨g1, g2, g3⟩ => ⟨g1, hput _ _ _ (g2.mono fun i _ hi => .inl hi) g3⟩
end
theorem but_of_keep {L M : List Nat} {a b : World} (h : Keep (fun i => i ∈ L) a b) (hs : ∀ i ∈ L, i ∈ M) : Dc.But M a b := ⟨h.size, fun k hk hn => h.block k hk fun hf => hn (hs k hf)⟩

end Go.Proofs.Ythjgcbpanfiacaa
