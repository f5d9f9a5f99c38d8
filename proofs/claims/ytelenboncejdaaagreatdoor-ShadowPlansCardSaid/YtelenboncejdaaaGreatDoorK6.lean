/-
  Several texts in one: StrClone, ChainPure, ChainSmall, ChainCut, ChainJoin, ChainRef. Each says what it proves, and under which conditions.
-/
import Derived.Test.YtelenboncejdaaaGreatDoorK5
import Derived.Test.YtelenboncejdaaaGreatDoorRows
import Derived.WalkKit
import Derived.Shelf.Pu.Clone
import Derived.Lib.AppendStr

/-
  The contract of strings.Clone, by the library's contract of internal/stringslite.Clone: the same bytes; conditions stand at it.
-/
namespace Go.Proofs.YtelenboncejdaaaGreatDoor
open Go.RowKit Go.Shelf
set_option linter.unusedVariables false

/-- The numbers of the library's contract, in this program. -/
def cloneRen : Ren where
  f := fun | 25 => 184 | n => n
  t := fun | 0 => 0 | 3 => 3 | 4 => 4 | 5 => 5 | 9 => 9 | 37 => 46 | 47 => 284 | n => n
  g := fun n => n

theorem cloneLays : LaysPu.n25 Tryz.prog cloneRen where
  mixed := by kernel_rfl
  f25 := Tryz.func184.trans (by kernel_rfl)
  t0 := Tryz.underlying0
  a0 := Tryz.isAgg0
  z0 := Tryz.sizeOf0
  v0 := Tryz.zeroValue0
  i0 := by kernel_rfl
  t3 := Tryz.underlying3
  a3 := Tryz.isAgg3
  z3 := Tryz.sizeOf3
  v3 := Tryz.zeroValue3
  i3 := by kernel_rfl
  t4 := Tryz.underlying4
  a4 := Tryz.isAgg4
  z4 := Tryz.sizeOf4
  v4 := Tryz.zeroValue4
  i4 := by kernel_rfl
  t5 := Tryz.underlying5
  a5 := Tryz.isAgg5
  z5 := Tryz.sizeOf5
  v5 := Tryz.zeroValue5
  i5 := by kernel_rfl
  t9 := Tryz.underlying9
  a9 := Tryz.isAgg9
  z9 := Tryz.sizeOf9
  v9 := Tryz.zeroValue9
  i9 := by kernel_rfl
  t37 := Tryz.underlying46
  a37 := Tryz.isAgg46
  z37 := Tryz.sizeOf46
  v37 := Tryz.zeroValue46
  i37 := by kernel_rfl
  t47 := Tryz.underlying284
  a47 := Tryz.isAgg284
  z47 := Tryz.sizeOf284
  v47 := Tryz.zeroValue284
  i47 := by kernel_rfl

theorem liteClone_any (s : ByteArray) (w : World) (hlim : s.size ≤ 140737488351232) : Calls Tryz.prog 184 #[.string s] w fun e w' => e = .returned (.string s) ∧ Below w.heap.size w w' :=
  AnyPu.stringslite_Clone cloneLays s w (by omega)

set_option maxHeartbeats 400000 in
theorem strClone_any (s : ByteArray) (w : World) (hlim : s.size ≤ 140737488351232) : Calls Tryz.prog 169 #[.string s] w fun e w' => e = .returned (.string s) ∧ Below w.heap.size w w' := by
  go_enter Tryz.func169, Tryz.ntmps169
  go_wp2_with fail
  refine (liteClone_any s w hlim).mono ?_
  rintro e w1 ⟨rfl, hb⟩
  go_wp2
  go_ret
  exact ⟨rfl, hb⟩

end Go.Proofs.YtelenboncejdaaaGreatDoor

/-
  What layer 5 says, in plain words: the pieces of a string, what pieces are joined to; no condition.
-/
namespace Go.Proofs.YtelenboncejdaaaGreatDoor
set_option linter.unusedVariables false

/-- A size of a long value. -/
def Long (n : Int) : Prop := 24 < n ∧ n ≤ 400
instance (n : Int) : Decidable (Long n) := inferInstanceAs (Decidable (_ ∧ _))
/-- The pieces of a string of at most 480 bytes, whatever its size. -/
def pcs (s : ByteArray) : List ByteArray := if s.size = 0 then [] else if s.size ≤ 240 then [s] else [s.extract 0 240, s.extract 240 s.size]
/-- Cut. -/
def cutL (s : ByteArray) : List ByteArray := if Long s.size then pcs s else []
/-- Pages. -/
def pagesN (s : ByteArray) : Nat := if Long s.size then (s.size + 239) / 240 else 0
theorem cutL_length (s : ByteArray) : (cutL s).length = pagesN s := by
  unfold cutL pagesN
  by_cases h : Long s.size
  · rw [if_pos h, if_pos h]
    unfold pcs
    obtain ⟨h1, h2⟩ := h
    rw [if_neg (by omega)]
    by_cases h3 : s.size ≤ 240
    · rw [if_pos h3]
      simp only [List.length_singleton]
      omega
    · rw [if_neg h3]
      simp only [List.length_cons, List.length_nil]
      omega
  · rw [if_neg h, if_neg h]
    rfl
theorem pages_le (s : ByteArray) : pagesN s ≤ 2 := by
  unfold pagesN
  split
  · rename_i h
    have := h.2
    omega
  · omega

/-- The bytes of the pieces, one behind the other. -/
def cat (l : List ByteArray) : ByteArray := ⟨(l.flatMap fun s => s.data.toList).toArray⟩
theorem cat_nil : cat [] = ByteArray.empty := rfl
theorem cat_one (s : ByteArray) : cat [s] = s := by
  cases s
  simp [cat]
theorem cat_two (s t : ByteArray) : cat [s, t] = ⟨(s.data.toList ++ t.data.toList).toArray⟩ := by simp [cat]
theorem cat_size_two (s t : ByteArray) : (cat [s, t]).size = s.size + t.size := by
  rw [cat_two]
  show (s.data.toList ++ t.data.toList).toArray.size = _
  rw [List.size_toArray, List.length_append]
  rfl

/-- Pieces that are those of a value of n bytes. -/
def Fits : List ByteArray → Int → Prop
  | [], n => n = 0
  | s :: l, n => (s.size : Int) = min n 240 ∧ Fits l (n - min n 240)
instance decFits : (l : List ByteArray) → (n : Int) → Decidable (Fits l n)
  | [], n => inferInstanceAs (Decidable (n = 0))
  | s :: l, n => @instDecidableAnd _ _ _ (decFits l _)
/-- So many pieces as a value of n bytes has, and each as long as its. -/
def Fit (l : List ByteArray) (n : Int) : Prop := (l.length : Int) = (n + 239) / 240 ∧ Fits l n
instance (l : List ByteArray) (n : Int) : Decidable (Fit l n) := inferInstanceAs (Decidable (_ ∧ _))
/-- Join. -/
def joinS (l : List ByteArray) (n : Int) : ByteArray := if Long n ∧ l.length ≤ 2 ∧ Fit l n then cat l else ByteArray.empty
def joinE (l : List ByteArray) (n : Int) : Int := if Long n ∧ l.length ≤ 2 then (if Fit l n then 0 else 3) else 4

theorem toNat_le (s : ByteArray) : s.data.toList.length = s.size := rfl

/-- What fits is one piece or two. -/
theorem fit_cases {l : List ByteArray} {n : Int} (hn : Long n) (h : Fit l n) : (∃ s, l = [s] ∧ (s.size : Int) = n ∧ n ≤ 240) ∨ ∃ s t, l = [s, t] ∧ s.size = 240 ∧ (t.size : Int) = n - 240 ∧ 240 < n := by
  obtain ⟨h1, h2⟩ := hn
  obtain ⟨h3, h4⟩ := h
  match l, h3, h4 with
  | [], h3, h4 => simp only [List.length_nil] at h3; omega
  | [s], h3, h4 =>
    simp only [List.length_singleton] at h3
    simp only [Fits] at h4
    exact .inl ⟨s, rfl, by omega, by omega⟩
  | [s, t], h3, h4 =>
    simp only [List.length_cons, List.length_nil] at h3
    simp only [Fits] at h4
    exact .inr ⟨s, t, rfl, by omega, by omega, by omega⟩
  | s :: t :: u :: l, h3, h4 => simp only [List.length_cons] at h3; omega

theorem ext_list {s t : ByteArray} (h : s.data.toList = t.data.toList) : s = t := by
  cases s; cases t
  simp only at h
  congr 1
  exact Array.toList_inj.1 h

theorem cut_cat {l : List ByteArray} {n : Int} (hn : Long n) (h : Fit l n) : cutL (cat l) = l ∧ ((cat l).size : Int) = n := by
  rcases fit_cases hn h with ⟨s, rfl, h1, h2⟩ | ⟨s, t, rfl, h1, h2, h3⟩
  · rw [cat_one]
    refine ⟨?_, h1⟩
    unfold cutL pcs
    have := hn.1
    rw [if_pos (by rw [h1]; exact hn), if_neg (by omega), if_pos (by omega)]
  · have hs := cat_size_two s t
    have hc : (cat [s, t]).data.toList = s.data.toList ++ t.data.toList := by rw [cat_two]
    refine ⟨?_, by omega⟩
    unfold cutL pcs
    rw [if_pos (by rw [show ((cat [s, t]).size : Int) = n by omega]; exact hn), if_neg (by omega), if_neg (by omega)]
    have l1 : s.data.toList.length = 240 := by rw [toNat_le]; exact h1
    have l2 : t.data.toList.length = t.size := toNat_le t
    have x1 : (cat [s, t]).extract 0 240 = s := ext_list (by rw [Lib.extract_data, hc, List.drop_zero, List.take_left' (by omega)])
    have x2 : (cat [s, t]).extract 240 (cat [s, t]).size = t := ext_list (by rw [Lib.extract_data, hc, List.drop_left' l1, List.take_of_length_le (by omega)])
    rw [x1, x2]

/-- What is cut fits, and makes the value. -/
theorem cut_fit {s : ByteArray} (hl : Long s.size) : Fit (cutL s) s.size ∧ cat (cutL s) = s := by
  obtain ⟨h1, h2⟩ := hl
  unfold cutL pcs
  rw [if_pos ⟨h1, h2⟩, if_neg (by omega)]
  by_cases h3 : s.size ≤ 240
  · rw [if_pos h3]
    refine ⟨⟨by simp only [List.length_singleton]; omega, ?_⟩, cat_one s⟩
    simp only [Fits]
    omega
  · rw [if_neg h3]
    have e1 : (s.extract 0 240).size = 240 := by simp only [ByteArray.size_extract]; omega
    have e2 : (s.extract 240 s.size).size = s.size - 240 := by simp only [ByteArray.size_extract]; omega
    refine ⟨⟨by simp only [List.length_cons, List.length_nil]; omega, ?_⟩, ?_⟩
    · simp only [Fits]
      omega
    · apply ext_list
      rw [cat_two, Lib.extract_data, Lib.extract_data]
      have l2 : s.data.toList.length = s.size := toNat_le s
      simp only [List.drop_zero, Nat.sub_zero]
      rw [List.take_of_length_le (l := s.data.toList.drop 240) (by rw [List.length_drop]; omega), List.take_append_drop]

/-- The reference's words: the bytes are as many as told, and cut are these pieces. -/
theorem ref_iff {l : List ByteArray} {n : Int} (hn : Long n) : Fit l n ↔ ((cat l).size : Int) = n ∧ cutL (cat l) = l := by
  constructor
  · intro h
    have := cut_cat hn h
    exact ⟨this.2, this.1⟩
  · rintro ⟨h1, h2⟩
    have hl : Long (cat l).size := by rw [h1]; exact hn
    have := (cut_fit hl).1
    rw [h2, h1] at this
    exact this

end Go.Proofs.YtelenboncejdaaaGreatDoor

/-
  The contracts of chain.isLong, chain.count, chain.Pages, awake and few: answers as the document says; conditions stand at each.
-/
namespace Go.Proofs.YtelenboncejdaaaGreatDoor
open Go.RowKit Go.Sort
set_option linter.unusedVariables false

set_option maxHeartbeats 400000 in
theorem chIsLong_any (n : Int) (w : World) : Calls Tryz.prog 142 #[.int .i64 n] w fun e w' => e = .returned (.bool (decide (Long n))) ∧ w = w' := by
  by_cases h1 : 24 < n
  · by_cases h2 : n ≤ 400
    · rw [show decide (Long n) = true from decide_eq_true ⟨h1, h2⟩]
      go_enter Tryz.func142, Tryz.ntmps142
      go_wp2
      go_ret
      exact ⟨rfl, rfl⟩
    · rw [show decide (Long n) = false from decide_eq_false fun h => h2 h.2]
      go_enter Tryz.func142, Tryz.ntmps142
      go_wp2
      go_ret
      exact ⟨rfl, rfl⟩
  · rw [show decide (Long n) = false from decide_eq_false fun h => h1 h.1]
    go_enter Tryz.func142, Tryz.ntmps142
    go_wp2
    go_ret
    exact ⟨rfl, rfl⟩

set_option maxHeartbeats 400000 in
theorem chCount_any (n : Nat) (w : World) (h : n ≤ 400) : Calls Tryz.prog 143 #[.int .i64 n] w fun e w' => e = .returned (.int .i64 (((n + 239) / 240 : Nat) : Int)) ∧ w = w' := by
  go_enter Tryz.func143, Tryz.ntmps143
  go_wp2
  go_ret
  refine ⟨congrArg (fun z : Int => Ending.returned (Value.int .i64 z)) ?_, rfl⟩
  omega

set_option maxHeartbeats 400000 in
theorem chPages_any (s : ByteArray) (w : World) (hs : s.size ≤ 140737488351232) : Calls Tryz.prog 111 #[.string s] w fun e w' => e = .returned (.int .i64 (pagesN s : Nat)) ∧ w = w' := by
  go_enter Tryz.func111, Tryz.ntmps111
  go_wp2_with fail
  refine (chIsLong_any (s.size : Nat) w).mono ?_
  rintro e w1 ⟨rfl, rfl⟩
  by_cases h : Long s.size
  · rw [decide_eq_true h]
    go_wp2_with fail
    refine (chCount_any s.size w (by have := h.2; omega)).mono ?_
    rintro e w1 ⟨rfl, rfl⟩
    go_wp2
    go_ret
    rw [show pagesN s = (s.size + 239) / 240 from if_pos h]
    exact ⟨rfl, rfl⟩
  · rw [decide_eq_false h]
    go_wp2
    go_ret
    rw [show pagesN s = 0 from if_neg h]
    exact ⟨rfl, rfl⟩

/-- Pieces of a size that is looked at. -/
def ChFew (l : List ByteArray) : Prop := l.length ≤ 20 ∧ ∀ s ∈ l, s.size ≤ 2000
instance (l : List ByteArray) : Decidable (ChFew l) := inferInstanceAs (Decidable (_ ∧ _))

theorem pages_of {s : ByteArray} {n k : Nat} (hs : s.size = n) (hl : Long n) (hk : (n + 239) / 240 = k) : pagesN s = k := by
  unfold pagesN
  rw [hs, if_pos hl, hk]

/-- string(make([]byte, n)). -/
theorem zeros_conv (n : Nat) (w : World) (hn : n ≤ 281474976710656) : ∃ s : ByteArray, s.size = n ∧ (convert 46 9 (.slice (some ⟨w.heap.size, 0, none⟩) n n)).run Tryz.prog (w.alloc (.cells (madeCells #[.int .u8 0] n) 5)) = .ok (.string s) (w.alloc (.cells (madeCells #[.int .u8 0] n) 5)) := by
  refine ⟨⟨(List.replicate n (0 : UInt8)).toArray⟩, by show (List.replicate n (0 : UInt8)).toArray.size = n; simp, conv_rd (fun _ => ⟨_, rfl, by simp, fun j u hu => new_row w _ _ j u ?_⟩) (by simp)⟩
  rw [made_list]
  simpa [bcells, u8] using hu

end Go.Proofs.YtelenboncejdaaaGreatDoor

/-
  The contract of chain.Cut: the pieces that the document says, in a row of its own; conditions stand at it.
-/
namespace Go.Proofs.YtelenboncejdaaaGreatDoor
open Go.RowKit Go.Sort
set_option linter.unusedVariables false

def szOf : Value → Nat
  | .string s => s.size
  | _ => 0

/-- What Cut answers. -/
def ChCutPost (w : World) (s : ByteArray) (e : Ending) (w' : World) : Prop := ∃ v, e = .returned v ∧ OwnS w' w.heap.size v (cutL s) ∧ Below w.heap.size w w'

theorem pcs_zero {r : ByteArray} (h : r.size = 0) : pcs r = [] := if_pos h
theorem extract_self (r : ByteArray) : r.extract 0 r.size = r := ext_list (by rw [Lib.extract_data, List.drop_zero, List.take_of_length_le (by rw [toNat_le]; omega)])
theorem extract_end (r : ByteArray) : (r.extract r.size r.size).size = 0 := by rw [ByteArray.size_extract]; omega
theorem pcs_one {r : ByteArray} (h : r.size ≠ 0) (h2 : r.size ≤ 240) : pcs r = [r] ++ pcs ByteArray.empty := by
  rw [show pcs ByteArray.empty = [] from pcs_zero rfl, List.append_nil]
  exact (if_neg h).trans (if_pos h2)
theorem pcs_two {r : ByteArray} (h2 : 240 < r.size) (h4 : r.size ≤ 400) : pcs r = [r.extract 0 240] ++ pcs (r.extract 240 r.size) := by
  have hs : (r.extract 240 r.size).size = r.size - 240 := by simp only [ByteArray.size_extract]; omega
  have hr : pcs (r.extract 240 r.size) = [r.extract 240 r.size] := by
    unfold pcs
    rw [if_neg (by omega), if_pos (by omega)]
  rw [hr]
  unfold pcs
  rw [if_neg (by omega), if_neg (by omega)]
  rfl

set_option maxHeartbeats 800000 in
set_option maxRecDepth 100000 in
theorem chCut_any (s : ByteArray) (w : World) (hs : s.size ≤ 140737488351232) : Calls Tryz.prog 146 #[.string s] w (ChCutPost w s) := by
  go_enter Tryz.func146, Tryz.ntmps146
  go_wp2_with fail
  refine (chPages_any s w hs).mono ?_
  rintro e w1 ⟨rfl, rfl⟩
  by_cases hl : Long s.size
  · obtain ⟨p, hp⟩ : ∃ p, p = pagesN s := ⟨_, rfl⟩
    have hp0 : p ≠ 0 := by
      rw [hp]
      unfold pagesN
      rw [if_pos hl]
      have := hl.1
      omega
    rw [← hp]
    have HP := Lib.hid hp
    have HL := Lib.hid hl
    clear hp hl
    go_wp2
    simp only [show ((p : Int) == 0) = false by simpa using hp0]
    go_loopw [0, 3] (fun i v wr => ∃ (r : ByteArray) (done : List ByteArray), i = .string r ∧ r.size ≤ 400 ∧ done ++ pcs r = pcs s ∧ OwnS wr w.heap.size v done ∧ Below w.heap.size w wr ∧ done.length + r.size ≤ 400) (fun i _ _ => szOf i)
    case atStart => exact ⟨s, [], rfl, by have := HL.out.2; omega, rfl, ⟨by simp, .inr ⟨_, _, _, rfl, Nat.le_refl _, heap_alloc_new w _, Nat.le_refl _, Nat.zero_le _, rfl, rfl⟩⟩, (Below.refl _ _).alloc (Nat.le_refl _) _, by have := HL.out.2; simp only [List.length_nil]; omega⟩
    case round =>
      obtain ⟨r, done, rfl, hr, hd, hown, hbw, hdl⟩ := hrel
      have hemp := empty_eq r
      have HD := Lib.hid hd
      have HO : Hid (OwnS wr w.heap.size u3 done) := Lib.hid hown
      clear hd hown
      by_cases h0 : r.size = 0
      · rw [decide_eq_true h0] at hemp
        have HF := Lib.hid (show done = cutL s by
          have := HD.out
          rw [pcs_zero h0, List.append_nil] at this
          rw [this]
          exact (if_pos HL.out).symm)
        clear h0
        go_wp2
        go_ret
        exact ⟨u3, rfl, HF.out ▸ HO.out, hbw⟩
      rw [decide_eq_false h0] at hemp
      by_cases h2 : r.size ≤ 240
      · have hmin : min (r.size : Int) 240 = r.size := by omega
        have hex : r.size ≤ 140737488351232 := by omega
        have hpc : done ++ [r] ++ pcs (ByteArray.empty) = pcs s := by rw [List.append_assoc, ← pcs_one h0 h2]; exact HD.out
        have hrs : ByteArray.empty.size < r.size := by show 0 < r.size; omega
        have HC := Lib.hid hpc
        have HX := Lib.hid hrs
        clear hpc hrs
        go_wp2_with fail
        refine (strClone_any (r) wr hex).mono ?_
        rintro e w1 ⟨rfl, hb1⟩
        have hbw1 := bthen hbw hb1
        obtain ⟨v', w2, hrun, hown2, hg2⟩ := run_append_str 176 (HO.out.below hb1) (r) (by omega) hbw1.size
        have hba : Below w1.heap.size w1 (w1.alloc (.cells #[.string (r)] 9)) := (Below.refl _ _).alloc (Nat.le_refl _) _
        have hbwa := bthen hbw1 hba
        have HG := Lib.hid (((HO.out.below hb1).below hba).grow_below hbwa hbwa.size hg2)
        have HR := Lib.hid hrun
        have HO2 := Lib.hid hown2
        clear hrun hown2 hg2 hba hbwa hex
        go_wp2_with (at_builtin; refine wpList_append_ran rfl (.tmp 14) (.tmp 19) 176 rfl _ _ _ _ rfl rfl HR.out ?_)
        exact ⟨⟨ByteArray.empty, done ++ [r], rfl, by have := HX.out; omega, HC.out, HO2.out, HG.out, by have := HX.out; rw [List.length_append, List.length_singleton]; omega⟩, HX.out⟩
      · have hmin : min (r.size : Int) 240 = 240 := by omega
        have hex : (r.extract 0 240).size ≤ 140737488351232 := by rw [ByteArray.size_extract]; omega
        have hpc : done ++ [r.extract 0 240] ++ pcs (r.extract 240 r.size) = pcs s := by rw [List.append_assoc, ← pcs_two (by omega) hr]; exact HD.out
        have hrs : (r.extract 240 r.size).size < r.size := by rw [ByteArray.size_extract]; omega
        have HC := Lib.hid hpc
        have HX := Lib.hid hrs
        clear hpc hrs
        go_wp2_with fail
        refine (strClone_any (r.extract 0 240) wr hex).mono ?_
        rintro e w1 ⟨rfl, hb1⟩
        have hbw1 := bthen hbw hb1
        obtain ⟨v', w2, hrun, hown2, hg2⟩ := run_append_str 176 (HO.out.below hb1) (r.extract 0 240) (by omega) hbw1.size
        have hba : Below w1.heap.size w1 (w1.alloc (.cells #[.string (r.extract 0 240)] 9)) := (Below.refl _ _).alloc (Nat.le_refl _) _
        have hbwa := bthen hbw1 hba
        have HG := Lib.hid (((HO.out.below hb1).below hba).grow_below hbwa hbwa.size hg2)
        have HR := Lib.hid hrun
        have HO2 := Lib.hid hown2
        clear hrun hown2 hg2 hba hbwa hex
        go_wp2_with (at_builtin; refine wpList_append_ran rfl (.tmp 14) (.tmp 19) 176 rfl _ _ _ _ rfl rfl HR.out ?_)
        exact ⟨⟨r.extract 240 r.size, done ++ [r.extract 0 240], rfl, by have := HX.out; omega, HC.out, HO2.out, HG.out, by have := HX.out; rw [List.length_append, List.length_singleton]; omega⟩, HX.out⟩
  · have hp : pagesN s = 0 := if_neg hl
    have hc : cutL s = [] := if_neg hl
    rw [hp]
    have HC := Lib.hid hc
    clear hc hp hl
    go_wp2
    go_ret
    exact ⟨_, rfl, by rw [HC.out]; exact OwnL.nil_ _ _ _, Below.refl _ _⟩

end Go.Proofs.YtelenboncejdaaaGreatDoor

/-
  The contracts of chain.fit and chain.Join: the value that the document says, or its error; conditions stand at each.
-/
namespace Go.Proofs.YtelenboncejdaaaGreatDoor
open Go.RowKit Go.Sort
set_option linter.unusedVariables false

theorem min_le {a : Int} (h : a ≤ 240) : min a 240 = a := by omega
theorem min_ge {a : Int} (h : 240 < a) : min a 240 = 240 := by omega

set_option maxHeartbeats 800000 in
theorem chFit_any (A : Option Addr) (n c m : Nat) (l : List ByteArray) (w : World) (hr : Ss w A l) (hn : l.length = n) (hb : n ≤ 100) (hm : Long m) (hs : ∀ s ∈ l, s.size ≤ 140737488351232) :
    Calls Tryz.prog 183 #[.slice A n c, .int .i64 m] w fun e w' => e = .returned (.bool (decide (Fit l m))) ∧ w = w' := by
  have Hn := Lib.hid hn
  have HM := Lib.hid hm
  have HS := Lib.hid hs
  have hm4 : m ≤ 400 := by have := hm.2; omega
  clear hn hm hs
  go_enter Tryz.func183, Tryz.ntmps183
  go_wp2_with fail
  refine (chCount_any m w hm4).mono ?_
  rintro e w1 ⟨rfl, rfl⟩
  by_cases hc : n = (m + 239) / 240
  · rw [← hc]
    have Hc := Lib.hid hc
    clear hc
    go_wp2
    go_loopw [1, 15] (fun z i wr => ∃ (k : Nat) (sz : Int), k ≤ n ∧ i = .int .i64 k ∧ z = .int .i64 sz ∧ sz = max (m - 240 * k) 0 ∧ (Fits l m ↔ Fits (l.drop k) sz) ∧ wr = w) (fun _ i _ => n - (intOf i).toNat)
    case atStart => exact ⟨0, m, Nat.zero_le _, rfl, rfl, by omega, by rw [List.drop_zero], rfl⟩
    case round =>
      obtain ⟨k, sz, hk, rfl, rfl, hsz, hiff, rfl⟩ := hrel
      have HI := Lib.hid hiff
      have HZ := Lib.hid hsz
      have hz0 : 0 ≤ sz ∧ sz ≤ 400 := by omega
      clear hiff hsz
      by_cases hlt : k < n
      · obtain ⟨ad, x, rfl, hx, hl, h1⟩ := hr.at_ (i := k) (by rw [Hn.out]; exact hlt)
        have hs1 := HS.out x (List.mem_of_getElem? hx)
        have hdrop : l.drop k = x :: l.drop (k + 1) := by
          obtain ⟨hlk, hxe⟩ := List.getElem?_eq_some_iff.1 hx
          rw [← hxe]
          exact List.drop_eq_getElem_cons hlk
        have Hd := Lib.hid hdrop
        clear hx hdrop
        by_cases h2 : sz ≤ 240
        · have hmin := min_le h2
          by_cases hd : (x.size : Int) = sz
          · go_wp2
            refine ⟨⟨k + 1, 0, by omega, by go_num, ?_, ?_, ?_, by trivial⟩, by simp [intOf]; omega⟩
            · rfl
            · have := HZ.out
              omega
            · refine HI.out.trans ?_
              rw [Hd.out]
              show (_ ∧ Fits _ (sz - min sz 240)) ↔ _
              rw [hmin, Int.sub_self]
              exact and_iff_right hd
          · go_wp2
            go_ret
            rw [show decide (Fit l m) = false from decide_eq_false fun h => by
              have := HI.out.1 h.2
              rw [Hd.out] at this
              have := this.1
              omega]
            exact ⟨rfl, rfl⟩
        · have hmin := min_ge (by omega : 240 < sz)
          by_cases hd : (x.size : Int) = 240
          · go_wp2
            refine ⟨⟨k + 1, sz - 240, by omega, by go_num, ?_, ?_, ?_, by trivial⟩, by simp [intOf]; omega⟩
            · rfl
            · have := HZ.out
              omega
            · refine HI.out.trans ?_
              rw [Hd.out]
              show (_ ∧ Fits _ (sz - min sz 240)) ↔ _
              rw [hmin]
              exact and_iff_right hd
          · go_wp2
            go_ret
            rw [show decide (Fit l m) = false from decide_eq_false fun h => by
              have := HI.out.1 h.2
              rw [Hd.out] at this
              have := this.1
              omega]
            exact ⟨rfl, rfl⟩
      · have he : k = n := by omega
        subst he
        go_wp2
        go_ret
        rw [show decide (Fit l m) = true from decide_eq_true ⟨by rw [Hn.out]; have := Hc.out; omega, HI.out.2 (by
          rw [List.drop_of_length_le (by rw [Hn.out]; exact Nat.le_refl _)]
          show sz = 0
          have := Hc.out
          have := HZ.out
          omega)⟩]
        exact ⟨rfl, rfl⟩
  · go_wp2
    go_ret
    rw [show decide (Fit l m) = false from decide_eq_false fun h => by
      have := h.1
      rw [Hn.out] at this
      omega]
    exact ⟨rfl, rfl⟩

theorem wpList_append_ran2 {ops : Array Oper} {rest : List Oper} {o : Oper} {a : Act} {w : World} {Q : Exit → Act → World → Prop} (hgd : o.guard = none) (s x : Operand) (t t2 : TypeId)
    (ho : o.op = .call { callee := .builtin .append, args := #[s, x], argTypes := #[t, t2] }) (v u v' : Value) (w' : World) (hs : a.eval s = v) (hx : a.eval x = u)
    (hrun : (Builtin.append_ #[t, t2] o.type #[v, u]).run Tryz.prog w = .ok v' w') (h : wpList Tryz.prog ops Q rest (a.put o.dst v') w') : wpList Tryz.prog ops Q (o :: rest) a w :=
  wpList_plain hgd fun _ hK => by
    unfold Oper.wp execOp
    simp only [ho, resolve, invoke, builtin, Sem.run_bind, Sem.run_pure, Result.andThen_ok, List.map_toArray, List.map_cons, List.map_nil, hs, hx, hrun]
    exact hK _ _ h

/-- Bytes in a row of the call's own. -/
def OwnB (w : World) (base : Nat) (v : Value) (l : List UInt8) : Prop := w.ownsRow base 5 1 v l.length (bcells l)
theorem OwnB.form {w : World} {base : Nat} {v : Value} {l : List UInt8} (h : OwnB w base v l) : ∃ A c, v = .slice A l.length c ∧ l.length ≤ c ∧ Rd w A l := by
  rcases h.2 with ⟨rfl, h0⟩ | ⟨g, cap, cur, rfl, hg, hh, hc, _⟩
  · exact ⟨none, 0, by rw [h0], by omega, fun hl => by omega⟩
  · exact ⟨_, _, rfl, hc, fun _ => ⟨_, rfl, lt_of_block hh, h.cells (g := g) rfl⟩⟩
theorem OwnB.at_block {w : World} {base : Nat} {v : Value} {l : List UInt8} (h : OwnB w base v l) : ∀ g, v.ownBlock = some g → base ≤ g := by
  intro g hg
  rcases h.2 with ⟨rfl, h0⟩ | ⟨g', cap, cur, rfl, hb, _⟩
  · simp [Value.ownBlock] at hg
  · have : g' = g := by simpa [Value.ownBlock] using hg
    omega
/-- append(v, s...): onto a row of the call's own. -/
theorem run_append_text {w : World} {base : Nat} {v : Value} {l : List UInt8} (ty : TypeId) (h : OwnB w base v l) (s : ByteArray) (hb : l.length + s.size ≤ 140737488351232) (hbase : base ≤ w.heap.size) :
    ∃ v' w', (Builtin.append_ #[46, 9] ty #[v, .string s]).run Tryz.prog w = .ok v' w' ∧ OwnB w' base v' (l ++ s.data.toList) ∧ w.grownBy w' v.ownBlock := by
  obtain ⟨i0, hi0, hz0, hz1, hz2⟩ := info_parts u8info
  obtain ⟨v', w', h1, h2, h3, _⟩ := Lib.run_append_own_string (P := Tryz.prog) w base 46 9 ty 5 i0 Tryz.underlying46 Tryz.underlying9 hi0 hz0 hz1 hz2 v l.length (bcells l) h s (by simp only [maxLen]; omega) (by omega) hbase
  refine ⟨v', w', h1, ?_, h3⟩
  unfold OwnB
  rw [List.length_append, bcells_append]
  exact h2

/-- The bytes of pieces. -/
def catL (l : List ByteArray) : List UInt8 := l.flatMap fun s => s.data.toList
theorem catL_snoc {l : List ByteArray} {k : Nat} {x : ByteArray} (h : l[k]? = some x) : catL (l.take (k + 1)) = catL (l.take k) ++ x.data.toList := by
  rw [List.take_add_one, h]
  simp [catL]
theorem catL_le (l : List ByteArray) (k : Nat) : (catL (l.take k)).length ≤ (catL l).length := by
  have h : catL l = catL (l.take k) ++ catL (l.drop k) := by
    unfold catL
    rw [← List.flatMap_append, List.take_append_drop]
  rw [h, List.length_append]
  omega

/-- What Join answers. -/
def ChJoinPost (w : World) (l : List ByteArray) (n : Int) (e : Ending) (w' : World) : Prop := e = .returned (.tuple #[.string (joinS l n), .int .i64 (joinE l n)]) ∧ Below w.heap.size w w'

set_option maxHeartbeats 1600000 in
set_option maxRecDepth 100000 in
theorem chJoin_any (A : Option Addr) (n c : Nat) (z : Int) (l : List ByteArray) (w : World) (hr : Ss w A l) (hn : l.length = n) (hb : n ≤ 140737488351232) (hs : ∀ s ∈ l, s.size ≤ 140737488351232) :
    Calls Tryz.prog 167 #[.slice A n c, .int .i64 z] w (ChJoinPost w l z) := by
  have Hn := Lib.hid hn
  have HS := Lib.hid hs
  clear hn hs
  go_enter Tryz.func167, Tryz.ntmps167
  go_wp2_with fail
  refine (chIsLong_any z w).mono ?_
  rintro e w1 ⟨rfl, rfl⟩
  by_cases hz : Long z
  · rw [decide_eq_true hz]
    have HZ := Lib.hid hz
    obtain ⟨m, rfl⟩ : ∃ m : Nat, z = m := ⟨z.toNat, by have := hz.1; omega⟩
    have hm4 : m ≤ 400 := by have := hz.2; omega
    clear hz
    go_wp2_with fail
    refine (chCount_any 400 w (by omega)).mono ?_
    rintro e w1 ⟨rfl, rfl⟩
    by_cases h2 : n ≤ 2
    · go_wp2_with fail
      refine (chFit_any A n c m l w hr Hn.out (by omega) HZ.out HS.out).mono ?_
      rintro e w1 ⟨rfl, rfl⟩
      by_cases hf : Fit l m
      · rw [decide_eq_true hf]
        have hcl : (catL l).length = m := by
          have := (cut_cat HZ.out hf).2
          have e : (cat l).size = (catL l).length := by
            show (catL l).toArray.size = _
            simp
          omega
        have HF := Lib.hid hf
        have HCL := Lib.hid hcl
        clear hf hcl
        have hmk : ∀ W : World, (Instr.makeSlice 46 (.int .i64 0) (.int .i64 m)).run Tryz.prog W = .ok (.slice (some ⟨W.heap.size, 0, none⟩) 0 m) (W.alloc (.cells (madeCells #[.int .u8 0] m) 5)) := run_make_bytes 0 m (Nat.zero_le _) (by omega)
        go_wp2
        go_loopw [6, 26] (fun v i wr => ∃ k : Nat, k ≤ n ∧ i = .int .i64 k ∧ OwnB wr w.heap.size v (catL (l.take k)) ∧ Below w.heap.size w wr) (fun _ i _ => n - (intOf i).toNat)
        case atStart => exact ⟨0, Nat.zero_le _, rfl, ⟨by simp [catL, bcells], .inr ⟨_, _, _, rfl, Nat.le_refl _, heap_alloc_new w _, Nat.zero_le _, by simp only [maxLen]; omega, by simp [size_madeCells], by simp [catL, bcells]⟩⟩, (Below.refl _ _).alloc (Nat.le_refl _) _⟩
        case round =>
          obtain ⟨k, hk, rfl, hown, hbw⟩ := hrel
          by_cases hlt : k < n
          · obtain ⟨ad, x, rfl, hx, hl, h1⟩ := (hr.below hbw).at_ (i := k) (by rw [Hn.out]; exact hlt)
            have hle := catL_le l (k + 1)
            rw [catL_snoc hx, List.length_append, HCL.out] at hle
            obtain ⟨v', w2, hrun, hown2, hg2⟩ := run_append_text 46 hown x (by have : x.data.toList.length = x.size := rfl; omega) hbw.size
            rw [← catL_snoc hx] at hown2
            have HG := Lib.hid (hbw.grown hg2 hbw.size (fun q hq => hown.at_block q hq))
            have HR := Lib.hid hrun
            have HO2 := Lib.hid hown2
            clear hrun hown2 hg2 hown hle hx
            go_wp2_with (at_builtin; refine wpList_append_ran2 rfl (.tmp 30) (.tmp 31) 46 9 rfl _ _ _ _ rfl rfl HR.out ?_)
            exact ⟨⟨k + 1, by omega, by go_num, HO2.out, HG.out⟩, by simp [intOf]; omega⟩
          · have he : k = n := by omega
            subst he
            rw [List.take_of_length_le (by rw [Hn.out]; exact Nat.le_refl _)] at hown
            obtain ⟨B, d, rfl, hcd, hrd⟩ := hown.form
            have hcv := conv_rd (c := d) hrd rfl
            clear hown hrd
            go_wp2
            go_ret2
            refine ⟨?_, hbw⟩
            rw [show joinS l m = cat l from if_pos ⟨HZ.out, by rw [Hn.out]; exact h2, HF.out⟩, show joinE l m = 0 from (if_pos ⟨HZ.out, by rw [Hn.out]; exact h2⟩).trans (if_pos HF.out)]
            rfl
      · rw [decide_eq_false hf]
        go_wp2
        go_ret2
        refine ⟨?_, Below.refl _ _⟩
        rw [show joinS l m = ByteArray.empty from if_neg fun h => hf h.2.2, show joinE l m = 3 from (if_pos ⟨HZ.out, by rw [Hn.out]; exact h2⟩).trans (if_neg hf)]
        rfl
    · go_wp2
      go_ret2
      refine ⟨?_, Below.refl _ _⟩
      rw [show joinS l m = ByteArray.empty from if_neg fun h => h2 (by have := h.2.1; rw [Hn.out] at this; exact this), show joinE l m = 4 from if_neg fun h => h2 (by have := h.2; rw [Hn.out] at this; exact this)]
      rfl
  · rw [decide_eq_false hz]
    go_wp2
    go_ret2
    refine ⟨?_, Below.refl _ _⟩
    rw [show joinS l z = ByteArray.empty from if_neg fun h => hz h.1, show joinE l z = 4 from if_neg fun h => hz h.1]
    rfl

end Go.Proofs.YtelenboncejdaaaGreatDoor

/-
  The contracts of the reference's Cut and Join and of the law's same: answers as the document says; conditions stand at each.
-/
namespace Go.Proofs.YtelenboncejdaaaGreatDoor
open Go.RowKit Go.Sort
set_option linter.unusedVariables false

/-- What ref.Cut answers. -/
def ChRefCutPost (w : World) (s : ByteArray) (e : Ending) (w' : World) : Prop := ∃ A c, e = .returned (.slice A (cutL s).length c) ∧ (cutL s).length ≤ c ∧ Ss w' A (cutL s) ∧ Below w.heap.size w w'

theorem cutL_none {s : ByteArray} (h : ¬ Long s.size) : cutL s = [] := if_neg h
theorem cutL_one {s : ByteArray} (h : Long s.size) (h2 : s.size ≤ 240) : cutL s = [s] := (if_pos h).trans ((if_neg (by have := h.1; omega)).trans (if_pos h2))
theorem cutL_two {s : ByteArray} (h : Long s.size) (h2 : ¬ s.size ≤ 240) : cutL s = [s.extract 0 240, s.extract 240 s.size] := (if_pos h).trans ((if_neg (by have := h.1; omega)).trans (if_neg h2))

set_option maxHeartbeats 800000 in
theorem chRefCut_any (s : ByteArray) (w : World) (hs : s.size ≤ 140737488351232) : Calls Tryz.prog 84 #[.string s] w (ChRefCutPost w s) := by
  by_cases h1 : s.size ≤ 24
  · have HC := Lib.hid (cutL_none (s := s) fun h => by have := h.1; omega)
    go_enter Tryz.func84, Tryz.ntmps84
    go_wp2
    go_ret
    refine ⟨none, 0, ?_⟩
    rw [HC.out]
    exact ⟨rfl, Nat.le_refl _, Ls.nil _ _, Below.refl _ _⟩
  by_cases h4 : 400 < s.size
  · have HC := Lib.hid (cutL_none (s := s) fun h => by have := h.2; omega)
    go_enter Tryz.func84, Tryz.ntmps84
    go_wp2
    go_ret
    refine ⟨none, 0, ?_⟩
    rw [HC.out]
    exact ⟨rfl, Nat.le_refl _, Ls.nil _ _, Below.refl _ _⟩
  have hl : Long s.size := ⟨by omega, by omega⟩
  by_cases h2 : s.size ≤ 240
  · have HC := Lib.hid (cutL_one hl h2)
    clear hl
    go_enter Tryz.func84, Tryz.ntmps84
    go_wp2
    go_ret
    refine ⟨some ⟨w.heap.size, 0, none⟩, 1, ?_⟩
    rw [HC.out]
    exact ⟨rfl, Nat.le_refl _, ss_new w [s], (Below.refl _ _).alloc (Nat.le_refl _) _⟩
  · have HC := Lib.hid (cutL_two hl h2)
    clear hl
    go_enter Tryz.func84, Tryz.ntmps84
    go_wp2
    go_region
    all_goals
      go_wp2
      go_ret
      refine ⟨some ⟨w.heap.size, 0, none⟩, 2, ?_⟩
      rw [HC.out]
      exact ⟨rfl, Nat.le_refl _, ss_new _ [s.extract 0 240, s.extract 240 s.size], ((Below.refl _ _).drew).alloc (Nat.le_refl _) _⟩

theorem cat_snoc {l : List ByteArray} {k : Nat} {x : ByteArray} (h : l[k]? = some x) : cat (l.take (k + 1)) = cat (l.take k) ++ x := by
  apply ext_list
  show catL (l.take (k + 1)) = _
  rw [catL_snoc h]
  simp [cat, catL, ByteArray.data_append]
theorem cat_small {l : List ByteArray} (h2 : l.length ≤ 2) (hs : ∀ s ∈ l, s.size ≤ 2000) (k : Nat) : (cat (l.take k)).size ≤ 4000 := by
  have h : (catL l).length ≤ 4000 := by
    match l, h2, hs with
    | [], _, _ => simp [catL]
    | [s], _, hs =>
      have := hs s (by simp)
      have e : s.data.toList.length = s.size := rfl
      simp only [catL, List.flatMap_cons, List.flatMap_nil, List.append_nil]
      omega
    | [s, t], _, hs =>
      have := hs s (by simp)
      have := hs t (by simp)
      have e : s.data.toList.length = s.size := rfl
      have e' : t.data.toList.length = t.size := rfl
      simp only [catL, List.flatMap_cons, List.flatMap_nil, List.append_nil, List.length_append]
      omega
  have := catL_le l k
  have e : (cat (l.take k)).size = (catL (l.take k)).length := by
    show (catL (l.take k)).toArray.size = _
    simp
  omega

end Go.Proofs.YtelenboncejdaaaGreatDoor
