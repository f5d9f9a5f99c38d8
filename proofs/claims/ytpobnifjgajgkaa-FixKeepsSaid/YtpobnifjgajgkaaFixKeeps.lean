/-
  The law FixKeeps answers true for all bytes, every text and every number: what goes in stays as it is, its spare room too, and a Reader reads what the bytes were; no conditions.
-/
import Derived.Test.YtpobnifjgajgkaaFixConv
import Derived.Test.YtpobnifjgajgkaaFixRefR
import Derived.Test.YtpobnifjgajgkaaFixDoes
import Derived.Test.YtpobnifjgajgkaaDrawnB
import Derived.Lib.BufferWrite
import Derived.ProofKit
import Derived.OpenShut
import Derived.Carry
import Derived.ShutString
import Derived.SizedLaws
namespace Go.Proofs.Ytpobnifjgajgkaa
open Go.RowKit Go.Sort
set_option linter.unusedVariables false
set_option linter.unusedSimpArgs false

/-- make and copy: a row that begins with the bytes of b, 2000 zeros behind. -/
theorem room_of (b : ByteArray) (c : Nat) (hc : c = b.size + 2000) : ∃ (M : World → World),
    (∀ w : World, (Builtin.copy_ #[23, 9] 3 #[.slice (some ⟨w.heap.size, 0, none⟩) b.size c, .string b]).run Try.prog (w.alloc (.cells (madeCells #[.int .u8 0] c) 5)) = .ok (goInt b.size) (M w)) ∧
    ∀ w : World, (M w).heap[w.heap.size]? = some (.cells (bcells b.data.toList ++ List.replicate 2000 (Value.int .u8 0)).toArray 5 (0, 0)) ∧ Below w.heap.size w (M w) := by
  refine ⟨_, fun w => Lib.run_copy_row_string (P := Try.prog) _ 23 9 3 5 w.heap.size 0 b.size c b (madeCells #[.int .u8 0] c) 5 Try.underlying23 (by kernel_rfl) (heap_alloc_new w _) (Nat.le_refl _) (by rw [size_madeCells]; omega), fun w => ⟨?_, ?_⟩⟩
  · refine (setRow_heap _ w.heap.size _ _ 5 _ (heap_alloc_new w _)).trans ?_
    rw [made_list]
    have e : Lib.byteCells b.data.toList = bcells b.data.toList := rfl
    rw [e]
    simp only [List.toList_toArray, List.take_zero, List.nil_append, List.drop_replicate]
    rw [show c - (0 + b.size) = 2000 by omega]
  · exact below_setRow ((Below.refl _ _).alloc (Nat.le_refl _) _) (Nat.le_refl _) _

theorem rd_pre {w : World} {h : Nat} {l : List UInt8} {rest : List Value} (hh : w.heap[h]? = some (.cells (bcells l ++ rest).toArray 5 (0, 0))) : Rd w (some ⟨h, 0, none⟩) l := fun _ => ⟨_, rfl, lt_of_block hh, fun j u hu => by
  have e : ((⟨h, 0, none⟩ : Addr).add j) = ⟨h, j, none⟩ := by unfold Addr.add; split <;> simp_all
  rw [e, cell_of_block hh]
  have hj := (List.getElem?_eq_some_iff.1 hu).1
  rw [List.getElem?_toArray, List.getElem?_append_left hj]
  exact hu⟩

/-- A row of bytes that may be written. -/
def XRow (w : World) (g m : Nat) : Prop := g < w.heap.size ∧ ∀ j, j < m → (∃ v : Int, w.cell? ⟨g, j, none⟩ = some (.int .u8 v)) ∧ w.frozen? ⟨g, j, none⟩ = false
theorem XRow.set {w : World} {g m : Nat} (h : XRow w g m) (k : Nat) (v : Int) : XRow (w.setCell ⟨g, k, none⟩ (.int .u8 v)) g m := by
  refine ⟨by simpa [World.setCell] using h.1, fun j hj => ?_⟩
  obtain ⟨⟨u, hu⟩, hf⟩ := h.2 j hj
  refine ⟨?_, by simpa using hf⟩
  by_cases hjk : j = k
  · subst hjk
    exact ⟨v, World.cell?_setCell_same _ _ _ hu⟩
  · exact ⟨u, (World.cell?_setCell_other _ _ _ _ (fun e => hjk (by injection e with _ e; exact e.symm))).trans hu⟩
theorem XRow.of_own {w : World} {base g n c : Nat} {l : List UInt8} (h : w.ownsRow base 5 1 (.slice (some ⟨g, 0, none⟩) n c) n (bcells l)) : XRow w g n := by
  rcases h.2 with ⟨hv, _⟩ | ⟨g', cap, cur, hv, _, hh, hnc, _, hs, ht⟩
  · cases hv
  · cases hv
    have hln : l.length = n := by have := h.1; rw [bcells_length] at this; omega
    refine ⟨lt_of_block hh, fun j hj => ⟨⟨(l[j]'(by omega)).toNat, ?_⟩, by simp [World.frozen?, hh]⟩⟩
    rw [cell_of_block hh]
    have h2 : cur.toList[j]? = (bcells l)[j]? := by
      rw [← ht, List.getElem?_take_of_lt (by omega)]
    rw [Array.getElem?_toList] at h2
    rw [h2]
    simp [bcells, u8, show j < l.length by omega]
theorem XRow.block {w w' : World} {g m : Nat} (h : XRow w g m) (hb : w'.heap[g]? = w.heap[g]?) (hs : g < w'.heap.size) : XRow w' g m :=
  ⟨hs, fun j hj => ⟨(by obtain ⟨u, hu⟩ := (h.2 j hj).1; exact ⟨u, (World.cell?_of_block (w := w) (a := ⟨g, j, none⟩) hb).trans hu⟩), (World.frozen?_of_block (w := w) (a := ⟨g, j, none⟩) hb).trans (h.2 j hj).2⟩⟩

/-- []byte(s), in whatever world: it may be written, too. -/
theorem bytes_of_x (s : ByteArray) : ∃ (C : World → Nat) (F : World → World),
    (∀ w : World, (convert 9 23 (.string s)).run Try.prog w = .ok (.slice (some ⟨w.heap.size, 0, none⟩) s.size (C w)) (F w)) ∧
    ∀ w : World, Rd (F w) (some ⟨w.heap.size, 0, none⟩) s.data.toList ∧ Below w.heap.size w (F w) ∧ XRow (F w) w.heap.size s.size := by
  have key : ∀ (w : World) (j : Nat) (hj : j < s.data.size), (w.drew.alloc (.cells (bytesRow s (grownCap w s.size 0 5)) 5 ((bytesRow s (grownCap w s.size 0 5)).size, (bytesRow s (grownCap w s.size 0 5)).size + 1))).cell? ⟨w.heap.size, j, none⟩ = some (u8 s.data[j]) := by
    intro w j hj
    have h := World.cell?_alloc_mark w.drew (bytesRow s (grownCap w s.size 0 5)) 5 ((bytesRow s (grownCap w s.size 0 5)).size, (bytesRow s (grownCap w s.size 0 5)).size + 1) j
    refine Eq.trans h ?_
    unfold bytesRow
    rw [Array.getElem?_append_left (by simpa using hj)]
    simp [u8, Array.getElem?_eq_getElem hj]
  refine ⟨_, _, fun w => run_bytes_of_string w 9 23 5 s Try.underlying9 Try.underlying23 Try.underlying5, fun w => ⟨fun _ => ⟨_, rfl, by simp, fun j u hu => ?_⟩, ?_, by simp, fun j hj => ⟨⟨_, key w j hj⟩, ?_⟩⟩⟩
  · have e : ((⟨w.heap.size, 0, none⟩ : Addr).add j) = ⟨w.heap.size, j, none⟩ := by unfold Addr.add; split <;> simp_all
    rw [e]
    have hj : j < s.data.size := by
      have := (List.getElem?_eq_some_iff.1 hu).1
      simpa [bcells] using this
    rw [key w j hj, ← hu]
    simp [bcells, Array.getElem?_eq_getElem hj]
  · exact (Below.refl _ _).drew.alloc (Nat.le_refl _) _
  · have hb : (w.drew.alloc (.cells (bytesRow s (grownCap w s.size 0 5)) 5 ((bytesRow s (grownCap w s.size 0 5)).size, (bytesRow s (grownCap w s.size 0 5)).size + 1))).heap[w.heap.size]? = some (.cells (bytesRow s (grownCap w s.size 0 5)) 5 ((bytesRow s (grownCap w s.size 0 5)).size, (bytesRow s (grownCap w s.size 0 5)).size + 1)) := by
      show (w.heap.push _)[w.heap.size]? = _
      simp
    have hsz : j < (bytesRow s (grownCap w s.size 0 5)).size := by
      have hj' : j < s.data.size := hj
      simp only [bytesRow, Array.size_append, Array.size_map]
      omega
    simp only [World.frozen?, hb]
    simp
    omega

set_option maxRecDepth 100000 in
set_option maxHeartbeats 1000000 in
theorem fixKeeps_long (b s : ByteArray) (n : Int) (w : World) (h : 1000 < b.size ∨ 1000 < s.size) (hb : b.size ≤ 140737488351232) (hs : s.size ≤ 140737488351232) :
    Calls Try.prog 7 #[.string b, .string s, .int .i64 n] w fun e w' => e = .returned (.bool true) ∧ Below w.heap.size w w' := by
  by_cases h1 : 1000 < b.size
  · have hd : decide ((1000 : Int) < (b.size : Int)) = true := by simp; omega
    go_enter Try.func7, Try.ntmps7
    go_wp2_with fail
    refine (awake_any _).mono ?_
    rintro x w1 ⟨rfl, hb1⟩
    go_wp2_with fail
    refine (awake_any _).mono ?_
    rintro x w2 ⟨rfl, hb2⟩
    go_wp2
    go_ret
    exact ⟨rfl, bthen hb1 hb2⟩
  · have h2 : 1000 < s.size := by omega
    have hd : decide ((1000 : Int) < (b.size : Int)) = false := by simp; omega
    have hd2 : decide ((1000 : Int) < (s.size : Int)) = true := by simp; omega
    clear h
    go_enter Try.func7, Try.ntmps7
    go_wp2_with fail
    refine (awake_any _).mono ?_
    rintro x w1 ⟨rfl, hb1⟩
    go_wp2_with fail
    refine (awake_any _).mono ?_
    rintro x w2 ⟨rfl, hb2⟩
    go_wp2
    go_ret
    exact ⟨rfl, bthen hb1 hb2⟩

set_option maxRecDepth 100000 in
set_option maxHeartbeats 4000000 in
theorem fixKeeps_walk (b s : ByteArray) (n : Int) (hbs : b.size ≤ 1000) (hss : s.size ≤ 1000) (h1 : -9223372036854775808 ≤ n) (h2 : n ≤ 9223372036854775807) (w : World) :
    Calls Try.prog 7 #[.string b, .string s, .int .i64 n] w fun e w' => e = .returned (.bool true) ∧ Below w.heap.size w w' := by
  have hd1 : decide ((1000 : Int) < (b.size : Int)) = false := by simp; omega
  have hd2 : decide ((1000 : Int) < (s.size : Int)) = false := by simp; omega
  obtain ⟨c, hc⟩ : ∃ c, c = b.size + 2000 := ⟨_, rfl⟩
  have hci : ((b.size : Int) + 2000) = (c : Int) := by omega
  have hmk : ∀ w : World, (Instr.makeSlice 23 (.int .i64 (b.size : Int)) (.int .i64 ((b.size : Int) + 2000))).run Try.prog w =
      .ok (.slice (some ⟨w.heap.size, 0, none⟩) b.size c) (w.alloc (.cells (madeCells #[.int .u8 0] c) 5)) := by
    intro w
    rw [hci]
    exact run_make_bytes b.size c (by omega) (by omega) w
  obtain ⟨M, hcp, hM⟩ := room_of b c hc
  have HM := Lib.hid hM
  have Hci := Lib.hid hci
  have hclo : b.size + 2000 ≤ c := by omega
  have hchi : c ≤ b.size + 2000 := by omega
  clear hc hM hci
  go_enter Try.func7, Try.ntmps7
  go_wp2_with fail
  refine (awake_any _).mono ?_
  rintro x w1 ⟨rfl, hb1⟩
  go_wp2_with fail
  obtain ⟨hroom, hb2⟩ := HM.out w1
  generalize M w1 = w2 at *
  have hR0 : w1.heap.size < w2.heap.size := lt_of_block hroom
  have hb02 := bthen hb1 hb2
  have hRw : w.heap.size ≤ w1.heap.size := hb1.size
  generalize w1.heap.size = R0 at *
  have Hroom := Lib.hid hroom
  clear hmk hcp HM hb1 hb2 hroom w1
  refine (put16_any _ b.size c b.data.toList n _ (rd_pre Hroom.out) rfl (by omega) h1 h2).mono ?_
  rintro x w3 ⟨rfl, own3, hb3⟩
  have hx := XRow.of_own own3
  clear own3
  go_wp2_with fail
  refine (put32_any _ b.size c b.data.toList n _ ((rd_pre Hroom.out).below hb3) rfl (by omega) h1 h2).mono ?_
  rintro x w4 ⟨rfl, own4, hb4⟩
  have hy := XRow.of_own own4
  clear own4
  go_wp2_with fail
  refine (putText_short _ b.size c b.data.toList s _ (((rd_pre Hroom.out).below hb3).below hb4) rfl (by omega) (by omega)).mono ?_
  rintro x w5 ⟨rfl, own5, hb5⟩
  obtain ⟨nz, hnz⟩ : ∃ nz, nz = b.size + 2 + s.size := ⟨_, rfl⟩
  obtain ⟨cz, hcz⟩ : ∃ cz, cz = b.size + (2 + s.size) := ⟨_, rfl⟩
  rw [← hnz, ← hcz] at own5 ⊢
  have Own5 := Lib.hid own5
  clear own5 hnz hcz
  -- where everything lies
  have z23 : w2.heap.size < w3.heap.size := hx.1
  have z34 : w3.heap.size < w4.heap.size := hy.1
  have z45 : w4.heap.size < w5.heap.size := own_lt Own5.out
  have hroom5 : w5.heap[R0]? = some (.cells (bcells b.data.toList ++ List.replicate 2000 (Value.int .u8 0)).toArray 5 (0, 0)) := by
    rw [hb5.block R0 (by omega), hb4.block R0 (by omega), hb3.block R0 (by omega)]
    exact Hroom.out
  have hx5 : XRow w5 w2.heap.size (b.size + 2) := (hx.block (hb4.block _ z23) (by omega)).block (hb5.block _ (by omega)) (by omega)
  have hy5 : XRow w5 w3.heap.size (b.size + 4) := hy.block (hb5.block _ z34) (by omega)
  have hb05 := bthen (bthen (bthen hb02 hb3) hb4) hb5
  have hgx : w.heap.size ≤ w2.heap.size := hb02.size
  have Hroom5 := Lib.hid hroom5
  clear hx hy hb02 hb3 hb4 hb5 Hroom hroom5
  generalize w2.heap.size = gx at *
  generalize w3.heap.size = gy at *
  generalize w4.heap.size = gz at *
  clear w2 w3 w4
  go_wp2
  go_loop [12] (fun i => ∃ k : Nat, b.size ≤ k ∧ k ≤ b.size + 2000 ∧ i = .int .i64 k) (fun i => b.size + 2000 - (intOf i).toNat)
  case atStart => exact ⟨b.size, Nat.le_refl _, by omega, rfl⟩
  case round =>
    obtain ⟨k, hk1, hk2, rfl⟩ := hrel
    by_cases hlt : k < b.size + 2000
    · have hcell : w5.cell? ⟨R0, k, none⟩ = some (.int .u8 0) := by
        rw [cell_of_block Hroom5.out, List.getElem?_toArray, List.getElem?_append_right (by rw [bcells_length, data_len]; omega), bcells_length, data_len]
        rw [List.getElem?_replicate, if_pos (by omega)]
      go_wp2
      exact ⟨⟨k + 1, by omega, by omega, by go_num⟩, by simp [intOf]; omega⟩
    clear hk1 hk2
    go_wp2
    go_loopw [70] (fun i wr => ∃ j : Nat, j ≤ b.size + 2 ∧ i = .int .i64 j ∧ XRow wr gx (b.size + 2) ∧ w5.grownBy wr (some gx)) (fun i _ => b.size + 2 - (intOf i).toNat)
    case atStart => exact ⟨0, Nat.zero_le _, rfl, hx5, World.grownBy.refl _ _⟩
    case round =>
      obtain ⟨j, hj, rfl, hxr, hgr⟩ := hrel
      by_cases hlt2 : j < b.size + 2
      · obtain ⟨⟨v, hcell⟩, hfr⟩ := hxr.2 j hlt2
        have HX := Lib.hid hxr
        clear hxr
        go_wp2
        exact ⟨⟨j + 1, by omega, by go_num, HX.out.set j _, only_setCell hgr rfl _⟩, by simp [intOf]; omega⟩
      have hgr6 := hgr
      have hy6 : XRow wr gy (b.size + 4) := hy5.block (hgr.block gy hy5.1 (fun e => by cases e; omega)) (Nat.lt_of_lt_of_le hy5.1 hgr.size)
      clear hxr hgr
      generalize wr = w6 at *
      go_wp2
      go_loopw [82] (fun i wq => ∃ j : Nat, j ≤ b.size + 4 ∧ i = .int .i64 j ∧ XRow wq gy (b.size + 4) ∧ w6.grownBy wq (some gy)) (fun i _ => b.size + 4 - (intOf i).toNat)
      case atStart => exact ⟨0, Nat.zero_le _, rfl, hy6, World.grownBy.refl _ _⟩
      case round =>
        obtain ⟨j2, hj2, rfl, hxr2, hgr2⟩ := hrel
        by_cases hlt3 : j2 < b.size + 4
        · obtain ⟨⟨v, hcell⟩, hfr⟩ := hxr2.2 j2 hlt3
          have HX := Lib.hid hxr2
          clear hxr2
          go_wp2
          exact ⟨⟨j2 + 1, by omega, by go_num, HX.out.set j2 _, only_setCell hgr2 rfl _⟩, by simp [intOf]; omega⟩
        clear hxr2
        obtain ⟨C, F, hcv, hF⟩ := bytes_of_x s
        have HF := Lib.hid hF
        clear hF
        generalize wr = w7 at *
        go_wp2_with fail
        obtain ⟨hrd8, hb8, hx8⟩ := HF.out w7
        have s56 := hgr6.size
        have s67 := hgr2.size
        generalize F w7 = w8 at *
        have keep8 : ∀ q, q < w5.heap.size → q ≠ gx → q ≠ gy → w8.heap[q]? = w5.heap[q]? := fun q h1 h2 h3 =>
          (hb8.block q (by omega)).trans ((hgr2.block q (by omega) (fun e => h3 (Option.some.inj e))).trans (hgr6.block q h1 (fun e => h2 (Option.some.inj e))))
        have hb08 : Below w.heap.size w w8 := by
          have k6 := below_only hb05 hgr6 hb05.size hgx
          have k7 := below_only k6 hgr2 k6.size (by omega)
          exact bthen k7 hb8
        have hgo : w5.heap.size ≤ w7.heap.size := by omega
        generalize w7.heap.size = go at *
        have s8 : go < w8.heap.size := hx8.1
        clear hb05 hgr6 hgr2 hb8 hcv HF hx5 hy5 hy6
        refine (read_any _ s.size _ s.data.toList _ hrd8 rfl (by omega)).mono ?_
        rintro x w9 ⟨g, rfl, r9, hg9, hb9⟩
        have hx9 : XRow w9 go s.size := hx8.block (hb9.block go s8) (Nat.lt_of_lt_of_le s8 hb9.size)
        have keep9 : ∀ q, q < w5.heap.size → q ≠ gx → q ≠ gy → w9.heap[q]? = w5.heap[q]? := fun q h1 h2 h3 => (hb9.block q (by omega)).trans (keep8 q h1 h2 h3)
        have K9 := Lib.hid keep9
        have R9 := Lib.hid r9
        have hb09 := bthen hb08 hb9
        have hzg : w5.heap.size ≤ w8.heap.size := by omega
        have s9 := hb9.size
        clear keep8 keep9 r9 hx8 hrd8 hb08 hb9
        generalize w8.heap.size = d at *
        go_wp2
        go_loopw [98] (fun i wq => ∃ j : Nat, j ≤ s.size ∧ i = .int .i64 j ∧ XRow wq go s.size ∧ w9.grownBy wq (some go)) (fun i _ => s.size - (intOf i).toNat)
        case atStart => exact ⟨0, Nat.zero_le _, rfl, hx9, World.grownBy.refl _ _⟩
        case round =>
          obtain ⟨j3, hj3, rfl, hxr3, hgr3⟩ := hrel
          by_cases hlt4 : j3 < s.size
          · obtain ⟨⟨v, hcell⟩, hfr⟩ := hxr3.2 j3 hlt4
            have HX := Lib.hid hxr3
            clear hxr3
            go_wp2
            exact ⟨⟨j3 + 1, by omega, by go_num, HX.out.set j3 _, only_setCell hgr3 rfl _⟩, by simp [intOf]; omega⟩
          have hzl := own_lt Own5.out
          -- what lies where, ahead of the last statement
          obtain ⟨U, hU⟩ : ∃ U, U = (wr.alloc (.cells #[.string s, .int .i64 0, .int .i64 0] 34)).drew := ⟨_, rfl⟩
          have r10 : Rdr wr g d s.data.toList 0 0 := ⟨(hgr3.block g R9.out.lt.1 (fun e => by have := Option.some.inj e; omega)).trans R9.out.1, (hgr3.block d R9.out.lt.2 (fun e => by have := Option.some.inj e; omega)).trans R9.out.2.1, R9.out.2.2.1, R9.out.2.2.2⟩
          have RU : Hid (Rdr U g d s.data.toList 0 0) := by rw [hU]; exact r10.alloc _
          have QU : Hid (RefR U wr.heap.size s 0 0) := by rw [hU]; exact ⟨heap_alloc_new wr _, Int.le_refl _, by omega⟩
          have s10 := hgr3.size
          have keepU : ∀ q, q < w5.heap.size → q ≠ gx → q ≠ gy → U.heap[q]? = w5.heap[q]? := fun q h1 h2 h3 => by
            rw [hU]
            exact (Below.heap_alloc wr _ q (by omega)).trans ((hgr3.block q (by omega) (fun e => by have := Option.some.inj e; omega)).trans (K9.out q h1 h2 h3))
          have bU : Hid (Below w.heap.size w U) := by
            rw [hU]
            exact ((below_only hb09 hgr3 hb09.size (by omega)).alloc (Nat.le_trans hb09.size s10) _).drew
          have sU : wr.heap.size < U.heap.size := by rw [hU]; simp
          have hgr : g ≠ wr.heap.size := by have := R9.out.lt.1; omega
          have hdr : d ≠ wr.heap.size := by have := R9.out.lt.2; omega
          have cvR : ∀ q : Dr.Past [g, wr.heap.size] U, (convert 23 9 (.slice (some ⟨R0, 0, none⟩) b.size c)).run Try.prog q.val = .ok (.string b) q.val := by
            intro q
            have hq : q.val.heap[R0]? = some (.cells (bcells b.data.toList ++ List.replicate 2000 (Value.int .u8 0)).toArray 5 (0, 0)) := by
              rw [q.ok.2 R0 (by omega) (by simp; omega), keepU R0 (by omega) (by omega) (by omega)]
              exact Hroom5.out
            have := conv_rd (n := b.size) (c := c) (rd_pre hq) rfl
            rwa [← str_eq b] at this
          have cvZ : ∀ q : Dr.Past [g, wr.heap.size] U, (convert 23 9 (.slice (some ⟨gz, 0, none⟩) nz cz)).run Try.prog q.val = .ok (.string ⟨(b.data.toList ++ (be16 s.size ++ s.data.toList)).toArray⟩) q.val := by
            intro q
            have := conv_own Own5.out q.val (by rw [q.ok.2 gz (by omega) (by simp; omega), keepU gz (by omega) (by omega) (by omega)])
            rwa [List.append_assoc] at this
          generalize hrg : wr.heap.size = rg at *
          have HU := Lib.hid hU
          clear hU r10 keepU hxr3 hgr3 K9 R9 hb09 Own5 Hroom5
          go_wp2
          refine Dr.wp_region_segs [g, rg] [([0, 1, 2, 3, 4, 5, 6, 7, 8], 9), ([10, 11, 12, 13, 14, 16], 15), ([], 17)] [18, 19, 20] (by kernel_rfl) (by kernel_rfl) (by kernel_rfl) (by kernel_rfl) (by intro c a d v w h; cases d <;> exact h) ?_
          rw [← HU.out]
          have qt := put_eq b (be16 s.size ++ s.data.toList)
          have lt : (be16 (s.size : Int) ++ s.data.toList).length = 2 + s.size := by rw [List.length_append, be16_len]; rfl
          generalize hT : be16 (s.size : Int) ++ s.data.toList = T at *
          have HT := Lib.hid hT
          clear hT
          refine Dr.wpSegs_more ?_
          simp only [Dr.pick, List.getElem?_cons_zero, List.getElem?_cons_succ]
          repeat (first | go_big_quiet_step (fail) | quiet_step (fail))
          refine wpQuiet_nil ?_
          refine Dr.wpOp_heavy rfl (by rfl) (fun K hK => ?_)
          go_simp
          refine (refText_short _ s (by omega)).mono ?_
          rintro x w11 ⟨rfl, hb11⟩
          rw [HT.out]
          refine hK _ _ (Dr.But.of_below hb11) ?_
          clear hK K cvR cvZ
          have R11 : Hid (Rdr w11 g d s.data.toList 0 0) := ⟨(hb11.block g RU.out.lt.1).trans RU.out.1, (hb11.block d RU.out.lt.2).trans RU.out.2.1, RU.out.2.2.1, RU.out.2.2.2⟩
          have Q11 : Hid (RefR w11 rg s 0 0) := ⟨(hb11.block rg QU.out.lt).trans QU.out.1, QU.out.2.1, QU.out.2.2⟩
          have b11 : Hid (Below w.heap.size w w11) := bthen bU.out hb11
          have hgw : w.heap.size ≤ g := by omega
          have hrw : w.heap.size ≤ rg := by omega
          refine Dr.wpSegs_more ?_
          simp only [Dr.pick, List.getElem?_cons_zero, List.getElem?_cons_succ]
          repeat (first | go_big_quiet_step (fail) | quiet_step (fail))
          refine wpQuiet_nil ?_
          refine Dr.wpOp_heavy rfl (by rfl) (fun K hK => ?_)
          go_simp
          refine (take8_any w11 g d _ 0 0 R11.out (by rw [data_len]; omega)).mono ?_
          rintro x w12 ⟨rfl, r12, hg12⟩
          refine hK _ _ (Dr.But.of_only hg12 (by simp)) ?_
          clear hK K
          have Q12 : Hid (RefR w12 rg s 0 0) := ⟨(hg12.block rg Q11.out.lt (fun e => hgr (Option.some.inj e).symm)).trans Q11.out.1, Q11.out.2.1, Q11.out.2.2⟩
          refine Dr.wpSegs_more ?_
          simp only [Dr.pick]
          refine wpQuiet_nil ?_
          refine Dr.wpOp_heavy rfl (by rfl) (fun K hK => ?_)
          go_simp
          refine (rtake_any w12 rg s 0 0 1 Q12.out (by omega) (by omega) (by omega)).mono ?_
          rintro x w13 ⟨rfl, r13, hg13⟩
          refine hK _ _ (Dr.But.of_only hg13 (by simp)) ?_
          clear hK K
          refine Dr.wpSegs_last ?_
          simp only [Dr.pick, List.getElem?_cons_zero, List.getElem?_cons_succ]
          repeat (first | go_big_quiet_step (fail) | quiet_step (fail))
          refine wpQuiet_nil ?_
          go_wp2
          go_ret
          have k12 := below_only b11.out hg12 b11.out.size hgw
          exact ⟨rfl, below_only k12 hg13 k12.size hrw⟩

theorem fixKeeps_row (b s : ByteArray) (n : Int) (w : World) (hb : b.size ≤ 140737488351232) (hs : s.size ≤ 140737488351232) (wn : (Lit.int .i64 n).wf = true) :
    Calls Try.prog 7 #[.string b, .string s, .int .i64 n] w fun e w' => e = .returned (.bool true) ∧ Below w.heap.size w w' := by
  have hn : -9223372036854775808 ≤ n ∧ n ≤ 9223372036854775807 := by simpa [Lit.wf, IntKind.min, IntKind.max, IntKind.signed, IntKind.bits] using wn
  by_cases h : 1000 < b.size ∨ 1000 < s.size
  · exact fixKeeps_long b s n w h hb hs
  · exact fixKeeps_walk b s n (by omega) (by omega) hn.1 hn.2 w

end Go.Proofs.Ytpobnifjgajgkaa

namespace Go.Proofs.Ytpobnifjgajgkaa.fixKeeps
open Go.ChangeShapes Go.WideShapes Go.ChangeAt Go.RowKit
open Go.ChangeMaps (open_string shut_string)
set_option linter.unusedVariables false

theorem own : ownKnob Try.prog.godebug = none := by kernel_rfl
theorem laidOut : laidOutB Try.prog = true := by kernel_rfl

set_option maxRecDepth 100000 in
theorem lifted (os : Os) (started : os.Started) (H : Type) (enc : TypeId × Value → H) :
    ReturnsInHanded {} Try.checked os 7 .any (Rows.fixKeepsSpec.pre6 enc Try.prog Try.f7 Rows.fixKeepsRow.domain false) (Rows.fixKeepsSpec.post enc Try.prog Try.f7 false true false false) := by
  refine returnsInHanded_of_change_sized (C := Try.checked) own started (by kernel_rfl) Try.func7
    (ChangeSpec.witness6 (enc := enc) (C := Try.checked) false ⟨#[], #[.string ByteArray.empty, .string ByteArray.empty, .int .i64 0], []⟩ 8 (by kernel_rfl) (by kernel_rfl) (by kernel_rfl) (by kernel_rfl)) ?_
  intro W base args ds gs before hval0 hW hcnd hsz0 _
  have hval : ∀ (j : Nat) t v, Try.f7.params[j]? = some t → args[j]? = some v → Value.okWide Try.prog W .any base t v := hval0
  have hsz : (DataW.weightsEach Try.prog (Try.f7.params.toList ++ Rows.fixKeepsSpec.plain.varTypes Try.prog) (ds ++ gs)).all (· ≤ reachBytes) = true := hsz0
  have hW' := hW
  obtain ⟨p, q, hA0, hV, rfl, hfz, hnd⟩ := hW
  have hA : DataW.TrodAll enc Try.prog W 0 (fun _ => true) true Try.f7.params.toList args.toList ds p := hA0
  rw [Try.params7] at hA hval hsz
  obtain ⟨v0, vs0, d0, ds0, p0, q0, hargs, rfl, rfl, h0, r0⟩ := trodAll_cons hA
  obtain ⟨v1, vs1, d1, ds1, p1, q1, rfl, rfl, rfl, h1, r1⟩ := trodAll_cons r0
  obtain ⟨v2, vs2, d2, ds2, p2, q2, rfl, rfl, rfl, h2, r2⟩ := trodAll_cons r1
  obtain ⟨rfl, rfl, rfl⟩ := trodAll_nil r2
  obtain rfl : args = #[v0, v1, v2] := by cases args; simp_all
  obtain ⟨rfl, rfl⟩ := trodVars_none hV
  obtain ⟨a0, rfl, rfl, rfl, w0⟩ := open_string Try.underlying9 (hval 0 9 v0 rfl rfl) h0
  obtain ⟨a1, rfl, rfl, rfl, w1⟩ := open_string Try.underlying9 (hval 1 9 v1 rfl rfl) h1
  obtain ⟨a2, rfl, rfl, rfl, w2⟩ := open_int Try.underlying3 (hval 2 3 v2 rfl rfl) h2
  have z0 : a0.data.toList.length ≤ reachBytes := sized_string hsz (j := 0) (t := 9) rfl rfl
  have y0 : a0.size ≤ 140737488351232 := z0
  have z1 : a1.data.toList.length ≤ reachBytes := sized_string hsz (j := 1) (t := 9) rfl rfl
  have y1 : a1.size ≤ 140737488351232 := z1
  clear hA0 hval0 hsz hsz0
  simp only [List.append_nil] at hW'
  refine (fixKeeps_row a0 a1 a2 W y0 y1 w2).mono fun e W' ⟨he, bel⟩ => ?_
  subst he
  exact ⟨_, rfl, _, _, _, [], [], [], hW', trodAll_mk1 (shut_bool Try.underlying4 _), (trodAll_cons_mk (shut_string Try.underlying9 w0) (trodAll_cons_mk (shut_string Try.underlying9 w1) (trodAll_cons_mk (shut_int Try.underlying3 w2) trodAll_mk0))), rfl, bel.frame _, fun h => by cases h⟩

theorem over : Rows.fixKeepsRow.holds Try.pinned (OpenSpec.ofChange Rows.fixKeepsSpec) :=
  OpenClaim.holds_of_wide 7 Try.f7 rfl rfl rfl rfl rfl rfl rfl ⟨rfl, rfl, rfl, rfl, rfl⟩ rfl rfl rfl rfl rfl (by kernel_rfl) Try.func7 (by kernel_rfl)
    (of_decide_eq_true (by kernel_rfl)) (by unfold Func.isWrapper; first | (rw [if_pos (by decide +kernel)]; kernel_rfl) | (rw [if_neg (by decide +kernel)]; exact ⟨rfl, rfl⟩))
    (fun os started H enc _ => lifted os started H enc)

theorem proved : Rows.FixKeepsSaid := over
#print axioms proved

end Go.Proofs.Ytpobnifjgajgkaa.fixKeeps
