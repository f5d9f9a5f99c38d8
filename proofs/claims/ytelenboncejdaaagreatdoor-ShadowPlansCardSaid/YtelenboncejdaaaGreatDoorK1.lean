/-
  Several texts in one: Drawn, Bytes, DrawnC, DrawnV, DrawnW, DrawnX. Each says what it proves, and under which conditions.
-/
import Derived.Test.YtelenboncejdaaaGreatDoorProg
import Derived.WalkKit
import Derived.OrdersHeld
import Derived.Lib.QuietBelow
import Derived.BigQuiet
import Derived.Test.YtelenboncejdaaaGreatDoorRows
import Derived.WalkSpells
import Derived.WalkLawsBesides
import Derived.Lib.Hide
import Derived.Laws.CopyOwn
import Derived.Laws.IdiomStrings
import Derived.Deep.DeepAppendRoom
import Derived.Deep.QuietTactic
import Derived.OwnWalk
import Derived.Room.AppendFits

/-
  A statement that draws its order and holds calls that make memory: one walk, in an order that the prover gives, serves every order; conditions: each call, allocation or store waits for the one before it, and every other operation yields its value in each later world.
-/
namespace Go.Proofs.YtelenboncejdaaaGreatDoor
open Go Go.RowKit Go.Sort
set_option linter.unusedSimpArgs false

/-- The worlds behind w: whatever was drawn, whatever blocks were laid behind. -/
def Later (w w' : World) : Prop := ∃ p : Regrown, w' = grow (redrawn w p.d) p.os
theorem later_iff {w w' : World} : Later w w' ↔ Below w.heap.size w w' := ⟨fun ⟨p, h⟩ => h ▸ below_regrown w p.d p.os, regrown_of_below⟩
theorem Later.refl (w : World) : Later w w := later_iff.2 (Below.refl _ _)
theorem Later.trans {a b c : World} (h : Later a b) (k : Later b c) : Later a c := by
  rw [later_iff] at *
  exact h.trans (k.mono h.size)

section
variable {P : Program} {ops : Array Oper} {Q : Exit → Act → World → Prop} {md : Region.Mode}

/-- Whatever order is picked from here on, and each operation leaves a later world. -/
def wpAnyG (P : Program) (md : Region.Mode) (ops : Array Oper) (Q : Exit → Act → World → Prop) : Nat → Array Bool → Act → World → Prop
  | 0, listed, a, w => Region.ready md ops listed = [] ∧ Q .normal a w
  | fuel + 1, listed, a, w =>
    (Region.ready md ops listed = [] → Q .normal a w) ∧
    ∀ i ∈ Region.ready md ops listed, wpOp P ops Q i (fun a' w' => Later w w' ∧ wpAnyG P md ops Q fuel (listed.setIfInBounds i true) a' w') a w

theorem wpAny_of_G : ∀ (fuel : Nat) (listed : Array Bool) (a : Act) (w : World), wpAnyG P md ops Q fuel listed a w → wpAny P md ops Q fuel listed a w
  | 0, _, _, _, h => h
  | fuel + 1, _, _, _, h => ⟨h.1, fun i hi => wpOp_mono (fun a' w' h' => wpAny_of_G fuel _ a' w' h'.2) (h.2 i hi)⟩

theorem wpAnyG_first {i : Nat} {oi : Oper} {v : Value} {w0 : World} (hi : ops[i]? = some oi) (hsel : ∀ (j : Nat) (o : Oper) cs b, ops[j]? = some o → o.op ≠ .select cs b)
    (hQ : ∀ c a w, Q (.panic c) (a.put oi.dst v) w → Q (.panic c) a w) :
    ∀ (fuel : Nat) (listed : Array Bool) (a : Act) (w : World),
      (∀ j oj, ops[j]? = some oj → j ≠ i → listed.getD j true = false → (∀ e ∈ oj.after, Region.binds md e = true → e.on ≠ i) → oi.apart ops oj = true) →
      i ∈ Region.ready md ops listed → YieldsIf P ops (Later w0) oi v a → Later w0 w →
      wpAnyG P md ops Q fuel (listed.setIfInBounds i true) (a.put oi.dst v) w → wpAnyG P md ops Q (fuel + 1) listed a w := by
  intro fuel
  induction fuel with
  | zero =>
    intro listed a w _ hr hy hS H
    refine ⟨fun h => (by rw [h] at hr; cases hr), fun j hj => ?_⟩
    by_cases hji : j = i
    · subst hji; exact hy.wpOp hi hS ⟨Later.refl w, H⟩
    · have := ready_mono hj hji
      rw [H.1] at this
      cases this
  | succ fuel ih =>
    intro listed a w hfree hr hy hS H
    refine ⟨fun h => (by rw [h] at hr; cases hr), fun j hj => ?_⟩
    by_cases hji : j = i
    · subst hji; exact hy.wpOp hi hS ⟨Later.refl w, H⟩
    · have h1 := H.2 j (ready_mono hj hji)
      obtain ⟨hjun, oj, hoj, hall⟩ := mem_ready.1 hj
      have hnot : ∀ e ∈ oj.after, Region.binds md e = true → e.on ≠ i := fun e he hb heq => by
        have h1 := hall e he hb
        have h0 := (mem_ready.1 hr).1
        rw [heq] at h1
        rcases Nat.lt_or_ge i listed.size with h' | h'
        · simp [h'] at h0 h1; rw [h0] at h1; cases h1
        · simp [Array.getElem?_eq_none h'] at h1
      have h2 := wpOp_putIf hoj (hfree j oj hoj hji hjun hnot) (fun cs b => hsel i oi cs b hi) (fun cs b => hsel j oj cs b hoj) hQ hy h1
      have hfree' : ∀ k ok, ops[k]? = some ok → k ≠ i → (listed.setIfInBounds j true).getD k true = false →
          (∀ e ∈ ok.after, Region.binds md e = true → e.on ≠ i) → oi.apart ops ok = true := fun k ok hk hki hun hno => by
        refine hfree k ok hk hki ?_ hno
        by_cases hjk : j = k
        · subst hjk; exact hjun
        · rw [getD_set_ne true hjk] at hun; exact hun
      refine wpOp_mono (fun a' w' h3 => ⟨h3.2.1, ih (listed.setIfInBounds j true) a' w' hfree' (ready_mono hr (Ne.symm hji)) h3.1 (hS.trans h3.2.1) ?_⟩) h2
      rw [Array.setIfInBounds_comm _ _ hji]
      exact h3.2.2

/-- What may be taken as it comes: no call of a Go function, no store. -/
def lightOp (o : Oper) : Bool := match o.op with
  | .call c => match c.callee with
    | .builtin .len | .builtin .cap | .builtin .min | .builtin .max => true
    | _ => false
  | .go _ | .defer _ | .send .. | .recv .. | .select .. | .store .. | .ready _ | .mapUpdate .. | .insert .. | .entryStore .. => false
  | _ => true

def Result.isVal : Result Next → Prop
  | .ok (.value _) _ => True
  | .ok _ _ => False
  | .halt _ _ => True
theorem andThen_isVal (r : Result Value) : Result.isVal (r.andThen fun a w' => Result.ok (Next.value a) w') := by
  cases r <;> simp [Result.andThen, Result.isVal]
theorem value_isVal (s : Sem Value) (w : World) : Result.isVal (((do pure (Next.value (← s))) : Sem Next).run P w) := by
  simp only [Sem.run_bind]
  cases s.run P w <;> simp [Result.andThen, Result.isVal]

theorem light_isVal {ρ : Operand → Value} {o : Oper} (h : lightOp o = true) (w : World) : Result.isVal ((execOp ρ o).run P w) := by
  unfold lightOp at h
  unfold execOp
  split <;> rename_i heq <;> simp only [heq] at h <;> try (first | exact value_isVal _ _ | (simp [Result.isVal]; done) | (cases h; done))
  · simp only [Sem.run_bind]
    cases (asBool (ρ _)).run P w <;> simp [Result.andThen, Result.isVal]
  · dsimp only
    split
    · simp [runtimePanic, goPanic, Result.isVal]
    · simp [runtimePanic, goPanic, Result.isVal]
    · simp [runtimePanic, goPanic, Result.isVal]
    · split
      · simp [runtimePanic, goPanic, Result.isVal]
      · simp only [Sem.run_bind]
        cases (program).run P w with
        | halt _ _ => simp [Result.andThen, Result.isVal]
        | ok p w1 =>
          simp only [Result.andThen]
          cases (nilAhead _ _ _ _).run P w1 with
          | halt _ _ => simp [Result.andThen, Result.isVal]
          | ok b w2 =>
            simp only [Result.andThen]
            split <;> simp [unsupported, Result.andThen, Result.isVal]
      · simp [Result.isVal]
    · simp [Result.isVal]
  · split at h
    case h_5 => cases h
    all_goals
      rename_i hc
      dsimp only
      simp only [resolve, hc, Sem.run_bind, Sem.run_pure, Result.andThen_ok, invoke, builtin]
      exact andThen_isVal _

/-- A light operation that is quiet in every later world. -/
theorem yieldsIf_of_qOp {i : Nat} {o : Oper} {a : Act} {w : World} {K : Act → Prop} (hi : ops[i]? = some o) (hl : lightOp o = true) (h : qOp P ops (Later w) i K a) :
    ∃ v, YieldsIf P ops (Later w) o v a ∧ K (a.put o.dst v) := by
  obtain ⟨v, hy, hk⟩ := yieldsIn_of_qOp hi h
  refine ⟨v, ?_, hk⟩
  rcases hy with ⟨hw, hv⟩ | h
  · refine .inl ⟨hw, fun w' hw' => ?_⟩
    have h1 := hv w' hw'
    have h2 := light_isVal (P := P) (ρ := a.eval) hl w'
    unfold Oper.quietAt at h1
    generalize (execOp a.eval o).run P w' = r at *
    cases r with
    | ok n w'' => cases n <;> simp only [Oper.quietUpon, Result.isVal] at h1 h2 <;> first | (obtain ⟨rfl, rfl⟩ := h1; rfl) | exact h2.elim
    | halt x w'' => simp only [Oper.quietUpon] at h1
  · exact .inr h

/-- The order is one that the region allows: the light ones may come up and are apart; each other one comes up alone. -/
def segB (md : Region.Mode) (ops : Array Oper) : List Nat → Array Bool → Bool × Array Bool
  | [], listed => (true, listed)
  | i :: r, listed =>
    let x := segB md ops r (listed.setIfInBounds i true)
    ((Region.ready md ops listed).contains i && Region.free md ops listed i && (match ops[i]? with | some o => lightOp o | none => false) && x.1, x.2)
def segsB (md : Region.Mode) (ops : Array Oper) (last : List Nat) : List (List Nat × Nat) → Array Bool → Bool
  | [], listed => let x := segB md ops last listed; x.1 && (Region.ready md ops x.2).isEmpty
  | (fl, i) :: r, listed => let x := segB md ops fl listed; x.1 && (Region.ready md ops x.2 == [i]) && segsB md ops last r (x.2.setIfInBounds i true)
def segsLen (last : List Nat) : List (List Nat × Nat) → Nat
  | [] => last.length
  | (fl, _) :: r => fl.length + (segsLen last r + 1)

/-- The operations of these numbers. -/
def pick (l : List Oper) : List Nat → List Oper
  | [] => []
  | i :: r => match l[i]? with
    | some o => o :: pick l r
    | none => pick l r

/-- The walk: light ones in every later world, then one that may change the world, and so on. -/
def wpSegs (P : Program) (l : List Oper) (Q : Exit → Act → World → Prop) (last : List Nat) : List (List Nat × Nat) → Act → World → Prop
  | [], a, w => wpQuiet P l.toArray (fun w' => ∃ p : Regrown, w' = grow (redrawn w p.d) p.os) (fun a' => Q .normal a' w) (pick l last) a
  | (fl, i) :: r, a, w => wpQuiet P l.toArray (fun w' => ∃ p : Regrown, w' = grow (redrawn w p.d) p.os)
      (fun a' => wpOp P l.toArray Q i (fun a'' w'' => Below w.heap.size w w'' ∧ wpSegs P l Q last r a'' w'') a' w) (pick l fl) a

theorem seg_sound {l : List Oper} {w : World} (hs : Region.noSelect l.toArray = true) (hQ : ∀ c (a : Act) d v w, Q (.panic c) (a.put d v) w → Q (.panic c) a w) {K : Act → Prop} {fuel : Nat} :
    ∀ (fl : List Nat) (listed : Array Bool) (a : Act), (segB md l.toArray fl listed).1 = true → wpQuiet P l.toArray (fun w' => ∃ p : Regrown, w' = grow (redrawn w p.d) p.os) K (pick l fl) a →
      (∀ a', K a' → wpAnyG P md l.toArray Q fuel (segB md l.toArray fl listed).2 a' w) → wpAnyG P md l.toArray Q (fl.length + fuel) listed a w
  | [], listed, a, _, h, hk => by
    have := hk a h
    simpa [segB] using this
  | i :: fl, listed, a, hB, h, hk => by
    simp only [segB, Bool.and_eq_true] at hB
    obtain ⟨⟨⟨hr, hf⟩, hl⟩, hB'⟩ := hB
    cases ho : l[i]? with
    | none => simp [ho] at hl
    | some o =>
      have ho' : l.toArray[i]? = some o := by simpa using ho
      simp only [ho'] at hl
      simp only [pick, ho] at h
      have hq : qOp P l.toArray (Later w) i (wpQuiet P l.toArray (Later w) K (pick l fl)) a := by unfold qOp; simp only [ho']; exact h
      obtain ⟨v, hy, hK⟩ := yieldsIf_of_qOp ho' hl hq
      have hrec := seg_sound hs hQ (K := K) (fuel := fuel) fl (listed.setIfInBounds i true) _ hB' hK hk
      have := wpAnyG_first ho' (Region.noSelect_spec hs) (fun c a w => hQ c a _ _ w) (fl.length + fuel) listed a w (Region.free_spec ho' hf) (by simpa using hr) hy (Later.refl w) hrec
      rw [List.length_cons, show fl.length + 1 + fuel = fl.length + fuel + 1 from by omega]
      exact this

theorem segs_sound {l : List Oper} (hs : Region.noSelect l.toArray = true) (hQ : ∀ c (a : Act) d v w, Q (.panic c) (a.put d v) w → Q (.panic c) a w) (last : List Nat) :
    ∀ (sg : List (List Nat × Nat)) (listed : Array Bool) (a : Act) (w : World), segsB md l.toArray last sg listed = true → wpSegs P l Q last sg a w → wpAnyG P md l.toArray Q (segsLen last sg) listed a w
  | [], listed, a, w, hB, h => by
    simp only [segsB, Bool.and_eq_true] at hB
    have := seg_sound (fuel := 0) hs hQ last listed a hB.1 h (fun a' ha' => ⟨by simpa using hB.2, ha'⟩)
    simpa [segsLen] using this
  | (fl, i) :: r, listed, a, w, hB, h => by
    simp only [segsB, Bool.and_eq_true] at hB
    obtain ⟨⟨h1, h2⟩, h3⟩ := hB
    refine seg_sound (fuel := segsLen last r + 1) hs hQ fl listed a h1 h (fun a' ha' => ?_)
    have h2' : Region.ready md l.toArray (segB md l.toArray fl listed).2 = [i] := by simpa using h2
    refine ⟨fun h0 => (by rw [h2'] at h0; cases h0), fun j hj => ?_⟩
    rw [h2'] at hj
    obtain rfl : j = i := by simpa using hj
    exact wpOp_mono (fun a'' w'' ⟨hb, hk⟩ => ⟨later_iff.2 hb, segs_sound hs hQ last r _ a'' w'' h3 hk⟩) ha'

/-- A region that draws its order, by segments. -/
theorem wp_region_segs {id : Nat} {l : List Oper} {a : Act} {w : World} (sg : List (List Nat × Nat)) (last : List Nat) (hm : P.follows .mixedOrders = true) (hs : Region.noSelect l.toArray = true)
    (hB : segsB .any l.toArray last sg (Array.replicate l.length false) = true) (hL : segsLen last sg = l.length)
    (hQ : ∀ c (a : Act) d v w, Q (.panic c) (a.put d v) w → Q (.panic c) a w) (h : wpSegs P l Q last sg a w.drew) : (Code.region id l.toArray true).wp P Q a w := by
  refine wp_region_any hm (wpAny_of_G _ _ _ _ ?_)
  have := segs_sound hs hQ last sg (Array.replicate l.length false) a w.drew hB h
  rw [hL] at this
  simpa using this

/-- The next segment; the last one. -/
theorem wpSegs_more {l : List Oper} {last fl : List Nat} {i : Nat} {r : List (List Nat × Nat)} {a : Act} {w : World} (h : wpQuiet P l.toArray (fun w' => ∃ p : Regrown, w' = grow (redrawn w p.d) p.os)
      (fun a' => wpOp P l.toArray Q i (fun a'' w'' => Below w.heap.size w w'' ∧ wpSegs P l Q last r a'' w'') a' w) (pick l fl) a) : wpSegs P l Q last ((fl, i) :: r) a w := h
theorem wpSegs_last {l : List Oper} {last : List Nat} {a : Act} {w : World} (h : wpQuiet P l.toArray (fun w' => ∃ p : Regrown, w' = grow (redrawn w p.d) p.os) (fun a' => Q .normal a' w) (pick l last) a) : wpSegs P l Q last [] a w := h

/-- One that may change the world, where it is wanted. -/
theorem wpOp_heavy {l : List Oper} {i : Nat} {o : Oper} {a : Act} {w : World} {R : Act → World → Prop} (hi : l[i]? = some o) (hw : Region.wanted o (yielded l.toArray a.tmps) = true)
    (h : ∀ K : Act → World → Prop, (∀ a' w', Below w.heap.size w w' → R a' w' → K a' w') → o.wp P a w K Q) : wpOp P l.toArray Q i (fun a'' w'' => Below w.heap.size w w'' ∧ R a'' w'') a w := by
  unfold wpOp
  have hi' : l.toArray[i]? = some o := by simpa using hi
  simp only [hi', hw, if_true]
  exact .inl (h _ (fun a' w' h1 h2 => ⟨h1, h2⟩))

end
end Go.Proofs.YtelenboncejdaaaGreatDoor

/-
  Words for memory that any package may use: bytes as cells, a slice of bytes that can be read, make, a row of the call's own, conversions between strings and bytes; conditions stand at each.
-/
namespace Go.Proofs.YtelenboncejdaaaGreatDoor
open Go.RowKit Go.Sort
set_option linter.unusedVariables false

/-- What was there stays, over two steps. -/
theorem bthen {a b c : World} (h : Below a.heap.size a b) (k : Below b.heap.size b c) : Below a.heap.size a c := h.trans (k.mono h.size)

/-- A byte as a cell. -/
def u8 (b : UInt8) : Value := .int .u8 (b.toNat : Int)
/-- Bytes as cells. -/
def bcells (l : List UInt8) : List Value := l.map u8
theorem bcells_length (l : List UInt8) : (bcells l).length = l.length := by simp [bcells]
theorem bcells_append (l m : List UInt8) : bcells (l ++ m) = bcells l ++ bcells m := by simp [bcells]
theorem bcells_one (l : List UInt8) : ∀ u ∈ bcells l, u.oneCell' = true := by
  intro u hu
  simp only [bcells, List.mem_map] at hu
  obtain ⟨b, _, rfl⟩ := hu
  rfl

/-- The slice at A reads as the bytes l. -/
def Rd (w : World) (A : Option Addr) (l : List UInt8) : Prop :=
  0 < l.length → ∃ ad, A = some ad ∧ ad.block < w.heap.size ∧ ∀ j u, (bcells l)[j]? = some u → w.cell? (ad.add j) = some u

theorem block_of_add (a : Addr) (n : Nat) : (a.add n).block = a.block := by unfold Addr.add; split <;> rfl

theorem Rd.nil (w : World) (A : Option Addr) : Rd w A [] := fun h => absurd h (by simp)
theorem Rd.below {w w' : World} {A : Option Addr} {l : List UInt8} (h : Rd w A l) (hb : Below w.heap.size w w') : Rd w' A l := fun h0 => by
  obtain ⟨ad, e, hlt, hc⟩ := h h0
  exact ⟨ad, e, Nat.lt_of_lt_of_le hlt hb.size, fun j u hu => (hb.cell (by rw [block_of_add]; exact hlt)).trans (hc j u hu)⟩

theorem u8info : (Tryz.prog.info? 5).map (fun i => (i.zero, i.size, i.bytes)) = some (some (.int .u8 0), 1, 1) := by kernel_rfl

/-- make([]byte, n, c). -/
theorem run_make_bytes (n c : Nat) (hnc : n ≤ c) (hb : c ≤ 281474976710656) (w : World) :
    (Instr.makeSlice 46 (.int .i64 (n : Int)) (.int .i64 (c : Int))).run Tryz.prog w =
      .ok (.slice (some ⟨w.heap.size, 0, none⟩) n c) (w.alloc (.cells (madeCells #[.int .u8 0] c) 5)) := by
  obtain ⟨i0, hi0, hz0, hz1, hz2⟩ := info_parts u8info
  have hr := run_make (P := Tryz.prog) w 46 5 i0 _ Tryz.underlying46 hi0 hz0 .i64 .i64 (n : Int) (c : Int) (by omega) (by omega) (by rw [hz2]; omega) (by omega)
  rw [hz1] at hr
  simpa [Value.cells] using hr

theorem made_list (z : Value) (c : Nat) : madeCells #[z] c = (List.replicate c z).toArray := by
  apply Array.ext
  · simp [size_madeCells]
  · intro i h1 h2
    simp [madeCells, Nat.mod_one]

theorem take_splice (cur : List Value) (cs : List Value) : (splice cur 0 cs).take cs.length = cs := by
  simp [splice]

/-- The lowest byte of a number. -/
def b8 (x : Int) : UInt8 := UInt8.ofNat (x % 256).toNat
theorem u8_b8 (x : Int) : u8 (b8 x) = .int .u8 (x % 256) := by
  unfold u8 b8
  congr 1
  have h1 := Int.emod_nonneg x (show (256 : Int) ≠ 0 by omega)
  have h2 := Int.emod_lt_of_pos x (show (0 : Int) < 256 by omega)
  rw [UInt8.toNat_ofNat']
  omega
theorem new_row (w : World) (cs : Array Value) (t : TypeId) : ∀ j u, cs.toList[j]? = some u → (w.alloc (.cells cs t)).cell? ((⟨w.heap.size, 0, none⟩ : Addr).add j) = some u := by
  intro j u hu
  have e : ((⟨w.heap.size, 0, none⟩ : Addr).add j) = ⟨w.heap.size, j, none⟩ := by unfold Addr.add; split <;> simp_all
  rw [e, World.cell?_alloc_mark]
  simpa using hu

theorem strCells_bcells (t : ByteArray) : Lib.strCells t = bcells t.data.toList := rfl
theorem cell_of_block {w : World} {g : Nat} {cs : Array Value} {t : TypeId} {m : Nat × Nat} (h : w.heap[g]? = some (.cells cs t m)) (i : Nat) : w.cell? ⟨g, i, none⟩ = cs[i]? := cell_of_row w g i cs t m h

theorem own_whole {w : World} {base n : Nat} {g : Nat} {xs : List Value} {e : TypeId} (h : w.ownsRow base e 1 (.slice (some ⟨g, 0, none⟩) n n) n xs) : w.heap[g]? = some (.cells xs.toArray e (0, 0)) := by
  rcases h.2 with ⟨hv, _⟩ | ⟨g', cap, cur, hv, _, hh, _, _, hs, ht⟩
  · cases hv
  · cases hv
    have : cur.toList = xs := by
      rw [← ht, List.take_of_length_le]
      simp [hs]
    rw [hh, ← this]

theorem blk_set {w : World} {g : Nat} {t : TypeId} {cs : Array Value} (h : w.heap[g]? = some (.cells cs t (0, 0))) (i : Nat) (u : Value) : (w.setCell ⟨g, i, none⟩ u).heap[g]? = some (.cells (cs.setIfInBounds i u) t (0, 0)) := by
  simp [World.setCell, Array.getElem?_modify, h]
theorem only_drewN {a w : World} {row : Option Nat} (h : a.grownBy w row) (n : Nat) : a.grownBy (w.drewN n) row := ⟨h.os, h.tape, h.output, h.size, h.block⟩
theorem only_setCell {a w : World} {g : Nat} (h : a.grownBy w (some g)) {p : Addr} (hp : p.block = g) (u : Value) : a.grownBy (w.setCell p u) (some g) :=
  ⟨h.os, h.tape, h.output, by simpa [World.setCell] using h.size, fun i hi hne => (Below.heap_setCell w p u i (by
    rintro rfl
    exact hne (by rw [hp]))).trans (h.block i hi hne)⟩

theorem rd_block {w : World} {h : Nat} {l : List UInt8} (hh : w.heap[h]? = some (.cells (bcells l).toArray 5 (0, 0))) (q m : Nat) :
    Rd w (some ⟨h, q, none⟩) ((l.drop q).take m) := fun _ => ⟨_, rfl, lt_of_block hh, fun j u hu => by
  have e : ((⟨h, q, none⟩ : Addr).add j) = ⟨h, q + j, none⟩ := by unfold Addr.add; split <;> simp_all
  rw [e, cell_of_block hh]
  have hj : j < m := by
    rcases Nat.lt_or_ge j m with hj | hj
    · exact hj
    · rw [List.getElem?_eq_none (by rw [bcells_length, List.length_take]; omega)] at hu
      cases hu
  simp only [bcells, List.map_take, List.map_drop] at hu
  rw [List.getElem?_take_of_lt hj, List.getElem?_drop] at hu
  simpa [bcells] using hu⟩

/-- string(b) of a row of the call's own, now and later. -/
theorem conv_own {w : World} {base g n c : Nat} {l : List UInt8} (h : w.ownsRow base 5 1 (.slice (some ⟨g, 0, none⟩) n c) n (bcells l)) (w' : World) (hb : w'.heap[g]? = w.heap[g]?) :
    (convert 46 9 (.slice (some ⟨g, 0, none⟩) n c)).run Tryz.prog w' = .ok (.string ⟨l.toArray⟩) w' := by
  have hn : l.length = n := by have := h.1; rw [bcells_length] at this; omega
  subst hn
  refine run_convert_bytes_back (P := Tryz.prog) w' 46 9 5 ⟨g, 0, none⟩ c l Tryz.underlying46 Tryz.underlying5 Tryz.underlying9 (fun j hj => ?_)
  have e : ((⟨g, 0, none⟩ : Addr).add j) = ⟨g, j, none⟩ := by unfold Addr.add; split <;> simp_all
  rw [World.cell?_of_block (w := w) (by rw [block_of_add]; exact hb), e]
  have hc := h.cells (g := g) rfl j (u8 l[j]) (by simp [bcells, hj])
  rw [e] at hc
  exact hc

theorem own_lt {w : World} {base g n c : Nat} {xs : List Value} {e : TypeId} (h : w.ownsRow base e 1 (.slice (some ⟨g, 0, none⟩) n c) n xs) : g < w.heap.size := (h.lt g rfl).2

theorem conv_later {w : World} {base g n c : Nat} {l : List UInt8} (h : w.ownsRow base 5 1 (.slice (some ⟨g, 0, none⟩) n c) n (bcells l)) (d : Nat) (os : Array Obj) :
    (convert 46 9 (.slice (some ⟨g, 0, none⟩) n c)).run Tryz.prog (grow (redrawn w d) os) = .ok (.string ⟨l.toArray⟩) (grow (redrawn w d) os) :=
  conv_own h _ ((below_regrown w d os).block g (own_lt h))

/-- []byte(s), in whatever world. -/
theorem bytes_of (s : ByteArray) : ∃ (C : World → Nat) (F : World → World),
    (∀ w : World, (convert 9 46 (.string s)).run Tryz.prog w = .ok (.slice (some ⟨w.heap.size, 0, none⟩) s.size (C w)) (F w)) ∧
    ∀ w : World, Rd (F w) (some ⟨w.heap.size, 0, none⟩) s.data.toList ∧ s.size ≤ C w ∧ Below w.heap.size w (F w) := by
  refine ⟨_, _, fun w => run_bytes_of_string w 9 46 5 s Tryz.underlying9 Tryz.underlying46 Tryz.underlying5, fun w => ⟨fun _ => ⟨_, rfl, by simp, fun j u hu => ?_⟩, grownCap_ge _ _ _ _, ?_⟩⟩
  · have e : ((⟨w.heap.size, 0, none⟩ : Addr).add j) = ⟨w.heap.size, j, none⟩ := by unfold Addr.add; split <;> simp_all
    rw [e]
    have h := World.cell?_alloc_mark w.drew (bytesRow s (grownCap w s.size 0 5)) 5 ((bytesRow s (grownCap w s.size 0 5)).size, (bytesRow s (grownCap w s.size 0 5)).size + 1) j
    refine Eq.trans h ?_
    have hj : j < s.data.size := by
      have := (List.getElem?_eq_some_iff.1 hu).1
      simpa [bcells] using this
    unfold bytesRow
    rw [Array.getElem?_append_left (by simpa using hj)]
    simpa [bcells, u8] using hu
  · exact (Below.refl _ _).drew.alloc (Nat.le_refl _) _

/-- string(b) of what can be read. -/
theorem conv_rd {w : World} {A : Option Addr} {n c : Nat} {l : List UInt8} (h : Rd w A l) (hn : l.length = n) :
    (convert 46 9 (.slice A n c)).run Tryz.prog w = .ok (.string ⟨l.toArray⟩) w := by
  subst hn
  cases A with
  | none =>
    have : l = [] := by
      rcases Nat.eq_zero_or_pos l.length with h0 | h0
      · exact List.eq_nil_of_length_eq_zero h0
      · obtain ⟨ad, e, _⟩ := h h0
        cases e
    subst this
    exact run_convert_bytes_nil w 46 5 Tryz.underlying46 Tryz.underlying5 _ c 9 Tryz.underlying9
  | some ad =>
    refine run_convert_bytes_back (P := Tryz.prog) w 46 9 5 ad c l Tryz.underlying46 Tryz.underlying5 Tryz.underlying9 (fun j hj => ?_)
    obtain ⟨ad', e, _, hc⟩ := h (by omega)
    cases e
    exact hc j (u8 l[j]) (by simp [bcells, hj])

/-- string(b) of bytes that are a string's. -/
theorem conv_str {w : World} {A : Option Addr} {c : Nat} {b : ByteArray} (h : Rd w A b.data.toList) : (convert 46 9 (.slice A b.size c)).run Tryz.prog w = .ok (.string b) w := by
  have := conv_rd (c := c) (n := b.size) h rfl
  simpa using this
theorem str_eq (s : ByteArray) : s = ⟨s.data.toList.toArray⟩ := by cases s; simp

end Go.Proofs.YtelenboncejdaaaGreatDoor

/-
  A statement that draws its order and holds calls: one walk, in an order that the prover gives, serves every order; conditions: each call, allocation or store waits for the one before it and keeps to the blocks that the prover names (but for one operation that waits for all the others, save those that wait for it), and every other operation yields its value in each world that such steps lead to.
-/
namespace Go.Proofs.YtelenboncejdaaaGreatDoor.Dc
open Go Go.RowKit
set_option linter.unusedSimpArgs false

/-- From w to w' at most the blocks of the list have turned; there may be new ones. -/
def But (bs : List Nat) (w w' : World) : Prop := w.heap.size ≤ w'.heap.size ∧ ∀ k, k < w.heap.size → k ∉ bs → w'.heap[k]? = w.heap[k]?
theorem But.refl (bs : List Nat) (w : World) : But bs w w := ⟨Nat.le_refl _, fun _ _ _ => rfl⟩
theorem But.trans {bs : List Nat} {a b c : World} (h : But bs a b) (k : But bs b c) : But bs a c :=
  ⟨Nat.le_trans h.1 k.1, fun i hi hn => (k.2 i (Nat.lt_of_lt_of_le hi h.1) hn).trans (h.2 i hi hn)⟩
theorem But.of_below {bs : List Nat} {a b : World} (h : Below a.heap.size a b) : But bs a b := ⟨h.size, fun k hk _ => h.block k hk⟩
theorem But.of_only {bs : List Nat} {a b : World} {g : Nat} (h : a.grownBy b (some g)) (hg : g ∈ bs) : But bs a b :=
  ⟨h.size, fun k hk hn => h.block k hk (fun e => hn (by cases e; exact hg))⟩
theorem But.cell {bs : List Nat} {a b : World} (h : But bs a b) {p : Addr} (hp : p.block < a.heap.size) (hn : p.block ∉ bs) : b.cell? p = a.cell? p := World.cell?_of_block (w := a) (h.2 p.block hp hn)

/-- A world that such steps lead to. -/
structure Past (bs : List Nat) (w : World) where
  val : World
  ok : But bs w val
instance (bs : List Nat) (w : World) : Inhabited (Past bs w) := ⟨⟨w, But.refl bs w⟩⟩
def Later (bs : List Nat) (w w' : World) : Prop := ∃ p : Past bs w, w' = p.val
theorem later_iff {bs : List Nat} {w w' : World} : Later bs w w' ↔ But bs w w' := ⟨fun ⟨p, h⟩ => h ▸ p.ok, fun h => ⟨⟨w', h⟩, rfl⟩⟩
theorem Later.refl (bs : List Nat) (w : World) : Later bs w w := later_iff.2 (But.refl _ _)
theorem Later.trans {bs : List Nat} {a b c : World} (h : Later bs a b) (k : Later bs b c) : Later bs a c := by
  rw [later_iff] at *
  exact h.trans k

section
variable {P : Program} {ops : Array Oper} {Q : Exit → Act → World → Prop} {md : Region.Mode} {bs : List Nat} {z : Nat}

/-- What is listed waits for nothing that is not. -/
def Closed (md : Region.Mode) (ops : Array Oper) (listed : Array Bool) : Prop :=
  ∀ j oj, ops[j]? = some oj → listed.getD j false = true → ∀ e ∈ oj.after, Region.binds md e = true → listed.getD e.on false = true
theorem done_more {listed : Array Bool} {x : Nat} (j : Nat) (h : listed.getD x false = true) : (listed.setIfInBounds j true).getD x false = true := by
  by_cases hx : j = x
  · subst hx
    rcases Nat.lt_or_ge j listed.size with h' | h'
    · simp [h']
    · simp [Array.getElem?_eq_none h'] at h
  · simp only [Array.getD_eq_getD_getElem?] at h ⊢
    rw [Array.getElem?_setIfInBounds_ne hx]
    exact h
theorem done_less {listed : Array Bool} {x j : Nat} (h : (listed.setIfInBounds j true).getD x false = true) (hx : j ≠ x) : listed.getD x false = true := by
  simp only [Array.getD_eq_getD_getElem?] at h ⊢
  rwa [Array.getElem?_setIfInBounds_ne hx] at h
theorem Closed.more {listed : Array Bool} (h : Closed md ops listed) {j : Nat} (hj : j ∈ Region.ready md ops listed) : Closed md ops (listed.setIfInBounds j true) := by
  intro k ok hk hd e he hb
  by_cases hkj : j = k
  · subst hkj
    obtain ⟨_, o, ho, hall⟩ := mem_ready.1 hj
    rw [ho] at hk
    cases hk
    exact done_more j (hall e he hb)
  · exact done_more j (h k ok hk (done_less hd hkj) e he hb)
theorem Closed.start (n : Nat) : Closed md ops (Array.replicate n false) := by
  intro j oj _ hd
  simp only [Array.getD_eq_getD_getElem?, Array.getElem?_replicate] at hd
  split at hd <;> simp at hd

/-- What an operation waits for, and what that waits for. -/
def waits (md : Region.Mode) (ops : Array Oper) (j : Nat) : List Nat := match ops[j]? with
  | some o => (o.after.toList.filter (Region.binds md ·)).map (·.on)
  | none => []
def reachB (md : Region.Mode) (ops : Array Oper) : Nat → List Nat → List Nat
  | 0, l => l
  | k + 1, l => reachB md ops k (l ++ l.flatMap (waits md ops)).eraseDups
theorem reach_done {listed : Array Bool} (h : Closed md ops listed) : ∀ (k : Nat) (l : List Nat), (∀ j ∈ l, listed.getD j false = true) → ∀ j ∈ reachB md ops k l, listed.getD j false = true
  | 0, l, hl, j, hj => hl j hj
  | k + 1, l, hl, j, hj => by
    refine reach_done h k _ (fun x hx => ?_) j hj
    rw [List.mem_eraseDups, List.mem_append, List.mem_flatMap] at hx
    rcases hx with hx | ⟨y, hy, hx⟩
    · exact hl x hx
    · unfold waits at hx
      cases ho : ops[y]? with
      | none => simp [ho] at hx
      | some o =>
        simp only [ho, List.mem_map, List.mem_filter] at hx
        obtain ⟨e, ⟨he, hb⟩, rfl⟩ := hx
        exact h y o ho (hl y hy) e (by simpa using he) hb
/-- z waits for all the others, but for those that wait for z. -/
def lastB (md : Region.Mode) (ops : Array Oper) (z : Nat) : Bool := (List.range ops.size).all fun j => j == z || (reachB md ops 8 (waits md ops z)).contains j || (reachB md ops 8 (waits md ops j)).contains z
theorem reach_ready {listed : Array Bool} (h : Closed md ops listed) {x y : Nat} (hr : x ∈ Region.ready md ops listed) (hy : y ∈ Region.ready md ops listed) : (reachB md ops 8 (waits md ops x)).contains y ≠ true := by
  intro hc
  obtain ⟨_, o, ho, hall⟩ := mem_ready.1 hr
  obtain ⟨hi0, oi, hoi, _⟩ := mem_ready.1 hy
  have h3 := reach_done h 8 (waits md ops x) (fun j hj => by
    unfold waits at hj
    simp only [ho, List.mem_map, List.mem_filter] at hj
    obtain ⟨e, ⟨he, hb⟩, rfl⟩ := hj
    exact hall e (by simpa using he) hb) y (by simpa using hc)
  rcases Nat.lt_or_ge y listed.size with h' | h'
  · simp [h'] at h3 hi0; rw [hi0] at h3; cases h3
  · simp [Array.getElem?_eq_none h'] at h3
theorem last_alone {listed : Array Bool} (h : Closed md ops listed) (hz : lastB md ops z = true) (hr : z ∈ Region.ready md ops listed) {i : Nat} (hi : i ∈ Region.ready md ops listed) : i = z := by
  obtain ⟨_, oi, hoi, _⟩ := mem_ready.1 hi
  have h1 := List.all_eq_true.1 hz i (List.mem_range.2 (Array.getElem?_eq_some_iff.1 hoi).1)
  rcases Bool.or_eq_true_iff.1 h1 with h2 | h2
  · rcases Bool.or_eq_true_iff.1 h2 with h2 | h2
    · simpa using h2
    · exact absurd h2 (reach_ready h hr hi)
  · exact absurd h2 (reach_ready h hi hr)

/-- Whatever order is picked from here on, and each operation leaves a later world. -/
def wpAnyG (z : Nat) (bs : List Nat) (P : Program) (md : Region.Mode) (ops : Array Oper) (Q : Exit → Act → World → Prop) : Nat → Array Bool → Act → World → Prop
  | 0, listed, a, w => Region.ready md ops listed = [] ∧ Q .normal a w
  | fuel + 1, listed, a, w =>
    (Region.ready md ops listed = [] → Q .normal a w) ∧
    ∀ i ∈ Region.ready md ops listed, wpOp P ops Q i (fun a' w' => (i ≠ z → Later bs w w') ∧ wpAnyG z bs P md ops Q fuel (listed.setIfInBounds i true) a' w') a w

theorem wpAny_of_G : ∀ (fuel : Nat) (listed : Array Bool) (a : Act) (w : World), wpAnyG z bs P md ops Q fuel listed a w → wpAny P md ops Q fuel listed a w
  | 0, _, _, _, h => h
  | fuel + 1, _, _, _, h => ⟨h.1, fun i hi => wpOp_mono (fun a' w' h' => wpAny_of_G fuel _ a' w' h'.2) (h.2 i hi)⟩

theorem wpAnyG_first {i : Nat} {oi : Oper} {v : Value} {w0 : World} (hi : ops[i]? = some oi) (hsel : ∀ (j : Nat) (o : Oper) cs b, ops[j]? = some o → o.op ≠ .select cs b)
    (hQ : ∀ c a w, Q (.panic c) (a.put oi.dst v) w → Q (.panic c) a w) (hz : lastB md ops z = true) :
    ∀ (fuel : Nat) (listed : Array Bool) (a : Act) (w : World),
      (∀ j oj, ops[j]? = some oj → j ≠ i → listed.getD j true = false → (∀ e ∈ oj.after, Region.binds md e = true → e.on ≠ i) → oi.apart ops oj = true) →
      Closed md ops listed → i ∈ Region.ready md ops listed → YieldsIf P ops (Later bs w0) oi v a → Later bs w0 w →
      wpAnyG z bs P md ops Q fuel (listed.setIfInBounds i true) (a.put oi.dst v) w → wpAnyG z bs P md ops Q (fuel + 1) listed a w := by
  intro fuel
  induction fuel with
  | zero =>
    intro listed a w _ hcl hr hy hS H
    refine ⟨fun h => (by rw [h] at hr; cases hr), fun j hj => ?_⟩
    by_cases hji : j = i
    · subst hji; exact hy.wpOp hi hS ⟨fun _ => Later.refl bs w, H⟩
    · have := ready_mono hj hji
      rw [H.1] at this
      cases this
  | succ fuel ih =>
    intro listed a w hfree hcl hr hy hS H
    refine ⟨fun h => (by rw [h] at hr; cases hr), fun j hj => ?_⟩
    by_cases hji : j = i
    · subst hji; exact hy.wpOp hi hS ⟨fun _ => Later.refl bs w, H⟩
    · have h1 := H.2 j (ready_mono hj hji)
      obtain ⟨hjun, oj, hoj, hall⟩ := mem_ready.1 hj
      have hnot : ∀ e ∈ oj.after, Region.binds md e = true → e.on ≠ i := fun e he hb heq => by
        have h1 := hall e he hb
        have h0 := (mem_ready.1 hr).1
        rw [heq] at h1
        rcases Nat.lt_or_ge i listed.size with h' | h'
        · simp [h'] at h0 h1; rw [h0] at h1; cases h1
        · simp [Array.getElem?_eq_none h'] at h1
      have h2 := wpOp_putIf hoj (hfree j oj hoj hji hjun hnot) (fun cs b => hsel i oi cs b hi) (fun cs b => hsel j oj cs b hoj) hQ hy h1
      have hfree' : ∀ k ok, ops[k]? = some ok → k ≠ i → (listed.setIfInBounds j true).getD k true = false →
          (∀ e ∈ ok.after, Region.binds md e = true → e.on ≠ i) → oi.apart ops ok = true := fun k ok hk hki hun hno => by
        refine hfree k ok hk hki ?_ hno
        by_cases hjk : j = k
        · subst hjk; exact hjun
        · rw [getD_set_ne true hjk] at hun; exact hun
      have hjz : j ≠ z := fun e => hji ((last_alone hcl hz (e ▸ hj) hr).trans e.symm).symm
      refine wpOp_mono (fun a' w' h3 => ⟨h3.2.1, ih (listed.setIfInBounds j true) a' w' hfree' (hcl.more hj) (ready_mono hr (Ne.symm hji)) h3.1 (hS.trans (h3.2.1 hjz)) ?_⟩) h2
      rw [Array.setIfInBounds_comm _ _ hji]
      exact h3.2.2

/-- What may be taken as it comes: no call of a Go function, no store. -/
def lightOp (o : Oper) : Bool := match o.op with
  | .call c => match c.callee with
    | .builtin .len | .builtin .cap | .builtin .min | .builtin .max => true
    | _ => false
  | .go _ | .defer _ | .send .. | .recv .. | .select .. | .store .. | .ready _ | .mapUpdate .. | .insert .. | .entryStore .. => false
  | _ => true

def Result.isVal : Result Next → Prop
  | .ok (.value _) _ => True
  | .ok _ _ => False
  | .halt _ _ => True
theorem andThen_isVal (r : Result Value) : Result.isVal (r.andThen fun a w' => Result.ok (Next.value a) w') := by
  cases r <;> simp [Result.andThen, Result.isVal]
theorem value_isVal (s : Sem Value) (w : World) : Result.isVal (((do pure (Next.value (← s))) : Sem Next).run P w) := by
  simp only [Sem.run_bind]
  cases s.run P w <;> simp [Result.andThen, Result.isVal]

theorem light_isVal {ρ : Operand → Value} {o : Oper} (h : lightOp o = true) (w : World) : Result.isVal ((execOp ρ o).run P w) := by
  unfold lightOp at h
  unfold execOp
  split <;> rename_i heq <;> simp only [heq] at h <;> try (first | exact value_isVal _ _ | (simp [Result.isVal]; done) | (cases h; done))
  · simp only [Sem.run_bind]
    cases (asBool (ρ _)).run P w <;> simp [Result.andThen, Result.isVal]
  · dsimp only
    split
    · simp [runtimePanic, goPanic, Result.isVal]
    · simp [runtimePanic, goPanic, Result.isVal]
    · simp [runtimePanic, goPanic, Result.isVal]
    · split
      · simp [runtimePanic, goPanic, Result.isVal]
      · simp only [Sem.run_bind]
        cases (program).run P w with
        | halt _ _ => simp [Result.andThen, Result.isVal]
        | ok p w1 =>
          simp only [Result.andThen]
          cases (nilAhead _ _ _ _).run P w1 with
          | halt _ _ => simp [Result.andThen, Result.isVal]
          | ok b w2 =>
            simp only [Result.andThen]
            split <;> simp [unsupported, Result.andThen, Result.isVal]
      · simp [Result.isVal]
    · simp [Result.isVal]
  · split at h
    case h_5 => cases h
    all_goals
      rename_i hc
      dsimp only
      simp only [resolve, hc, Sem.run_bind, Sem.run_pure, Result.andThen_ok, invoke, builtin]
      exact andThen_isVal _

/-- A light operation that is quiet in every later world. -/
theorem yieldsIf_of_qOp {i : Nat} {o : Oper} {a : Act} {w : World} {K : Act → Prop} (hi : ops[i]? = some o) (hl : lightOp o = true) (h : qOp P ops (Later bs w) i K a) :
    ∃ v, YieldsIf P ops (Later bs w) o v a ∧ K (a.put o.dst v) := by
  obtain ⟨v, hy, hk⟩ := yieldsIn_of_qOp hi h
  refine ⟨v, ?_, hk⟩
  rcases hy with ⟨hw, hv⟩ | h
  · refine .inl ⟨hw, fun w' hw' => ?_⟩
    have h1 := hv w' hw'
    have h2 := light_isVal (P := P) (ρ := a.eval) hl w'
    unfold Oper.quietAt at h1
    generalize (execOp a.eval o).run P w' = r at *
    cases r with
    | ok n w'' => cases n <;> simp only [Oper.quietUpon, Result.isVal] at h1 h2 <;> first | (obtain ⟨rfl, rfl⟩ := h1; rfl) | exact h2.elim
    | halt x w'' => simp only [Oper.quietUpon] at h1
  · exact .inr h

/-- The order is one that the region allows: the light ones may come up and are apart; each other one comes up alone. -/
def segB (md : Region.Mode) (ops : Array Oper) : List Nat → Array Bool → Bool × Array Bool
  | [], listed => (true, listed)
  | i :: r, listed =>
    let x := segB md ops r (listed.setIfInBounds i true)
    ((Region.ready md ops listed).contains i && Region.free md ops listed i && (match ops[i]? with | some o => lightOp o | none => false) && x.1, x.2)
def segsB (md : Region.Mode) (ops : Array Oper) (last : List Nat) : List (List Nat × Nat) → Array Bool → Bool
  | [], listed => let x := segB md ops last listed; x.1 && (Region.ready md ops x.2).isEmpty
  | (fl, i) :: r, listed => let x := segB md ops fl listed; x.1 && (Region.ready md ops x.2 == [i]) && segsB md ops last r (x.2.setIfInBounds i true)
def segsLen (last : List Nat) : List (List Nat × Nat) → Nat
  | [] => last.length
  | (fl, _) :: r => fl.length + (segsLen last r + 1)

/-- The operations of these numbers. -/
def pick (l : List Oper) : List Nat → List Oper
  | [] => []
  | i :: r => match l[i]? with
    | some o => o :: pick l r
    | none => pick l r

/-- The walk: light ones in every later world, then one that may change the world, and so on. -/
def wpSegs (z : Nat) (bs : List Nat) (P : Program) (l : List Oper) (Q : Exit → Act → World → Prop) (last : List Nat) : List (List Nat × Nat) → Act → World → Prop
  | [], a, w => wpQuiet P l.toArray (fun w' => ∃ p : Past bs w, w' = p.val) (fun a' => Q .normal a' w) (pick l last) a
  | (fl, i) :: r, a, w => wpQuiet P l.toArray (fun w' => ∃ p : Past bs w, w' = p.val)
      (fun a' => wpOp P l.toArray Q i (fun a'' w'' => (i ≠ z → But bs w w'') ∧ wpSegs z bs P l Q last r a'' w'') a' w) (pick l fl) a

theorem seg_sound {l : List Oper} {w : World} (hs : Region.noSelect l.toArray = true) (hQ : ∀ c (a : Act) d v w, Q (.panic c) (a.put d v) w → Q (.panic c) a w) {K : Act → Prop} {fuel : Nat} (hz : lastB md l.toArray z = true) :
    ∀ (fl : List Nat) (listed : Array Bool) (a : Act), Closed md l.toArray listed → (segB md l.toArray fl listed).1 = true → wpQuiet P l.toArray (fun w' => ∃ p : Past bs w, w' = p.val) K (pick l fl) a →
      (∀ a', Closed md l.toArray (segB md l.toArray fl listed).2 → K a' → wpAnyG z bs P md l.toArray Q fuel (segB md l.toArray fl listed).2 a' w) → wpAnyG z bs P md l.toArray Q (fl.length + fuel) listed a w
  | [], listed, a, hcl, _, h, hk => by
    have := hk a hcl h
    simpa [segB] using this
  | i :: fl, listed, a, hcl, hB, h, hk => by
    simp only [segB, Bool.and_eq_true] at hB
    obtain ⟨⟨⟨hr, hf⟩, hl⟩, hB'⟩ := hB
    cases ho : l[i]? with
    | none => simp [ho] at hl
    | some o =>
      have ho' : l.toArray[i]? = some o := by simpa using ho
      simp only [ho'] at hl
      simp only [pick, ho] at h
      have hq : qOp P l.toArray (Later bs w) i (wpQuiet P l.toArray (Later bs w) K (pick l fl)) a := by unfold qOp; simp only [ho']; exact h
      obtain ⟨v, hy, hK⟩ := yieldsIf_of_qOp ho' hl hq
      have hrec := seg_sound hs hQ (K := K) (fuel := fuel) hz fl (listed.setIfInBounds i true) _ (hcl.more (by simpa using hr)) hB' hK hk
      have := wpAnyG_first ho' (Region.noSelect_spec hs) (fun c a w => hQ c a _ _ w) hz (fl.length + fuel) listed a w (Region.free_spec ho' hf) hcl (by simpa using hr) hy (Later.refl bs w) hrec
      rw [List.length_cons, show fl.length + 1 + fuel = fl.length + fuel + 1 from by omega]
      exact this

theorem segs_sound {l : List Oper} (hs : Region.noSelect l.toArray = true) (hQ : ∀ c (a : Act) d v w, Q (.panic c) (a.put d v) w → Q (.panic c) a w) (hz : lastB md l.toArray z = true) (last : List Nat) :
    ∀ (sg : List (List Nat × Nat)) (listed : Array Bool) (a : Act) (w : World), Closed md l.toArray listed → segsB md l.toArray last sg listed = true → wpSegs z bs P l Q last sg a w → wpAnyG z bs P md l.toArray Q (segsLen last sg) listed a w
  | [], listed, a, w, hcl, hB, h => by
    simp only [segsB, Bool.and_eq_true] at hB
    have := seg_sound (fuel := 0) hs hQ hz last listed a hcl hB.1 h (fun a' _ ha' => ⟨by simpa using hB.2, ha'⟩)
    simpa [segsLen] using this
  | (fl, i) :: r, listed, a, w, hcl, hB, h => by
    simp only [segsB, Bool.and_eq_true] at hB
    obtain ⟨⟨h1, h2⟩, h3⟩ := hB
    refine seg_sound (fuel := segsLen last r + 1) hs hQ hz fl listed a hcl h1 h (fun a' hcl' ha' => ?_)
    have h2' : Region.ready md l.toArray (segB md l.toArray fl listed).2 = [i] := by simpa using h2
    refine ⟨fun h0 => (by rw [h2'] at h0; cases h0), fun j hj => ?_⟩
    rw [h2'] at hj
    obtain rfl : j = i := by simpa using hj
    exact wpOp_mono (fun a'' w'' ⟨hb, hk⟩ => ⟨fun hne => later_iff.2 (hb hne), segs_sound hs hQ hz last r _ a'' w'' (hcl'.more (by rw [h2']; exact List.mem_singleton.2 rfl)) h3 hk⟩) ha'

/-- A region that draws its order, by segments. -/
theorem wp_region_segs {id : Nat} {l : List Oper} {a : Act} {w : World} (z : Nat) (bs : List Nat) (sg : List (List Nat × Nat)) (last : List Nat) (hm : P.follows .mixedOrders = true) (hs : Region.noSelect l.toArray = true)
    (hB : segsB .any l.toArray last sg (Array.replicate l.length false) = true) (hL : segsLen last sg = l.length) (hz : lastB .any l.toArray z = true)
    (hQ : ∀ c (a : Act) d v w, Q (.panic c) (a.put d v) w → Q (.panic c) a w) (h : wpSegs z bs P l Q last sg a w.drew) : (Code.region id l.toArray true).wp P Q a w := by
  refine wp_region_any hm (wpAny_of_G (z := z) (bs := bs) _ _ _ _ ?_)
  have := segs_sound (z := z) (bs := bs) hs hQ hz last sg (Array.replicate l.length false) a w.drew (Closed.start _) hB h
  rw [hL] at this
  simpa using this

/-- The next segment; the last one. -/
theorem wpSegs_more {l : List Oper} {last fl : List Nat} {i : Nat} {r : List (List Nat × Nat)} {a : Act} {w : World} (h : wpQuiet P l.toArray (fun w' => ∃ p : Past bs w, w' = p.val)
      (fun a' => wpOp P l.toArray Q i (fun a'' w'' => (i ≠ z → But bs w w'') ∧ wpSegs z bs P l Q last r a'' w'') a' w) (pick l fl) a) : wpSegs z bs P l Q last ((fl, i) :: r) a w := h
theorem wpSegs_last {l : List Oper} {last : List Nat} {a : Act} {w : World} (h : wpQuiet P l.toArray (fun w' => ∃ p : Past bs w, w' = p.val) (fun a' => Q .normal a' w) (pick l last) a) : wpSegs z bs P l Q last [] a w := h

/-- One that may change the world, where it is wanted. -/
theorem wpOp_heavy {l : List Oper} {i : Nat} {o : Oper} {a : Act} {w : World} {R : Act → World → Prop} (hi : l[i]? = some o) (hw : Region.wanted o (yielded l.toArray a.tmps) = true)
    (h : ∀ K : Act → World → Prop, (∀ a' w', (i ≠ z → But bs w w') → R a' w' → K a' w') → o.wp P a w K Q) : wpOp P l.toArray Q i (fun a'' w'' => (i ≠ z → But bs w w'') ∧ R a'' w'') a w := by
  unfold wpOp
  have hi' : l.toArray[i]? = some o := by simpa using hi
  simp only [hi', hw, if_true]
  exact .inl (h _ (fun a' w' h1 h2 => ⟨h1, h2⟩))

/-- One that is not wanted. -/
theorem wpOp_idle {l : List Oper} {i : Nat} {o : Oper} {a : Act} {w : World} {R : Act → World → Prop} (hi : l[i]? = some o) (hw : Region.wanted o (yielded l.toArray a.tmps) = false)
    (h : R (a.put o.dst undef) w) : wpOp P l.toArray Q i (fun a'' w'' => (i ≠ z → But bs w w'') ∧ R a'' w'') a w := by
  unfold wpOp
  have hi' : l.toArray[i]? = some o := by simpa using hi
  simp only [hi', hw]
  exact ⟨fun _ => But.refl _ _, h⟩

end
end Go.Proofs.YtelenboncejdaaaGreatDoor.Dc

/-
  A statement that draws its order, whatever its operations make: what each operation yields is told by a word that lasts while memory grows; if each operation, entered where those that it waits for have yielded so, yields so, the statement ends with all of them; conditions: each operation waits only for earlier ones, each has a slot of its own.
-/
namespace Go.Proofs.YtelenboncejdaaaGreatDoor.Dv
open Go Go.RowKit
set_option linter.unusedSimpArgs false
set_option linter.unusedVariables false

/-- The slot of operation i, and what stands in it. -/
def slotOf (l : List Oper) (i : Nat) : Option Tmp := (l[i]?).bind (·.dst)
def val (l : List Oper) (a : Act) (i : Nat) : Value := match slotOf l i with
  | some s => a.tmps.getD s undef
  | none => undef
/-- All slots but those of the operations stand as they stood. -/
def Same (l : List Oper) (a0 a : Act) : Prop := a.defers = a0.defers ∧ a.tmps.size = a0.tmps.size ∧ ∀ s, (l.map (·.dst)).contains (some s) = false → a.tmps.getD s undef = a0.tmps.getD s undef
def deps (o : Oper) : List Nat := (o.after.toList.filter (Region.binds .any)).map (·.on)

section
variable {P : Program} {Q : Exit → Act → World → Prop} {l : List Oper} {V : Nat → Value → World → Prop} {a0 : Act} {w0 : World}

/-- What is asked of an operation. -/
def StepOne (P : Program) (Q : Exit → Act → World → Prop) (l : List Oper) (V : Nat → Value → World → Prop) (a0 : Act) (w0 : World) (i : Nat) (o : Oper) : Prop :=
  ∀ a w, Below w0.heap.size w0 w → Same l a0 a → (∀ j ∈ deps o, V j (val l a j) w) →
    (Region.wanted o (yielded l.toArray a.tmps) = true → o.wp P a w (fun a' w' => ∃ v, a' = a.put o.dst v ∧ Below w.heap.size w w' ∧ V i v w') Q) ∧
    (Region.wanted o (yielded l.toArray a.tmps) = false → V i undef w)
def StepsAll (P : Program) (Q : Exit → Act → World → Prop) (l : List Oper) (V : Nat → Value → World → Prop) (a0 : Act) (w0 : World) : List Oper → Nat → Prop
  | [], _ => True
  | o :: r, i => StepOne P Q l V a0 w0 i o ∧ StepsAll P Q l V a0 w0 r (i + 1)
theorem stepsAll_at : ∀ (r : List Oper) (k : Nat), StepsAll P Q l V a0 w0 r k → ∀ i o, r[i]? = some o → StepOne P Q l V a0 w0 (k + i) o
  | o' :: r, k, h, 0, o, hi => by
    simp at hi
    subst hi
    exact h.1
  | o' :: r, k, h, i + 1, o, hi => by
    have := stepsAll_at r (k + 1) h.2 i o (by simpa using hi)
    rwa [show k + 1 + i = k + (i + 1) by omega] at this
  | [], _, _, i, o, hi => by simp at hi

/-- The checks: each waits only for earlier ones; the slots are apart and in the frame. -/
def earlierB : List Oper → Nat → Bool
  | [], _ => true
  | o :: r, i => o.after.toList.all (fun e => !Region.binds .any e || decide (e.on < i)) && earlierB r (i + 1)
theorem earlier_at : ∀ (r : List Oper) (k : Nat), earlierB r k = true → ∀ i o, r[i]? = some o → ∀ e ∈ o.after, Region.binds .any e = true → e.on < k + i
  | o' :: r, k, h, 0, o, hi => by
    simp at hi
    subst hi
    simp only [earlierB, Bool.and_eq_true, List.all_eq_true, Bool.or_eq_true, decide_eq_true_eq] at h
    intro e he hb
    rcases h.1 e (by simpa using he) with h1 | h1
    · rw [hb] at h1
      cases h1
    · exact h1
  | o' :: r, k, h, i + 1, o, hi => by
    simp only [earlierB, Bool.and_eq_true] at h
    intro e he hb
    have := earlier_at r (k + 1) h.2 i o (by simpa using hi) e he hb
    omega
  | [], _, _, i, o, hi => by simp at hi
def apartB (n : Nat) : List Oper → Bool
  | [] => true
  | o :: r => (match o.dst with | some s => decide (s < n) && r.all (fun p => p.dst != some s) | none => true) && apartB n r
theorem apart_at {n : Nat} : ∀ (r : List Oper), apartB n r = true → ∀ (i j : Nat) (o p : Oper) (s : Tmp), r[i]? = some o → r[j]? = some p → o.dst = some s → p.dst = some s → i = j
  | o' :: r, h, i, j, o, p, s, hi, hj, ho, hp => by
    simp only [apartB, Bool.and_eq_true] at h
    cases i with
    | zero =>
      cases j with
      | zero => rfl
      | succ j =>
        simp at hi hj
        subst hi
        have h1 := h.1
        rw [ho] at h1
        simp only [Bool.and_eq_true, List.all_eq_true] at h1
        have := h1.2 p (List.mem_of_getElem? hj)
        simp [hp] at this
    | succ i =>
      cases j with
      | zero =>
        simp at hi hj
        subst hj
        have h1 := h.1
        rw [hp] at h1
        simp only [Bool.and_eq_true, List.all_eq_true] at h1
        have := h1.2 o (List.mem_of_getElem? hi)
        simp [ho] at this
      | succ j =>
        have := apart_at r h.2 i j o p s (by simpa using hi) (by simpa using hj) ho hp
        omega
  | [], _, i, _, _, _, _, hi, _, _, _ => by simp at hi
theorem apart_lt {n : Nat} : ∀ (r : List Oper), apartB n r = true → ∀ o ∈ r, ∀ s, o.dst = some s → s < n
  | o' :: r, h, o, ho, s, hs => by
    simp only [apartB, Bool.and_eq_true] at h
    rcases List.mem_cons.1 ho with rfl | ho
    · have h1 := h.1
      rw [hs] at h1
      simp only [Bool.and_eq_true, decide_eq_true_eq] at h1
      exact h1.1
    · exact apart_lt r h.2 o ho s hs
  | [], _, o, ho, _, _ => by cases ho

/-- What stands on the way. -/
structure Mid (l : List Oper) (V : Nat → Value → World → Prop) (a0 : Act) (w0 : World) (listed : Array Bool) (a : Act) (w : World) : Prop where
  same : Same l a0 a
  below : Below w0.heap.size w0 w
  size : listed.size = l.length
  vals : ∀ i, listed.getD i false = true → V i (val l a i) w

theorem val_put_same {i : Nat} {o : Oper} (hi : l[i]? = some o) {n : Nat} (hap : apartB n l = true) {a : Act} (hn : a.tmps.size = n) (v : Value) : val l (a.put o.dst v) i = (match o.dst with | some _ => v | none => undef) := by
  unfold val slotOf
  rw [hi]
  simp only [Option.bind_some]
  cases hd : o.dst with
  | none => rfl
  | some s =>
    have hs := apart_lt l hap o (List.mem_of_getElem? hi) s hd
    simp [Act.put, Array.getD_eq_getD_getElem?, hn, hs]
theorem val_put_other {i j : Nat} {o : Oper} (hi : l[i]? = some o) {n : Nat} (hap : apartB n l = true) (hij : i ≠ j) (a : Act) (v : Value) : val l (a.put o.dst v) j = val l a j := by
  unfold val slotOf
  cases hj : l[j]? with
  | none => rfl
  | some p =>
    simp only [Option.bind_some]
    cases hp : p.dst with
    | none => rfl
    | some s =>
      cases hd : o.dst with
      | none => rfl
      | some t =>
        have : t ≠ s := fun e => hij (apart_at l hap i j o p s hi hj (by rw [hd, e]) hp)
        simp [Act.put, Array.getD_eq_getD_getElem?, Array.getElem?_setIfInBounds_ne this]
theorem same_put {i : Nat} {o : Oper} (hi : l[i]? = some o) {a : Act} (h : Same l a0 a) (v : Value) : Same l a0 (a.put o.dst v) := by
  cases hd : o.dst with
  | none => exact h
  | some t =>
    refine ⟨h.1, by simpa [Act.put] using h.2.1, fun s hs => ?_⟩
    have : t ≠ s := by
      rintro rfl
      have hm : some t ∈ l.map (·.dst) := List.mem_map.2 ⟨o, List.mem_of_getElem? hi, hd⟩
      rw [List.contains_eq_mem] at hs
      simp [hm] at hs
    rw [← h.2.2 s hs]
    simp [Act.put, Array.getD_eq_getD_getElem?, Array.getElem?_setIfInBounds_ne this]

theorem mid_step (hmono : ∀ i v w w', V i v w → Below w.heap.size w w' → V i v w') (hap : apartB a0.tmps.size l = true) (hst : StepsAll P Q l V a0 w0 l 0) (hno : ∀ (i : Nat) (o : Oper), l[i]? = some o → o.dst = none → ∀ v w, V i v w → V i undef w)
    {listed : Array Bool} {a : Act} {w : World} (hm : Mid l V a0 w0 listed a w) {i : Nat} (hi : i ∈ Region.ready .any l.toArray listed) :
    wpOp P l.toArray Q i (fun a' w' => Mid l V a0 w0 (listed.setIfInBounds i true) a' w') a w := by
  obtain ⟨hun, o, ho, hall⟩ := mem_ready.1 hi
  have ho' : l[i]? = some o := by simpa using ho
  have hone := stepsAll_at l 0 hst i o ho'
  rw [Nat.zero_add] at hone
  have hd : ∀ j ∈ deps o, V j (val l a j) w := by
    intro j hj
    simp only [deps, List.mem_map, List.mem_filter] at hj
    obtain ⟨e, ⟨he, hb⟩, rfl⟩ := hj
    exact hm.vals _ (hall e (by simpa using he) hb)
  obtain ⟨h1, h2⟩ := hone a w hm.below hm.same hd
  have put : ∀ v w', Below w.heap.size w w' → V i v w' → Mid l V a0 w0 (listed.setIfInBounds i true) (a.put o.dst v) w' := by
    intro v w' hb hv
    refine ⟨same_put ho' hm.same v, hm.below.trans (hb.mono hm.below.size), by simpa using hm.size, fun j hj => ?_⟩
    by_cases hij : i = j
    · subst hij
      rw [val_put_same ho' hap hm.same.2.1]
      cases hd : o.dst with
      | none => exact hno i o ho' hd v w' hv
      | some s => exact hv
    · rw [val_put_other ho' hap hij]
      refine hmono _ _ _ _ (hm.vals j ?_) hb
      rw [Array.getD_eq_getD_getElem?, Array.getElem?_setIfInBounds_ne hij] at hj
      rw [Array.getD_eq_getD_getElem?]
      exact hj
  unfold wpOp
  simp only [ho]
  by_cases hw : Region.wanted o (yielded l.toArray a.tmps) = true
  · rw [if_pos hw]
    refine .inl (Oper.wp_mono (fun a' w' => ?_) (h1 hw))
    rintro ⟨v, rfl, hb, hv⟩
    exact put v w' hb hv
  · rw [if_neg hw]
    exact put undef w (Below.refl _ _) (h2 (by simpa using hw))

theorem ready_all {listed : Array Bool} (he : earlierB l 0 = true) (hs : listed.size = l.length) (h : Region.ready .any l.toArray listed = []) : ∀ i, i < l.length → listed.getD i false = true := by
  intro i
  induction i using Nat.strongRecOn with
  | ind i ih =>
    intro hi
    rcases hb : listed.getD i false with _ | _
    · exfalso
      have hmem : i ∈ Region.ready .any l.toArray listed := by
        refine mem_ready.2 ⟨?_, l[i], by simp [hi], fun e hee hbd => ?_⟩
        · rw [Array.getD_eq_getD_getElem?] at hb ⊢
          rw [Array.getElem?_eq_getElem (by omega)] at hb ⊢
          exact hb
        · have := earlier_at l 0 he i l[i] (by simp [hi]) e hee hbd
          exact ih e.on (by omega) (by omega)
      rw [h] at hmem
      cases hmem
    · rfl

theorem count_set {listed : Array Bool} {i : Nat} (h : listed.getD i true = false) : (listed.setIfInBounds i true).toList.count false + 1 = listed.toList.count false := by
  have hi : i < listed.size := by
    rcases Nat.lt_or_ge i listed.size with h1 | h1
    · exact h1
    · rw [Array.getD_eq_getD_getElem?, Array.getElem?_eq_none h1] at h
      cases h
  have hv : listed.toList[i] = false := by
    rw [Array.getD_eq_getD_getElem?, Array.getElem?_eq_getElem hi] at h
    simpa using h
  rw [Array.toList_setIfInBounds, List.count_set (by simpa using hi)]
  have hpos : 0 < listed.toList.count false := List.count_pos_iff.2 (by rw [← hv]; exact List.getElem_mem _)
  rw [hv, if_pos (by simp), if_neg (by simp)]
  omega

theorem any_of_mid (hmono : ∀ i v w w', V i v w → Below w.heap.size w w' → V i v w') (he : earlierB l 0 = true) (hap : apartB a0.tmps.size l = true) (hst : StepsAll P Q l V a0 w0 l 0) (hno : ∀ (i : Nat) (o : Oper), l[i]? = some o → o.dst = none → ∀ v w, V i v w → V i undef w)
    (hend : ∀ a w, Below w0.heap.size w0 w → Same l a0 a → (∀ i, i < l.length → V i (val l a i) w) → Q .normal a w) :
    ∀ (fuel : Nat) (listed : Array Bool) (a : Act) (w : World), listed.toList.count false ≤ fuel → Mid l V a0 w0 listed a w → wpAny P .any l.toArray Q fuel listed a w := by
  have fin : ∀ (listed : Array Bool) (a : Act) (w : World), Mid l V a0 w0 listed a w → Region.ready .any l.toArray listed = [] → Q .normal a w := fun listed a w hm hr =>
    hend a w hm.below hm.same (fun i hi => hm.vals i (ready_all he hm.size hr i hi))
  intro fuel
  induction fuel with
  | zero =>
    intro listed a w hc hm
    have hr : Region.ready .any l.toArray listed = [] := by
      apply List.eq_nil_iff_forall_not_mem.2
      intro i hi
      have := count_set (mem_ready.1 hi).1
      omega
    exact ⟨hr, fin listed a w hm hr⟩
  | succ fuel ih =>
    intro listed a w hc hm
    refine ⟨fin listed a w hm, fun i hi => ?_⟩
    refine wpOp_mono (fun a' w' hm' => ih _ a' w' ?_ hm') (mid_step hmono hap hst hno hm hi)
    have := count_set (mem_ready.1 hi).1
    omega

/-- A region that draws its order, whatever its operations make. -/
theorem wp_region_vals {id : Nat} {a : Act} {w : World} (V : Nat → Value → World → Prop) (hm : P.follows .mixedOrders = true) (he : earlierB l 0 = true) (hap : apartB a.tmps.size l = true)
    (hmono : ∀ i v w w', V i v w → Below w.heap.size w w' → V i v w') (hno : l.all (fun o => o.dst.isSome) = true)
    (hst : StepsAll P Q l V a w.drew l 0)
    (hend : ∀ a' w', Below w.heap.size w w' → Same l a a' → (∀ i, i < l.length → V i (val l a' i) w') → Q .normal a' w') : (Code.region id l.toArray true).wp P Q a w := by
  refine wp_region_any hm ?_
  refine any_of_mid (a0 := a) (w0 := w.drew) hmono he hap hst (fun i o hi hd => ?_) (fun a' w' hb => hend a' w' ?_) _ _ _ _ ?_ ⟨⟨rfl, rfl, fun _ _ => rfl⟩, Below.refl _ _, by simp, fun i hi => ?_⟩
  · have := List.all_eq_true.1 hno o (List.mem_of_getElem? hi)
    rw [hd] at this
    cases this
  · exact (Below.refl _ _).drew.trans hb
  · simp
  · exfalso
    rw [Array.getD_eq_getD_getElem?] at hi
    rcases Nat.lt_or_ge i l.length with h | h
    · rw [Array.getElem?_replicate] at hi
      simp [h] at hi
    · rw [Array.getElem?_replicate] at hi
      simp [Nat.not_lt.2 h] at hi

/-- An operation that yields a value. -/
theorem wp_val {o : Oper} {a : Act} {w w' : World} {K : Act → World → Prop} {v : Value} (hr : (execOp a.eval o).run P w = .ok (.value v) w') (h : K (a.put o.dst v) w') : o.wp P a w K Q := by
  unfold Oper.wp
  rw [hr]
  exact h

/-- An operation that calls a Go function. -/
theorem wp_call {o : Oper} {a : Act} {w : World} {K : Act → World → Prop} {f : FuncId} {fn : Func} {xs : Array Operand} {ts : Array TypeId} {vs : Array Value} (ho : o.op = .call { callee := .value (.func f), args := xs, argTypes := ts })
    (hf : P.funcs[f]? = some fn) (hname : (fn.name == "runtime.NumGoroutine") = false) (hbody : fn.body.isNone = false) (hx : xs.map a.eval = vs)
    (h : Calls P f vs w fun e w'' => ∃ u, e = .returned u ∧ K (a.put o.dst u) w'') : o.wp P a w K Q := by
  have hn : fn.name ≠ "runtime.NumGoroutine" := by simpa using hname
  have hb : fn.body ≠ none := by intro e; rw [e] at hbody; cases hbody
  unfold Oper.wp execOp
  simp [ho, resolve, invoke, Act.eval, go_sem, hx, Deferred.ofValue, callFunc, hf, hn, hb]
  refine Calls.mono h ?_
  rintro e w'' ⟨u, rfl, hk⟩
  exact hk

/-- What is asked, at an operation without a guard. -/
theorem step_free {i : Nat} {o : Oper} (hg : o.guard = none)
    (h : ∀ a w, Below w0.heap.size w0 w → Same l a0 a → (∀ j ∈ deps o, V j (val l a j) w) → o.wp P a w (fun a' w' => ∃ v, a' = a.put o.dst v ∧ Below w.heap.size w w' ∧ V i v w') Q) :
    StepOne P Q l V a0 w0 i o := by
  intro a w hb hs hd
  refine ⟨fun _ => h a w hb hs hd, fun hw => ?_⟩
  unfold Region.wanted at hw
  rw [hg] at hw
  cases hw
/-- An operation without a guard that only reckons. -/
theorem step_val {i : Nat} {o : Oper} (hg : o.guard = none)
    (h : ∀ a w, Below w0.heap.size w0 w → Same l a0 a → (∀ j ∈ deps o, V j (val l a j) w) → ∃ v w', (execOp a.eval o).run P w = .ok (.value v) w' ∧ Below w.heap.size w w' ∧ V i v w') :
    StepOne P Q l V a0 w0 i o := by
  refine step_free hg fun a w hb hs hd => ?_
  obtain ⟨v, w', hr, hb', hv⟩ := h a w hb hs hd
  exact wp_val hr ⟨v, rfl, hb', hv⟩

end
end Go.Proofs.YtelenboncejdaaaGreatDoor.Dv

/-
  A statement that draws its order, whatever its operations make (DrawnV), where more code follows: behind it the frame is the old one with each operation's yield put into its slot; conditions: as there.
-/
namespace Go.Proofs.YtelenboncejdaaaGreatDoor.Dv
open Go Go.RowKit
set_option linter.unusedSimpArgs false
set_option linter.unusedVariables false

/-- Each operation's yield put into its slot. -/
def putAll : List Oper → (Nat → Value) → Nat → Act → Act
  | [], _, _, a => a
  | o :: r, f, i, a => putAll r f (i + 1) (a.put o.dst (f i))

theorem act_ext {a b : Act} (h1 : a.defers = b.defers) (h2 : a.tmps.size = b.tmps.size) (h3 : ∀ s, a.tmps.getD s undef = b.tmps.getD s undef) : a = b := by
  cases a with | mk ta da =>
  cases b with | mk tb db =>
  simp only at h1 h2 h3
  subst h1
  congr 1
  apply Array.ext h2
  intro i hi hj
  have := h3 i
  rwa [Array.getD_eq_getD_getElem?, Array.getD_eq_getD_getElem?, Array.getElem?_eq_getElem hi, Array.getElem?_eq_getElem hj] at this
theorem put_getD {a : Act} {s t : Tmp} {v : Value} : (a.put (some t) v).tmps.getD s undef = if t = s ∧ s < a.tmps.size then v else a.tmps.getD s undef := by
  simp only [Act.put, Array.getD_eq_getD_getElem?]
  by_cases h : t = s
  · subst h
    by_cases hl : t < a.tmps.size
    · simp [hl]
    · simp [hl]
  · rw [Array.getElem?_setIfInBounds_ne h, if_neg fun hh => h hh.1]
theorem put_self {a : Act} {t : Tmp} : a.put (some t) (a.tmps.getD t undef) = a := by
  refine act_ext rfl (by simp [Act.put]) fun s => ?_
  rw [put_getD]
  split
  · rename_i h
    rw [h.1]
  · rfl
/-- Frames that are alike but in the slots of the operations. -/
theorem putAll_same {f : Nat → Value} : ∀ (l : List Oper) (i : Nat) (a b : Act), Same l a b → putAll l f i a = putAll l f i b
  | [], _, a, b, h => (act_ext h.1.symm h.2.1.symm fun s => (h.2.2 s rfl).symm)
  | o :: r, i, a, b, h => by
    unfold putAll
    refine putAll_same r (i + 1) _ _ ?_
    cases hd : o.dst with
    | none =>
      refine ⟨h.1, h.2.1, fun s hs => h.2.2 s ?_⟩
      rw [List.map_cons, List.contains_cons, hd, hs]
      rfl
    | some t =>
      refine ⟨h.1, by simpa [Act.put] using h.2.1, fun s hs => ?_⟩
      rw [put_getD, put_getD, h.2.1]
      split
      · rfl
      · rename_i hne
        by_cases hts : t = s
        · subst hts
          have hl : ¬ t < a.tmps.size := fun hl => hne ⟨rfl, hl⟩
          rw [Array.getD_eq_getD_getElem?, Array.getD_eq_getD_getElem?, Array.getElem?_eq_none (by rw [h.2.1]; exact Nat.le_of_not_lt hl), Array.getElem?_eq_none (Nat.le_of_not_lt hl)]
        · refine h.2.2 s ?_
          rw [List.map_cons, List.contains_cons, hd, hs, Bool.or_false]
          exact beq_false_of_ne fun e => hts (Option.some.inj e).symm
theorem putAll_self {l : List Oper} {a : Act} : ∀ (r : List Oper) (i : Nat), (∀ j o, r[j]? = some o → l[i + j]? = some o) → (∀ o ∈ r, o.dst.isSome = true) → putAll r (fun k => val l a k) i a = a
  | [], _, _, _ => rfl
  | o :: r, i, h, hs => by
    unfold putAll
    have h0 := h 0 o rfl
    rw [Nat.add_zero] at h0
    have e : a.put o.dst (val l a i) = a := by
      unfold val slotOf
      rw [h0]
      simp only [Option.bind_some]
      cases hd : o.dst with
      | none =>
        have := hs o List.mem_cons_self
        rw [hd] at this
        cases this
      | some t => exact put_self
    rw [e]
    exact putAll_self r (i + 1) (fun j o' hj => by
      have := h (j + 1) o' (by simpa using hj)
      rwa [show i + (j + 1) = i + 1 + j by omega] at this) (fun o' ho => hs o' (List.mem_cons_of_mem _ ho))

/-- A region that draws its order, whatever its operations make; code may follow. -/
theorem wp_region_frame {P : Program} {Q : Exit → Act → World → Prop} {l : List Oper} {id : Nat} {a : Act} {w : World} (V : Nat → Value → World → Prop) (hm : P.follows .mixedOrders = true) (he : earlierB l 0 = true) (hap : apartB a.tmps.size l = true)
    (hmono : ∀ i v w w', V i v w → Below w.heap.size w w' → V i v w') (hno : l.all (fun o => o.dst.isSome) = true)
    (hst : StepsAll P Q l V a w.drew l 0)
    (hend : ∀ (f : Nat → Value) w', Below w.heap.size w w' → (∀ i, i < l.length → V i (f i) w') → Q .normal (putAll l f 0 a) w') : (Code.region id l.toArray true).wp P Q a w := by
  refine wp_region_vals V hm he hap hmono hno hst fun a' w' hb hs hv => ?_
  have e : a' = putAll l (fun k => val l a' k) 0 a := by
    rw [putAll_same l 0 a a' hs]
    exact (putAll_self l 0 (fun j o h => by rwa [Nat.zero_add]) fun o ho => List.all_eq_true.1 hno o ho).symm
  have := hend (fun k => val l a' k) w' hb hv
  rwa [← e] at this

end Go.Proofs.YtelenboncejdaaaGreatDoor.Dv

/-
  A statement that draws its order, whatever its operations make or turn: what stands ahead of each operation, what each yields, what each may turn; if each leaves what the others stand on, the statement ends with all of them; conditions: each operation waits only for earlier ones, each has a slot of its own.
-/
namespace Go.Proofs.YtelenboncejdaaaGreatDoor.Dx
open Go Go.RowKit
open Go.Proofs.YtelenboncejdaaaGreatDoor.Dv (slotOf val Same deps earlierB apartB val_put_same val_put_other same_put ready_all count_set putAll putAll_same putAll_self)
set_option linter.unusedSimpArgs false
set_option linter.unusedVariables false

/-- The words: of the world (G), ahead of an operation (N), behind it (V), of its step (S). -/
structure Words where
  G : World → Prop
  N : Nat → World → Prop
  V : Nat → Value → World → Prop
  S : Nat → World → World → Prop
/-- Operation i waits for j. -/
def depB (l : List Oper) (i j : Nat) : Bool := match l[i]? with
  | some o => (deps o).contains j
  | none => false
structure Words.Ok (D : Words) (l : List Oper) : Prop where
  g : ∀ i w w', D.G w → D.S i w w' → D.G w'
  n : ∀ i j w w', i ≠ j → D.G w → D.N i w → D.S j w w' → D.N i w'
  v : ∀ i j u w w', i ≠ j → depB l i j = false → D.G w → D.V i u w → D.S j w w' → D.V i u w'

section
variable {P : Program} {Q : Exit → Act → World → Prop} {l : List Oper} {D : Words} {a0 : Act}

/-- The slot s is written only by operations that wait for i. -/
def stillB (l : List Oper) (i s : Nat) : Bool := l.all fun o => o.dst != some s || (deps o).contains i
/-- What is asked of an operation. -/
def StepOne (P : Program) (Q : Exit → Act → World → Prop) (l : List Oper) (D : Words) (a0 : Act) (i : Nat) (o : Oper) : Prop :=
  ∀ a w, D.G w → (∀ s, stillB l i s = true → a.tmps.getD s undef = a0.tmps.getD s undef) → (∀ j ∈ deps o, D.V j (val l a j) w) → D.N i w → o.wp P a w (fun a' w' => ∃ v, a' = a.put o.dst v ∧ D.S i w w' ∧ D.V i v w') Q
def StepsAll (P : Program) (Q : Exit → Act → World → Prop) (l : List Oper) (D : Words) (a0 : Act) : List Oper → Nat → Prop
  | [], _ => True
  | o :: r, i => StepOne P Q l D a0 i o ∧ StepsAll P Q l D a0 r (i + 1)
theorem stepsAll_at : ∀ (r : List Oper) (k : Nat), StepsAll P Q l D a0 r k → ∀ i o, r[i]? = some o → StepOne P Q l D a0 (k + i) o
  | o' :: r, k, h, 0, o, hi => by
    simp at hi
    subst hi
    exact h.1
  | o' :: r, k, h, i + 1, o, hi => by
    have := stepsAll_at r (k + 1) h.2 i o (by simpa using hi)
    rwa [show k + 1 + i = k + (i + 1) by omega] at this
  | [], _, _, i, o, hi => by simp at hi

/-- What stands on the way. -/
structure Mid (l : List Oper) (D : Words) (a0 : Act) (listed : Array Bool) (a : Act) (w : World) : Prop where
  same : Same l a0 a
  good : D.G w
  size : listed.size = l.length
  vals : ∀ i, listed.getD i false = true → D.V i (val l a i) w
  news : ∀ i, listed.getD i false = false → D.N i w
  closed : ∀ i j, listed.getD i false = true → depB l i j = true → listed.getD j false = true
  still : ∀ i, listed.getD i false = false → ∀ s, stillB l i s = true → a.tmps.getD s undef = a0.tmps.getD s undef

theorem mid_step (hok : D.Ok l) (hap : apartB a0.tmps.size l = true) (hst : StepsAll P Q l D a0 l 0) (hfree : l.all (fun o => o.guard.isNone) = true) (hno : ∀ (i : Nat) (o : Oper), l[i]? = some o → o.dst = none → ∀ v w, D.V i v w → D.V i undef w)
    {listed : Array Bool} {a : Act} {w : World} (hm : Mid l D a0 listed a w) {i : Nat} (hi : i ∈ Region.ready .any l.toArray listed) :
    wpOp P l.toArray Q i (fun a' w' => Mid l D a0 (listed.setIfInBounds i true) a' w') a w := by
  obtain ⟨hun, o, ho, hall⟩ := mem_ready.1 hi
  have ho' : l[i]? = some o := by simpa using ho
  have hone := stepsAll_at l 0 hst i o ho'
  rw [Nat.zero_add] at hone
  have hf := List.all_eq_true.1 hfree o (List.mem_of_getElem? ho')
  have hd : ∀ j ∈ deps o, D.V j (val l a j) w := by
    intro j hj
    simp only [deps, List.mem_map, List.mem_filter] at hj
    obtain ⟨e, ⟨he, hb⟩, rfl⟩ := hj
    exact hm.vals _ (hall e (by simpa using he) hb)
  have hnot : listed.getD i false = false := by
    rw [Array.getD_eq_getD_getElem?] at hun ⊢
    cases h : listed[i]? with
    | none => rfl
    | some b => rw [h] at hun; exact hun
  have h1 := hone a w hm.good (hm.still i hnot) hd (hm.news i hnot)
  have put : ∀ v w', D.S i w w' → D.V i v w' → Mid l D a0 (listed.setIfInBounds i true) (a.put o.dst v) w' := by
    intro v w' hs hv
    refine ⟨same_put ho' hm.same v, hok.g i w w' hm.good hs, by simpa using hm.size, fun j hj => ?_, fun j hj => ?_, fun j q hj hq => ?_, fun j hj s hsl => ?_⟩
    · by_cases hij : i = j
      · subst hij
        rw [val_put_same ho' hap hm.same.2.1]
        cases hd : o.dst with
        | none => exact hno i o ho' hd v w' hv
        | some s => exact hv
      · rw [val_put_other ho' hap hij]
        have hj' : listed.getD j false = true := by
          rw [Array.getD_eq_getD_getElem?, Array.getElem?_setIfInBounds_ne hij] at hj
          rw [Array.getD_eq_getD_getElem?]
          exact hj
        refine hok.v j i _ w w' (Ne.symm hij) (Bool.eq_false_iff.2 fun hdd => ?_) hm.good (hm.vals j hj') hs
        have := hm.closed j i hj' hdd
        rw [hnot] at this
        cases this
    · by_cases hij : i = j
      · subst hij
        exfalso
        have hlt : i < listed.size := by
          rcases Nat.lt_or_ge i listed.size with h1 | h1
          · exact h1
          · rw [Array.getD_eq_getD_getElem?, Array.getElem?_eq_none h1] at hun
            cases hun
        rw [Array.getD_eq_getD_getElem?, Array.getElem?_setIfInBounds_self_of_lt hlt] at hj
        cases hj
      · refine hok.n j i w w' (Ne.symm hij) hm.good (hm.news j ?_) hs
        rw [Array.getD_eq_getD_getElem?, Array.getElem?_setIfInBounds_ne hij] at hj
        rw [Array.getD_eq_getD_getElem?]
        exact hj
    · have hq1 : listed.getD q false = true := by
        by_cases hij : i = j
        · subst hij
          unfold depB at hq
          rw [ho'] at hq
          simp only at hq
          have hin : q ∈ deps o := List.contains_iff_mem.1 hq
          simp only [deps, List.mem_map, List.mem_filter] at hin
          obtain ⟨e, ⟨he, hb⟩, rfl⟩ := hin
          exact hall e (by simpa using he) hb
        · refine hm.closed j q ?_ hq
          rw [Array.getD_eq_getD_getElem?, Array.getElem?_setIfInBounds_ne hij] at hj
          rw [Array.getD_eq_getD_getElem?]
          exact hj
      by_cases hiq : i = q
      · subst hiq
        rw [hnot] at hq1
        cases hq1
      · rw [Array.getD_eq_getD_getElem?, Array.getElem?_setIfInBounds_ne hiq, ← Array.getD_eq_getD_getElem?]
        exact hq1
    · by_cases hij : i = j
      · subst hij
        exfalso
        have hlt : i < listed.size := by
          rcases Nat.lt_or_ge i listed.size with h1 | h1
          · exact h1
          · rw [Array.getD_eq_getD_getElem?, Array.getElem?_eq_none h1] at hun
            cases hun
        rw [Array.getD_eq_getD_getElem?, Array.getElem?_setIfInBounds_self_of_lt hlt] at hj
        cases hj
      · have hj' : listed.getD j false = false := by
          rw [Array.getD_eq_getD_getElem?, Array.getElem?_setIfInBounds_ne hij] at hj
          rw [Array.getD_eq_getD_getElem?]
          exact hj
        have hne : o.dst ≠ some s := by
          intro hds
          have hso := List.all_eq_true.1 hsl o (List.mem_of_getElem? ho')
          rw [hds] at hso
          simp only [bne_self_eq_false, Bool.false_or] at hso
          have hin : j ∈ deps o := List.contains_iff_mem.1 hso
          simp only [deps, List.mem_map, List.mem_filter] at hin
          obtain ⟨e, ⟨he, hb⟩, hej⟩ := hin
          have := hall e (by simpa using he) hb
          rw [hej, hj'] at this
          cases this
        rw [← hm.still j hj' s hsl]
        cases hd : o.dst with
        | none => rfl
        | some t =>
          have : t ≠ s := fun e => hne (by rw [hd, e])
          simp [Act.put, Array.getD_eq_getD_getElem?, Array.getElem?_setIfInBounds_ne this]
  unfold wpOp
  simp only [ho]
  have hw : Region.wanted o (yielded l.toArray a.tmps) = true := by
    unfold Region.wanted
    have : o.guard = none := by cases hg : o.guard with
      | none => rfl
      | some x => rw [hg] at hf; cases hf
    rw [this]
  rw [if_pos hw]
  refine .inl (Oper.wp_mono (fun a' w' => ?_) h1)
  rintro ⟨v, rfl, hb, hv⟩
  exact put v w' hb hv

theorem any_of_mid (hok : D.Ok l) (he : earlierB l 0 = true) (hap : apartB a0.tmps.size l = true) (hst : StepsAll P Q l D a0 l 0) (hfree : l.all (fun o => o.guard.isNone) = true) (hno : ∀ (i : Nat) (o : Oper), l[i]? = some o → o.dst = none → ∀ v w, D.V i v w → D.V i undef w)
    (hend : ∀ a w, D.G w → Same l a0 a → (∀ i, i < l.length → D.V i (val l a i) w) → Q .normal a w) :
    ∀ (fuel : Nat) (listed : Array Bool) (a : Act) (w : World), listed.toList.count false ≤ fuel → Mid l D a0 listed a w → wpAny P .any l.toArray Q fuel listed a w := by
  have fin : ∀ (listed : Array Bool) (a : Act) (w : World), Mid l D a0 listed a w → Region.ready .any l.toArray listed = [] → Q .normal a w := fun listed a w hm hr =>
    hend a w hm.good hm.same (fun i hi => hm.vals i (ready_all he hm.size hr i hi))
  intro fuel
  induction fuel with
  | zero =>
    intro listed a w hc hm
    have hr : Region.ready .any l.toArray listed = [] := by
      apply List.eq_nil_iff_forall_not_mem.2
      intro i hi
      have := count_set (mem_ready.1 hi).1
      omega
    exact ⟨hr, fin listed a w hm hr⟩
  | succ fuel ih =>
    intro listed a w hc hm
    refine ⟨fin listed a w hm, fun i hi => ?_⟩
    refine wpOp_mono (fun a' w' hm' => ih _ a' w' ?_ hm') (mid_step hok hap hst hfree hno hm hi)
    have := count_set (mem_ready.1 hi).1
    omega

theorem putAll_back {l : List Oper} {a : Act} : ∀ (r : List Oper) (i : Nat), (∀ j o, r[j]? = some o → l[i + j]? = some o) → putAll r (fun k => val l a k) i a = a
  | [], _, _ => rfl
  | o :: r, i, h => by
    unfold putAll
    have h0 := h 0 o rfl
    rw [Nat.add_zero] at h0
    have e : a.put o.dst (val l a i) = a := by
      unfold val Dv.slotOf
      rw [h0]
      simp only [Option.bind_some]
      cases hd : o.dst with
      | none => rfl
      | some t => exact Dv.put_self
    rw [e]
    exact putAll_back r (i + 1) (fun j o' hj => by
      have := h (j + 1) o' (by simpa using hj)
      rwa [show i + (j + 1) = i + 1 + j by omega] at this)
/-- Only z has no slot. -/
def noneB (l : List Oper) (z : Nat) : Bool := (List.range l.length).all fun i => i == z || ((l[i]?).bind (·.dst)).isSome
theorem none_of {z : Nat} (h : noneB l z = true) (hz : ∀ v w, D.V z v w → D.V z undef w) : ∀ (i : Nat) (o : Oper), l[i]? = some o → o.dst = none → ∀ v w, D.V i v w → D.V i undef w := by
  intro i o ho hd v w hv
  have h1 := List.all_eq_true.1 h i (List.mem_range.2 (List.getElem?_eq_some_iff.1 ho).1)
  rw [ho, Option.bind_some, hd] at h1
  have e : i = z := by simpa using h1
  subst e
  exact hz v w hv
/-- A region that draws its order, whatever its operations make or turn, stores among them; code may follow. -/
theorem wp_region_stores {id : Nat} {a : Act} {w : World} (D : Words) (hok : D.Ok l) (hm : P.follows .mixedOrders = true) (he : earlierB l 0 = true) (hap : apartB a.tmps.size l = true) (hfree : l.all (fun o => o.guard.isNone) = true)
    (hno : ∀ (i : Nat) (o : Oper), l[i]? = some o → o.dst = none → ∀ v w, D.V i v w → D.V i undef w)
    (hg : D.G w.drew) (hn : ∀ i, D.N i w.drew) (hst : StepsAll P Q l D a l 0)
    (hend : ∀ (f : Nat → Value) w', D.G w' → (∀ i, i < l.length → D.V i (f i) w') → Q .normal (putAll l f 0 a) w') : (Code.region id l.toArray true).wp P Q a w := by
  have none_yet : ∀ i, ¬ (Array.replicate l.length false).getD i false = true := by
    intro i hi
    rw [Array.getD_eq_getD_getElem?] at hi
    rcases Nat.lt_or_ge i l.length with h | h
    · rw [Array.getElem?_replicate] at hi
      simp [h] at hi
    · rw [Array.getElem?_replicate] at hi
      simp [Nat.not_lt.2 h] at hi
  refine wp_region_any hm ?_
  refine any_of_mid (a0 := a) hok he hap hst hfree hno (fun a' w' hb hs hv => ?_) _ _ _ _ ?_ ⟨⟨rfl, rfl, fun _ _ => rfl⟩, hg, by simp, fun i hi => absurd hi (none_yet i), fun i _ => hn i, fun i _ hi => absurd hi (none_yet i), fun _ _ _ _ => rfl⟩
  · have e : a' = putAll l (fun k => val l a' k) 0 a := by
      rw [putAll_same l 0 a a' hs]
      exact (putAll_back l 0 (fun j o h => by rwa [Nat.zero_add])).symm
    have := hend (fun k => val l a' k) w' hb hv
    rwa [← e] at this
  · simp
/-- A region that draws its order, whatever its operations make or turn; code may follow. -/
theorem wp_region_words {id : Nat} {a : Act} {w : World} (D : Words) (hok : D.Ok l) (hm : P.follows .mixedOrders = true) (he : earlierB l 0 = true) (hap : apartB a.tmps.size l = true) (hfree : l.all (fun o => o.dst.isSome && o.guard.isNone) = true)
    (hg : D.G w.drew) (hn : ∀ i, D.N i w.drew) (hst : StepsAll P Q l D a l 0)
    (hend : ∀ (f : Nat → Value) w', D.G w' → (∀ i, i < l.length → D.V i (f i) w') → Q .normal (putAll l f 0 a) w') : (Code.region id l.toArray true).wp P Q a w := by
  refine wp_region_stores D hok hm he hap (List.all_eq_true.2 fun o ho => ?_) (fun i o ho hd => ?_) hg hn hst hend
  · have := List.all_eq_true.1 hfree o ho
    simp only [Bool.and_eq_true] at this
    exact this.2
  · have := List.all_eq_true.1 hfree o (List.mem_of_getElem? ho)
    rw [hd] at this
    cases this

theorem step_any {i : Nat} {o : Oper}
    (h : ∀ a w, D.G w → (∀ s, stillB l i s = true → a.tmps.getD s undef = a0.tmps.getD s undef) → (∀ j ∈ deps o, D.V j (val l a j) w) → D.N i w → o.wp P a w (fun a' w' => ∃ v, a' = a.put o.dst v ∧ D.S i w w' ∧ D.V i v w') Q) :
    StepOne P Q l D a0 i o := h
/-- An operation that only reckons. -/
theorem step_val {i : Nat} {o : Oper}
    (h : ∀ a w, D.G w → (∀ s, stillB l i s = true → a.tmps.getD s undef = a0.tmps.getD s undef) → (∀ j ∈ deps o, D.V j (val l a j) w) → D.N i w → ∃ v w', (execOp a.eval o).run P w = .ok (.value v) w' ∧ D.S i w w' ∧ D.V i v w') :
    StepOne P Q l D a0 i o := by
  intro a w hg hs hd hn
  obtain ⟨v, w', hr, hb', hv⟩ := h a w hg hs hd hn
  exact Dv.wp_val hr ⟨v, rfl, hb', hv⟩
/-- A store. -/
theorem step_skip {i : Nat} {o : Oper}
    (h : ∀ a w, D.G w → (∀ s, stillB l i s = true → a.tmps.getD s undef = a0.tmps.getD s undef) → (∀ j ∈ deps o, D.V j (val l a j) w) → D.N i w → ∃ w', (execOp a.eval o).run P w = .ok .skip w' ∧ D.S i w w' ∧ D.V i undef w') :
    StepOne P Q l D a0 i o := by
  intro a w hg hs hd hn
  obtain ⟨w', hr, hb', hv⟩ := h a w hg hs hd hn
  unfold Oper.wp
  rw [hr]
  exact ⟨undef, rfl, hb', hv⟩

end
end Go.Proofs.YtelenboncejdaaaGreatDoor.Dx
