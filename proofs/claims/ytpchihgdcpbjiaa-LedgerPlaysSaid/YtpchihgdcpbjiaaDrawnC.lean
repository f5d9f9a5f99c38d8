/-
  A statement that draws its order and holds calls: one walk, in an order that the prover gives, serves every order; conditions: each call, allocation or store waits for the one before it and keeps to the blocks that the prover names (but for one operation that waits for all the others, save those that wait for it), and every other operation yields its value in each world that such steps lead to.
-/
import Derived.Test.YtpchihgdcpbjiaaProg
import Derived.WalkKit
import Derived.OrdersHeld
import Derived.Deep.QuietTactic
import Derived.BigQuiet
namespace Go.Proofs.Ytpchihgdcpbjiaa.Dc
open Go Go.RowKit
set_option linter.unusedSimpArgs false

/-- From w to w' at most the blocks of the list have turned; there may be new ones. -/
def But (bs : List Nat) (w w' : World) : Prop := w.heap.size ≤ w'.heap.size ∧ ∀ k, k < w.heap.size → k ∉ bs → w'.heap[k]? = w.heap[k]?
theorem But.refl (bs : List Nat) (w : World) : But bs w w := ⟨Nat.le_refl _, fun _ _ _ => rfl⟩
theorem But.trans {bs : List Nat} {a b c : World} (h : But bs a b) (k : But bs b c) : But bs a c :=
  ⟨Nat.le_trans h.1 k.1, fun i hi hn => (k.2 i (Nat.lt_of_lt_of_le hi h.1) hn).trans (h.2 i hi hn)⟩
theorem But.of_below {bs : List Nat} {a b : World} (h : Below a.heap.size a b) : But bs a b := ⟨h.size, fun k hk _ => h.block k hk⟩
theorem But.of_only {bs : List Nat} {a b : World} {g : Nat} (h : a.grownBy b (some g)) (hg : g ∈ bs) : But bs a b :=
  ⟨h.size, fun k hk hn => h.block k hk (fun e => hn (by cases e; exact hg))⟩
theorem But.cell {bs : List Nat} {a b : World} (h : But bs a b) {p : Addr} (hp : p.block < a.heap.size) (hn : p.block ∉ bs) : b.cell? p = a.cell? p := World.cell?_of_block (w := a) (h.2 p.block hp hn)

/-- A world that such steps lead to. -/
structure Past (bs : List Nat) (w : World) where
  val : World
  ok : But bs w val
instance (bs : List Nat) (w : World) : Inhabited (Past bs w) := ⟨⟨w, But.refl bs w⟩⟩
def Later (bs : List Nat) (w w' : World) : Prop := ∃ p : Past bs w, w' = p.val
theorem later_iff {bs : List Nat} {w w' : World} : Later bs w w' ↔ But bs w w' := ⟨fun ⟨p, h⟩ => h ▸ p.ok, fun h => ⟨⟨w', h⟩, rfl⟩⟩
theorem Later.refl (bs : List Nat) (w : World) : Later bs w w := later_iff.2 (But.refl _ _)
theorem Later.trans {bs : List Nat} {a b c : World} (h : Later bs a b) (k : Later bs b c) : Later bs a c := by
  rw [later_iff] at *
  exact h.trans k

section
variable {P : Program} {ops : Array Oper} {Q : Exit → Act → World → Prop} {md : Region.Mode} {bs : List Nat} {z : Nat}

/-- What is listed waits for nothing that is not. -/
def Closed (md : Region.Mode) (ops : Array Oper) (listed : Array Bool) : Prop :=
  ∀ j oj, ops[j]? = some oj → listed.getD j false = true → ∀ e ∈ oj.after, Region.binds md e = true → listed.getD e.on false = true
theorem done_more {listed : Array Bool} {x : Nat} (j : Nat) (h : listed.getD x false = true) : (listed.setIfInBounds j true).getD x false = true := by
  by_cases hx : j = x
  · subst hx
    rcases Nat.lt_or_ge j listed.size with h' | h'
    · simp [h']
    · simp [Array.getElem?_eq_none h'] at h
  · simp only [Array.getD_eq_getD_getElem?] at h ⊢
    rw [Array.getElem?_setIfInBounds_ne hx]
    exact h
theorem done_less {listed : Array Bool} {x j : Nat} (h : (listed.setIfInBounds j true).getD x false = true) (hx : j ≠ x) : listed.getD x false = true := by
  simp only [Array.getD_eq_getD_getElem?] at h ⊢
  rwa [Array.getElem?_setIfInBounds_ne hx] at h
theorem Closed.more {listed : Array Bool} (h : Closed md ops listed) {j : Nat} (hj : j ∈ Region.ready md ops listed) : Closed md ops (listed.setIfInBounds j true) := by
  intro k ok hk hd e he hb
  by_cases hkj : j = k
  · subst hkj
    obtain ⟨_, o, ho, hall⟩ := mem_ready.1 hj
    rw [ho] at hk
    cases hk
    exact done_more j (hall e he hb)
  · exact done_more j (h k ok hk (done_less hd hkj) e he hb)
theorem Closed.start (n : Nat) : Closed md ops (Array.replicate n false) := by
  intro j oj _ hd
  simp only [Array.getD_eq_getD_getElem?, Array.getElem?_replicate] at hd
  split at hd <;> simp at hd

/-- What an operation waits for, and what that waits for. -/
def waits (md : Region.Mode) (ops : Array Oper) (j : Nat) : List Nat := match ops[j]? with
  | some o => (o.after.toList.filter (Region.binds md ·)).map (·.on)
  | none => []
def reachB (md : Region.Mode) (ops : Array Oper) : Nat → List Nat → List Nat
  | 0, l => l
  | k + 1, l => reachB md ops k (l ++ l.flatMap (waits md ops)).eraseDups
theorem reach_done {listed : Array Bool} (h : Closed md ops listed) : ∀ (k : Nat) (l : List Nat), (∀ j ∈ l, listed.getD j false = true) → ∀ j ∈ reachB md ops k l, listed.getD j false = true
  | 0, l, hl, j, hj => hl j hj
  | k + 1, l, hl, j, hj => by
    refine reach_done h k _ (fun x hx => ?_) j hj
    rw [List.mem_eraseDups, List.mem_append, List.mem_flatMap] at hx
    rcases hx with hx | ⟨y, hy, hx⟩
    · exact hl x hx
    · unfold waits at hx
      cases ho : ops[y]? with
      | none => simp [ho] at hx
      | some o =>
        simp only [ho, List.mem_map, List.mem_filter] at hx
        obtain ⟨e, ⟨he, hb⟩, rfl⟩ := hx
        exact h y o ho (hl y hy) e (by simpa using he) hb
/-- z waits for all the others, but for those that wait for z. -/
def lastB (md : Region.Mode) (ops : Array Oper) (z : Nat) : Bool := (List.range ops.size).all fun j => j == z || (reachB md ops 8 (waits md ops z)).contains j || (reachB md ops 8 (waits md ops j)).contains z
theorem reach_ready {listed : Array Bool} (h : Closed md ops listed) {x y : Nat} (hr : x ∈ Region.ready md ops listed) (hy : y ∈ Region.ready md ops listed) : (reachB md ops 8 (waits md ops x)).contains y ≠ true := by
  intro hc
  obtain ⟨_, o, ho, hall⟩ := mem_ready.1 hr
  obtain ⟨hi0, oi, hoi, _⟩ := mem_ready.1 hy
  have h3 := reach_done h 8 (waits md ops x) (fun j hj => by
    unfold waits at hj
    simp only [ho, List.mem_map, List.mem_filter] at hj
    obtain ⟨e, ⟨he, hb⟩, rfl⟩ := hj
    exact hall e (by simpa using he) hb) y (by simpa using hc)
  rcases Nat.lt_or_ge y listed.size with h' | h'
  · simp [h'] at h3 hi0; rw [hi0] at h3; cases h3
  · simp [Array.getElem?_eq_none h'] at h3
theorem last_alone {listed : Array Bool} (h : Closed md ops listed) (hz : lastB md ops z = true) (hr : z ∈ Region.ready md ops listed) {i : Nat} (hi : i ∈ Region.ready md ops listed) : i = z := by
  obtain ⟨_, oi, hoi, _⟩ := mem_ready.1 hi
  have h1 := List.all_eq_true.1 hz i (List.mem_range.2 (Array.getElem?_eq_some_iff.1 hoi).1)
  rcases Bool.or_eq_true_iff.1 h1 with h2 | h2
  · rcases Bool.or_eq_true_iff.1 h2 with h2 | h2
    · simpa using h2
    · exact absurd h2 (reach_ready h hr hi)
  · exact absurd h2 (reach_ready h hi hr)

/-- Whatever order is picked from here on, and each operation leaves a later world. -/
def wpAnyG (z : Nat) (bs : List Nat) (P : Program) (md : Region.Mode) (ops : Array Oper) (Q : Exit → Act → World → Prop) : Nat → Array Bool → Act → World → Prop
  | 0, listed, a, w => Region.ready md ops listed = [] ∧ Q .normal a w
  | fuel + 1, listed, a, w =>
    (Region.ready md ops listed = [] → Q .normal a w) ∧
    ∀ i ∈ Region.ready md ops listed, wpOp P ops Q i (fun a' w' => (i ≠ z → Later bs w w') ∧ wpAnyG z bs P md ops Q fuel (listed.setIfInBounds i true) a' w') a w

theorem wpAny_of_G : ∀ (fuel : Nat) (listed : Array Bool) (a : Act) (w : World), wpAnyG z bs P md ops Q fuel listed a w → wpAny P md ops Q fuel listed a w
  | 0, _, _, _, h => h
  | fuel + 1, _, _, _, h => ⟨h.1, fun i hi => wpOp_mono (fun a' w' h' => wpAny_of_G fuel _ a' w' h'.2) (h.2 i hi)⟩

theorem wpAnyG_first {i : Nat} {oi : Oper} {v : Value} {w0 : World} (hi : ops[i]? = some oi) (hsel : ∀ (j : Nat) (o : Oper) cs b, ops[j]? = some o → o.op ≠ .select cs b)
    (hQ : ∀ c a w, Q (.panic c) (a.put oi.dst v) w → Q (.panic c) a w) (hz : lastB md ops z = true) :
    ∀ (fuel : Nat) (listed : Array Bool) (a : Act) (w : World),
      (∀ j oj, ops[j]? = some oj → j ≠ i → listed.getD j true = false → (∀ e ∈ oj.after, Region.binds md e = true → e.on ≠ i) → oi.apart ops oj = true) →
      Closed md ops listed → i ∈ Region.ready md ops listed → YieldsIf P ops (Later bs w0) oi v a → Later bs w0 w →
      wpAnyG z bs P md ops Q fuel (listed.setIfInBounds i true) (a.put oi.dst v) w → wpAnyG z bs P md ops Q (fuel + 1) listed a w := by
  intro fuel
  induction fuel with
  | zero =>
    intro listed a w _ hcl hr hy hS H
    refine ⟨fun h => (by rw [h] at hr; cases hr), fun j hj => ?_⟩
    by_cases hji : j = i
    · subst hji; exact hy.wpOp hi hS ⟨fun _ => Later.refl bs w, H⟩
    · have := ready_mono hj hji
      rw [H.1] at this
      cases this
  | succ fuel ih =>
    intro listed a w hfree hcl hr hy hS H
    refine ⟨fun h => (by rw [h] at hr; cases hr), fun j hj => ?_⟩
    by_cases hji : j = i
    · subst hji; exact hy.wpOp hi hS ⟨fun _ => Later.refl bs w, H⟩
    · have h1 := H.2 j (ready_mono hj hji)
      obtain ⟨hjun, oj, hoj, hall⟩ := mem_ready.1 hj
      have hnot : ∀ e ∈ oj.after, Region.binds md e = true → e.on ≠ i := fun e he hb heq => by
        have h1 := hall e he hb
        have h0 := (mem_ready.1 hr).1
        rw [heq] at h1
        rcases Nat.lt_or_ge i listed.size with h' | h'
        · simp [h'] at h0 h1; rw [h0] at h1; cases h1
        · simp [Array.getElem?_eq_none h'] at h1
      have h2 := wpOp_putIf hoj (hfree j oj hoj hji hjun hnot) (fun cs b => hsel i oi cs b hi) (fun cs b => hsel j oj cs b hoj) hQ hy h1
      have hfree' : ∀ k ok, ops[k]? = some ok → k ≠ i → (listed.setIfInBounds j true).getD k true = false →
          (∀ e ∈ ok.after, Region.binds md e = true → e.on ≠ i) → oi.apart ops ok = true := fun k ok hk hki hun hno => by
        refine hfree k ok hk hki ?_ hno
        by_cases hjk : j = k
        · subst hjk; exact hjun
        · rw [getD_set_ne true hjk] at hun; exact hun
      have hjz : j ≠ z := fun e => hji ((last_alone hcl hz (e ▸ hj) hr).trans e.symm).symm
      refine wpOp_mono (fun a' w' h3 => ⟨h3.2.1, ih (listed.setIfInBounds j true) a' w' hfree' (hcl.more hj) (ready_mono hr (Ne.symm hji)) h3.1 (hS.trans (h3.2.1 hjz)) ?_⟩) h2
      rw [Array.setIfInBounds_comm _ _ hji]
      exact h3.2.2

/-- What may be taken as it comes: no call of a Go function, no store. -/
def lightOp (o : Oper) : Bool := match o.op with
  | .call c => match c.callee with
    | .builtin .len | .builtin .cap | .builtin .min | .builtin .max => true
    | _ => false
  | .go _ | .defer _ | .send .. | .recv .. | .select .. | .store .. | .ready _ | .mapUpdate .. | .insert .. | .entryStore .. => false
  | _ => true

def Result.isVal : Result Next → Prop
  | .ok (.value _) _ => True
  | .ok _ _ => False
  | .halt _ _ => True
theorem andThen_isVal (r : Result Value) : Result.isVal (r.andThen fun a w' => Result.ok (Next.value a) w') := by
  cases r <;> simp [Result.andThen, Result.isVal]
theorem value_isVal (s : Sem Value) (w : World) : Result.isVal (((do pure (Next.value (← s))) : Sem Next).run P w) := by
  simp only [Sem.run_bind]
  cases s.run P w <;> simp [Result.andThen, Result.isVal]

theorem light_isVal {ρ : Operand → Value} {o : Oper} (h : lightOp o = true) (w : World) : Result.isVal ((execOp ρ o).run P w) := by
  unfold lightOp at h
  unfold execOp
  split <;> rename_i heq <;> simp only [heq] at h <;> try (first | exact value_isVal _ _ | (simp [Result.isVal]; done) | (cases h; done))
  · simp only [Sem.run_bind]
    cases (asBool (ρ _)).run P w <;> simp [Result.andThen, Result.isVal]
  · dsimp only
    split
    · simp [runtimePanic, goPanic, Result.isVal]
    · simp [runtimePanic, goPanic, Result.isVal]
    · simp [runtimePanic, goPanic, Result.isVal]
    · split
      · simp [runtimePanic, goPanic, Result.isVal]
      · simp only [Sem.run_bind]
        cases (program).run P w with
        | halt _ _ => simp [Result.andThen, Result.isVal]
        | ok p w1 =>
          simp only [Result.andThen]
          cases (nilAhead _ _ _ _).run P w1 with
          | halt _ _ => simp [Result.andThen, Result.isVal]
          | ok b w2 =>
            simp only [Result.andThen]
            split <;> simp [unsupported, Result.andThen, Result.isVal]
      · simp [Result.isVal]
    · simp [Result.isVal]
  · split at h
    case h_5 => cases h
    all_goals
      rename_i hc
      dsimp only
      simp only [resolve, hc, Sem.run_bind, Sem.run_pure, Result.andThen_ok, invoke, builtin]
      exact andThen_isVal _

/-- A light operation that is quiet in every later world. -/
theorem yieldsIf_of_qOp {i : Nat} {o : Oper} {a : Act} {w : World} {K : Act → Prop} (hi : ops[i]? = some o) (hl : lightOp o = true) (h : qOp P ops (Later bs w) i K a) :
    ∃ v, YieldsIf P ops (Later bs w) o v a ∧ K (a.put o.dst v) := by
  obtain ⟨v, hy, hk⟩ := yieldsIn_of_qOp hi h
  refine ⟨v, ?_, hk⟩
  rcases hy with ⟨hw, hv⟩ | h
  · refine .inl ⟨hw, fun w' hw' => ?_⟩
    have h1 := hv w' hw'
    have h2 := light_isVal (P := P) (ρ := a.eval) hl w'
    unfold Oper.quietAt at h1
    generalize (execOp a.eval o).run P w' = r at *
    cases r with
    | ok n w'' => cases n <;> simp only [Oper.quietUpon, Result.isVal] at h1 h2 <;> first | (obtain ⟨rfl, rfl⟩ := h1; rfl) | exact h2.elim
    | halt x w'' => simp only [Oper.quietUpon] at h1
  · exact .inr h

/-- The order is one that the region allows: the light ones may come up and are apart; each other one comes up alone. -/
def segB (md : Region.Mode) (ops : Array Oper) : List Nat → Array Bool → Bool × Array Bool
  | [], listed => (true, listed)
  | i :: r, listed =>
    let x := segB md ops r (listed.setIfInBounds i true)
    ((Region.ready md ops listed).contains i && Region.free md ops listed i && (match ops[i]? with | some o => lightOp o | none => false) && x.1, x.2)
def segsB (md : Region.Mode) (ops : Array Oper) (last : List Nat) : List (List Nat × Nat) → Array Bool → Bool
  | [], listed => let x := segB md ops last listed; x.1 && (Region.ready md ops x.2).isEmpty
  | (fl, i) :: r, listed => let x := segB md ops fl listed; x.1 && (Region.ready md ops x.2 == [i]) && segsB md ops last r (x.2.setIfInBounds i true)
def segsLen (last : List Nat) : List (List Nat × Nat) → Nat
  | [] => last.length
  | (fl, _) :: r => fl.length + (segsLen last r + 1)

/-- The operations of these numbers. -/
def pick (l : List Oper) : List Nat → List Oper
  | [] => []
  | i :: r => match l[i]? with
    | some o => o :: pick l r
    | none => pick l r

/-- The walk: light ones in every later world, then one that may change the world, and so on. -/
def wpSegs (z : Nat) (bs : List Nat) (P : Program) (l : List Oper) (Q : Exit → Act → World → Prop) (last : List Nat) : List (List Nat × Nat) → Act → World → Prop
  | [], a, w => wpQuiet P l.toArray (fun w' => ∃ p : Past bs w, w' = p.val) (fun a' => Q .normal a' w) (pick l last) a
  | (fl, i) :: r, a, w => wpQuiet P l.toArray (fun w' => ∃ p : Past bs w, w' = p.val)
      (fun a' => wpOp P l.toArray Q i (fun a'' w'' => (i ≠ z → But bs w w'') ∧ wpSegs z bs P l Q last r a'' w'') a' w) (pick l fl) a

theorem seg_sound {l : List Oper} {w : World} (hs : Region.noSelect l.toArray = true) (hQ : ∀ c (a : Act) d v w, Q (.panic c) (a.put d v) w → Q (.panic c) a w) {K : Act → Prop} {fuel : Nat} (hz : lastB md l.toArray z = true) :
    ∀ (fl : List Nat) (listed : Array Bool) (a : Act), Closed md l.toArray listed → (segB md l.toArray fl listed).1 = true → wpQuiet P l.toArray (fun w' => ∃ p : Past bs w, w' = p.val) K (pick l fl) a →
      (∀ a', Closed md l.toArray (segB md l.toArray fl listed).2 → K a' → wpAnyG z bs P md l.toArray Q fuel (segB md l.toArray fl listed).2 a' w) → wpAnyG z bs P md l.toArray Q (fl.length + fuel) listed a w
  | [], listed, a, hcl, _, h, hk => by
    have := hk a hcl h
    simpa [segB] using this
  | i :: fl, listed, a, hcl, hB, h, hk => by
    simp only [segB, Bool.and_eq_true] at hB
    obtain ⟨⟨⟨hr, hf⟩, hl⟩, hB'⟩ := hB
    cases ho : l[i]? with
    | none => simp [ho] at hl
    | some o =>
      have ho' : l.toArray[i]? = some o := by simpa using ho
      simp only [ho'] at hl
      simp only [pick, ho] at h
      have hq : qOp P l.toArray (Later bs w) i (wpQuiet P l.toArray (Later bs w) K (pick l fl)) a := by unfold qOp; simp only [ho']; exact h
      obtain ⟨v, hy, hK⟩ := yieldsIf_of_qOp ho' hl hq
      have hrec := seg_sound hs hQ (K := K) (fuel := fuel) hz fl (listed.setIfInBounds i true) _ (hcl.more (by simpa using hr)) hB' hK hk
      have := wpAnyG_first ho' (Region.noSelect_spec hs) (fun c a w => hQ c a _ _ w) hz (fl.length + fuel) listed a w (Region.free_spec ho' hf) hcl (by simpa using hr) hy (Later.refl bs w) hrec
      rw [List.length_cons, show fl.length + 1 + fuel = fl.length + fuel + 1 from by omega]
      exact this

theorem segs_sound {l : List Oper} (hs : Region.noSelect l.toArray = true) (hQ : ∀ c (a : Act) d v w, Q (.panic c) (a.put d v) w → Q (.panic c) a w) (hz : lastB md l.toArray z = true) (last : List Nat) :
    ∀ (sg : List (List Nat × Nat)) (listed : Array Bool) (a : Act) (w : World), Closed md l.toArray listed → segsB md l.toArray last sg listed = true → wpSegs z bs P l Q last sg a w → wpAnyG z bs P md l.toArray Q (segsLen last sg) listed a w
  | [], listed, a, w, hcl, hB, h => by
    simp only [segsB, Bool.and_eq_true] at hB
    have := seg_sound (fuel := 0) hs hQ hz last listed a hcl hB.1 h (fun a' _ ha' => ⟨by simpa using hB.2, ha'⟩)
    simpa [segsLen] using this
  | (fl, i) :: r, listed, a, w, hcl, hB, h => by
    simp only [segsB, Bool.and_eq_true] at hB
    obtain ⟨⟨h1, h2⟩, h3⟩ := hB
    refine seg_sound (fuel := segsLen last r + 1) hs hQ hz fl listed a hcl h1 h (fun a' hcl' ha' => ?_)
    have h2' : Region.ready md l.toArray (segB md l.toArray fl listed).2 = [i] := by simpa using h2
    refine ⟨fun h0 => (by rw [h2'] at h0; cases h0), fun j hj => ?_⟩
    rw [h2'] at hj
    obtain rfl : j = i := by simpa using hj
    exact wpOp_mono (fun a'' w'' ⟨hb, hk⟩ => ⟨fun hne => later_iff.2 (hb hne), segs_sound hs hQ hz last r _ a'' w'' (hcl'.more (by rw [h2']; exact List.mem_singleton.2 rfl)) h3 hk⟩) ha'

/-- A region that draws its order, by segments. -/
theorem wp_region_segs {id : Nat} {l : List Oper} {a : Act} {w : World} (z : Nat) (bs : List Nat) (sg : List (List Nat × Nat)) (last : List Nat) (hm : P.follows .mixedOrders = true) (hs : Region.noSelect l.toArray = true)
    (hB : segsB .any l.toArray last sg (Array.replicate l.length false) = true) (hL : segsLen last sg = l.length) (hz : lastB .any l.toArray z = true)
    (hQ : ∀ c (a : Act) d v w, Q (.panic c) (a.put d v) w → Q (.panic c) a w) (h : wpSegs z bs P l Q last sg a w.drew) : (Code.region id l.toArray true).wp P Q a w := by
  refine wp_region_any hm (wpAny_of_G (z := z) (bs := bs) _ _ _ _ ?_)
  have := segs_sound (z := z) (bs := bs) hs hQ hz last sg (Array.replicate l.length false) a w.drew (Closed.start _) hB h
  rw [hL] at this
  simpa using this

/-- The next segment; the last one. -/
theorem wpSegs_more {l : List Oper} {last fl : List Nat} {i : Nat} {r : List (List Nat × Nat)} {a : Act} {w : World} (h : wpQuiet P l.toArray (fun w' => ∃ p : Past bs w, w' = p.val)
      (fun a' => wpOp P l.toArray Q i (fun a'' w'' => (i ≠ z → But bs w w'') ∧ wpSegs z bs P l Q last r a'' w'') a' w) (pick l fl) a) : wpSegs z bs P l Q last ((fl, i) :: r) a w := h
theorem wpSegs_last {l : List Oper} {last : List Nat} {a : Act} {w : World} (h : wpQuiet P l.toArray (fun w' => ∃ p : Past bs w, w' = p.val) (fun a' => Q .normal a' w) (pick l last) a) : wpSegs z bs P l Q last [] a w := h

/-- One that may change the world, where it is wanted. -/
theorem wpOp_heavy {l : List Oper} {i : Nat} {o : Oper} {a : Act} {w : World} {R : Act → World → Prop} (hi : l[i]? = some o) (hw : Region.wanted o (yielded l.toArray a.tmps) = true)
    (h : ∀ K : Act → World → Prop, (∀ a' w', (i ≠ z → But bs w w') → R a' w' → K a' w') → o.wp P a w K Q) : wpOp P l.toArray Q i (fun a'' w'' => (i ≠ z → But bs w w'') ∧ R a'' w'') a w := by
  unfold wpOp
  have hi' : l.toArray[i]? = some o := by simpa using hi
  simp only [hi', hw, if_true]
  exact .inl (h _ (fun a' w' h1 h2 => ⟨h1, h2⟩))

/-- One that is not wanted. -/
theorem wpOp_idle {l : List Oper} {i : Nat} {o : Oper} {a : Act} {w : World} {R : Act → World → Prop} (hi : l[i]? = some o) (hw : Region.wanted o (yielded l.toArray a.tmps) = false)
    (h : R (a.put o.dst undef) w) : wpOp P l.toArray Q i (fun a'' w'' => (i ≠ z → But bs w w'') ∧ R a'' w'') a w := by
  unfold wpOp
  have hi' : l.toArray[i]? = some o := by simpa using hi
  simp only [hi', hw]
  exact ⟨fun _ => But.refl _ _, h⟩

end
end Go.Proofs.Ytpchihgdcpbjiaa.Dc
