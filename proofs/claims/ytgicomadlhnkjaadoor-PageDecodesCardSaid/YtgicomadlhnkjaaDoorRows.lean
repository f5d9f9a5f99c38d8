/-
  NARROWER THAN 'FOR EVERY INPUT', by the rows' own cells (each row's printed sentence says how): PageRights: laid · PageDecodes: laid · PageBack: laid · PageOne: laid · PageTurned: laid · PageKinds: laid.
  DERIVED. THE GIVEN ROWS OF THIS SEAT. 6 by the template 'for every input the law returns true; each argument reads behind the call as it read before'; 0 by the template 'total and deterministic' (their statements: YtgicomadlhnkjaaDoorTotals.lean).
  GIVEN WITH THE SEED: the statements are not yours to turn. If you find one false, say at which input.
  Laid BY PROGRAM, IN A SANDBOX (cutbox-rows.mjs): the forced cells as the released guide's own fill.sh prints them over the translation 8f668c8d794c8afa… (all of the seat's roots in one cut). By AI agents, Wed Nov 11 2026. No macro, syntax, notation, axiom, sorry.
-/
import Derived.Test.YtgicomadlhnkjaaDoorChecked
import GoSem.Claim
import GoSem.ClaimJoined
import GoSem.ClaimMapViews
import Derived.JoinedTies
import Derived.KernelRfl
namespace Go.Proofs.YtgicomadlhnkjaaDoor
/- THE CELL 'sum', in the pinned program and in every row, IS THE sha256 OF THE DUMP (.gsa) THAT YtgicomadlhnkjaaDoorProg.lean LOADS. Nothing in Lean hashes anything: it is a label: what it is worth is what the hold of that sum in a sandbox is worth. -/
noncomputable def Tryd.pinned : Pinned := { name := "ytgicomadlhnkjaadoor", sum := "8f668c8d794c8afa450fd405bdbe79215ff84a388fd7619eea27e8d8bf3df0f6", checked := Tryd.checked }
namespace Rows
def none {H : Type} : Left H := { results := [], args := [] }

/- WHAT THE LISTED PACKAGE-LEVEL VARIABLES READ AS WHEN THE CALL BEGINS. Each datum BY PROGRAM (the guide's laid-datum.mjs) off the statement by which the dump's own 'gosem.cut.vars' lays the variable. In a bare row this is a premise. The card (YtgicomadlhnkjaaDoorCards.lean) ties it to the program's text. -/
def laid_sapwood_sum_half {H : Type} : DataW H := .agg [.lit (.int .u32 0), .lit (.int .u32 79764919), .lit (.int .u32 159529838), .lit (.int .u32 222504665), .lit (.int .u32 319059676), .lit (.int .u32 398814059), .lit (.int .u32 445009330), .lit (.int .u32 507990021), .lit (.int .u32 638119352), .lit (.int .u32 583659535), .lit (.int .u32 797628118), .lit (.int .u32 726387553), .lit (.int .u32 890018660), .lit (.int .u32 835552979), .lit (.int .u32 1015980042), .lit (.int .u32 944750013)]

/-- 'sapwoodlaw04.PageRights': WHATEVER THE INPUT: true; the input reads as it did. -/
def pageRightsSpec : ChangeSpec := { name := "pageRights", fn := fun _ => fun
  | [d] => { results := [.lit (.bool true)], args := [d] }
  | _ => none }
def pageRightsRow : OpenClaim := { program := "ytgicomadlhnkjaadoor", sum := "8f668c8d794c8afa450fd405bdbe79215ff84a388fd7619eea27e8d8bf3df0f6", func := "sapwood/sapwoodlaw04.PageRights", spec := "pageRights", named := ["sapwood/sum.half"], apart := false, laid := [("sapwood/sum.half", laid_sapwood_sum_half)] }
def PageRightsSaid : Prop := pageRightsRow.holds Tryd.pinned (OpenSpec.ofChange pageRightsSpec)

/-- ITS FALSE NEIGHBOUR: 'it returns false'. Refute it at one input. -/
def pageRightsWrong : ChangeSpec := { name := "pageRights", fn := fun _ => fun
  | [d] => { results := [.lit (.bool false)], args := [d] }
  | _ => none }
def PageRightsWrongFalsely : Prop := pageRightsRow.holds Tryd.pinned (OpenSpec.ofChange pageRightsWrong)

/-- 'sapwoodlaw04.PageDecodes': WHATEVER THE INPUT: true; the input reads as it did. -/
def pageDecodesSpec : ChangeSpec := { name := "pageDecodes", fn := fun _ => fun
  | [d] => { results := [.lit (.bool true)], args := [d] }
  | _ => none }
def pageDecodesRow : OpenClaim := { program := "ytgicomadlhnkjaadoor", sum := "8f668c8d794c8afa450fd405bdbe79215ff84a388fd7619eea27e8d8bf3df0f6", func := "sapwood/sapwoodlaw04.PageDecodes", spec := "pageDecodes", named := ["sapwood/sum.half"], apart := false, laid := [("sapwood/sum.half", laid_sapwood_sum_half)] }
def PageDecodesSaid : Prop := pageDecodesRow.holds Tryd.pinned (OpenSpec.ofChange pageDecodesSpec)

/-- ITS FALSE NEIGHBOUR: 'it returns false'. Refute it at one input. -/
def pageDecodesWrong : ChangeSpec := { name := "pageDecodes", fn := fun _ => fun
  | [d] => { results := [.lit (.bool false)], args := [d] }
  | _ => none }
def PageDecodesWrongFalsely : Prop := pageDecodesRow.holds Tryd.pinned (OpenSpec.ofChange pageDecodesWrong)

/-- 'sapwoodlaw04.PageBack': WHATEVER THE INPUT: true; the input reads as it did. -/
def pageBackSpec : ChangeSpec := { name := "pageBack", fn := fun _ => fun
  | [d1, d2] => { results := [.lit (.bool true)], args := [d1, d2] }
  | _ => none }
def pageBackRow : OpenClaim := { program := "ytgicomadlhnkjaadoor", sum := "8f668c8d794c8afa450fd405bdbe79215ff84a388fd7619eea27e8d8bf3df0f6", func := "sapwood/sapwoodlaw04.PageBack", spec := "pageBack", named := ["sapwood/sum.half"], apart := false, laid := [("sapwood/sum.half", laid_sapwood_sum_half)] }
def PageBackSaid : Prop := pageBackRow.holds Tryd.pinned (OpenSpec.ofChange pageBackSpec)

/-- ITS FALSE NEIGHBOUR: 'it returns false'. Refute it at one input. -/
def pageBackWrong : ChangeSpec := { name := "pageBack", fn := fun _ => fun
  | [d1, d2] => { results := [.lit (.bool false)], args := [d1, d2] }
  | _ => none }
def PageBackWrongFalsely : Prop := pageBackRow.holds Tryd.pinned (OpenSpec.ofChange pageBackWrong)

/-- 'sapwoodlaw04.PageOne': WHATEVER THE INPUT: true; the input reads as it did. -/
def pageOneSpec : ChangeSpec := { name := "pageOne", fn := fun _ => fun
  | [d] => { results := [.lit (.bool true)], args := [d] }
  | _ => none }
def pageOneRow : OpenClaim := { program := "ytgicomadlhnkjaadoor", sum := "8f668c8d794c8afa450fd405bdbe79215ff84a388fd7619eea27e8d8bf3df0f6", func := "sapwood/sapwoodlaw04.PageOne", spec := "pageOne", named := ["sapwood/sum.half"], apart := false, laid := [("sapwood/sum.half", laid_sapwood_sum_half)] }
def PageOneSaid : Prop := pageOneRow.holds Tryd.pinned (OpenSpec.ofChange pageOneSpec)

/-- ITS FALSE NEIGHBOUR: 'it returns false'. Refute it at one input. -/
def pageOneWrong : ChangeSpec := { name := "pageOne", fn := fun _ => fun
  | [d] => { results := [.lit (.bool false)], args := [d] }
  | _ => none }
def PageOneWrongFalsely : Prop := pageOneRow.holds Tryd.pinned (OpenSpec.ofChange pageOneWrong)

/-- 'sapwoodlaw04.PageTurned': WHATEVER THE INPUT: true; the input reads as it did. -/
def pageTurnedSpec : ChangeSpec := { name := "pageTurned", fn := fun _ => fun
  | [d1, d2, d3] => { results := [.lit (.bool true)], args := [d1, d2, d3] }
  | _ => none }
def pageTurnedRow : OpenClaim := { program := "ytgicomadlhnkjaadoor", sum := "8f668c8d794c8afa450fd405bdbe79215ff84a388fd7619eea27e8d8bf3df0f6", func := "sapwood/sapwoodlaw04.PageTurned", spec := "pageTurned", named := ["sapwood/sum.half"], apart := false, laid := [("sapwood/sum.half", laid_sapwood_sum_half)] }
def PageTurnedSaid : Prop := pageTurnedRow.holds Tryd.pinned (OpenSpec.ofChange pageTurnedSpec)

/-- ITS FALSE NEIGHBOUR: 'it returns false'. Refute it at one input. -/
def pageTurnedWrong : ChangeSpec := { name := "pageTurned", fn := fun _ => fun
  | [d1, d2, d3] => { results := [.lit (.bool false)], args := [d1, d2, d3] }
  | _ => none }
def PageTurnedWrongFalsely : Prop := pageTurnedRow.holds Tryd.pinned (OpenSpec.ofChange pageTurnedWrong)

/-- 'sapwoodlaw04.PageKinds': WHATEVER THE INPUT: true; the input reads as it did. -/
def pageKindsSpec : ChangeSpec := { name := "pageKinds", fn := fun _ => fun
  | [d1, d2] => { results := [.lit (.bool true)], args := [d1, d2] }
  | _ => none }
def pageKindsRow : OpenClaim := { program := "ytgicomadlhnkjaadoor", sum := "8f668c8d794c8afa450fd405bdbe79215ff84a388fd7619eea27e8d8bf3df0f6", func := "sapwood/sapwoodlaw04.PageKinds", spec := "pageKinds", named := ["sapwood/sum.half"], apart := false, laid := [("sapwood/sum.half", laid_sapwood_sum_half)] }
def PageKindsSaid : Prop := pageKindsRow.holds Tryd.pinned (OpenSpec.ofChange pageKindsSpec)

/-- ITS FALSE NEIGHBOUR: 'it returns false'. Refute it at one input. -/
def pageKindsWrong : ChangeSpec := { name := "pageKinds", fn := fun _ => fun
  | [d1, d2] => { results := [.lit (.bool false)], args := [d1, d2] }
  | _ => none }
def PageKindsWrongFalsely : Prop := pageKindsRow.holds Tryd.pinned (OpenSpec.ofChange pageKindsWrong)

/- THE SECOND FORM. 'bulk': how many values and letters a reading holds, each counted each time it is reached (what is shared counts as often as it is met; a slice's spare places count too). A statement '..UptoSaid' is the law's where the arguments, and the package variables that the reading takes, are together of bulk at most 1048576: NARROWER than '..Said'. Prove '..Said' where nothing that the law and all that it calls make is longer than what came in: it says more and counts as full. Else prove '..UptoSaid'. A law counts once. -/
mutual
def uptoBulk {H : Type} : DataW H → Nat
  | .lit (.string bytes) => bytes.length + 1
  | .lit _ => 1
  | .nil => 1
  | .ptr d => uptoBulk d + 1
  | .slice elems spare => uptoBulkAll elems + uptoBulkAll spare + 1
  | .agg parts => uptoBulkAll parts + 1
  | .iface _ d => uptoBulk d + 1
  | .map entries => uptoBulkEntries entries + 1
  | .held _ => 1
def uptoBulkAll {H : Type} : List (DataW H) → Nat
  | [] => 0
  | d :: r => uptoBulk d + uptoBulkAll r
def uptoBulkEntries {H : Type} : List (Lit × DataW H) → Nat
  | [] => 0
  | x :: r => uptoBulkEntry x + uptoBulkEntries r
def uptoBulkEntry {H : Type} : Lit × DataW H → Nat
  | (.string bytes, d) => bytes.length + uptoBulk d + 1
  | (_, d) => uptoBulk d + 1
 end
def uptoSmall : (H : Type) → List (DataW H) → Bool := fun _ ds => decide (uptoBulkAll ds ≤ 1048576)
def OpenSpec.upto (s : _root_.Go.ChangeSpec) : _root_.Go.OpenSpec := { _root_.Go.OpenSpec.ofChange s with cond := some uptoSmall }

/-- 'sapwoodlaw04.PageRights', WHERE WHAT IT READS IS OF BULK AT MOST 1048576: true; the input reads as it did. -/
def pageRightsUptoRow : OpenClaim := { program := "ytgicomadlhnkjaadoor", sum := "8f668c8d794c8afa450fd405bdbe79215ff84a388fd7619eea27e8d8bf3df0f6", func := "sapwood/sapwoodlaw04.PageRights", spec := "pageRights", named := ["sapwood/sum.half"], apart := false, laid := [("sapwood/sum.half", laid_sapwood_sum_half)], narrowed := true }
def PageRightsUptoSaid : Prop := pageRightsUptoRow.holds Tryd.pinned (OpenSpec.upto pageRightsSpec)

/-- 'sapwoodlaw04.PageDecodes', WHERE WHAT IT READS IS OF BULK AT MOST 1048576: true; the input reads as it did. -/
def pageDecodesUptoRow : OpenClaim := { program := "ytgicomadlhnkjaadoor", sum := "8f668c8d794c8afa450fd405bdbe79215ff84a388fd7619eea27e8d8bf3df0f6", func := "sapwood/sapwoodlaw04.PageDecodes", spec := "pageDecodes", named := ["sapwood/sum.half"], apart := false, laid := [("sapwood/sum.half", laid_sapwood_sum_half)], narrowed := true }
def PageDecodesUptoSaid : Prop := pageDecodesUptoRow.holds Tryd.pinned (OpenSpec.upto pageDecodesSpec)

/-- 'sapwoodlaw04.PageBack', WHERE WHAT IT READS IS OF BULK AT MOST 1048576: true; the input reads as it did. -/
def pageBackUptoRow : OpenClaim := { program := "ytgicomadlhnkjaadoor", sum := "8f668c8d794c8afa450fd405bdbe79215ff84a388fd7619eea27e8d8bf3df0f6", func := "sapwood/sapwoodlaw04.PageBack", spec := "pageBack", named := ["sapwood/sum.half"], apart := false, laid := [("sapwood/sum.half", laid_sapwood_sum_half)], narrowed := true }
def PageBackUptoSaid : Prop := pageBackUptoRow.holds Tryd.pinned (OpenSpec.upto pageBackSpec)

/-- 'sapwoodlaw04.PageOne', WHERE WHAT IT READS IS OF BULK AT MOST 1048576: true; the input reads as it did. -/
def pageOneUptoRow : OpenClaim := { program := "ytgicomadlhnkjaadoor", sum := "8f668c8d794c8afa450fd405bdbe79215ff84a388fd7619eea27e8d8bf3df0f6", func := "sapwood/sapwoodlaw04.PageOne", spec := "pageOne", named := ["sapwood/sum.half"], apart := false, laid := [("sapwood/sum.half", laid_sapwood_sum_half)], narrowed := true }
def PageOneUptoSaid : Prop := pageOneUptoRow.holds Tryd.pinned (OpenSpec.upto pageOneSpec)

/-- 'sapwoodlaw04.PageTurned', WHERE WHAT IT READS IS OF BULK AT MOST 1048576: true; the input reads as it did. -/
def pageTurnedUptoRow : OpenClaim := { program := "ytgicomadlhnkjaadoor", sum := "8f668c8d794c8afa450fd405bdbe79215ff84a388fd7619eea27e8d8bf3df0f6", func := "sapwood/sapwoodlaw04.PageTurned", spec := "pageTurned", named := ["sapwood/sum.half"], apart := false, laid := [("sapwood/sum.half", laid_sapwood_sum_half)], narrowed := true }
def PageTurnedUptoSaid : Prop := pageTurnedUptoRow.holds Tryd.pinned (OpenSpec.upto pageTurnedSpec)

/-- 'sapwoodlaw04.PageKinds', WHERE WHAT IT READS IS OF BULK AT MOST 1048576: true; the input reads as it did. -/
def pageKindsUptoRow : OpenClaim := { program := "ytgicomadlhnkjaadoor", sum := "8f668c8d794c8afa450fd405bdbe79215ff84a388fd7619eea27e8d8bf3df0f6", func := "sapwood/sapwoodlaw04.PageKinds", spec := "pageKinds", named := ["sapwood/sum.half"], apart := false, laid := [("sapwood/sum.half", laid_sapwood_sum_half)], narrowed := true }
def PageKindsUptoSaid : Prop := pageKindsUptoRow.holds Tryd.pinned (OpenSpec.upto pageKindsSpec)

end Rows
end Go.Proofs.YtgicomadlhnkjaaDoor
