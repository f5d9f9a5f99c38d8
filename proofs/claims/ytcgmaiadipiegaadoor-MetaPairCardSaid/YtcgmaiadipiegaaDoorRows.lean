/-
  NARROWER THAN 'FOR EVERY INPUT', by the rows' own cells (each row's printed sentence says how): MetaRights: laid · MetaDecodes: laid · MetaBack: laid · MetaTorn: laid · MetaAgain: laid · MetaTurned: laid · MetaNext: laid · MetaPair: laid.
  DERIVED. THE GIVEN ROWS OF THIS SEAT. 8 by the template 'for every input the law returns true; each argument reads behind the call as it read before'; 0 by the template 'total and deterministic' (their statements: YtcgmaiadipiegaaDoorTotals.lean).
  GIVEN WITH THE SEED: the statements are not yours to turn. If you find one false, say at which input.
  Laid BY PROGRAM, IN A SANDBOX (cutbox-rows.mjs): the forced cells as the released guide's own fill.sh prints them over the translation 687cf1f400bf4bb9… (all of the seat's roots in one cut). By AI agents, Wed Nov 11 2026. No macro, syntax, notation, axiom, sorry.
-/
import Derived.Test.YtcgmaiadipiegaaDoorChecked
import GoSem.Claim
import GoSem.ClaimJoined
import GoSem.ClaimMapViews
import Derived.JoinedTies
import Derived.KernelRfl
namespace Go.Proofs.YtcgmaiadipiegaaDoor
/- THE CELL 'sum', in the pinned program and in every row, IS THE sha256 OF THE DUMP (.gsa) THAT YtcgmaiadipiegaaDoorProg.lean LOADS. Nothing in Lean hashes anything: it is a label: what it is worth is what the hold of that sum in a sandbox is worth. -/
noncomputable def Tryd.pinned : Pinned := { name := "ytcgmaiadipiegaadoor", sum := "687cf1f400bf4bb9c9e85f66e68f550e5830b49d60250a86ae897d45c0877923", checked := Tryd.checked }
namespace Rows
def none {H : Type} : Left H := { results := [], args := [] }

/- WHAT THE LISTED PACKAGE-LEVEL VARIABLES READ AS WHEN THE CALL BEGINS. Each datum BY PROGRAM (the guide's laid-datum.mjs) off the statement by which the dump's own 'gosem.cut.vars' lays the variable. In a bare row this is a premise. The card (YtcgmaiadipiegaaDoorCards.lean) ties it to the program's text. -/
def laid_sapwood_sum_half {H : Type} : DataW H := .agg [.lit (.int .u32 0), .lit (.int .u32 79764919), .lit (.int .u32 159529838), .lit (.int .u32 222504665), .lit (.int .u32 319059676), .lit (.int .u32 398814059), .lit (.int .u32 445009330), .lit (.int .u32 507990021), .lit (.int .u32 638119352), .lit (.int .u32 583659535), .lit (.int .u32 797628118), .lit (.int .u32 726387553), .lit (.int .u32 890018660), .lit (.int .u32 835552979), .lit (.int .u32 1015980042), .lit (.int .u32 944750013)]

/-- 'sapwoodlaw06.MetaRights': WHATEVER THE INPUT: true; the input reads as it did. -/
def metaRightsSpec : ChangeSpec := { name := "metaRights", fn := fun _ => fun
  | [d] => { results := [.lit (.bool true)], args := [d] }
  | _ => none }
def metaRightsRow : OpenClaim := { program := "ytcgmaiadipiegaadoor", sum := "687cf1f400bf4bb9c9e85f66e68f550e5830b49d60250a86ae897d45c0877923", func := "sapwood/sapwoodlaw06.MetaRights", spec := "metaRights", named := ["sapwood/sum.half"], apart := false, laid := [("sapwood/sum.half", laid_sapwood_sum_half)] }
def MetaRightsSaid : Prop := metaRightsRow.holds Tryd.pinned (OpenSpec.ofChange metaRightsSpec)

/-- ITS FALSE NEIGHBOUR: 'it returns false'. Refute it at one input. -/
def metaRightsWrong : ChangeSpec := { name := "metaRights", fn := fun _ => fun
  | [d] => { results := [.lit (.bool false)], args := [d] }
  | _ => none }
def MetaRightsWrongFalsely : Prop := metaRightsRow.holds Tryd.pinned (OpenSpec.ofChange metaRightsWrong)

/-- 'sapwoodlaw06.MetaDecodes': WHATEVER THE INPUT: true; the input reads as it did. -/
def metaDecodesSpec : ChangeSpec := { name := "metaDecodes", fn := fun _ => fun
  | [d1, d2] => { results := [.lit (.bool true)], args := [d1, d2] }
  | _ => none }
def metaDecodesRow : OpenClaim := { program := "ytcgmaiadipiegaadoor", sum := "687cf1f400bf4bb9c9e85f66e68f550e5830b49d60250a86ae897d45c0877923", func := "sapwood/sapwoodlaw06.MetaDecodes", spec := "metaDecodes", named := ["sapwood/sum.half"], apart := false, laid := [("sapwood/sum.half", laid_sapwood_sum_half)] }
def MetaDecodesSaid : Prop := metaDecodesRow.holds Tryd.pinned (OpenSpec.ofChange metaDecodesSpec)

/-- ITS FALSE NEIGHBOUR: 'it returns false'. Refute it at one input. -/
def metaDecodesWrong : ChangeSpec := { name := "metaDecodes", fn := fun _ => fun
  | [d1, d2] => { results := [.lit (.bool false)], args := [d1, d2] }
  | _ => none }
def MetaDecodesWrongFalsely : Prop := metaDecodesRow.holds Tryd.pinned (OpenSpec.ofChange metaDecodesWrong)

/-- 'sapwoodlaw06.MetaBack': WHATEVER THE INPUT: true; the input reads as it did. -/
def metaBackSpec : ChangeSpec := { name := "metaBack", fn := fun _ => fun
  | [d1, d2] => { results := [.lit (.bool true)], args := [d1, d2] }
  | _ => none }
def metaBackRow : OpenClaim := { program := "ytcgmaiadipiegaadoor", sum := "687cf1f400bf4bb9c9e85f66e68f550e5830b49d60250a86ae897d45c0877923", func := "sapwood/sapwoodlaw06.MetaBack", spec := "metaBack", named := ["sapwood/sum.half"], apart := false, laid := [("sapwood/sum.half", laid_sapwood_sum_half)] }
def MetaBackSaid : Prop := metaBackRow.holds Tryd.pinned (OpenSpec.ofChange metaBackSpec)

/-- ITS FALSE NEIGHBOUR: 'it returns false'. Refute it at one input. -/
def metaBackWrong : ChangeSpec := { name := "metaBack", fn := fun _ => fun
  | [d1, d2] => { results := [.lit (.bool false)], args := [d1, d2] }
  | _ => none }
def MetaBackWrongFalsely : Prop := metaBackRow.holds Tryd.pinned (OpenSpec.ofChange metaBackWrong)

/-- 'sapwoodlaw06.MetaTorn': WHATEVER THE INPUT: true; the input reads as it did. -/
def metaTornSpec : ChangeSpec := { name := "metaTorn", fn := fun _ => fun
  | [d1, d2, d3] => { results := [.lit (.bool true)], args := [d1, d2, d3] }
  | _ => none }
def metaTornRow : OpenClaim := { program := "ytcgmaiadipiegaadoor", sum := "687cf1f400bf4bb9c9e85f66e68f550e5830b49d60250a86ae897d45c0877923", func := "sapwood/sapwoodlaw06.MetaTorn", spec := "metaTorn", named := ["sapwood/sum.half"], apart := false, laid := [("sapwood/sum.half", laid_sapwood_sum_half)] }
def MetaTornSaid : Prop := metaTornRow.holds Tryd.pinned (OpenSpec.ofChange metaTornSpec)

/-- ITS FALSE NEIGHBOUR: 'it returns false'. Refute it at one input. -/
def metaTornWrong : ChangeSpec := { name := "metaTorn", fn := fun _ => fun
  | [d1, d2, d3] => { results := [.lit (.bool false)], args := [d1, d2, d3] }
  | _ => none }
def MetaTornWrongFalsely : Prop := metaTornRow.holds Tryd.pinned (OpenSpec.ofChange metaTornWrong)

/-- 'sapwoodlaw06.MetaAgain': WHATEVER THE INPUT: true; the input reads as it did. -/
def metaAgainSpec : ChangeSpec := { name := "metaAgain", fn := fun _ => fun
  | [d1, d2, d3, d4, d5] => { results := [.lit (.bool true)], args := [d1, d2, d3, d4, d5] }
  | _ => none }
def metaAgainRow : OpenClaim := { program := "ytcgmaiadipiegaadoor", sum := "687cf1f400bf4bb9c9e85f66e68f550e5830b49d60250a86ae897d45c0877923", func := "sapwood/sapwoodlaw06.MetaAgain", spec := "metaAgain", named := ["sapwood/sum.half"], apart := false, laid := [("sapwood/sum.half", laid_sapwood_sum_half)] }
def MetaAgainSaid : Prop := metaAgainRow.holds Tryd.pinned (OpenSpec.ofChange metaAgainSpec)

/-- ITS FALSE NEIGHBOUR: 'it returns false'. Refute it at one input. -/
def metaAgainWrong : ChangeSpec := { name := "metaAgain", fn := fun _ => fun
  | [d1, d2, d3, d4, d5] => { results := [.lit (.bool false)], args := [d1, d2, d3, d4, d5] }
  | _ => none }
def MetaAgainWrongFalsely : Prop := metaAgainRow.holds Tryd.pinned (OpenSpec.ofChange metaAgainWrong)

/-- 'sapwoodlaw06.MetaTurned': WHATEVER THE INPUT: true; the input reads as it did. -/
def metaTurnedSpec : ChangeSpec := { name := "metaTurned", fn := fun _ => fun
  | [d1, d2, d3] => { results := [.lit (.bool true)], args := [d1, d2, d3] }
  | _ => none }
def metaTurnedRow : OpenClaim := { program := "ytcgmaiadipiegaadoor", sum := "687cf1f400bf4bb9c9e85f66e68f550e5830b49d60250a86ae897d45c0877923", func := "sapwood/sapwoodlaw06.MetaTurned", spec := "metaTurned", named := ["sapwood/sum.half"], apart := false, laid := [("sapwood/sum.half", laid_sapwood_sum_half)] }
def MetaTurnedSaid : Prop := metaTurnedRow.holds Tryd.pinned (OpenSpec.ofChange metaTurnedSpec)

/-- ITS FALSE NEIGHBOUR: 'it returns false'. Refute it at one input. -/
def metaTurnedWrong : ChangeSpec := { name := "metaTurned", fn := fun _ => fun
  | [d1, d2, d3] => { results := [.lit (.bool false)], args := [d1, d2, d3] }
  | _ => none }
def MetaTurnedWrongFalsely : Prop := metaTurnedRow.holds Tryd.pinned (OpenSpec.ofChange metaTurnedWrong)

/-- 'sapwoodlaw06.MetaNext': WHATEVER THE INPUT: true; the input reads as it did. -/
def metaNextSpec : ChangeSpec := { name := "metaNext", fn := fun _ => fun
  | [d1, d2] => { results := [.lit (.bool true)], args := [d1, d2] }
  | _ => none }
def metaNextRow : OpenClaim := { program := "ytcgmaiadipiegaadoor", sum := "687cf1f400bf4bb9c9e85f66e68f550e5830b49d60250a86ae897d45c0877923", func := "sapwood/sapwoodlaw06.MetaNext", spec := "metaNext", named := ["sapwood/sum.half"], apart := false, laid := [("sapwood/sum.half", laid_sapwood_sum_half)] }
def MetaNextSaid : Prop := metaNextRow.holds Tryd.pinned (OpenSpec.ofChange metaNextSpec)

/-- ITS FALSE NEIGHBOUR: 'it returns false'. Refute it at one input. -/
def metaNextWrong : ChangeSpec := { name := "metaNext", fn := fun _ => fun
  | [d1, d2] => { results := [.lit (.bool false)], args := [d1, d2] }
  | _ => none }
def MetaNextWrongFalsely : Prop := metaNextRow.holds Tryd.pinned (OpenSpec.ofChange metaNextWrong)

/-- 'sapwoodlaw06.MetaPair': WHATEVER THE INPUT: true; the input reads as it did. -/
def metaPairSpec : ChangeSpec := { name := "metaPair", fn := fun _ => fun
  | [d1, d2] => { results := [.lit (.bool true)], args := [d1, d2] }
  | _ => none }
def metaPairRow : OpenClaim := { program := "ytcgmaiadipiegaadoor", sum := "687cf1f400bf4bb9c9e85f66e68f550e5830b49d60250a86ae897d45c0877923", func := "sapwood/sapwoodlaw06.MetaPair", spec := "metaPair", named := ["sapwood/sum.half"], apart := false, laid := [("sapwood/sum.half", laid_sapwood_sum_half)] }
def MetaPairSaid : Prop := metaPairRow.holds Tryd.pinned (OpenSpec.ofChange metaPairSpec)

/-- ITS FALSE NEIGHBOUR: 'it returns false'. Refute it at one input. -/
def metaPairWrong : ChangeSpec := { name := "metaPair", fn := fun _ => fun
  | [d1, d2] => { results := [.lit (.bool false)], args := [d1, d2] }
  | _ => none }
def MetaPairWrongFalsely : Prop := metaPairRow.holds Tryd.pinned (OpenSpec.ofChange metaPairWrong)

/- THE SECOND FORM. 'bulk': how many values and letters a reading holds, each counted each time it is reached (what is shared counts as often as it is met; a slice's spare places count too). A statement '..UptoSaid' is the law's where the arguments, and the package variables that the reading takes, are together of bulk at most 1048576: NARROWER than '..Said'. Prove '..Said' where nothing that the law and all that it calls make is longer than what came in: it says more and counts as full. Else prove '..UptoSaid'. A law counts once. -/
mutual
def uptoBulk {H : Type} : DataW H → Nat
  | .lit (.string bytes) => bytes.length + 1
  | .lit _ => 1
  | .nil => 1
  | .ptr d => uptoBulk d + 1
  | .slice elems spare => uptoBulkAll elems + uptoBulkAll spare + 1
  | .agg parts => uptoBulkAll parts + 1
  | .iface _ d => uptoBulk d + 1
  | .map entries => uptoBulkEntries entries + 1
  | .held _ => 1
def uptoBulkAll {H : Type} : List (DataW H) → Nat
  | [] => 0
  | d :: r => uptoBulk d + uptoBulkAll r
def uptoBulkEntries {H : Type} : List (Lit × DataW H) → Nat
  | [] => 0
  | x :: r => uptoBulkEntry x + uptoBulkEntries r
def uptoBulkEntry {H : Type} : Lit × DataW H → Nat
  | (.string bytes, d) => bytes.length + uptoBulk d + 1
  | (_, d) => uptoBulk d + 1
 end
def uptoSmall : (H : Type) → List (DataW H) → Bool := fun _ ds => decide (uptoBulkAll ds ≤ 1048576)
def OpenSpec.upto (s : _root_.Go.ChangeSpec) : _root_.Go.OpenSpec := { _root_.Go.OpenSpec.ofChange s with cond := some uptoSmall }

/-- 'sapwoodlaw06.MetaRights', WHERE WHAT IT READS IS OF BULK AT MOST 1048576: true; the input reads as it did. -/
def metaRightsUptoRow : OpenClaim := { program := "ytcgmaiadipiegaadoor", sum := "687cf1f400bf4bb9c9e85f66e68f550e5830b49d60250a86ae897d45c0877923", func := "sapwood/sapwoodlaw06.MetaRights", spec := "metaRights", named := ["sapwood/sum.half"], apart := false, laid := [("sapwood/sum.half", laid_sapwood_sum_half)], narrowed := true }
def MetaRightsUptoSaid : Prop := metaRightsUptoRow.holds Tryd.pinned (OpenSpec.upto metaRightsSpec)

/-- 'sapwoodlaw06.MetaDecodes', WHERE WHAT IT READS IS OF BULK AT MOST 1048576: true; the input reads as it did. -/
def metaDecodesUptoRow : OpenClaim := { program := "ytcgmaiadipiegaadoor", sum := "687cf1f400bf4bb9c9e85f66e68f550e5830b49d60250a86ae897d45c0877923", func := "sapwood/sapwoodlaw06.MetaDecodes", spec := "metaDecodes", named := ["sapwood/sum.half"], apart := false, laid := [("sapwood/sum.half", laid_sapwood_sum_half)], narrowed := true }
def MetaDecodesUptoSaid : Prop := metaDecodesUptoRow.holds Tryd.pinned (OpenSpec.upto metaDecodesSpec)

/-- 'sapwoodlaw06.MetaBack', WHERE WHAT IT READS IS OF BULK AT MOST 1048576: true; the input reads as it did. -/
def metaBackUptoRow : OpenClaim := { program := "ytcgmaiadipiegaadoor", sum := "687cf1f400bf4bb9c9e85f66e68f550e5830b49d60250a86ae897d45c0877923", func := "sapwood/sapwoodlaw06.MetaBack", spec := "metaBack", named := ["sapwood/sum.half"], apart := false, laid := [("sapwood/sum.half", laid_sapwood_sum_half)], narrowed := true }
def MetaBackUptoSaid : Prop := metaBackUptoRow.holds Tryd.pinned (OpenSpec.upto metaBackSpec)

/-- 'sapwoodlaw06.MetaTorn', WHERE WHAT IT READS IS OF BULK AT MOST 1048576: true; the input reads as it did. -/
def metaTornUptoRow : OpenClaim := { program := "ytcgmaiadipiegaadoor", sum := "687cf1f400bf4bb9c9e85f66e68f550e5830b49d60250a86ae897d45c0877923", func := "sapwood/sapwoodlaw06.MetaTorn", spec := "metaTorn", named := ["sapwood/sum.half"], apart := false, laid := [("sapwood/sum.half", laid_sapwood_sum_half)], narrowed := true }
def MetaTornUptoSaid : Prop := metaTornUptoRow.holds Tryd.pinned (OpenSpec.upto metaTornSpec)

/-- 'sapwoodlaw06.MetaAgain', WHERE WHAT IT READS IS OF BULK AT MOST 1048576: true; the input reads as it did. -/
def metaAgainUptoRow : OpenClaim := { program := "ytcgmaiadipiegaadoor", sum := "687cf1f400bf4bb9c9e85f66e68f550e5830b49d60250a86ae897d45c0877923", func := "sapwood/sapwoodlaw06.MetaAgain", spec := "metaAgain", named := ["sapwood/sum.half"], apart := false, laid := [("sapwood/sum.half", laid_sapwood_sum_half)], narrowed := true }
def MetaAgainUptoSaid : Prop := metaAgainUptoRow.holds Tryd.pinned (OpenSpec.upto metaAgainSpec)

/-- 'sapwoodlaw06.MetaTurned', WHERE WHAT IT READS IS OF BULK AT MOST 1048576: true; the input reads as it did. -/
def metaTurnedUptoRow : OpenClaim := { program := "ytcgmaiadipiegaadoor", sum := "687cf1f400bf4bb9c9e85f66e68f550e5830b49d60250a86ae897d45c0877923", func := "sapwood/sapwoodlaw06.MetaTurned", spec := "metaTurned", named := ["sapwood/sum.half"], apart := false, laid := [("sapwood/sum.half", laid_sapwood_sum_half)], narrowed := true }
def MetaTurnedUptoSaid : Prop := metaTurnedUptoRow.holds Tryd.pinned (OpenSpec.upto metaTurnedSpec)

/-- 'sapwoodlaw06.MetaNext', WHERE WHAT IT READS IS OF BULK AT MOST 1048576: true; the input reads as it did. -/
def metaNextUptoRow : OpenClaim := { program := "ytcgmaiadipiegaadoor", sum := "687cf1f400bf4bb9c9e85f66e68f550e5830b49d60250a86ae897d45c0877923", func := "sapwood/sapwoodlaw06.MetaNext", spec := "metaNext", named := ["sapwood/sum.half"], apart := false, laid := [("sapwood/sum.half", laid_sapwood_sum_half)], narrowed := true }
def MetaNextUptoSaid : Prop := metaNextUptoRow.holds Tryd.pinned (OpenSpec.upto metaNextSpec)

/-- 'sapwoodlaw06.MetaPair', WHERE WHAT IT READS IS OF BULK AT MOST 1048576: true; the input reads as it did. -/
def metaPairUptoRow : OpenClaim := { program := "ytcgmaiadipiegaadoor", sum := "687cf1f400bf4bb9c9e85f66e68f550e5830b49d60250a86ae897d45c0877923", func := "sapwood/sapwoodlaw06.MetaPair", spec := "metaPair", named := ["sapwood/sum.half"], apart := false, laid := [("sapwood/sum.half", laid_sapwood_sum_half)], narrowed := true }
def MetaPairUptoSaid : Prop := metaPairUptoRow.holds Tryd.pinned (OpenSpec.upto metaPairSpec)

end Rows
end Go.Proofs.YtcgmaiadipiegaaDoor
