/-
  NARROWER THAN 'FOR EVERY INPUT', by the rows' own cells (each row's printed sentence says how): SumChecks: laid · SumBack: laid · SumTurned: laid · SumLinear: laid · SumKeeps: laid · SumLonger: laid.
  DERIVED. THE GIVEN ROWS OF THIS SEAT. 6 by the template 'for every input the law returns true; each argument reads behind the call as it read before'; 0 by the template 'total and deterministic' (their statements: YtmdadofnopgbgaaDoorTotals.lean).
  GIVEN WITH THE SEED: the statements are not yours to turn. If you find one false, say at which input.
  Laid BY PROGRAM, IN A SANDBOX (cutbox-rows.mjs): the forced cells as the released guide's own fill.sh prints them over the translation 3ffec7e9c1480dca… (all of the seat's roots in one cut). By AI agents, Wed Nov 11 2026. No macro, syntax, notation, axiom, sorry.
-/
import Derived.Test.YtmdadofnopgbgaaDoorChecked
import GoSem.Claim
import GoSem.ClaimJoined
import GoSem.ClaimMapViews
import Derived.JoinedTies
import Derived.KernelRfl
namespace Go.Proofs.YtmdadofnopgbgaaDoor
/- THE CELL 'sum', in the pinned program and in every row, IS THE sha256 OF THE DUMP (.gsa) THAT YtmdadofnopgbgaaDoorProg.lean LOADS. Nothing in Lean hashes anything: it is a label: what it is worth is what the hold of that sum in a sandbox is worth. -/
noncomputable def Tryd.pinned : Pinned := { name := "ytmdadofnopgbgaadoor", sum := "3ffec7e9c1480dca98ae91120a7cbd072572e02a8f350e2c96adb9a26d58441f", checked := Tryd.checked }
namespace Rows
def none {H : Type} : Left H := { results := [], args := [] }

/- WHAT THE LISTED PACKAGE-LEVEL VARIABLES READ AS WHEN THE CALL BEGINS. Each datum BY PROGRAM (the guide's laid-datum.mjs) off the statement by which the dump's own 'gosem.cut.vars' lays the variable. In a bare row this is a premise. The card (YtmdadofnopgbgaaDoorCards.lean) ties it to the program's text. -/
def laid_sapwood_sum_half {H : Type} : DataW H := .agg [.lit (.int .u32 0), .lit (.int .u32 79764919), .lit (.int .u32 159529838), .lit (.int .u32 222504665), .lit (.int .u32 319059676), .lit (.int .u32 398814059), .lit (.int .u32 445009330), .lit (.int .u32 507990021), .lit (.int .u32 638119352), .lit (.int .u32 583659535), .lit (.int .u32 797628118), .lit (.int .u32 726387553), .lit (.int .u32 890018660), .lit (.int .u32 835552979), .lit (.int .u32 1015980042), .lit (.int .u32 944750013)]

/-- 'sapwoodlaw02.SumChecks': WHATEVER THE INPUT: true; the input reads as it did. -/
def sumChecksSpec : ChangeSpec := { name := "sumChecks", fn := fun _ => fun
  | [d] => { results := [.lit (.bool true)], args := [d] }
  | _ => none }
def sumChecksRow : OpenClaim := { program := "ytmdadofnopgbgaadoor", sum := "3ffec7e9c1480dca98ae91120a7cbd072572e02a8f350e2c96adb9a26d58441f", func := "sapwood/sapwoodlaw02.SumChecks", spec := "sumChecks", named := ["sapwood/sum.half"], apart := false, laid := [("sapwood/sum.half", laid_sapwood_sum_half)] }
def SumChecksSaid : Prop := sumChecksRow.holds Tryd.pinned (OpenSpec.ofChange sumChecksSpec)

/-- ITS FALSE NEIGHBOUR: 'it returns false'. Refute it at one input. -/
def sumChecksWrong : ChangeSpec := { name := "sumChecks", fn := fun _ => fun
  | [d] => { results := [.lit (.bool false)], args := [d] }
  | _ => none }
def SumChecksWrongFalsely : Prop := sumChecksRow.holds Tryd.pinned (OpenSpec.ofChange sumChecksWrong)

/-- 'sapwoodlaw02.SumBack': WHATEVER THE INPUT: true; the input reads as it did. -/
def sumBackSpec : ChangeSpec := { name := "sumBack", fn := fun _ => fun
  | [d] => { results := [.lit (.bool true)], args := [d] }
  | _ => none }
def sumBackRow : OpenClaim := { program := "ytmdadofnopgbgaadoor", sum := "3ffec7e9c1480dca98ae91120a7cbd072572e02a8f350e2c96adb9a26d58441f", func := "sapwood/sapwoodlaw02.SumBack", spec := "sumBack", named := ["sapwood/sum.half"], apart := false, laid := [("sapwood/sum.half", laid_sapwood_sum_half)] }
def SumBackSaid : Prop := sumBackRow.holds Tryd.pinned (OpenSpec.ofChange sumBackSpec)

/-- ITS FALSE NEIGHBOUR: 'it returns false'. Refute it at one input. -/
def sumBackWrong : ChangeSpec := { name := "sumBack", fn := fun _ => fun
  | [d] => { results := [.lit (.bool false)], args := [d] }
  | _ => none }
def SumBackWrongFalsely : Prop := sumBackRow.holds Tryd.pinned (OpenSpec.ofChange sumBackWrong)

/-- 'sapwoodlaw02.SumTurned': WHATEVER THE INPUT: true; the input reads as it did. -/
def sumTurnedSpec : ChangeSpec := { name := "sumTurned", fn := fun _ => fun
  | [d1, d2, d3] => { results := [.lit (.bool true)], args := [d1, d2, d3] }
  | _ => none }
def sumTurnedRow : OpenClaim := { program := "ytmdadofnopgbgaadoor", sum := "3ffec7e9c1480dca98ae91120a7cbd072572e02a8f350e2c96adb9a26d58441f", func := "sapwood/sapwoodlaw02.SumTurned", spec := "sumTurned", named := ["sapwood/sum.half"], apart := false, laid := [("sapwood/sum.half", laid_sapwood_sum_half)] }
def SumTurnedSaid : Prop := sumTurnedRow.holds Tryd.pinned (OpenSpec.ofChange sumTurnedSpec)

/-- ITS FALSE NEIGHBOUR: 'it returns false'. Refute it at one input. -/
def sumTurnedWrong : ChangeSpec := { name := "sumTurned", fn := fun _ => fun
  | [d1, d2, d3] => { results := [.lit (.bool false)], args := [d1, d2, d3] }
  | _ => none }
def SumTurnedWrongFalsely : Prop := sumTurnedRow.holds Tryd.pinned (OpenSpec.ofChange sumTurnedWrong)

/-- 'sapwoodlaw02.SumLinear': WHATEVER THE INPUT: true; the input reads as it did. -/
def sumLinearSpec : ChangeSpec := { name := "sumLinear", fn := fun _ => fun
  | [d1, d2] => { results := [.lit (.bool true)], args := [d1, d2] }
  | _ => none }
def sumLinearRow : OpenClaim := { program := "ytmdadofnopgbgaadoor", sum := "3ffec7e9c1480dca98ae91120a7cbd072572e02a8f350e2c96adb9a26d58441f", func := "sapwood/sapwoodlaw02.SumLinear", spec := "sumLinear", named := ["sapwood/sum.half"], apart := false, laid := [("sapwood/sum.half", laid_sapwood_sum_half)] }
def SumLinearSaid : Prop := sumLinearRow.holds Tryd.pinned (OpenSpec.ofChange sumLinearSpec)

/-- ITS FALSE NEIGHBOUR: 'it returns false'. Refute it at one input. -/
def sumLinearWrong : ChangeSpec := { name := "sumLinear", fn := fun _ => fun
  | [d1, d2] => { results := [.lit (.bool false)], args := [d1, d2] }
  | _ => none }
def SumLinearWrongFalsely : Prop := sumLinearRow.holds Tryd.pinned (OpenSpec.ofChange sumLinearWrong)

/-- 'sapwoodlaw02.SumKeeps': WHATEVER THE INPUT: true; the input reads as it did. -/
def sumKeepsSpec : ChangeSpec := { name := "sumKeeps", fn := fun _ => fun
  | [d] => { results := [.lit (.bool true)], args := [d] }
  | _ => none }
def sumKeepsRow : OpenClaim := { program := "ytmdadofnopgbgaadoor", sum := "3ffec7e9c1480dca98ae91120a7cbd072572e02a8f350e2c96adb9a26d58441f", func := "sapwood/sapwoodlaw02.SumKeeps", spec := "sumKeeps", named := ["sapwood/sum.half"], apart := false, laid := [("sapwood/sum.half", laid_sapwood_sum_half)] }
def SumKeepsSaid : Prop := sumKeepsRow.holds Tryd.pinned (OpenSpec.ofChange sumKeepsSpec)

/-- ITS FALSE NEIGHBOUR: 'it returns false'. Refute it at one input. -/
def sumKeepsWrong : ChangeSpec := { name := "sumKeeps", fn := fun _ => fun
  | [d] => { results := [.lit (.bool false)], args := [d] }
  | _ => none }
def SumKeepsWrongFalsely : Prop := sumKeepsRow.holds Tryd.pinned (OpenSpec.ofChange sumKeepsWrong)

/-- 'sapwoodlaw02.SumLonger': WHATEVER THE INPUT: true; the input reads as it did. -/
def sumLongerSpec : ChangeSpec := { name := "sumLonger", fn := fun _ => fun
  | [d] => { results := [.lit (.bool true)], args := [d] }
  | _ => none }
def sumLongerRow : OpenClaim := { program := "ytmdadofnopgbgaadoor", sum := "3ffec7e9c1480dca98ae91120a7cbd072572e02a8f350e2c96adb9a26d58441f", func := "sapwood/sapwoodlaw02.SumLonger", spec := "sumLonger", named := ["sapwood/sum.half"], apart := false, laid := [("sapwood/sum.half", laid_sapwood_sum_half)] }
def SumLongerSaid : Prop := sumLongerRow.holds Tryd.pinned (OpenSpec.ofChange sumLongerSpec)

/-- ITS FALSE NEIGHBOUR: 'it returns false'. Refute it at one input. -/
def sumLongerWrong : ChangeSpec := { name := "sumLonger", fn := fun _ => fun
  | [d] => { results := [.lit (.bool false)], args := [d] }
  | _ => none }
def SumLongerWrongFalsely : Prop := sumLongerRow.holds Tryd.pinned (OpenSpec.ofChange sumLongerWrong)

/- THE SECOND FORM. 'bulk': how many values and letters a reading holds, each counted each time it is reached (what is shared counts as often as it is met; a slice's spare places count too). A statement '..UptoSaid' is the law's where the arguments, and the package variables that the reading takes, are together of bulk at most 1048576: NARROWER than '..Said'. Prove '..Said' where nothing that the law and all that it calls make is longer than what came in: it says more and counts as full. Else prove '..UptoSaid'. A law counts once. -/
mutual
def uptoBulk {H : Type} : DataW H → Nat
  | .lit (.string bytes) => bytes.length + 1
  | .lit _ => 1
  | .nil => 1
  | .ptr d => uptoBulk d + 1
  | .slice elems spare => uptoBulkAll elems + uptoBulkAll spare + 1
  | .agg parts => uptoBulkAll parts + 1
  | .iface _ d => uptoBulk d + 1
  | .map entries => uptoBulkEntries entries + 1
  | .held _ => 1
def uptoBulkAll {H : Type} : List (DataW H) → Nat
  | [] => 0
  | d :: r => uptoBulk d + uptoBulkAll r
def uptoBulkEntries {H : Type} : List (Lit × DataW H) → Nat
  | [] => 0
  | x :: r => uptoBulkEntry x + uptoBulkEntries r
def uptoBulkEntry {H : Type} : Lit × DataW H → Nat
  | (.string bytes, d) => bytes.length + uptoBulk d + 1
  | (_, d) => uptoBulk d + 1
 end
def uptoSmall : (H : Type) → List (DataW H) → Bool := fun _ ds => decide (uptoBulkAll ds ≤ 1048576)
def OpenSpec.upto (s : _root_.Go.ChangeSpec) : _root_.Go.OpenSpec := { _root_.Go.OpenSpec.ofChange s with cond := some uptoSmall }

/-- 'sapwoodlaw02.SumChecks', WHERE WHAT IT READS IS OF BULK AT MOST 1048576: true; the input reads as it did. -/
def sumChecksUptoRow : OpenClaim := { program := "ytmdadofnopgbgaadoor", sum := "3ffec7e9c1480dca98ae91120a7cbd072572e02a8f350e2c96adb9a26d58441f", func := "sapwood/sapwoodlaw02.SumChecks", spec := "sumChecks", named := ["sapwood/sum.half"], apart := false, laid := [("sapwood/sum.half", laid_sapwood_sum_half)], narrowed := true }
def SumChecksUptoSaid : Prop := sumChecksUptoRow.holds Tryd.pinned (OpenSpec.upto sumChecksSpec)

/-- 'sapwoodlaw02.SumBack', WHERE WHAT IT READS IS OF BULK AT MOST 1048576: true; the input reads as it did. -/
def sumBackUptoRow : OpenClaim := { program := "ytmdadofnopgbgaadoor", sum := "3ffec7e9c1480dca98ae91120a7cbd072572e02a8f350e2c96adb9a26d58441f", func := "sapwood/sapwoodlaw02.SumBack", spec := "sumBack", named := ["sapwood/sum.half"], apart := false, laid := [("sapwood/sum.half", laid_sapwood_sum_half)], narrowed := true }
def SumBackUptoSaid : Prop := sumBackUptoRow.holds Tryd.pinned (OpenSpec.upto sumBackSpec)

/-- 'sapwoodlaw02.SumTurned', WHERE WHAT IT READS IS OF BULK AT MOST 1048576: true; the input reads as it did. -/
def sumTurnedUptoRow : OpenClaim := { program := "ytmdadofnopgbgaadoor", sum := "3ffec7e9c1480dca98ae91120a7cbd072572e02a8f350e2c96adb9a26d58441f", func := "sapwood/sapwoodlaw02.SumTurned", spec := "sumTurned", named := ["sapwood/sum.half"], apart := false, laid := [("sapwood/sum.half", laid_sapwood_sum_half)], narrowed := true }
def SumTurnedUptoSaid : Prop := sumTurnedUptoRow.holds Tryd.pinned (OpenSpec.upto sumTurnedSpec)

/-- 'sapwoodlaw02.SumLinear', WHERE WHAT IT READS IS OF BULK AT MOST 1048576: true; the input reads as it did. -/
def sumLinearUptoRow : OpenClaim := { program := "ytmdadofnopgbgaadoor", sum := "3ffec7e9c1480dca98ae91120a7cbd072572e02a8f350e2c96adb9a26d58441f", func := "sapwood/sapwoodlaw02.SumLinear", spec := "sumLinear", named := ["sapwood/sum.half"], apart := false, laid := [("sapwood/sum.half", laid_sapwood_sum_half)], narrowed := true }
def SumLinearUptoSaid : Prop := sumLinearUptoRow.holds Tryd.pinned (OpenSpec.upto sumLinearSpec)

/-- 'sapwoodlaw02.SumKeeps', WHERE WHAT IT READS IS OF BULK AT MOST 1048576: true; the input reads as it did. -/
def sumKeepsUptoRow : OpenClaim := { program := "ytmdadofnopgbgaadoor", sum := "3ffec7e9c1480dca98ae91120a7cbd072572e02a8f350e2c96adb9a26d58441f", func := "sapwood/sapwoodlaw02.SumKeeps", spec := "sumKeeps", named := ["sapwood/sum.half"], apart := false, laid := [("sapwood/sum.half", laid_sapwood_sum_half)], narrowed := true }
def SumKeepsUptoSaid : Prop := sumKeepsUptoRow.holds Tryd.pinned (OpenSpec.upto sumKeepsSpec)

/-- 'sapwoodlaw02.SumLonger', WHERE WHAT IT READS IS OF BULK AT MOST 1048576: true; the input reads as it did. -/
def sumLongerUptoRow : OpenClaim := { program := "ytmdadofnopgbgaadoor", sum := "3ffec7e9c1480dca98ae91120a7cbd072572e02a8f350e2c96adb9a26d58441f", func := "sapwood/sapwoodlaw02.SumLonger", spec := "sumLonger", named := ["sapwood/sum.half"], apart := false, laid := [("sapwood/sum.half", laid_sapwood_sum_half)], narrowed := true }
def SumLongerUptoSaid : Prop := sumLongerUptoRow.holds Tryd.pinned (OpenSpec.upto sumLongerSpec)

end Rows
end Go.Proofs.YtmdadofnopgbgaaDoor
