/-
  NARROWER THAN 'FOR EVERY INPUT', by the rows' own cells (each row's printed sentence says how): LoadBack: laid · LoadTurned: laid · LoadTwice: laid · ShadowPlans: laid · ShadowPages: laid.
  DERIVED. THE GIVEN ROWS OF THIS SEAT. 5 by the template 'for every input the law returns true; each argument reads behind the call as it read before'; 0 by the template 'total and deterministic' (their statements: YtelenboncejdaaaGreatDoorTotals.lean).
  GIVEN WITH THE SEED: the statements are not yours to turn. If you find one false, say at which input.
  Laid BY PROGRAM, IN A SANDBOX (cutbox-rows.mjs): the forced cells as the released guide's own fill.sh prints them over the translation 2bb772b5e157d3ba… (all of the seat's roots in one cut). By AI agents, Wed Nov 11 2026. No macro, syntax, notation, axiom, sorry.
-/
import Derived.Test.YtelenboncejdaaaGreatDoorChecked
import GoSem.Claim
import GoSem.ClaimJoined
import GoSem.ClaimMapViews
import Derived.JoinedTies
import Derived.KernelRfl
namespace Go.Proofs.YtelenboncejdaaaGreatDoor
/- THE CELL 'sum', in the pinned program and in every row, IS THE sha256 OF THE DUMP (.gsa) THAT YtelenboncejdaaaGreatDoorProg.lean LOADS. Nothing in Lean hashes anything: it is a label: what it is worth is what the hold of that sum in a sandbox is worth. -/
noncomputable def Tryz.pinned : Pinned := { name := "ytelenboncejdaaagreatdoor", sum := "2bb772b5e157d3ba4e389257d583a1c5a5f96ede8e99a259dc4308dd1d0f167d", checked := Tryz.checked }
namespace Rows
def none {H : Type} : Left H := { results := [], args := [] }

/- WHAT THE LISTED PACKAGE-LEVEL VARIABLES READ AS WHEN THE CALL BEGINS. Each datum BY PROGRAM (the guide's laid-datum.mjs) off the statement by which the dump's own 'gosem.cut.vars' lays the variable. In a bare row this is a premise. The card (YtelenboncejdaaaGreatDoorCards.lean) ties it to the program's text. -/
def laid_sapwood_sum_half {H : Type} : DataW H := .agg [.lit (.int .u32 0), .lit (.int .u32 79764919), .lit (.int .u32 159529838), .lit (.int .u32 222504665), .lit (.int .u32 319059676), .lit (.int .u32 398814059), .lit (.int .u32 445009330), .lit (.int .u32 507990021), .lit (.int .u32 638119352), .lit (.int .u32 583659535), .lit (.int .u32 797628118), .lit (.int .u32 726387553), .lit (.int .u32 890018660), .lit (.int .u32 835552979), .lit (.int .u32 1015980042), .lit (.int .u32 944750013)]

/-- 'sapwoodlaw15.LoadBack': WHATEVER THE INPUT: true; the input reads as it did. -/
def loadBackSpec : ChangeSpec := { name := "loadBack", fn := fun _ => fun
  | [d] => { results := [.lit (.bool true)], args := [d] }
  | _ => none }
def loadBackRow : OpenClaim := { program := "ytelenboncejdaaagreatdoor", sum := "2bb772b5e157d3ba4e389257d583a1c5a5f96ede8e99a259dc4308dd1d0f167d", func := "sapwood/sapwoodlaw15.LoadBack", spec := "loadBack", unfollowed := true, recurses := true, named := ["sapwood/sum.half"], apart := false, laid := [("sapwood/sum.half", laid_sapwood_sum_half)] }
def LoadBackSaid : Prop := loadBackRow.holds Tryz.pinned (OpenSpec.ofChange loadBackSpec)

/-- ITS FALSE NEIGHBOUR: 'it returns false'. Refute it at one input. -/
def loadBackWrong : ChangeSpec := { name := "loadBack", fn := fun _ => fun
  | [d] => { results := [.lit (.bool false)], args := [d] }
  | _ => none }
def LoadBackWrongFalsely : Prop := loadBackRow.holds Tryz.pinned (OpenSpec.ofChange loadBackWrong)

/-- 'sapwoodlaw15.LoadTurned': WHATEVER THE INPUT: true; the input reads as it did. -/
def loadTurnedSpec : ChangeSpec := { name := "loadTurned", fn := fun _ => fun
  | [d1, d2, d3, d4] => { results := [.lit (.bool true)], args := [d1, d2, d3, d4] }
  | _ => none }
def loadTurnedRow : OpenClaim := { program := "ytelenboncejdaaagreatdoor", sum := "2bb772b5e157d3ba4e389257d583a1c5a5f96ede8e99a259dc4308dd1d0f167d", func := "sapwood/sapwoodlaw15.LoadTurned", spec := "loadTurned", unfollowed := true, recurses := true, named := ["sapwood/sum.half"], apart := false, laid := [("sapwood/sum.half", laid_sapwood_sum_half)] }
def LoadTurnedSaid : Prop := loadTurnedRow.holds Tryz.pinned (OpenSpec.ofChange loadTurnedSpec)

/-- ITS FALSE NEIGHBOUR: 'it returns false'. Refute it at one input. -/
def loadTurnedWrong : ChangeSpec := { name := "loadTurned", fn := fun _ => fun
  | [d1, d2, d3, d4] => { results := [.lit (.bool false)], args := [d1, d2, d3, d4] }
  | _ => none }
def LoadTurnedWrongFalsely : Prop := loadTurnedRow.holds Tryz.pinned (OpenSpec.ofChange loadTurnedWrong)

/-- 'sapwoodlaw15.LoadTwice': WHATEVER THE INPUT: true; the input reads as it did. -/
def loadTwiceSpec : ChangeSpec := { name := "loadTwice", fn := fun _ => fun
  | [d] => { results := [.lit (.bool true)], args := [d] }
  | _ => none }
def loadTwiceRow : OpenClaim := { program := "ytelenboncejdaaagreatdoor", sum := "2bb772b5e157d3ba4e389257d583a1c5a5f96ede8e99a259dc4308dd1d0f167d", func := "sapwood/sapwoodlaw15.LoadTwice", spec := "loadTwice", unfollowed := true, recurses := true, named := ["sapwood/sum.half"], apart := false, laid := [("sapwood/sum.half", laid_sapwood_sum_half)] }
def LoadTwiceSaid : Prop := loadTwiceRow.holds Tryz.pinned (OpenSpec.ofChange loadTwiceSpec)

/-- ITS FALSE NEIGHBOUR: 'it returns false'. Refute it at one input. -/
def loadTwiceWrong : ChangeSpec := { name := "loadTwice", fn := fun _ => fun
  | [d] => { results := [.lit (.bool false)], args := [d] }
  | _ => none }
def LoadTwiceWrongFalsely : Prop := loadTwiceRow.holds Tryz.pinned (OpenSpec.ofChange loadTwiceWrong)

/-- 'sapwoodlaw14.ShadowPlans': WHATEVER THE INPUT: true; the input reads as it did. -/
def shadowPlansSpec : ChangeSpec := { name := "shadowPlans", fn := fun _ => fun
  | [d1, d2] => { results := [.lit (.bool true)], args := [d1, d2] }
  | _ => none }
def shadowPlansRow : OpenClaim := { program := "ytelenboncejdaaagreatdoor", sum := "2bb772b5e157d3ba4e389257d583a1c5a5f96ede8e99a259dc4308dd1d0f167d", func := "sapwood/sapwoodlaw14.ShadowPlans", spec := "shadowPlans", unfollowed := true, recurses := true, named := ["sapwood/sum.half"], apart := false, laid := [("sapwood/sum.half", laid_sapwood_sum_half)] }
def ShadowPlansSaid : Prop := shadowPlansRow.holds Tryz.pinned (OpenSpec.ofChange shadowPlansSpec)

/-- ITS FALSE NEIGHBOUR: 'it returns false'. Refute it at one input. -/
def shadowPlansWrong : ChangeSpec := { name := "shadowPlans", fn := fun _ => fun
  | [d1, d2] => { results := [.lit (.bool false)], args := [d1, d2] }
  | _ => none }
def ShadowPlansWrongFalsely : Prop := shadowPlansRow.holds Tryz.pinned (OpenSpec.ofChange shadowPlansWrong)

/-- 'sapwoodlaw14.ShadowPages': WHATEVER THE INPUT: true; the input reads as it did. -/
def shadowPagesSpec : ChangeSpec := { name := "shadowPages", fn := fun _ => fun
  | [d1, d2, d3] => { results := [.lit (.bool true)], args := [d1, d2, d3] }
  | _ => none }
def shadowPagesRow : OpenClaim := { program := "ytelenboncejdaaagreatdoor", sum := "2bb772b5e157d3ba4e389257d583a1c5a5f96ede8e99a259dc4308dd1d0f167d", func := "sapwood/sapwoodlaw14.ShadowPages", spec := "shadowPages", unfollowed := true, recurses := true, named := ["sapwood/sum.half"], apart := false, laid := [("sapwood/sum.half", laid_sapwood_sum_half)] }
def ShadowPagesSaid : Prop := shadowPagesRow.holds Tryz.pinned (OpenSpec.ofChange shadowPagesSpec)

/-- ITS FALSE NEIGHBOUR: 'it returns false'. Refute it at one input. -/
def shadowPagesWrong : ChangeSpec := { name := "shadowPages", fn := fun _ => fun
  | [d1, d2, d3] => { results := [.lit (.bool false)], args := [d1, d2, d3] }
  | _ => none }
def ShadowPagesWrongFalsely : Prop := shadowPagesRow.holds Tryz.pinned (OpenSpec.ofChange shadowPagesWrong)

/- THE SECOND FORM. 'bulk': how many values and letters a reading holds, each counted each time it is reached (what is shared counts as often as it is met; a slice's spare places count too). A statement '..UptoSaid' is the law's where the arguments, and the package variables that the reading takes, are together of bulk at most 1048576: NARROWER than '..Said'. Prove '..Said' where nothing that the law and all that it calls make is longer than what came in: it says more and counts as full. Else prove '..UptoSaid'. A law counts once. -/
mutual
def uptoBulk {H : Type} : DataW H → Nat
  | .lit (.string bytes) => bytes.length + 1
  | .lit _ => 1
  | .nil => 1
  | .ptr d => uptoBulk d + 1
  | .slice elems spare => uptoBulkAll elems + uptoBulkAll spare + 1
  | .agg parts => uptoBulkAll parts + 1
  | .iface _ d => uptoBulk d + 1
  | .map entries => uptoBulkEntries entries + 1
  | .held _ => 1
def uptoBulkAll {H : Type} : List (DataW H) → Nat
  | [] => 0
  | d :: r => uptoBulk d + uptoBulkAll r
def uptoBulkEntries {H : Type} : List (Lit × DataW H) → Nat
  | [] => 0
  | x :: r => uptoBulkEntry x + uptoBulkEntries r
def uptoBulkEntry {H : Type} : Lit × DataW H → Nat
  | (.string bytes, d) => bytes.length + uptoBulk d + 1
  | (_, d) => uptoBulk d + 1
 end
def uptoSmall : (H : Type) → List (DataW H) → Bool := fun _ ds => decide (uptoBulkAll ds ≤ 1048576)
def OpenSpec.upto (s : _root_.Go.ChangeSpec) : _root_.Go.OpenSpec := { _root_.Go.OpenSpec.ofChange s with cond := some uptoSmall }

/-- 'sapwoodlaw15.LoadBack', WHERE WHAT IT READS IS OF BULK AT MOST 1048576: true; the input reads as it did. -/
def loadBackUptoRow : OpenClaim := { program := "ytelenboncejdaaagreatdoor", sum := "2bb772b5e157d3ba4e389257d583a1c5a5f96ede8e99a259dc4308dd1d0f167d", func := "sapwood/sapwoodlaw15.LoadBack", spec := "loadBack", unfollowed := true, recurses := true, named := ["sapwood/sum.half"], apart := false, laid := [("sapwood/sum.half", laid_sapwood_sum_half)], narrowed := true }
def LoadBackUptoSaid : Prop := loadBackUptoRow.holds Tryz.pinned (OpenSpec.upto loadBackSpec)

/-- 'sapwoodlaw15.LoadTurned', WHERE WHAT IT READS IS OF BULK AT MOST 1048576: true; the input reads as it did. -/
def loadTurnedUptoRow : OpenClaim := { program := "ytelenboncejdaaagreatdoor", sum := "2bb772b5e157d3ba4e389257d583a1c5a5f96ede8e99a259dc4308dd1d0f167d", func := "sapwood/sapwoodlaw15.LoadTurned", spec := "loadTurned", unfollowed := true, recurses := true, named := ["sapwood/sum.half"], apart := false, laid := [("sapwood/sum.half", laid_sapwood_sum_half)], narrowed := true }
def LoadTurnedUptoSaid : Prop := loadTurnedUptoRow.holds Tryz.pinned (OpenSpec.upto loadTurnedSpec)

/-- 'sapwoodlaw15.LoadTwice', WHERE WHAT IT READS IS OF BULK AT MOST 1048576: true; the input reads as it did. -/
def loadTwiceUptoRow : OpenClaim := { program := "ytelenboncejdaaagreatdoor", sum := "2bb772b5e157d3ba4e389257d583a1c5a5f96ede8e99a259dc4308dd1d0f167d", func := "sapwood/sapwoodlaw15.LoadTwice", spec := "loadTwice", unfollowed := true, recurses := true, named := ["sapwood/sum.half"], apart := false, laid := [("sapwood/sum.half", laid_sapwood_sum_half)], narrowed := true }
def LoadTwiceUptoSaid : Prop := loadTwiceUptoRow.holds Tryz.pinned (OpenSpec.upto loadTwiceSpec)

/-- 'sapwoodlaw14.ShadowPlans', WHERE WHAT IT READS IS OF BULK AT MOST 1048576: true; the input reads as it did. -/
def shadowPlansUptoRow : OpenClaim := { program := "ytelenboncejdaaagreatdoor", sum := "2bb772b5e157d3ba4e389257d583a1c5a5f96ede8e99a259dc4308dd1d0f167d", func := "sapwood/sapwoodlaw14.ShadowPlans", spec := "shadowPlans", unfollowed := true, recurses := true, named := ["sapwood/sum.half"], apart := false, laid := [("sapwood/sum.half", laid_sapwood_sum_half)], narrowed := true }
def ShadowPlansUptoSaid : Prop := shadowPlansUptoRow.holds Tryz.pinned (OpenSpec.upto shadowPlansSpec)

/-- 'sapwoodlaw14.ShadowPages', WHERE WHAT IT READS IS OF BULK AT MOST 1048576: true; the input reads as it did. -/
def shadowPagesUptoRow : OpenClaim := { program := "ytelenboncejdaaagreatdoor", sum := "2bb772b5e157d3ba4e389257d583a1c5a5f96ede8e99a259dc4308dd1d0f167d", func := "sapwood/sapwoodlaw14.ShadowPages", spec := "shadowPages", unfollowed := true, recurses := true, named := ["sapwood/sum.half"], apart := false, laid := [("sapwood/sum.half", laid_sapwood_sum_half)], narrowed := true }
def ShadowPagesUptoSaid : Prop := shadowPagesUptoRow.holds Tryz.pinned (OpenSpec.upto shadowPagesSpec)

end Rows
end Go.Proofs.YtelenboncejdaaaGreatDoor
