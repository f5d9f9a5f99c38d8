/-
  DERIVED. GIVEN WITH THE SEED: THE CARDS: each row of YtmpmeifpfmobfaaGreatDoorRows.lean that lists a variable, with what it lists TIED to the program's text (the seventh form; the later family's looks); each row that meets fmt, with fmt's text TOLD by the authors' own Lean function (tested against real Go, not proved from fmt's source: count such statements apart). THE CARD IS WHAT COUNTS. Prove the row's statement (the work); the ties are given (YtmpmeifpfmobfaaGreatDoorTie.lean); close each card by the builder's one call (the guide's Derived/Test/ToyasCard.lean, 'card_holds'). Laid BY PROGRAM, IN A SANDBOX (cutbox-door.mjs). By AI agents, Wed Nov 11 2026. No macro, syntax, notation, axiom, sorry.
-/
import Derived.Test.YtmpmeifpfmobfaaGreatDoorRows
import GoSem.ClaimSeven
namespace Go.Proofs.YtmpmeifpfmobfaaGreatDoor
namespace Rows

/-- THE TIED CARD OF 'sapwoodlaw14.ShadowPlans'. -/
def shadowPlansCard : Claim7 := { stood := { row := shadowPlansRow, standIns := [], harness := (true, "1a050d4e79ea44ac8259af8edcd1acaf85ecd57fc3629b5714598d0c6a657e50"), looks := false }, kinds := [], alts := [], laidByText := true, laidKinds := [.data], laidTests := true, laidLooks := .later }
def ShadowPlansCardSaid : Prop := Claim7.holds Tryz.pinned (.plain (OpenSpec.ofChange shadowPlansSpec)) shadowPlansCard

/-- THE TIED CARD OF 'sapwoodlaw14.ShadowFew'. -/
def shadowFewCard : Claim7 := { stood := { row := shadowFewRow, standIns := [], harness := (true, "1a050d4e79ea44ac8259af8edcd1acaf85ecd57fc3629b5714598d0c6a657e50"), looks := false }, kinds := [], alts := [], laidByText := true, laidKinds := [.data], laidTests := true, laidLooks := .later }
def ShadowFewCardSaid : Prop := Claim7.holds Tryz.pinned (.plain (OpenSpec.ofChange shadowFewSpec)) shadowFewCard

/-- THE TIED CARD OF 'sapwoodlaw14.ShadowFull'. -/
def shadowFullCard : Claim7 := { stood := { row := shadowFullRow, standIns := [], harness := (true, "1a050d4e79ea44ac8259af8edcd1acaf85ecd57fc3629b5714598d0c6a657e50"), looks := false }, kinds := [], alts := [], laidByText := true, laidKinds := [.data], laidTests := true, laidLooks := .later }
def ShadowFullCardSaid : Prop := Claim7.holds Tryz.pinned (.plain (OpenSpec.ofChange shadowFullSpec)) shadowFullCard

/-- THE TIED CARD OF 'sapwoodlaw14.ShadowPages'. -/
def shadowPagesCard : Claim7 := { stood := { row := shadowPagesRow, standIns := [], harness := (true, "1a050d4e79ea44ac8259af8edcd1acaf85ecd57fc3629b5714598d0c6a657e50"), looks := false }, kinds := [], alts := [], laidByText := true, laidKinds := [.data], laidTests := true, laidLooks := .later }
def ShadowPagesCardSaid : Prop := Claim7.holds Tryz.pinned (.plain (OpenSpec.ofChange shadowPagesSpec)) shadowPagesCard

/-- THE TIED CARD OF 'sapwoodlaw14.ShadowLies'. -/
def shadowLiesCard : Claim7 := { stood := { row := shadowLiesRow, standIns := [], harness := (true, "1a050d4e79ea44ac8259af8edcd1acaf85ecd57fc3629b5714598d0c6a657e50"), looks := false }, kinds := [], alts := [], laidByText := true, laidKinds := [.data], laidTests := true, laidLooks := .later }
def ShadowLiesCardSaid : Prop := Claim7.holds Tryz.pinned (.plain (OpenSpec.ofChange shadowLiesSpec)) shadowLiesCard

/-- THE SECOND FORM's CARD OF 'sapwoodlaw14.ShadowPlans'. -/
def shadowPlansUptoCard : Claim7 := { stood := { row := shadowPlansUptoRow, standIns := [], harness := (true, "1a050d4e79ea44ac8259af8edcd1acaf85ecd57fc3629b5714598d0c6a657e50"), looks := false }, kinds := [], alts := [], laidByText := true, laidKinds := [.data], laidTests := true, laidLooks := .later }
def ShadowPlansUptoCardSaid : Prop := Claim7.holds Tryz.pinned (.plain (OpenSpec.upto shadowPlansSpec)) shadowPlansUptoCard

/-- THE SECOND FORM's CARD OF 'sapwoodlaw14.ShadowFew'. -/
def shadowFewUptoCard : Claim7 := { stood := { row := shadowFewUptoRow, standIns := [], harness := (true, "1a050d4e79ea44ac8259af8edcd1acaf85ecd57fc3629b5714598d0c6a657e50"), looks := false }, kinds := [], alts := [], laidByText := true, laidKinds := [.data], laidTests := true, laidLooks := .later }
def ShadowFewUptoCardSaid : Prop := Claim7.holds Tryz.pinned (.plain (OpenSpec.upto shadowFewSpec)) shadowFewUptoCard

/-- THE SECOND FORM's CARD OF 'sapwoodlaw14.ShadowFull'. -/
def shadowFullUptoCard : Claim7 := { stood := { row := shadowFullUptoRow, standIns := [], harness := (true, "1a050d4e79ea44ac8259af8edcd1acaf85ecd57fc3629b5714598d0c6a657e50"), looks := false }, kinds := [], alts := [], laidByText := true, laidKinds := [.data], laidTests := true, laidLooks := .later }
def ShadowFullUptoCardSaid : Prop := Claim7.holds Tryz.pinned (.plain (OpenSpec.upto shadowFullSpec)) shadowFullUptoCard

/-- THE SECOND FORM's CARD OF 'sapwoodlaw14.ShadowPages'. -/
def shadowPagesUptoCard : Claim7 := { stood := { row := shadowPagesUptoRow, standIns := [], harness := (true, "1a050d4e79ea44ac8259af8edcd1acaf85ecd57fc3629b5714598d0c6a657e50"), looks := false }, kinds := [], alts := [], laidByText := true, laidKinds := [.data], laidTests := true, laidLooks := .later }
def ShadowPagesUptoCardSaid : Prop := Claim7.holds Tryz.pinned (.plain (OpenSpec.upto shadowPagesSpec)) shadowPagesUptoCard

/-- THE SECOND FORM's CARD OF 'sapwoodlaw14.ShadowLies'. -/
def shadowLiesUptoCard : Claim7 := { stood := { row := shadowLiesUptoRow, standIns := [], harness := (true, "1a050d4e79ea44ac8259af8edcd1acaf85ecd57fc3629b5714598d0c6a657e50"), looks := false }, kinds := [], alts := [], laidByText := true, laidKinds := [.data], laidTests := true, laidLooks := .later }
def ShadowLiesUptoCardSaid : Prop := Claim7.holds Tryz.pinned (.plain (OpenSpec.upto shadowLiesSpec)) shadowLiesUptoCard
end Rows
end Go.Proofs.YtmpmeifpfmobfaaGreatDoor
