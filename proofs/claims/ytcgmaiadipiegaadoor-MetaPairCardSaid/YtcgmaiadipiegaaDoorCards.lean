/-
  DERIVED. GIVEN WITH THE SEED: THE CARDS: each row of YtcgmaiadipiegaaDoorRows.lean that lists a variable, with what it lists TIED to the program's text (the seventh form; the later family's looks); each row that meets fmt, with fmt's text TOLD by the authors' own Lean function (tested against real Go, not proved from fmt's source: count such statements apart). THE CARD IS WHAT COUNTS. Prove the row's statement (the work); the ties are given (YtcgmaiadipiegaaDoorTie.lean); close each card by the builder's one call (the guide's Derived/Test/ToyasCard.lean, 'card_holds'). Laid BY PROGRAM, IN A SANDBOX (cutbox-door.mjs). By AI agents, Wed Nov 11 2026. No macro, syntax, notation, axiom, sorry.
-/
import Derived.Test.YtcgmaiadipiegaaDoorRows
import GoSem.ClaimSeven
namespace Go.Proofs.YtcgmaiadipiegaaDoor
namespace Rows

/-- THE TIED CARD OF 'sapwoodlaw06.MetaRights'. -/
def metaRightsCard : Claim7 := { stood := { row := metaRightsRow, standIns := [], harness := (true, "ff6571c9258cc5ae1a33e9450d62fd3a3d2abbbe87473920b80c14b5ab16f570"), looks := false }, kinds := [], alts := [], laidByText := true, laidKinds := [.data], laidTests := true, laidLooks := .later }
def MetaRightsCardSaid : Prop := Claim7.holds Tryd.pinned (.plain (OpenSpec.ofChange metaRightsSpec)) metaRightsCard

/-- THE TIED CARD OF 'sapwoodlaw06.MetaDecodes'. -/
def metaDecodesCard : Claim7 := { stood := { row := metaDecodesRow, standIns := [], harness := (true, "ff6571c9258cc5ae1a33e9450d62fd3a3d2abbbe87473920b80c14b5ab16f570"), looks := false }, kinds := [], alts := [], laidByText := true, laidKinds := [.data], laidTests := true, laidLooks := .later }
def MetaDecodesCardSaid : Prop := Claim7.holds Tryd.pinned (.plain (OpenSpec.ofChange metaDecodesSpec)) metaDecodesCard

/-- THE TIED CARD OF 'sapwoodlaw06.MetaBack'. -/
def metaBackCard : Claim7 := { stood := { row := metaBackRow, standIns := [], harness := (true, "ff6571c9258cc5ae1a33e9450d62fd3a3d2abbbe87473920b80c14b5ab16f570"), looks := false }, kinds := [], alts := [], laidByText := true, laidKinds := [.data], laidTests := true, laidLooks := .later }
def MetaBackCardSaid : Prop := Claim7.holds Tryd.pinned (.plain (OpenSpec.ofChange metaBackSpec)) metaBackCard

/-- THE TIED CARD OF 'sapwoodlaw06.MetaTorn'. -/
def metaTornCard : Claim7 := { stood := { row := metaTornRow, standIns := [], harness := (true, "ff6571c9258cc5ae1a33e9450d62fd3a3d2abbbe87473920b80c14b5ab16f570"), looks := false }, kinds := [], alts := [], laidByText := true, laidKinds := [.data], laidTests := true, laidLooks := .later }
def MetaTornCardSaid : Prop := Claim7.holds Tryd.pinned (.plain (OpenSpec.ofChange metaTornSpec)) metaTornCard

/-- THE TIED CARD OF 'sapwoodlaw06.MetaAgain'. -/
def metaAgainCard : Claim7 := { stood := { row := metaAgainRow, standIns := [], harness := (true, "ff6571c9258cc5ae1a33e9450d62fd3a3d2abbbe87473920b80c14b5ab16f570"), looks := false }, kinds := [], alts := [], laidByText := true, laidKinds := [.data], laidTests := true, laidLooks := .later }
def MetaAgainCardSaid : Prop := Claim7.holds Tryd.pinned (.plain (OpenSpec.ofChange metaAgainSpec)) metaAgainCard

/-- THE TIED CARD OF 'sapwoodlaw06.MetaTurned'. -/
def metaTurnedCard : Claim7 := { stood := { row := metaTurnedRow, standIns := [], harness := (true, "ff6571c9258cc5ae1a33e9450d62fd3a3d2abbbe87473920b80c14b5ab16f570"), looks := false }, kinds := [], alts := [], laidByText := true, laidKinds := [.data], laidTests := true, laidLooks := .later }
def MetaTurnedCardSaid : Prop := Claim7.holds Tryd.pinned (.plain (OpenSpec.ofChange metaTurnedSpec)) metaTurnedCard

/-- THE TIED CARD OF 'sapwoodlaw06.MetaNext'. -/
def metaNextCard : Claim7 := { stood := { row := metaNextRow, standIns := [], harness := (true, "ff6571c9258cc5ae1a33e9450d62fd3a3d2abbbe87473920b80c14b5ab16f570"), looks := false }, kinds := [], alts := [], laidByText := true, laidKinds := [.data], laidTests := true, laidLooks := .later }
def MetaNextCardSaid : Prop := Claim7.holds Tryd.pinned (.plain (OpenSpec.ofChange metaNextSpec)) metaNextCard

/-- THE TIED CARD OF 'sapwoodlaw06.MetaPair'. -/
def metaPairCard : Claim7 := { stood := { row := metaPairRow, standIns := [], harness := (true, "ff6571c9258cc5ae1a33e9450d62fd3a3d2abbbe87473920b80c14b5ab16f570"), looks := false }, kinds := [], alts := [], laidByText := true, laidKinds := [.data], laidTests := true, laidLooks := .later }
def MetaPairCardSaid : Prop := Claim7.holds Tryd.pinned (.plain (OpenSpec.ofChange metaPairSpec)) metaPairCard

/-- THE SECOND FORM's CARD OF 'sapwoodlaw06.MetaRights'. -/
def metaRightsUptoCard : Claim7 := { stood := { row := metaRightsUptoRow, standIns := [], harness := (true, "ff6571c9258cc5ae1a33e9450d62fd3a3d2abbbe87473920b80c14b5ab16f570"), looks := false }, kinds := [], alts := [], laidByText := true, laidKinds := [.data], laidTests := true, laidLooks := .later }
def MetaRightsUptoCardSaid : Prop := Claim7.holds Tryd.pinned (.plain (OpenSpec.upto metaRightsSpec)) metaRightsUptoCard

/-- THE SECOND FORM's CARD OF 'sapwoodlaw06.MetaDecodes'. -/
def metaDecodesUptoCard : Claim7 := { stood := { row := metaDecodesUptoRow, standIns := [], harness := (true, "ff6571c9258cc5ae1a33e9450d62fd3a3d2abbbe87473920b80c14b5ab16f570"), looks := false }, kinds := [], alts := [], laidByText := true, laidKinds := [.data], laidTests := true, laidLooks := .later }
def MetaDecodesUptoCardSaid : Prop := Claim7.holds Tryd.pinned (.plain (OpenSpec.upto metaDecodesSpec)) metaDecodesUptoCard

/-- THE SECOND FORM's CARD OF 'sapwoodlaw06.MetaBack'. -/
def metaBackUptoCard : Claim7 := { stood := { row := metaBackUptoRow, standIns := [], harness := (true, "ff6571c9258cc5ae1a33e9450d62fd3a3d2abbbe87473920b80c14b5ab16f570"), looks := false }, kinds := [], alts := [], laidByText := true, laidKinds := [.data], laidTests := true, laidLooks := .later }
def MetaBackUptoCardSaid : Prop := Claim7.holds Tryd.pinned (.plain (OpenSpec.upto metaBackSpec)) metaBackUptoCard

/-- THE SECOND FORM's CARD OF 'sapwoodlaw06.MetaTorn'. -/
def metaTornUptoCard : Claim7 := { stood := { row := metaTornUptoRow, standIns := [], harness := (true, "ff6571c9258cc5ae1a33e9450d62fd3a3d2abbbe87473920b80c14b5ab16f570"), looks := false }, kinds := [], alts := [], laidByText := true, laidKinds := [.data], laidTests := true, laidLooks := .later }
def MetaTornUptoCardSaid : Prop := Claim7.holds Tryd.pinned (.plain (OpenSpec.upto metaTornSpec)) metaTornUptoCard

/-- THE SECOND FORM's CARD OF 'sapwoodlaw06.MetaAgain'. -/
def metaAgainUptoCard : Claim7 := { stood := { row := metaAgainUptoRow, standIns := [], harness := (true, "ff6571c9258cc5ae1a33e9450d62fd3a3d2abbbe87473920b80c14b5ab16f570"), looks := false }, kinds := [], alts := [], laidByText := true, laidKinds := [.data], laidTests := true, laidLooks := .later }
def MetaAgainUptoCardSaid : Prop := Claim7.holds Tryd.pinned (.plain (OpenSpec.upto metaAgainSpec)) metaAgainUptoCard

/-- THE SECOND FORM's CARD OF 'sapwoodlaw06.MetaTurned'. -/
def metaTurnedUptoCard : Claim7 := { stood := { row := metaTurnedUptoRow, standIns := [], harness := (true, "ff6571c9258cc5ae1a33e9450d62fd3a3d2abbbe87473920b80c14b5ab16f570"), looks := false }, kinds := [], alts := [], laidByText := true, laidKinds := [.data], laidTests := true, laidLooks := .later }
def MetaTurnedUptoCardSaid : Prop := Claim7.holds Tryd.pinned (.plain (OpenSpec.upto metaTurnedSpec)) metaTurnedUptoCard

/-- THE SECOND FORM's CARD OF 'sapwoodlaw06.MetaNext'. -/
def metaNextUptoCard : Claim7 := { stood := { row := metaNextUptoRow, standIns := [], harness := (true, "ff6571c9258cc5ae1a33e9450d62fd3a3d2abbbe87473920b80c14b5ab16f570"), looks := false }, kinds := [], alts := [], laidByText := true, laidKinds := [.data], laidTests := true, laidLooks := .later }
def MetaNextUptoCardSaid : Prop := Claim7.holds Tryd.pinned (.plain (OpenSpec.upto metaNextSpec)) metaNextUptoCard

/-- THE SECOND FORM's CARD OF 'sapwoodlaw06.MetaPair'. -/
def metaPairUptoCard : Claim7 := { stood := { row := metaPairUptoRow, standIns := [], harness := (true, "ff6571c9258cc5ae1a33e9450d62fd3a3d2abbbe87473920b80c14b5ab16f570"), looks := false }, kinds := [], alts := [], laidByText := true, laidKinds := [.data], laidTests := true, laidLooks := .later }
def MetaPairUptoCardSaid : Prop := Claim7.holds Tryd.pinned (.plain (OpenSpec.upto metaPairSpec)) metaPairUptoCard
end Rows
end Go.Proofs.YtcgmaiadipiegaaDoor
