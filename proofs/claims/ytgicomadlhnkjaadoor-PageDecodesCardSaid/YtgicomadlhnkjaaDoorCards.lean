/-
  DERIVED. GIVEN WITH THE SEED: THE CARDS: each row of YtgicomadlhnkjaaDoorRows.lean that lists a variable, with what it lists TIED to the program's text (the seventh form; the later family's looks); each row that meets fmt, with fmt's text TOLD by the authors' own Lean function (tested against real Go, not proved from fmt's source: count such statements apart). THE CARD IS WHAT COUNTS. Prove the row's statement (the work); the ties are given (YtgicomadlhnkjaaDoorTie.lean); close each card by the builder's one call (the guide's Derived/Test/ToyasCard.lean, 'card_holds'). Laid BY PROGRAM, IN A SANDBOX (cutbox-door.mjs). By AI agents, Wed Nov 11 2026. No macro, syntax, notation, axiom, sorry.
-/
import Derived.Test.YtgicomadlhnkjaaDoorRows
import GoSem.ClaimSeven
namespace Go.Proofs.YtgicomadlhnkjaaDoor
namespace Rows

/-- THE TIED CARD OF 'sapwoodlaw04.PageRights'. -/
def pageRightsCard : Claim7 := { stood := { row := pageRightsRow, standIns := [], harness := (true, "4e616fa6175ec80d00b51e5fb52bf1d6326841f81c3ae43d4e7153953247007d"), looks := false }, kinds := [], alts := [], laidByText := true, laidKinds := [.data], laidTests := true, laidLooks := .later }
def PageRightsCardSaid : Prop := Claim7.holds Tryd.pinned (.plain (OpenSpec.ofChange pageRightsSpec)) pageRightsCard

/-- THE TIED CARD OF 'sapwoodlaw04.PageDecodes'. -/
def pageDecodesCard : Claim7 := { stood := { row := pageDecodesRow, standIns := [], harness := (true, "4e616fa6175ec80d00b51e5fb52bf1d6326841f81c3ae43d4e7153953247007d"), looks := false }, kinds := [], alts := [], laidByText := true, laidKinds := [.data], laidTests := true, laidLooks := .later }
def PageDecodesCardSaid : Prop := Claim7.holds Tryd.pinned (.plain (OpenSpec.ofChange pageDecodesSpec)) pageDecodesCard

/-- THE TIED CARD OF 'sapwoodlaw04.PageBack'. -/
def pageBackCard : Claim7 := { stood := { row := pageBackRow, standIns := [], harness := (true, "4e616fa6175ec80d00b51e5fb52bf1d6326841f81c3ae43d4e7153953247007d"), looks := false }, kinds := [], alts := [], laidByText := true, laidKinds := [.data], laidTests := true, laidLooks := .later }
def PageBackCardSaid : Prop := Claim7.holds Tryd.pinned (.plain (OpenSpec.ofChange pageBackSpec)) pageBackCard

/-- THE TIED CARD OF 'sapwoodlaw04.PageOne'. -/
def pageOneCard : Claim7 := { stood := { row := pageOneRow, standIns := [], harness := (true, "4e616fa6175ec80d00b51e5fb52bf1d6326841f81c3ae43d4e7153953247007d"), looks := false }, kinds := [], alts := [], laidByText := true, laidKinds := [.data], laidTests := true, laidLooks := .later }
def PageOneCardSaid : Prop := Claim7.holds Tryd.pinned (.plain (OpenSpec.ofChange pageOneSpec)) pageOneCard

/-- THE TIED CARD OF 'sapwoodlaw04.PageTurned'. -/
def pageTurnedCard : Claim7 := { stood := { row := pageTurnedRow, standIns := [], harness := (true, "4e616fa6175ec80d00b51e5fb52bf1d6326841f81c3ae43d4e7153953247007d"), looks := false }, kinds := [], alts := [], laidByText := true, laidKinds := [.data], laidTests := true, laidLooks := .later }
def PageTurnedCardSaid : Prop := Claim7.holds Tryd.pinned (.plain (OpenSpec.ofChange pageTurnedSpec)) pageTurnedCard

/-- THE TIED CARD OF 'sapwoodlaw04.PageKinds'. -/
def pageKindsCard : Claim7 := { stood := { row := pageKindsRow, standIns := [], harness := (true, "4e616fa6175ec80d00b51e5fb52bf1d6326841f81c3ae43d4e7153953247007d"), looks := false }, kinds := [], alts := [], laidByText := true, laidKinds := [.data], laidTests := true, laidLooks := .later }
def PageKindsCardSaid : Prop := Claim7.holds Tryd.pinned (.plain (OpenSpec.ofChange pageKindsSpec)) pageKindsCard

/-- THE SECOND FORM's CARD OF 'sapwoodlaw04.PageRights'. -/
def pageRightsUptoCard : Claim7 := { stood := { row := pageRightsUptoRow, standIns := [], harness := (true, "4e616fa6175ec80d00b51e5fb52bf1d6326841f81c3ae43d4e7153953247007d"), looks := false }, kinds := [], alts := [], laidByText := true, laidKinds := [.data], laidTests := true, laidLooks := .later }
def PageRightsUptoCardSaid : Prop := Claim7.holds Tryd.pinned (.plain (OpenSpec.upto pageRightsSpec)) pageRightsUptoCard

/-- THE SECOND FORM's CARD OF 'sapwoodlaw04.PageDecodes'. -/
def pageDecodesUptoCard : Claim7 := { stood := { row := pageDecodesUptoRow, standIns := [], harness := (true, "4e616fa6175ec80d00b51e5fb52bf1d6326841f81c3ae43d4e7153953247007d"), looks := false }, kinds := [], alts := [], laidByText := true, laidKinds := [.data], laidTests := true, laidLooks := .later }
def PageDecodesUptoCardSaid : Prop := Claim7.holds Tryd.pinned (.plain (OpenSpec.upto pageDecodesSpec)) pageDecodesUptoCard

/-- THE SECOND FORM's CARD OF 'sapwoodlaw04.PageBack'. -/
def pageBackUptoCard : Claim7 := { stood := { row := pageBackUptoRow, standIns := [], harness := (true, "4e616fa6175ec80d00b51e5fb52bf1d6326841f81c3ae43d4e7153953247007d"), looks := false }, kinds := [], alts := [], laidByText := true, laidKinds := [.data], laidTests := true, laidLooks := .later }
def PageBackUptoCardSaid : Prop := Claim7.holds Tryd.pinned (.plain (OpenSpec.upto pageBackSpec)) pageBackUptoCard

/-- THE SECOND FORM's CARD OF 'sapwoodlaw04.PageOne'. -/
def pageOneUptoCard : Claim7 := { stood := { row := pageOneUptoRow, standIns := [], harness := (true, "4e616fa6175ec80d00b51e5fb52bf1d6326841f81c3ae43d4e7153953247007d"), looks := false }, kinds := [], alts := [], laidByText := true, laidKinds := [.data], laidTests := true, laidLooks := .later }
def PageOneUptoCardSaid : Prop := Claim7.holds Tryd.pinned (.plain (OpenSpec.upto pageOneSpec)) pageOneUptoCard

/-- THE SECOND FORM's CARD OF 'sapwoodlaw04.PageTurned'. -/
def pageTurnedUptoCard : Claim7 := { stood := { row := pageTurnedUptoRow, standIns := [], harness := (true, "4e616fa6175ec80d00b51e5fb52bf1d6326841f81c3ae43d4e7153953247007d"), looks := false }, kinds := [], alts := [], laidByText := true, laidKinds := [.data], laidTests := true, laidLooks := .later }
def PageTurnedUptoCardSaid : Prop := Claim7.holds Tryd.pinned (.plain (OpenSpec.upto pageTurnedSpec)) pageTurnedUptoCard

/-- THE SECOND FORM's CARD OF 'sapwoodlaw04.PageKinds'. -/
def pageKindsUptoCard : Claim7 := { stood := { row := pageKindsUptoRow, standIns := [], harness := (true, "4e616fa6175ec80d00b51e5fb52bf1d6326841f81c3ae43d4e7153953247007d"), looks := false }, kinds := [], alts := [], laidByText := true, laidKinds := [.data], laidTests := true, laidLooks := .later }
def PageKindsUptoCardSaid : Prop := Claim7.holds Tryd.pinned (.plain (OpenSpec.upto pageKindsSpec)) pageKindsUptoCard
end Rows
end Go.Proofs.YtgicomadlhnkjaaDoor
