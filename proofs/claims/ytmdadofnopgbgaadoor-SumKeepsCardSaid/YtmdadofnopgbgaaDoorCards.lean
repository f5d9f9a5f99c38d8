/-
  DERIVED. GIVEN WITH THE SEED: THE CARDS: each row of YtmdadofnopgbgaaDoorRows.lean that lists a variable, with what it lists TIED to the program's text (the seventh form; the later family's looks); each row that meets fmt, with fmt's text TOLD by the authors' own Lean function (tested against real Go, not proved from fmt's source: count such statements apart). THE CARD IS WHAT COUNTS. Prove the row's statement (the work); the ties are given (YtmdadofnopgbgaaDoorTie.lean); close each card by the builder's one call (the guide's Derived/Test/ToyasCard.lean, 'card_holds'). Laid BY PROGRAM, IN A SANDBOX (cutbox-door.mjs). By AI agents, Wed Nov 11 2026. No macro, syntax, notation, axiom, sorry.
-/
import Derived.Test.YtmdadofnopgbgaaDoorRows
import GoSem.ClaimSeven
namespace Go.Proofs.YtmdadofnopgbgaaDoor
namespace Rows

/-- THE TIED CARD OF 'sapwoodlaw02.SumChecks'. -/
def sumChecksCard : Claim7 := { stood := { row := sumChecksRow, standIns := [], harness := (true, "d16a18b312e7b072c3f036a8e61b2d0280fd23f419d00274463700ddae1bba83"), looks := false }, kinds := [], alts := [], laidByText := true, laidKinds := [.data], laidTests := true, laidLooks := .later }
def SumChecksCardSaid : Prop := Claim7.holds Tryd.pinned (.plain (OpenSpec.ofChange sumChecksSpec)) sumChecksCard

/-- THE TIED CARD OF 'sapwoodlaw02.SumBack'. -/
def sumBackCard : Claim7 := { stood := { row := sumBackRow, standIns := [], harness := (true, "d16a18b312e7b072c3f036a8e61b2d0280fd23f419d00274463700ddae1bba83"), looks := false }, kinds := [], alts := [], laidByText := true, laidKinds := [.data], laidTests := true, laidLooks := .later }
def SumBackCardSaid : Prop := Claim7.holds Tryd.pinned (.plain (OpenSpec.ofChange sumBackSpec)) sumBackCard

/-- THE TIED CARD OF 'sapwoodlaw02.SumTurned'. -/
def sumTurnedCard : Claim7 := { stood := { row := sumTurnedRow, standIns := [], harness := (true, "d16a18b312e7b072c3f036a8e61b2d0280fd23f419d00274463700ddae1bba83"), looks := false }, kinds := [], alts := [], laidByText := true, laidKinds := [.data], laidTests := true, laidLooks := .later }
def SumTurnedCardSaid : Prop := Claim7.holds Tryd.pinned (.plain (OpenSpec.ofChange sumTurnedSpec)) sumTurnedCard

/-- THE TIED CARD OF 'sapwoodlaw02.SumLinear'. -/
def sumLinearCard : Claim7 := { stood := { row := sumLinearRow, standIns := [], harness := (true, "d16a18b312e7b072c3f036a8e61b2d0280fd23f419d00274463700ddae1bba83"), looks := false }, kinds := [], alts := [], laidByText := true, laidKinds := [.data], laidTests := true, laidLooks := .later }
def SumLinearCardSaid : Prop := Claim7.holds Tryd.pinned (.plain (OpenSpec.ofChange sumLinearSpec)) sumLinearCard

/-- THE TIED CARD OF 'sapwoodlaw02.SumKeeps'. -/
def sumKeepsCard : Claim7 := { stood := { row := sumKeepsRow, standIns := [], harness := (true, "d16a18b312e7b072c3f036a8e61b2d0280fd23f419d00274463700ddae1bba83"), looks := false }, kinds := [], alts := [], laidByText := true, laidKinds := [.data], laidTests := true, laidLooks := .later }
def SumKeepsCardSaid : Prop := Claim7.holds Tryd.pinned (.plain (OpenSpec.ofChange sumKeepsSpec)) sumKeepsCard

/-- THE TIED CARD OF 'sapwoodlaw02.SumLonger'. -/
def sumLongerCard : Claim7 := { stood := { row := sumLongerRow, standIns := [], harness := (true, "d16a18b312e7b072c3f036a8e61b2d0280fd23f419d00274463700ddae1bba83"), looks := false }, kinds := [], alts := [], laidByText := true, laidKinds := [.data], laidTests := true, laidLooks := .later }
def SumLongerCardSaid : Prop := Claim7.holds Tryd.pinned (.plain (OpenSpec.ofChange sumLongerSpec)) sumLongerCard

/-- THE SECOND FORM's CARD OF 'sapwoodlaw02.SumChecks'. -/
def sumChecksUptoCard : Claim7 := { stood := { row := sumChecksUptoRow, standIns := [], harness := (true, "d16a18b312e7b072c3f036a8e61b2d0280fd23f419d00274463700ddae1bba83"), looks := false }, kinds := [], alts := [], laidByText := true, laidKinds := [.data], laidTests := true, laidLooks := .later }
def SumChecksUptoCardSaid : Prop := Claim7.holds Tryd.pinned (.plain (OpenSpec.upto sumChecksSpec)) sumChecksUptoCard

/-- THE SECOND FORM's CARD OF 'sapwoodlaw02.SumBack'. -/
def sumBackUptoCard : Claim7 := { stood := { row := sumBackUptoRow, standIns := [], harness := (true, "d16a18b312e7b072c3f036a8e61b2d0280fd23f419d00274463700ddae1bba83"), looks := false }, kinds := [], alts := [], laidByText := true, laidKinds := [.data], laidTests := true, laidLooks := .later }
def SumBackUptoCardSaid : Prop := Claim7.holds Tryd.pinned (.plain (OpenSpec.upto sumBackSpec)) sumBackUptoCard

/-- THE SECOND FORM's CARD OF 'sapwoodlaw02.SumTurned'. -/
def sumTurnedUptoCard : Claim7 := { stood := { row := sumTurnedUptoRow, standIns := [], harness := (true, "d16a18b312e7b072c3f036a8e61b2d0280fd23f419d00274463700ddae1bba83"), looks := false }, kinds := [], alts := [], laidByText := true, laidKinds := [.data], laidTests := true, laidLooks := .later }
def SumTurnedUptoCardSaid : Prop := Claim7.holds Tryd.pinned (.plain (OpenSpec.upto sumTurnedSpec)) sumTurnedUptoCard

/-- THE SECOND FORM's CARD OF 'sapwoodlaw02.SumLinear'. -/
def sumLinearUptoCard : Claim7 := { stood := { row := sumLinearUptoRow, standIns := [], harness := (true, "d16a18b312e7b072c3f036a8e61b2d0280fd23f419d00274463700ddae1bba83"), looks := false }, kinds := [], alts := [], laidByText := true, laidKinds := [.data], laidTests := true, laidLooks := .later }
def SumLinearUptoCardSaid : Prop := Claim7.holds Tryd.pinned (.plain (OpenSpec.upto sumLinearSpec)) sumLinearUptoCard

/-- THE SECOND FORM's CARD OF 'sapwoodlaw02.SumKeeps'. -/
def sumKeepsUptoCard : Claim7 := { stood := { row := sumKeepsUptoRow, standIns := [], harness := (true, "d16a18b312e7b072c3f036a8e61b2d0280fd23f419d00274463700ddae1bba83"), looks := false }, kinds := [], alts := [], laidByText := true, laidKinds := [.data], laidTests := true, laidLooks := .later }
def SumKeepsUptoCardSaid : Prop := Claim7.holds Tryd.pinned (.plain (OpenSpec.upto sumKeepsSpec)) sumKeepsUptoCard

/-- THE SECOND FORM's CARD OF 'sapwoodlaw02.SumLonger'. -/
def sumLongerUptoCard : Claim7 := { stood := { row := sumLongerUptoRow, standIns := [], harness := (true, "d16a18b312e7b072c3f036a8e61b2d0280fd23f419d00274463700ddae1bba83"), looks := false }, kinds := [], alts := [], laidByText := true, laidKinds := [.data], laidTests := true, laidLooks := .later }
def SumLongerUptoCardSaid : Prop := Claim7.holds Tryd.pinned (.plain (OpenSpec.upto sumLongerSpec)) sumLongerUptoCard
end Rows
end Go.Proofs.YtmdadofnopgbgaaDoor
