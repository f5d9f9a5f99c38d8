/-
  DERIVED. GIVEN WITH THE SEED: THE CARDS: each row of YtelenboncejdaaaGreatDoorRows.lean that lists a variable, with what it lists TIED to the program's text (the seventh form; the later family's looks); each row that meets fmt, with fmt's text TOLD by the authors' own Lean function (tested against real Go, not proved from fmt's source: count such statements apart). THE CARD IS WHAT COUNTS. Prove the row's statement (the work); the ties are given (YtelenboncejdaaaGreatDoorTie.lean); close each card by the builder's one call (the guide's Derived/Test/ToyasCard.lean, 'card_holds'). Laid BY PROGRAM, IN A SANDBOX (cutbox-door.mjs). By AI agents, Wed Nov 11 2026. No macro, syntax, notation, axiom, sorry.
-/
import Derived.Test.YtelenboncejdaaaGreatDoorRows
import GoSem.ClaimSeven
namespace Go.Proofs.YtelenboncejdaaaGreatDoor
namespace Rows

/-- THE TIED CARD OF 'sapwoodlaw15.LoadBack'. -/
def loadBackCard : Claim7 := { stood := { row := loadBackRow, standIns := [], harness := (true, "834f3212cc0299adbaa9d4d9daa7d4728c309c0cf5ee58ceb704e4a98d21dc95"), looks := true }, kinds := [], alts := [], laidByText := true, laidKinds := [.data], laidTests := true, laidLooks := .later }
def LoadBackCardSaid : Prop := Claim7.holds Tryz.pinned (.plain (OpenSpec.ofChange loadBackSpec)) loadBackCard

/-- THE TIED CARD OF 'sapwoodlaw15.LoadTurned'. -/
def loadTurnedCard : Claim7 := { stood := { row := loadTurnedRow, standIns := [], harness := (true, "834f3212cc0299adbaa9d4d9daa7d4728c309c0cf5ee58ceb704e4a98d21dc95"), looks := true }, kinds := [], alts := [], laidByText := true, laidKinds := [.data], laidTests := true, laidLooks := .later }
def LoadTurnedCardSaid : Prop := Claim7.holds Tryz.pinned (.plain (OpenSpec.ofChange loadTurnedSpec)) loadTurnedCard

/-- THE TIED CARD OF 'sapwoodlaw15.LoadTwice'. -/
def loadTwiceCard : Claim7 := { stood := { row := loadTwiceRow, standIns := [], harness := (true, "834f3212cc0299adbaa9d4d9daa7d4728c309c0cf5ee58ceb704e4a98d21dc95"), looks := true }, kinds := [], alts := [], laidByText := true, laidKinds := [.data], laidTests := true, laidLooks := .later }
def LoadTwiceCardSaid : Prop := Claim7.holds Tryz.pinned (.plain (OpenSpec.ofChange loadTwiceSpec)) loadTwiceCard

/-- THE TIED CARD OF 'sapwoodlaw14.ShadowPlans'. -/
def shadowPlansCard : Claim7 := { stood := { row := shadowPlansRow, standIns := [], harness := (true, "834f3212cc0299adbaa9d4d9daa7d4728c309c0cf5ee58ceb704e4a98d21dc95"), looks := true }, kinds := [], alts := [], laidByText := true, laidKinds := [.data], laidTests := true, laidLooks := .later }
def ShadowPlansCardSaid : Prop := Claim7.holds Tryz.pinned (.plain (OpenSpec.ofChange shadowPlansSpec)) shadowPlansCard

/-- THE TIED CARD OF 'sapwoodlaw14.ShadowPages'. -/
def shadowPagesCard : Claim7 := { stood := { row := shadowPagesRow, standIns := [], harness := (true, "834f3212cc0299adbaa9d4d9daa7d4728c309c0cf5ee58ceb704e4a98d21dc95"), looks := true }, kinds := [], alts := [], laidByText := true, laidKinds := [.data], laidTests := true, laidLooks := .later }
def ShadowPagesCardSaid : Prop := Claim7.holds Tryz.pinned (.plain (OpenSpec.ofChange shadowPagesSpec)) shadowPagesCard

/-- THE SECOND FORM's CARD OF 'sapwoodlaw15.LoadBack'. -/
def loadBackUptoCard : Claim7 := { stood := { row := loadBackUptoRow, standIns := [], harness := (true, "834f3212cc0299adbaa9d4d9daa7d4728c309c0cf5ee58ceb704e4a98d21dc95"), looks := true }, kinds := [], alts := [], laidByText := true, laidKinds := [.data], laidTests := true, laidLooks := .later }
def LoadBackUptoCardSaid : Prop := Claim7.holds Tryz.pinned (.plain (OpenSpec.upto loadBackSpec)) loadBackUptoCard

/-- THE SECOND FORM's CARD OF 'sapwoodlaw15.LoadTurned'. -/
def loadTurnedUptoCard : Claim7 := { stood := { row := loadTurnedUptoRow, standIns := [], harness := (true, "834f3212cc0299adbaa9d4d9daa7d4728c309c0cf5ee58ceb704e4a98d21dc95"), looks := true }, kinds := [], alts := [], laidByText := true, laidKinds := [.data], laidTests := true, laidLooks := .later }
def LoadTurnedUptoCardSaid : Prop := Claim7.holds Tryz.pinned (.plain (OpenSpec.upto loadTurnedSpec)) loadTurnedUptoCard

/-- THE SECOND FORM's CARD OF 'sapwoodlaw15.LoadTwice'. -/
def loadTwiceUptoCard : Claim7 := { stood := { row := loadTwiceUptoRow, standIns := [], harness := (true, "834f3212cc0299adbaa9d4d9daa7d4728c309c0cf5ee58ceb704e4a98d21dc95"), looks := true }, kinds := [], alts := [], laidByText := true, laidKinds := [.data], laidTests := true, laidLooks := .later }
def LoadTwiceUptoCardSaid : Prop := Claim7.holds Tryz.pinned (.plain (OpenSpec.upto loadTwiceSpec)) loadTwiceUptoCard

/-- THE SECOND FORM's CARD OF 'sapwoodlaw14.ShadowPlans'. -/
def shadowPlansUptoCard : Claim7 := { stood := { row := shadowPlansUptoRow, standIns := [], harness := (true, "834f3212cc0299adbaa9d4d9daa7d4728c309c0cf5ee58ceb704e4a98d21dc95"), looks := true }, kinds := [], alts := [], laidByText := true, laidKinds := [.data], laidTests := true, laidLooks := .later }
def ShadowPlansUptoCardSaid : Prop := Claim7.holds Tryz.pinned (.plain (OpenSpec.upto shadowPlansSpec)) shadowPlansUptoCard

/-- THE SECOND FORM's CARD OF 'sapwoodlaw14.ShadowPages'. -/
def shadowPagesUptoCard : Claim7 := { stood := { row := shadowPagesUptoRow, standIns := [], harness := (true, "834f3212cc0299adbaa9d4d9daa7d4728c309c0cf5ee58ceb704e4a98d21dc95"), looks := true }, kinds := [], alts := [], laidByText := true, laidKinds := [.data], laidTests := true, laidLooks := .later }
def ShadowPagesUptoCardSaid : Prop := Claim7.holds Tryz.pinned (.plain (OpenSpec.upto shadowPagesSpec)) shadowPagesUptoCard
end Rows
end Go.Proofs.YtelenboncejdaaaGreatDoor
