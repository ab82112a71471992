/-
  DERIVED. GIVEN WITH THE SEED: THE CARDS: each row of YtagbkmoahflfdaaGreatDoorRows.lean that lists a variable, with what it lists TIED to the program's text (the seventh form; the later family's looks); each row that meets fmt, with fmt's text TOLD by the authors' own Lean function (tested against real Go, not proved from fmt's source: count such statements apart). THE CARD IS WHAT COUNTS. Prove the row's statement (the work); the ties are given (YtagbkmoahflfdaaGreatDoorTie.lean); close each card by the builder's one call (the guide's Derived/Test/ToyasCard.lean, 'card_holds'). Laid BY PROGRAM, IN A SANDBOX (cutbox-door.mjs). By AI agents, Wed Nov 11 2026. No macro, syntax, notation, axiom, sorry.
-/
import Derived.Test.YtagbkmoahflfdaaGreatDoorRows
import GoSem.ClaimSeven
namespace Go.Proofs.YtagbkmoahflfdaaGreatDoor
namespace Rows

/-- THE TIED CARD OF 'dominolaw09.SealBlocks'. -/
def sealBlocksCard : Claim7 := { stood := { row := sealBlocksRow, standIns := [], harness := (true, "6279a8d8c516472ea7415d62cddb09c7eb30d3f499e4fb8db7d97edfda63513e"), looks := false }, kinds := [], alts := [], laidByText := true, laidKinds := [.data], laidTests := true, laidLooks := .later }
def SealBlocksCardSaid : Prop := Claim7.holds Tryz.pinned (.plain (OpenSpec.ofChange sealBlocksSpec)) sealBlocksCard

/-- THE TIED CARD OF 'dominolaw09.SealOpens'. -/
def sealOpensCard : Claim7 := { stood := { row := sealOpensRow, standIns := [], harness := (true, "6279a8d8c516472ea7415d62cddb09c7eb30d3f499e4fb8db7d97edfda63513e"), looks := false }, kinds := [], alts := [], laidByText := true, laidKinds := [.data], laidTests := true, laidLooks := .later }
def SealOpensCardSaid : Prop := Claim7.holds Tryz.pinned (.plain (OpenSpec.ofChange sealOpensSpec)) sealOpensCard

/-- THE TIED CARD OF 'dominolaw09.SealTurns'. -/
def sealTurnsCard : Claim7 := { stood := { row := sealTurnsRow, standIns := [], harness := (true, "6279a8d8c516472ea7415d62cddb09c7eb30d3f499e4fb8db7d97edfda63513e"), looks := false }, kinds := [], alts := [], laidByText := true, laidKinds := [.data], laidTests := true, laidLooks := .later }
def SealTurnsCardSaid : Prop := Claim7.holds Tryz.pinned (.plain (OpenSpec.ofChange sealTurnsSpec)) sealTurnsCard

/-- THE TIED CARD OF 'dominolaw09.SealPackets'. -/
def sealPacketsCard : Claim7 := { stood := { row := sealPacketsRow, standIns := [], harness := (true, "6279a8d8c516472ea7415d62cddb09c7eb30d3f499e4fb8db7d97edfda63513e"), looks := false }, kinds := [], alts := [], laidByText := true, laidKinds := [.data], laidTests := true, laidLooks := .later }
def SealPacketsCardSaid : Prop := Claim7.holds Tryz.pinned (.plain (OpenSpec.ofChange sealPacketsSpec)) sealPacketsCard

/-- THE TIED CARD OF 'dominolaw09.SealLengths'. -/
def sealLengthsCard : Claim7 := { stood := { row := sealLengthsRow, standIns := [], harness := (true, "6279a8d8c516472ea7415d62cddb09c7eb30d3f499e4fb8db7d97edfda63513e"), looks := false }, kinds := [], alts := [], laidByText := true, laidKinds := [.data], laidTests := true, laidLooks := .later }
def SealLengthsCardSaid : Prop := Claim7.holds Tryz.pinned (.plain (OpenSpec.ofChange sealLengthsSpec)) sealLengthsCard

/-- THE TIED CARD OF 'dominolaw09.SealBegins'. -/
def sealBeginsCard : Claim7 := { stood := { row := sealBeginsRow, standIns := [], harness := (true, "6279a8d8c516472ea7415d62cddb09c7eb30d3f499e4fb8db7d97edfda63513e"), looks := false }, kinds := [], alts := [], laidByText := true, laidKinds := [.data], laidTests := true, laidLooks := .later }
def SealBeginsCardSaid : Prop := Claim7.holds Tryz.pinned (.plain (OpenSpec.ofChange sealBeginsSpec)) sealBeginsCard

/-- THE SECOND FORM's CARD OF 'dominolaw09.SealBlocks'. -/
def sealBlocksUptoCard : Claim7 := { stood := { row := sealBlocksUptoRow, standIns := [], harness := (true, "6279a8d8c516472ea7415d62cddb09c7eb30d3f499e4fb8db7d97edfda63513e"), looks := false }, kinds := [], alts := [], laidByText := true, laidKinds := [.data], laidTests := true, laidLooks := .later }
def SealBlocksUptoCardSaid : Prop := Claim7.holds Tryz.pinned (.plain (OpenSpec.upto sealBlocksSpec)) sealBlocksUptoCard

/-- THE SECOND FORM's CARD OF 'dominolaw09.SealOpens'. -/
def sealOpensUptoCard : Claim7 := { stood := { row := sealOpensUptoRow, standIns := [], harness := (true, "6279a8d8c516472ea7415d62cddb09c7eb30d3f499e4fb8db7d97edfda63513e"), looks := false }, kinds := [], alts := [], laidByText := true, laidKinds := [.data], laidTests := true, laidLooks := .later }
def SealOpensUptoCardSaid : Prop := Claim7.holds Tryz.pinned (.plain (OpenSpec.upto sealOpensSpec)) sealOpensUptoCard

/-- THE SECOND FORM's CARD OF 'dominolaw09.SealTurns'. -/
def sealTurnsUptoCard : Claim7 := { stood := { row := sealTurnsUptoRow, standIns := [], harness := (true, "6279a8d8c516472ea7415d62cddb09c7eb30d3f499e4fb8db7d97edfda63513e"), looks := false }, kinds := [], alts := [], laidByText := true, laidKinds := [.data], laidTests := true, laidLooks := .later }
def SealTurnsUptoCardSaid : Prop := Claim7.holds Tryz.pinned (.plain (OpenSpec.upto sealTurnsSpec)) sealTurnsUptoCard

/-- THE SECOND FORM's CARD OF 'dominolaw09.SealPackets'. -/
def sealPacketsUptoCard : Claim7 := { stood := { row := sealPacketsUptoRow, standIns := [], harness := (true, "6279a8d8c516472ea7415d62cddb09c7eb30d3f499e4fb8db7d97edfda63513e"), looks := false }, kinds := [], alts := [], laidByText := true, laidKinds := [.data], laidTests := true, laidLooks := .later }
def SealPacketsUptoCardSaid : Prop := Claim7.holds Tryz.pinned (.plain (OpenSpec.upto sealPacketsSpec)) sealPacketsUptoCard

/-- THE SECOND FORM's CARD OF 'dominolaw09.SealLengths'. -/
def sealLengthsUptoCard : Claim7 := { stood := { row := sealLengthsUptoRow, standIns := [], harness := (true, "6279a8d8c516472ea7415d62cddb09c7eb30d3f499e4fb8db7d97edfda63513e"), looks := false }, kinds := [], alts := [], laidByText := true, laidKinds := [.data], laidTests := true, laidLooks := .later }
def SealLengthsUptoCardSaid : Prop := Claim7.holds Tryz.pinned (.plain (OpenSpec.upto sealLengthsSpec)) sealLengthsUptoCard

/-- THE SECOND FORM's CARD OF 'dominolaw09.SealBegins'. -/
def sealBeginsUptoCard : Claim7 := { stood := { row := sealBeginsUptoRow, standIns := [], harness := (true, "6279a8d8c516472ea7415d62cddb09c7eb30d3f499e4fb8db7d97edfda63513e"), looks := false }, kinds := [], alts := [], laidByText := true, laidKinds := [.data], laidTests := true, laidLooks := .later }
def SealBeginsUptoCardSaid : Prop := Claim7.holds Tryz.pinned (.plain (OpenSpec.upto sealBeginsSpec)) sealBeginsUptoCard
end Rows
end Go.Proofs.YtagbkmoahflfdaaGreatDoor
