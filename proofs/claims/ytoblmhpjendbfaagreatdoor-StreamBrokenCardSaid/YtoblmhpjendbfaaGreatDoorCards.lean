/-
  DERIVED. GIVEN WITH THE SEED: THE CARDS: each row of YtoblmhpjendbfaaGreatDoorRows.lean that lists a variable, with what it lists TIED to the program's text (the seventh form; the later family's looks); each row that meets fmt, with fmt's text TOLD by the authors' own Lean function (tested against real Go, not proved from fmt's source: count such statements apart). THE CARD IS WHAT COUNTS. Prove the row's statement (the work); the ties are given (YtoblmhpjendbfaaGreatDoorTie.lean); close each card by the builder's one call (the guide's Derived/Test/ToyasCard.lean, 'card_holds'). Laid BY PROGRAM, IN A SANDBOX (cutbox-door.mjs). By AI agents, Wed Nov 11 2026. No macro, syntax, notation, axiom, sorry.
-/
import Derived.Test.YtoblmhpjendbfaaGreatDoorRows
import GoSem.ClaimSeven
namespace Go.Proofs.YtoblmhpjendbfaaGreatDoor
namespace Rows

/-- THE TIED CARD OF 'dominolaw16.StreamActs'. -/
def streamActsCard : Claim7 := { stood := { row := streamActsRow, standIns := [], harness := (true, "87849e835011395a033a284d6d5de01acda50d5fb667a1f92aa847e14dde2982"), looks := false }, kinds := [], alts := [], laidByText := true, laidKinds := [.data], laidTests := true, laidLooks := .later }
def StreamActsCardSaid : Prop := Claim7.holds Tryz.pinned (.plain (OpenSpec.ofChange streamActsSpec)) streamActsCard

/-- THE TIED CARD OF 'dominolaw16.StreamCredit'. -/
def streamCreditCard : Claim7 := { stood := { row := streamCreditRow, standIns := [], harness := (true, "87849e835011395a033a284d6d5de01acda50d5fb667a1f92aa847e14dde2982"), looks := false }, kinds := [], alts := [], laidByText := true, laidKinds := [.data], laidTests := true, laidLooks := .later }
def StreamCreditCardSaid : Prop := Claim7.holds Tryz.pinned (.plain (OpenSpec.ofChange streamCreditSpec)) streamCreditCard

/-- THE TIED CARD OF 'dominolaw16.StreamLimit'. -/
def streamLimitCard : Claim7 := { stood := { row := streamLimitRow, standIns := [], harness := (true, "87849e835011395a033a284d6d5de01acda50d5fb667a1f92aa847e14dde2982"), looks := false }, kinds := [], alts := [], laidByText := true, laidKinds := [.data], laidTests := true, laidLooks := .later }
def StreamLimitCardSaid : Prop := Claim7.holds Tryz.pinned (.plain (OpenSpec.ofChange streamLimitSpec)) streamLimitCard

/-- THE TIED CARD OF 'dominolaw16.StreamReset'. -/
def streamResetCard : Claim7 := { stood := { row := streamResetRow, standIns := [], harness := (true, "87849e835011395a033a284d6d5de01acda50d5fb667a1f92aa847e14dde2982"), looks := false }, kinds := [], alts := [], laidByText := true, laidKinds := [.data], laidTests := true, laidLooks := .later }
def StreamResetCardSaid : Prop := Claim7.holds Tryz.pinned (.plain (OpenSpec.ofChange streamResetSpec)) streamResetCard

/-- THE TIED CARD OF 'dominolaw16.StreamBroken'. -/
def streamBrokenCard : Claim7 := { stood := { row := streamBrokenRow, standIns := [], harness := (true, "87849e835011395a033a284d6d5de01acda50d5fb667a1f92aa847e14dde2982"), looks := false }, kinds := [], alts := [], laidByText := true, laidKinds := [.data], laidTests := true, laidLooks := .later }
def StreamBrokenCardSaid : Prop := Claim7.holds Tryz.pinned (.plain (OpenSpec.ofChange streamBrokenSpec)) streamBrokenCard

/-- THE SECOND FORM's CARD OF 'dominolaw16.StreamActs'. -/
def streamActsUptoCard : Claim7 := { stood := { row := streamActsUptoRow, standIns := [], harness := (true, "87849e835011395a033a284d6d5de01acda50d5fb667a1f92aa847e14dde2982"), looks := false }, kinds := [], alts := [], laidByText := true, laidKinds := [.data], laidTests := true, laidLooks := .later }
def StreamActsUptoCardSaid : Prop := Claim7.holds Tryz.pinned (.plain (OpenSpec.upto streamActsSpec)) streamActsUptoCard

/-- THE SECOND FORM's CARD OF 'dominolaw16.StreamCredit'. -/
def streamCreditUptoCard : Claim7 := { stood := { row := streamCreditUptoRow, standIns := [], harness := (true, "87849e835011395a033a284d6d5de01acda50d5fb667a1f92aa847e14dde2982"), looks := false }, kinds := [], alts := [], laidByText := true, laidKinds := [.data], laidTests := true, laidLooks := .later }
def StreamCreditUptoCardSaid : Prop := Claim7.holds Tryz.pinned (.plain (OpenSpec.upto streamCreditSpec)) streamCreditUptoCard

/-- THE SECOND FORM's CARD OF 'dominolaw16.StreamLimit'. -/
def streamLimitUptoCard : Claim7 := { stood := { row := streamLimitUptoRow, standIns := [], harness := (true, "87849e835011395a033a284d6d5de01acda50d5fb667a1f92aa847e14dde2982"), looks := false }, kinds := [], alts := [], laidByText := true, laidKinds := [.data], laidTests := true, laidLooks := .later }
def StreamLimitUptoCardSaid : Prop := Claim7.holds Tryz.pinned (.plain (OpenSpec.upto streamLimitSpec)) streamLimitUptoCard

/-- THE SECOND FORM's CARD OF 'dominolaw16.StreamReset'. -/
def streamResetUptoCard : Claim7 := { stood := { row := streamResetUptoRow, standIns := [], harness := (true, "87849e835011395a033a284d6d5de01acda50d5fb667a1f92aa847e14dde2982"), looks := false }, kinds := [], alts := [], laidByText := true, laidKinds := [.data], laidTests := true, laidLooks := .later }
def StreamResetUptoCardSaid : Prop := Claim7.holds Tryz.pinned (.plain (OpenSpec.upto streamResetSpec)) streamResetUptoCard

/-- THE SECOND FORM's CARD OF 'dominolaw16.StreamBroken'. -/
def streamBrokenUptoCard : Claim7 := { stood := { row := streamBrokenUptoRow, standIns := [], harness := (true, "87849e835011395a033a284d6d5de01acda50d5fb667a1f92aa847e14dde2982"), looks := false }, kinds := [], alts := [], laidByText := true, laidKinds := [.data], laidTests := true, laidLooks := .later }
def StreamBrokenUptoCardSaid : Prop := Claim7.holds Tryz.pinned (.plain (OpenSpec.upto streamBrokenSpec)) streamBrokenUptoCard
end Rows
end Go.Proofs.YtoblmhpjendbfaaGreatDoor
