/-
  DERIVED. GIVEN WITH THE SEED: THE CARDS: each row of YtabikljimndliaaDoorRows.lean that lists a variable, with what it lists TIED to the program's text (the seventh form; the later family's looks); each row that meets fmt, with fmt's text TOLD by the authors' own Lean function (tested against real Go, not proved from fmt's source: count such statements apart). THE CARD IS WHAT COUNTS. Prove the row's statement (the work); the ties are given (YtabikljimndliaaDoorTie.lean); close each card by the builder's one call (the guide's Derived/Test/ToyasCard.lean, 'card_holds'). Laid BY PROGRAM, IN A SANDBOX (cutbox-door.mjs). By AI agents, Wed Nov 11 2026. No macro, syntax, notation, axiom, sorry.
-/
import Derived.Test.YtabikljimndliaaDoorRows
import GoSem.ClaimSeven
namespace Go.Proofs.YtabikljimndliaaDoor
namespace Rows

/-- THE TIED CARD OF 'dominolaw04.HeaderTells'. -/
def headerTellsCard : Claim7 := { stood := { row := headerTellsRow, standIns := [], harness := (true, "683c42cc20984e00e9b680a629301d091062b9ba166a0b1b3153c48cfa8d99a4"), looks := false }, kinds := [], alts := [], laidByText := true, laidKinds := [.data], laidTests := true, laidLooks := .later }
def HeaderTellsCardSaid : Prop := Claim7.holds Tryd.pinned (.plain (OpenSpec.ofChange headerTellsSpec)) headerTellsCard

/-- THE TIED CARD OF 'dominolaw04.HeaderMasks'. -/
def headerMasksCard : Claim7 := { stood := { row := headerMasksRow, standIns := [], harness := (true, "683c42cc20984e00e9b680a629301d091062b9ba166a0b1b3153c48cfa8d99a4"), looks := false }, kinds := [], alts := [], laidByText := true, laidKinds := [.data], laidTests := true, laidLooks := .later }
def HeaderMasksCardSaid : Prop := Claim7.holds Tryd.pinned (.plain (OpenSpec.ofChange headerMasksSpec)) headerMasksCard

/-- THE SECOND FORM's CARD OF 'dominolaw04.HeaderTells'. -/
def headerTellsUptoCard : Claim7 := { stood := { row := headerTellsUptoRow, standIns := [], harness := (true, "683c42cc20984e00e9b680a629301d091062b9ba166a0b1b3153c48cfa8d99a4"), looks := false }, kinds := [], alts := [], laidByText := true, laidKinds := [.data], laidTests := true, laidLooks := .later }
def HeaderTellsUptoCardSaid : Prop := Claim7.holds Tryd.pinned (.plain (OpenSpec.upto headerTellsSpec)) headerTellsUptoCard

/-- THE SECOND FORM's CARD OF 'dominolaw04.HeaderMasks'. -/
def headerMasksUptoCard : Claim7 := { stood := { row := headerMasksUptoRow, standIns := [], harness := (true, "683c42cc20984e00e9b680a629301d091062b9ba166a0b1b3153c48cfa8d99a4"), looks := false }, kinds := [], alts := [], laidByText := true, laidKinds := [.data], laidTests := true, laidLooks := .later }
def HeaderMasksUptoCardSaid : Prop := Claim7.holds Tryd.pinned (.plain (OpenSpec.upto headerMasksSpec)) headerMasksUptoCard
end Rows
end Go.Proofs.YtabikljimndliaaDoor
