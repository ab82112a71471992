/-
  NARROWER THAN 'FOR EVERY INPUT', by the rows' own cells (each row's printed sentence says how): SealBlocks: laid · SealOpens: laid · SealTurns: laid · SealPackets: laid · SealLengths: laid · SealBegins: laid.
  DERIVED. THE GIVEN ROWS OF THIS SEAT. 6 by the template 'for every input the law returns true; each argument reads behind the call as it read before'; 0 by the template 'total and deterministic' (their statements: YtagbkmoahflfdaaGreatDoorTotals.lean).
  GIVEN WITH THE SEED: the statements are not yours to turn. If you find one false, say at which input.
  Laid BY PROGRAM, IN A SANDBOX (cutbox-rows.mjs): the forced cells as the released guide's own fill.sh prints them over the translation 3cbbc44f003ca87e… (all of the seat's roots in one cut). By AI agents, Wed Nov 11 2026. No macro, syntax, notation, axiom, sorry.
-/
import Derived.Test.YtagbkmoahflfdaaGreatDoorChecked
import GoSem.Claim
import GoSem.ClaimJoined
import GoSem.ClaimMapViews
import Derived.JoinedTies
import Derived.KernelRfl
namespace Go.Proofs.YtagbkmoahflfdaaGreatDoor
/- THE CELL 'sum', in the pinned program and in every row, IS THE sha256 OF THE DUMP (.gsa) THAT YtagbkmoahflfdaaGreatDoorProg.lean LOADS. Nothing in Lean hashes anything: it is a label: what it is worth is what the hold of that sum in a sandbox is worth. -/
noncomputable def Tryz.pinned : Pinned := { name := "ytagbkmoahflfdaagreatdoor", sum := "3cbbc44f003ca87ea62fcf58cc51b9e52181b2be550f906519acc49f5ea565ac", checked := Tryz.checked }
namespace Rows
def none {H : Type} : Left H := { results := [], args := [] }

/- WHAT THE LISTED PACKAGE-LEVEL VARIABLES READ AS WHEN THE CALL BEGINS. Each datum BY PROGRAM (the guide's laid-datum.mjs) off the statement by which the dump's own 'gosem.cut.vars' lays the variable. In a bare row this is a premise. The card (YtagbkmoahflfdaaGreatDoorCards.lean) ties it to the program's text. -/
def laid_domino_varint_lengths {H : Type} : DataW H := .agg [.lit (.int .i64 1), .lit (.int .i64 2), .lit (.int .i64 4), .lit (.int .i64 8)]

/-- 'dominolaw09.SealBlocks': WHATEVER THE INPUT: true; the input reads as it did. -/
def sealBlocksSpec : ChangeSpec := { name := "sealBlocks", fn := fun _ => fun
  | [d1, d2, d3, d4] => { results := [.lit (.bool true)], args := [d1, d2, d3, d4] }
  | _ => none }
def sealBlocksRow : OpenClaim := { program := "ytagbkmoahflfdaagreatdoor", sum := "3cbbc44f003ca87ea62fcf58cc51b9e52181b2be550f906519acc49f5ea565ac", func := "domino/dominolaw09.SealBlocks", spec := "sealBlocks", inPlace := ["internal/abi.NoEscape", "internal/bytealg.MakeNoZero"], unfollowed := true, recurses := true, named := ["domino/varint.lengths"], apart := false, laid := [("domino/varint.lengths", laid_domino_varint_lengths)] }
def SealBlocksSaid : Prop := sealBlocksRow.holds Tryz.pinned (OpenSpec.ofChange sealBlocksSpec)

/-- ITS FALSE NEIGHBOUR: 'it returns false'. Refute it at one input. -/
def sealBlocksWrong : ChangeSpec := { name := "sealBlocks", fn := fun _ => fun
  | [d1, d2, d3, d4] => { results := [.lit (.bool false)], args := [d1, d2, d3, d4] }
  | _ => none }
def SealBlocksWrongFalsely : Prop := sealBlocksRow.holds Tryz.pinned (OpenSpec.ofChange sealBlocksWrong)

/-- 'dominolaw09.SealOpens': WHATEVER THE INPUT: true; the input reads as it did. -/
def sealOpensSpec : ChangeSpec := { name := "sealOpens", fn := fun _ => fun
  | [d1, d2, d3, d4, d5] => { results := [.lit (.bool true)], args := [d1, d2, d3, d4, d5] }
  | _ => none }
def sealOpensRow : OpenClaim := { program := "ytagbkmoahflfdaagreatdoor", sum := "3cbbc44f003ca87ea62fcf58cc51b9e52181b2be550f906519acc49f5ea565ac", func := "domino/dominolaw09.SealOpens", spec := "sealOpens", inPlace := ["internal/abi.NoEscape", "internal/bytealg.MakeNoZero"], unfollowed := true, recurses := true, named := ["domino/varint.lengths"], apart := false, laid := [("domino/varint.lengths", laid_domino_varint_lengths)] }
def SealOpensSaid : Prop := sealOpensRow.holds Tryz.pinned (OpenSpec.ofChange sealOpensSpec)

/-- ITS FALSE NEIGHBOUR: 'it returns false'. Refute it at one input. -/
def sealOpensWrong : ChangeSpec := { name := "sealOpens", fn := fun _ => fun
  | [d1, d2, d3, d4, d5] => { results := [.lit (.bool false)], args := [d1, d2, d3, d4, d5] }
  | _ => none }
def SealOpensWrongFalsely : Prop := sealOpensRow.holds Tryz.pinned (OpenSpec.ofChange sealOpensWrong)

/-- 'dominolaw09.SealTurns': WHATEVER THE INPUT: true; the input reads as it did. -/
def sealTurnsSpec : ChangeSpec := { name := "sealTurns", fn := fun _ => fun
  | [d1, d2] => { results := [.lit (.bool true)], args := [d1, d2] }
  | _ => none }
def sealTurnsRow : OpenClaim := { program := "ytagbkmoahflfdaagreatdoor", sum := "3cbbc44f003ca87ea62fcf58cc51b9e52181b2be550f906519acc49f5ea565ac", func := "domino/dominolaw09.SealTurns", spec := "sealTurns", inPlace := ["internal/abi.NoEscape", "internal/bytealg.MakeNoZero"], unfollowed := true, recurses := true, named := ["domino/varint.lengths"], apart := false, laid := [("domino/varint.lengths", laid_domino_varint_lengths)] }
def SealTurnsSaid : Prop := sealTurnsRow.holds Tryz.pinned (OpenSpec.ofChange sealTurnsSpec)

/-- ITS FALSE NEIGHBOUR: 'it returns false'. Refute it at one input. -/
def sealTurnsWrong : ChangeSpec := { name := "sealTurns", fn := fun _ => fun
  | [d1, d2] => { results := [.lit (.bool false)], args := [d1, d2] }
  | _ => none }
def SealTurnsWrongFalsely : Prop := sealTurnsRow.holds Tryz.pinned (OpenSpec.ofChange sealTurnsWrong)

/-- 'dominolaw09.SealPackets': WHATEVER THE INPUT: true; the input reads as it did. -/
def sealPacketsSpec : ChangeSpec := { name := "sealPackets", fn := fun _ => fun
  | [d1, d2, d3, d4, d5, d6, d7, d8] => { results := [.lit (.bool true)], args := [d1, d2, d3, d4, d5, d6, d7, d8] }
  | _ => none }
def sealPacketsRow : OpenClaim := { program := "ytagbkmoahflfdaagreatdoor", sum := "3cbbc44f003ca87ea62fcf58cc51b9e52181b2be550f906519acc49f5ea565ac", func := "domino/dominolaw09.SealPackets", spec := "sealPackets", inPlace := ["internal/abi.NoEscape", "internal/bytealg.MakeNoZero"], unfollowed := true, recurses := true, named := ["domino/varint.lengths"], apart := false, laid := [("domino/varint.lengths", laid_domino_varint_lengths)] }
def SealPacketsSaid : Prop := sealPacketsRow.holds Tryz.pinned (OpenSpec.ofChange sealPacketsSpec)

/-- ITS FALSE NEIGHBOUR: 'it returns false'. Refute it at one input. -/
def sealPacketsWrong : ChangeSpec := { name := "sealPackets", fn := fun _ => fun
  | [d1, d2, d3, d4, d5, d6, d7, d8] => { results := [.lit (.bool false)], args := [d1, d2, d3, d4, d5, d6, d7, d8] }
  | _ => none }
def SealPacketsWrongFalsely : Prop := sealPacketsRow.holds Tryz.pinned (OpenSpec.ofChange sealPacketsWrong)

/-- 'dominolaw09.SealLengths': WHATEVER THE INPUT: true; the input reads as it did. -/
def sealLengthsSpec : ChangeSpec := { name := "sealLengths", fn := fun _ => fun
  | [d1, d2, d3, d4] => { results := [.lit (.bool true)], args := [d1, d2, d3, d4] }
  | _ => none }
def sealLengthsRow : OpenClaim := { program := "ytagbkmoahflfdaagreatdoor", sum := "3cbbc44f003ca87ea62fcf58cc51b9e52181b2be550f906519acc49f5ea565ac", func := "domino/dominolaw09.SealLengths", spec := "sealLengths", inPlace := ["internal/abi.NoEscape", "internal/bytealg.MakeNoZero"], unfollowed := true, recurses := true, named := ["domino/varint.lengths"], apart := false, laid := [("domino/varint.lengths", laid_domino_varint_lengths)] }
def SealLengthsSaid : Prop := sealLengthsRow.holds Tryz.pinned (OpenSpec.ofChange sealLengthsSpec)

/-- ITS FALSE NEIGHBOUR: 'it returns false'. Refute it at one input. -/
def sealLengthsWrong : ChangeSpec := { name := "sealLengths", fn := fun _ => fun
  | [d1, d2, d3, d4] => { results := [.lit (.bool false)], args := [d1, d2, d3, d4] }
  | _ => none }
def SealLengthsWrongFalsely : Prop := sealLengthsRow.holds Tryz.pinned (OpenSpec.ofChange sealLengthsWrong)

/-- 'dominolaw09.SealBegins': WHATEVER THE INPUT: true; the input reads as it did. -/
def sealBeginsSpec : ChangeSpec := { name := "sealBegins", fn := fun _ => fun
  | [d1, d2, d3, d4, d5] => { results := [.lit (.bool true)], args := [d1, d2, d3, d4, d5] }
  | _ => none }
def sealBeginsRow : OpenClaim := { program := "ytagbkmoahflfdaagreatdoor", sum := "3cbbc44f003ca87ea62fcf58cc51b9e52181b2be550f906519acc49f5ea565ac", func := "domino/dominolaw09.SealBegins", spec := "sealBegins", inPlace := ["internal/abi.NoEscape", "internal/bytealg.MakeNoZero"], unfollowed := true, recurses := true, named := ["domino/varint.lengths"], apart := false, laid := [("domino/varint.lengths", laid_domino_varint_lengths)] }
def SealBeginsSaid : Prop := sealBeginsRow.holds Tryz.pinned (OpenSpec.ofChange sealBeginsSpec)

/-- ITS FALSE NEIGHBOUR: 'it returns false'. Refute it at one input. -/
def sealBeginsWrong : ChangeSpec := { name := "sealBegins", fn := fun _ => fun
  | [d1, d2, d3, d4, d5] => { results := [.lit (.bool false)], args := [d1, d2, d3, d4, d5] }
  | _ => none }
def SealBeginsWrongFalsely : Prop := sealBeginsRow.holds Tryz.pinned (OpenSpec.ofChange sealBeginsWrong)

/- THE SECOND FORM. 'bulk': how many values and letters a reading holds, each counted each time it is reached (what is shared counts as often as it is met; a slice's spare places count too). A statement '..UptoSaid' is the law's where the arguments, and the package variables that the reading takes, are together of bulk at most 1048576: NARROWER than '..Said'. Prove '..Said' where nothing that the law and all that it calls make is longer than what came in: it says more and counts as full. Else prove '..UptoSaid'. A law counts once. -/
mutual
def uptoBulk {H : Type} : DataW H → Nat
  | .lit (.string bytes) => bytes.length + 1
  | .lit _ => 1
  | .nil => 1
  | .ptr d => uptoBulk d + 1
  | .slice elems spare => uptoBulkAll elems + uptoBulkAll spare + 1
  | .agg parts => uptoBulkAll parts + 1
  | .iface _ d => uptoBulk d + 1
  | .map entries => uptoBulkEntries entries + 1
  | .held _ => 1
def uptoBulkAll {H : Type} : List (DataW H) → Nat
  | [] => 0
  | d :: r => uptoBulk d + uptoBulkAll r
def uptoBulkEntries {H : Type} : List (Lit × DataW H) → Nat
  | [] => 0
  | x :: r => uptoBulkEntry x + uptoBulkEntries r
def uptoBulkEntry {H : Type} : Lit × DataW H → Nat
  | (.string bytes, d) => bytes.length + uptoBulk d + 1
  | (_, d) => uptoBulk d + 1
 end
def uptoSmall : (H : Type) → List (DataW H) → Bool := fun _ ds => decide (uptoBulkAll ds ≤ 1048576)
def OpenSpec.upto (s : _root_.Go.ChangeSpec) : _root_.Go.OpenSpec := { _root_.Go.OpenSpec.ofChange s with cond := some uptoSmall }

/-- 'dominolaw09.SealBlocks', WHERE WHAT IT READS IS OF BULK AT MOST 1048576: true; the input reads as it did. -/
def sealBlocksUptoRow : OpenClaim := { program := "ytagbkmoahflfdaagreatdoor", sum := "3cbbc44f003ca87ea62fcf58cc51b9e52181b2be550f906519acc49f5ea565ac", func := "domino/dominolaw09.SealBlocks", spec := "sealBlocks", inPlace := ["internal/abi.NoEscape", "internal/bytealg.MakeNoZero"], unfollowed := true, recurses := true, named := ["domino/varint.lengths"], apart := false, laid := [("domino/varint.lengths", laid_domino_varint_lengths)], narrowed := true }
def SealBlocksUptoSaid : Prop := sealBlocksUptoRow.holds Tryz.pinned (OpenSpec.upto sealBlocksSpec)

/-- 'dominolaw09.SealOpens', WHERE WHAT IT READS IS OF BULK AT MOST 1048576: true; the input reads as it did. -/
def sealOpensUptoRow : OpenClaim := { program := "ytagbkmoahflfdaagreatdoor", sum := "3cbbc44f003ca87ea62fcf58cc51b9e52181b2be550f906519acc49f5ea565ac", func := "domino/dominolaw09.SealOpens", spec := "sealOpens", inPlace := ["internal/abi.NoEscape", "internal/bytealg.MakeNoZero"], unfollowed := true, recurses := true, named := ["domino/varint.lengths"], apart := false, laid := [("domino/varint.lengths", laid_domino_varint_lengths)], narrowed := true }
def SealOpensUptoSaid : Prop := sealOpensUptoRow.holds Tryz.pinned (OpenSpec.upto sealOpensSpec)

/-- 'dominolaw09.SealTurns', WHERE WHAT IT READS IS OF BULK AT MOST 1048576: true; the input reads as it did. -/
def sealTurnsUptoRow : OpenClaim := { program := "ytagbkmoahflfdaagreatdoor", sum := "3cbbc44f003ca87ea62fcf58cc51b9e52181b2be550f906519acc49f5ea565ac", func := "domino/dominolaw09.SealTurns", spec := "sealTurns", inPlace := ["internal/abi.NoEscape", "internal/bytealg.MakeNoZero"], unfollowed := true, recurses := true, named := ["domino/varint.lengths"], apart := false, laid := [("domino/varint.lengths", laid_domino_varint_lengths)], narrowed := true }
def SealTurnsUptoSaid : Prop := sealTurnsUptoRow.holds Tryz.pinned (OpenSpec.upto sealTurnsSpec)

/-- 'dominolaw09.SealPackets', WHERE WHAT IT READS IS OF BULK AT MOST 1048576: true; the input reads as it did. -/
def sealPacketsUptoRow : OpenClaim := { program := "ytagbkmoahflfdaagreatdoor", sum := "3cbbc44f003ca87ea62fcf58cc51b9e52181b2be550f906519acc49f5ea565ac", func := "domino/dominolaw09.SealPackets", spec := "sealPackets", inPlace := ["internal/abi.NoEscape", "internal/bytealg.MakeNoZero"], unfollowed := true, recurses := true, named := ["domino/varint.lengths"], apart := false, laid := [("domino/varint.lengths", laid_domino_varint_lengths)], narrowed := true }
def SealPacketsUptoSaid : Prop := sealPacketsUptoRow.holds Tryz.pinned (OpenSpec.upto sealPacketsSpec)

/-- 'dominolaw09.SealLengths', WHERE WHAT IT READS IS OF BULK AT MOST 1048576: true; the input reads as it did. -/
def sealLengthsUptoRow : OpenClaim := { program := "ytagbkmoahflfdaagreatdoor", sum := "3cbbc44f003ca87ea62fcf58cc51b9e52181b2be550f906519acc49f5ea565ac", func := "domino/dominolaw09.SealLengths", spec := "sealLengths", inPlace := ["internal/abi.NoEscape", "internal/bytealg.MakeNoZero"], unfollowed := true, recurses := true, named := ["domino/varint.lengths"], apart := false, laid := [("domino/varint.lengths", laid_domino_varint_lengths)], narrowed := true }
def SealLengthsUptoSaid : Prop := sealLengthsUptoRow.holds Tryz.pinned (OpenSpec.upto sealLengthsSpec)

/-- 'dominolaw09.SealBegins', WHERE WHAT IT READS IS OF BULK AT MOST 1048576: true; the input reads as it did. -/
def sealBeginsUptoRow : OpenClaim := { program := "ytagbkmoahflfdaagreatdoor", sum := "3cbbc44f003ca87ea62fcf58cc51b9e52181b2be550f906519acc49f5ea565ac", func := "domino/dominolaw09.SealBegins", spec := "sealBegins", inPlace := ["internal/abi.NoEscape", "internal/bytealg.MakeNoZero"], unfollowed := true, recurses := true, named := ["domino/varint.lengths"], apart := false, laid := [("domino/varint.lengths", laid_domino_varint_lengths)], narrowed := true }
def SealBeginsUptoSaid : Prop := sealBeginsUptoRow.holds Tryz.pinned (OpenSpec.upto sealBeginsSpec)

end Rows
end Go.Proofs.YtagbkmoahflfdaaGreatDoor
