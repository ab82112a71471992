/-
  NARROWER THAN 'FOR EVERY INPUT', by the rows' own cells (each row's printed sentence says how): VarintOnes: laid · VarintBack: laid · VarintMany: laid · VarintShort: laid · VarintRises: laid · VarintAll: laid.
  DERIVED. THE GIVEN ROWS OF THIS SEAT. 6 by the template 'for every input the law returns true; each argument reads behind the call as it read before'; 0 by the template 'total and deterministic' (their statements: YtppjjpibojilcaaDoorTotals.lean).
  GIVEN WITH THE SEED: the statements are not yours to turn. If you find one false, say at which input.
  Laid BY PROGRAM, IN A SANDBOX (cutbox-rows.mjs): the forced cells as the released guide's own fill.sh prints them over the translation 07479ea821b14124… (all of the seat's roots in one cut). By AI agents, Wed Nov 11 2026. No macro, syntax, notation, axiom, sorry.
-/
import Derived.Test.YtppjjpibojilcaaDoorChecked
import GoSem.Claim
import GoSem.ClaimJoined
import GoSem.ClaimMapViews
import Derived.JoinedTies
import Derived.KernelRfl
namespace Go.Proofs.YtppjjpibojilcaaDoor
/- THE CELL 'sum', in the pinned program and in every row, IS THE sha256 OF THE DUMP (.gsa) THAT YtppjjpibojilcaaDoorProg.lean LOADS. Nothing in Lean hashes anything: it is a label: what it is worth is what the hold of that sum in a sandbox is worth. -/
noncomputable def Tryd.pinned : Pinned := { name := "ytppjjpibojilcaadoor", sum := "07479ea821b14124424bc2b9fff79728c0e569e9d086a8231da1c93ae6091041", checked := Tryd.checked }
namespace Rows
def none {H : Type} : Left H := { results := [], args := [] }

/- WHAT THE LISTED PACKAGE-LEVEL VARIABLES READ AS WHEN THE CALL BEGINS. Each datum BY PROGRAM (the guide's laid-datum.mjs) off the statement by which the dump's own 'gosem.cut.vars' lays the variable. In a bare row this is a premise. The card (YtppjjpibojilcaaDoorCards.lean) ties it to the program's text. -/
def laid_domino_varint_lengths {H : Type} : DataW H := .agg [.lit (.int .i64 1), .lit (.int .i64 2), .lit (.int .i64 4), .lit (.int .i64 8)]

/-- 'dominolaw01.VarintOnes': WHATEVER THE INPUT: true; the input reads as it did. -/
def varintOnesSpec : ChangeSpec := { name := "varintOnes", fn := fun _ => fun
  | [d1, d2] => { results := [.lit (.bool true)], args := [d1, d2] }
  | _ => none }
def varintOnesRow : OpenClaim := { program := "ytppjjpibojilcaadoor", sum := "07479ea821b14124424bc2b9fff79728c0e569e9d086a8231da1c93ae6091041", func := "domino/dominolaw01.VarintOnes", spec := "varintOnes", named := ["domino/varint.lengths"], apart := false, laid := [("domino/varint.lengths", laid_domino_varint_lengths)] }
def VarintOnesSaid : Prop := varintOnesRow.holds Tryd.pinned (OpenSpec.ofChange varintOnesSpec)

/-- ITS FALSE NEIGHBOUR: 'it returns false'. Refute it at one input. -/
def varintOnesWrong : ChangeSpec := { name := "varintOnes", fn := fun _ => fun
  | [d1, d2] => { results := [.lit (.bool false)], args := [d1, d2] }
  | _ => none }
def VarintOnesWrongFalsely : Prop := varintOnesRow.holds Tryd.pinned (OpenSpec.ofChange varintOnesWrong)

/-- 'dominolaw01.VarintBack': WHATEVER THE INPUT: true; the input reads as it did. -/
def varintBackSpec : ChangeSpec := { name := "varintBack", fn := fun _ => fun
  | [d1, d2] => { results := [.lit (.bool true)], args := [d1, d2] }
  | _ => none }
def varintBackRow : OpenClaim := { program := "ytppjjpibojilcaadoor", sum := "07479ea821b14124424bc2b9fff79728c0e569e9d086a8231da1c93ae6091041", func := "domino/dominolaw01.VarintBack", spec := "varintBack", named := ["domino/varint.lengths"], apart := false, laid := [("domino/varint.lengths", laid_domino_varint_lengths)] }
def VarintBackSaid : Prop := varintBackRow.holds Tryd.pinned (OpenSpec.ofChange varintBackSpec)

/-- ITS FALSE NEIGHBOUR: 'it returns false'. Refute it at one input. -/
def varintBackWrong : ChangeSpec := { name := "varintBack", fn := fun _ => fun
  | [d1, d2] => { results := [.lit (.bool false)], args := [d1, d2] }
  | _ => none }
def VarintBackWrongFalsely : Prop := varintBackRow.holds Tryd.pinned (OpenSpec.ofChange varintBackWrong)

/-- 'dominolaw01.VarintMany': WHATEVER THE INPUT: true; the input reads as it did. -/
def varintManySpec : ChangeSpec := { name := "varintMany", fn := fun _ => fun
  | [d1, d2, d3] => { results := [.lit (.bool true)], args := [d1, d2, d3] }
  | _ => none }
def varintManyRow : OpenClaim := { program := "ytppjjpibojilcaadoor", sum := "07479ea821b14124424bc2b9fff79728c0e569e9d086a8231da1c93ae6091041", func := "domino/dominolaw01.VarintMany", spec := "varintMany", inPlace := ["internal/abi.NoEscape"], named := ["domino/varint.lengths"], apart := false, laid := [("domino/varint.lengths", laid_domino_varint_lengths)] }
def VarintManySaid : Prop := varintManyRow.holds Tryd.pinned (OpenSpec.ofChange varintManySpec)

/-- ITS FALSE NEIGHBOUR: 'it returns false'. Refute it at one input. -/
def varintManyWrong : ChangeSpec := { name := "varintMany", fn := fun _ => fun
  | [d1, d2, d3] => { results := [.lit (.bool false)], args := [d1, d2, d3] }
  | _ => none }
def VarintManyWrongFalsely : Prop := varintManyRow.holds Tryd.pinned (OpenSpec.ofChange varintManyWrong)

/-- 'dominolaw01.VarintShort': WHATEVER THE INPUT: true; the input reads as it did. -/
def varintShortSpec : ChangeSpec := { name := "varintShort", fn := fun _ => fun
  | [d1, d2] => { results := [.lit (.bool true)], args := [d1, d2] }
  | _ => none }
def varintShortRow : OpenClaim := { program := "ytppjjpibojilcaadoor", sum := "07479ea821b14124424bc2b9fff79728c0e569e9d086a8231da1c93ae6091041", func := "domino/dominolaw01.VarintShort", spec := "varintShort", named := ["domino/varint.lengths"], apart := false, laid := [("domino/varint.lengths", laid_domino_varint_lengths)] }
def VarintShortSaid : Prop := varintShortRow.holds Tryd.pinned (OpenSpec.ofChange varintShortSpec)

/-- ITS FALSE NEIGHBOUR: 'it returns false'. Refute it at one input. -/
def varintShortWrong : ChangeSpec := { name := "varintShort", fn := fun _ => fun
  | [d1, d2] => { results := [.lit (.bool false)], args := [d1, d2] }
  | _ => none }
def VarintShortWrongFalsely : Prop := varintShortRow.holds Tryd.pinned (OpenSpec.ofChange varintShortWrong)

/-- 'dominolaw01.VarintRises': WHATEVER THE INPUT: true; the input reads as it did. -/
def varintRisesSpec : ChangeSpec := { name := "varintRises", fn := fun _ => fun
  | [d1, d2] => { results := [.lit (.bool true)], args := [d1, d2] }
  | _ => none }
def varintRisesRow : OpenClaim := { program := "ytppjjpibojilcaadoor", sum := "07479ea821b14124424bc2b9fff79728c0e569e9d086a8231da1c93ae6091041", func := "domino/dominolaw01.VarintRises", spec := "varintRises", named := ["domino/varint.lengths"], apart := false, laid := [("domino/varint.lengths", laid_domino_varint_lengths)] }
def VarintRisesSaid : Prop := varintRisesRow.holds Tryd.pinned (OpenSpec.ofChange varintRisesSpec)

/-- ITS FALSE NEIGHBOUR: 'it returns false'. Refute it at one input. -/
def varintRisesWrong : ChangeSpec := { name := "varintRises", fn := fun _ => fun
  | [d1, d2] => { results := [.lit (.bool false)], args := [d1, d2] }
  | _ => none }
def VarintRisesWrongFalsely : Prop := varintRisesRow.holds Tryd.pinned (OpenSpec.ofChange varintRisesWrong)

/-- 'dominolaw01.VarintAll': WHATEVER THE INPUT: true; the input reads as it did. -/
def varintAllSpec : ChangeSpec := { name := "varintAll", fn := fun _ => fun
  | [d] => { results := [.lit (.bool true)], args := [d] }
  | _ => none }
def varintAllRow : OpenClaim := { program := "ytppjjpibojilcaadoor", sum := "07479ea821b14124424bc2b9fff79728c0e569e9d086a8231da1c93ae6091041", func := "domino/dominolaw01.VarintAll", spec := "varintAll", named := ["domino/varint.lengths"], apart := false, laid := [("domino/varint.lengths", laid_domino_varint_lengths)] }
def VarintAllSaid : Prop := varintAllRow.holds Tryd.pinned (OpenSpec.ofChange varintAllSpec)

/-- ITS FALSE NEIGHBOUR: 'it returns false'. Refute it at one input. -/
def varintAllWrong : ChangeSpec := { name := "varintAll", fn := fun _ => fun
  | [d] => { results := [.lit (.bool false)], args := [d] }
  | _ => none }
def VarintAllWrongFalsely : Prop := varintAllRow.holds Tryd.pinned (OpenSpec.ofChange varintAllWrong)

/- THE SECOND FORM. 'bulk': how many values and letters a reading holds, each counted each time it is reached (what is shared counts as often as it is met; a slice's spare places count too). A statement '..UptoSaid' is the law's where the arguments, and the package variables that the reading takes, are together of bulk at most 1048576: NARROWER than '..Said'. Prove '..Said' where nothing that the law and all that it calls make is longer than what came in: it says more and counts as full. Else prove '..UptoSaid'. A law counts once. -/
mutual
def uptoBulk {H : Type} : DataW H → Nat
  | .lit (.string bytes) => bytes.length + 1
  | .lit _ => 1
  | .nil => 1
  | .ptr d => uptoBulk d + 1
  | .slice elems spare => uptoBulkAll elems + uptoBulkAll spare + 1
  | .agg parts => uptoBulkAll parts + 1
  | .iface _ d => uptoBulk d + 1
  | .map entries => uptoBulkEntries entries + 1
  | .held _ => 1
def uptoBulkAll {H : Type} : List (DataW H) → Nat
  | [] => 0
  | d :: r => uptoBulk d + uptoBulkAll r
def uptoBulkEntries {H : Type} : List (Lit × DataW H) → Nat
  | [] => 0
  | x :: r => uptoBulkEntry x + uptoBulkEntries r
def uptoBulkEntry {H : Type} : Lit × DataW H → Nat
  | (.string bytes, d) => bytes.length + uptoBulk d + 1
  | (_, d) => uptoBulk d + 1
 end
def uptoSmall : (H : Type) → List (DataW H) → Bool := fun _ ds => decide (uptoBulkAll ds ≤ 1048576)
def OpenSpec.upto (s : _root_.Go.ChangeSpec) : _root_.Go.OpenSpec := { _root_.Go.OpenSpec.ofChange s with cond := some uptoSmall }

/-- 'dominolaw01.VarintOnes', WHERE WHAT IT READS IS OF BULK AT MOST 1048576: true; the input reads as it did. -/
def varintOnesUptoRow : OpenClaim := { program := "ytppjjpibojilcaadoor", sum := "07479ea821b14124424bc2b9fff79728c0e569e9d086a8231da1c93ae6091041", func := "domino/dominolaw01.VarintOnes", spec := "varintOnes", named := ["domino/varint.lengths"], apart := false, laid := [("domino/varint.lengths", laid_domino_varint_lengths)], narrowed := true }
def VarintOnesUptoSaid : Prop := varintOnesUptoRow.holds Tryd.pinned (OpenSpec.upto varintOnesSpec)

/-- 'dominolaw01.VarintBack', WHERE WHAT IT READS IS OF BULK AT MOST 1048576: true; the input reads as it did. -/
def varintBackUptoRow : OpenClaim := { program := "ytppjjpibojilcaadoor", sum := "07479ea821b14124424bc2b9fff79728c0e569e9d086a8231da1c93ae6091041", func := "domino/dominolaw01.VarintBack", spec := "varintBack", named := ["domino/varint.lengths"], apart := false, laid := [("domino/varint.lengths", laid_domino_varint_lengths)], narrowed := true }
def VarintBackUptoSaid : Prop := varintBackUptoRow.holds Tryd.pinned (OpenSpec.upto varintBackSpec)

/-- 'dominolaw01.VarintMany', WHERE WHAT IT READS IS OF BULK AT MOST 1048576: true; the input reads as it did. -/
def varintManyUptoRow : OpenClaim := { program := "ytppjjpibojilcaadoor", sum := "07479ea821b14124424bc2b9fff79728c0e569e9d086a8231da1c93ae6091041", func := "domino/dominolaw01.VarintMany", spec := "varintMany", inPlace := ["internal/abi.NoEscape"], named := ["domino/varint.lengths"], apart := false, laid := [("domino/varint.lengths", laid_domino_varint_lengths)], narrowed := true }
def VarintManyUptoSaid : Prop := varintManyUptoRow.holds Tryd.pinned (OpenSpec.upto varintManySpec)

/-- 'dominolaw01.VarintShort', WHERE WHAT IT READS IS OF BULK AT MOST 1048576: true; the input reads as it did. -/
def varintShortUptoRow : OpenClaim := { program := "ytppjjpibojilcaadoor", sum := "07479ea821b14124424bc2b9fff79728c0e569e9d086a8231da1c93ae6091041", func := "domino/dominolaw01.VarintShort", spec := "varintShort", named := ["domino/varint.lengths"], apart := false, laid := [("domino/varint.lengths", laid_domino_varint_lengths)], narrowed := true }
def VarintShortUptoSaid : Prop := varintShortUptoRow.holds Tryd.pinned (OpenSpec.upto varintShortSpec)

/-- 'dominolaw01.VarintRises', WHERE WHAT IT READS IS OF BULK AT MOST 1048576: true; the input reads as it did. -/
def varintRisesUptoRow : OpenClaim := { program := "ytppjjpibojilcaadoor", sum := "07479ea821b14124424bc2b9fff79728c0e569e9d086a8231da1c93ae6091041", func := "domino/dominolaw01.VarintRises", spec := "varintRises", named := ["domino/varint.lengths"], apart := false, laid := [("domino/varint.lengths", laid_domino_varint_lengths)], narrowed := true }
def VarintRisesUptoSaid : Prop := varintRisesUptoRow.holds Tryd.pinned (OpenSpec.upto varintRisesSpec)

/-- 'dominolaw01.VarintAll', WHERE WHAT IT READS IS OF BULK AT MOST 1048576: true; the input reads as it did. -/
def varintAllUptoRow : OpenClaim := { program := "ytppjjpibojilcaadoor", sum := "07479ea821b14124424bc2b9fff79728c0e569e9d086a8231da1c93ae6091041", func := "domino/dominolaw01.VarintAll", spec := "varintAll", named := ["domino/varint.lengths"], apart := false, laid := [("domino/varint.lengths", laid_domino_varint_lengths)], narrowed := true }
def VarintAllUptoSaid : Prop := varintAllUptoRow.holds Tryd.pinned (OpenSpec.upto varintAllSpec)

end Rows
end Go.Proofs.YtppjjpibojilcaaDoor
