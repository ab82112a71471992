/-
  NARROWER THAN 'FOR EVERY INPUT', by the rows' own cells (each row's printed sentence says how): StreamActs: laid · StreamCredit: laid · StreamLimit: laid · StreamReset: laid · StreamBroken: laid.
  DERIVED. THE GIVEN ROWS OF THIS SEAT. 5 by the template 'for every input the law returns true; each argument reads behind the call as it read before'; 0 by the template 'total and deterministic' (their statements: YtoblmhpjendbfaaGreatDoorTotals.lean).
  GIVEN WITH THE SEED: the statements are not yours to turn. If you find one false, say at which input.
  Laid BY PROGRAM, IN A SANDBOX (cutbox-rows.mjs): the forced cells as the released guide's own fill.sh prints them over the translation 746ad1104e8ba4f5… (all of the seat's roots in one cut). By AI agents, Wed Nov 11 2026. No macro, syntax, notation, axiom, sorry.
-/
import Derived.Test.YtoblmhpjendbfaaGreatDoorChecked
import GoSem.Claim
import GoSem.ClaimJoined
import GoSem.ClaimMapViews
import Derived.JoinedTies
import Derived.KernelRfl
namespace Go.Proofs.YtoblmhpjendbfaaGreatDoor
/- THE CELL 'sum', in the pinned program and in every row, IS THE sha256 OF THE DUMP (.gsa) THAT YtoblmhpjendbfaaGreatDoorProg.lean LOADS. Nothing in Lean hashes anything: it is a label: what it is worth is what the hold of that sum in a sandbox is worth. -/
noncomputable def Tryz.pinned : Pinned := { name := "ytoblmhpjendbfaagreatdoor", sum := "746ad1104e8ba4f5bc5dfcf19939bbb048c2441f59967a7444a9b0ae35ecae3d", checked := Tryz.checked }
namespace Rows
def none {H : Type} : Left H := { results := [], args := [] }

/- WHAT THE LISTED PACKAGE-LEVEL VARIABLES READ AS WHEN THE CALL BEGINS. Each datum BY PROGRAM (the guide's laid-datum.mjs) off the statement by which the dump's own 'gosem.cut.vars' lays the variable. In a bare row this is a premise. The card (YtoblmhpjendbfaaGreatDoorCards.lean) ties it to the program's text. -/
def laid_domino_varint_lengths {H : Type} : DataW H := .agg [.lit (.int .i64 1), .lit (.int .i64 2), .lit (.int .i64 4), .lit (.int .i64 8)]

/-- 'dominolaw16.StreamActs': WHATEVER THE INPUT: true; the input reads as it did. -/
def streamActsSpec : ChangeSpec := { name := "streamActs", fn := fun _ => fun
  | [d1, d2, d3, d4] => { results := [.lit (.bool true)], args := [d1, d2, d3, d4] }
  | _ => none }
def streamActsRow : OpenClaim := { program := "ytoblmhpjendbfaagreatdoor", sum := "746ad1104e8ba4f5bc5dfcf19939bbb048c2441f59967a7444a9b0ae35ecae3d", func := "domino/dominolaw16.StreamActs", spec := "streamActs", inPlace := ["internal/abi.NoEscape"], unfollowed := true, recurses := true, named := ["domino/varint.lengths"], apart := false, laid := [("domino/varint.lengths", laid_domino_varint_lengths)] }
def StreamActsSaid : Prop := streamActsRow.holds Tryz.pinned (OpenSpec.ofChange streamActsSpec)

/-- ITS FALSE NEIGHBOUR: 'it returns false'. Refute it at one input. -/
def streamActsWrong : ChangeSpec := { name := "streamActs", fn := fun _ => fun
  | [d1, d2, d3, d4] => { results := [.lit (.bool false)], args := [d1, d2, d3, d4] }
  | _ => none }
def StreamActsWrongFalsely : Prop := streamActsRow.holds Tryz.pinned (OpenSpec.ofChange streamActsWrong)

/-- 'dominolaw16.StreamCredit': WHATEVER THE INPUT: true; the input reads as it did. -/
def streamCreditSpec : ChangeSpec := { name := "streamCredit", fn := fun _ => fun
  | [d1, d2] => { results := [.lit (.bool true)], args := [d1, d2] }
  | _ => none }
def streamCreditRow : OpenClaim := { program := "ytoblmhpjendbfaagreatdoor", sum := "746ad1104e8ba4f5bc5dfcf19939bbb048c2441f59967a7444a9b0ae35ecae3d", func := "domino/dominolaw16.StreamCredit", spec := "streamCredit", inPlace := ["internal/abi.NoEscape"], unfollowed := true, recurses := true, named := ["domino/varint.lengths"], apart := false, laid := [("domino/varint.lengths", laid_domino_varint_lengths)] }
def StreamCreditSaid : Prop := streamCreditRow.holds Tryz.pinned (OpenSpec.ofChange streamCreditSpec)

/-- ITS FALSE NEIGHBOUR: 'it returns false'. Refute it at one input. -/
def streamCreditWrong : ChangeSpec := { name := "streamCredit", fn := fun _ => fun
  | [d1, d2] => { results := [.lit (.bool false)], args := [d1, d2] }
  | _ => none }
def StreamCreditWrongFalsely : Prop := streamCreditRow.holds Tryz.pinned (OpenSpec.ofChange streamCreditWrong)

/-- 'dominolaw16.StreamLimit': WHATEVER THE INPUT: true; the input reads as it did. -/
def streamLimitSpec : ChangeSpec := { name := "streamLimit", fn := fun _ => fun
  | [d1, d2] => { results := [.lit (.bool true)], args := [d1, d2] }
  | _ => none }
def streamLimitRow : OpenClaim := { program := "ytoblmhpjendbfaagreatdoor", sum := "746ad1104e8ba4f5bc5dfcf19939bbb048c2441f59967a7444a9b0ae35ecae3d", func := "domino/dominolaw16.StreamLimit", spec := "streamLimit", inPlace := ["internal/abi.NoEscape"], unfollowed := true, recurses := true, named := ["domino/varint.lengths"], apart := false, laid := [("domino/varint.lengths", laid_domino_varint_lengths)] }
def StreamLimitSaid : Prop := streamLimitRow.holds Tryz.pinned (OpenSpec.ofChange streamLimitSpec)

/-- ITS FALSE NEIGHBOUR: 'it returns false'. Refute it at one input. -/
def streamLimitWrong : ChangeSpec := { name := "streamLimit", fn := fun _ => fun
  | [d1, d2] => { results := [.lit (.bool false)], args := [d1, d2] }
  | _ => none }
def StreamLimitWrongFalsely : Prop := streamLimitRow.holds Tryz.pinned (OpenSpec.ofChange streamLimitWrong)

/-- 'dominolaw16.StreamReset': WHATEVER THE INPUT: true; the input reads as it did. -/
def streamResetSpec : ChangeSpec := { name := "streamReset", fn := fun _ => fun
  | [d1, d2, d3, d4] => { results := [.lit (.bool true)], args := [d1, d2, d3, d4] }
  | _ => none }
def streamResetRow : OpenClaim := { program := "ytoblmhpjendbfaagreatdoor", sum := "746ad1104e8ba4f5bc5dfcf19939bbb048c2441f59967a7444a9b0ae35ecae3d", func := "domino/dominolaw16.StreamReset", spec := "streamReset", inPlace := ["internal/abi.NoEscape"], unfollowed := true, recurses := true, named := ["domino/varint.lengths"], apart := false, laid := [("domino/varint.lengths", laid_domino_varint_lengths)] }
def StreamResetSaid : Prop := streamResetRow.holds Tryz.pinned (OpenSpec.ofChange streamResetSpec)

/-- ITS FALSE NEIGHBOUR: 'it returns false'. Refute it at one input. -/
def streamResetWrong : ChangeSpec := { name := "streamReset", fn := fun _ => fun
  | [d1, d2, d3, d4] => { results := [.lit (.bool false)], args := [d1, d2, d3, d4] }
  | _ => none }
def StreamResetWrongFalsely : Prop := streamResetRow.holds Tryz.pinned (OpenSpec.ofChange streamResetWrong)

/-- 'dominolaw16.StreamBroken': WHATEVER THE INPUT: true; the input reads as it did. -/
def streamBrokenSpec : ChangeSpec := { name := "streamBroken", fn := fun _ => fun
  | [d1, d2, d3, d4] => { results := [.lit (.bool true)], args := [d1, d2, d3, d4] }
  | _ => none }
def streamBrokenRow : OpenClaim := { program := "ytoblmhpjendbfaagreatdoor", sum := "746ad1104e8ba4f5bc5dfcf19939bbb048c2441f59967a7444a9b0ae35ecae3d", func := "domino/dominolaw16.StreamBroken", spec := "streamBroken", inPlace := ["internal/abi.NoEscape"], unfollowed := true, recurses := true, named := ["domino/varint.lengths"], apart := false, laid := [("domino/varint.lengths", laid_domino_varint_lengths)] }
def StreamBrokenSaid : Prop := streamBrokenRow.holds Tryz.pinned (OpenSpec.ofChange streamBrokenSpec)

/-- ITS FALSE NEIGHBOUR: 'it returns false'. Refute it at one input. -/
def streamBrokenWrong : ChangeSpec := { name := "streamBroken", fn := fun _ => fun
  | [d1, d2, d3, d4] => { results := [.lit (.bool false)], args := [d1, d2, d3, d4] }
  | _ => none }
def StreamBrokenWrongFalsely : Prop := streamBrokenRow.holds Tryz.pinned (OpenSpec.ofChange streamBrokenWrong)

/- THE SECOND FORM. 'bulk': how many values and letters a reading holds, each counted each time it is reached (what is shared counts as often as it is met; a slice's spare places count too). A statement '..UptoSaid' is the law's where the arguments, and the package variables that the reading takes, are together of bulk at most 1048576: NARROWER than '..Said'. Prove '..Said' where nothing that the law and all that it calls make is longer than what came in: it says more and counts as full. Else prove '..UptoSaid'. A law counts once. -/
mutual
def uptoBulk {H : Type} : DataW H → Nat
  | .lit (.string bytes) => bytes.length + 1
  | .lit _ => 1
  | .nil => 1
  | .ptr d => uptoBulk d + 1
  | .slice elems spare => uptoBulkAll elems + uptoBulkAll spare + 1
  | .agg parts => uptoBulkAll parts + 1
  | .iface _ d => uptoBulk d + 1
  | .map entries => uptoBulkEntries entries + 1
  | .held _ => 1
def uptoBulkAll {H : Type} : List (DataW H) → Nat
  | [] => 0
  | d :: r => uptoBulk d + uptoBulkAll r
def uptoBulkEntries {H : Type} : List (Lit × DataW H) → Nat
  | [] => 0
  | x :: r => uptoBulkEntry x + uptoBulkEntries r
def uptoBulkEntry {H : Type} : Lit × DataW H → Nat
  | (.string bytes, d) => bytes.length + uptoBulk d + 1
  | (_, d) => uptoBulk d + 1
 end
def uptoSmall : (H : Type) → List (DataW H) → Bool := fun _ ds => decide (uptoBulkAll ds ≤ 1048576)
def OpenSpec.upto (s : _root_.Go.ChangeSpec) : _root_.Go.OpenSpec := { _root_.Go.OpenSpec.ofChange s with cond := some uptoSmall }

/-- 'dominolaw16.StreamActs', WHERE WHAT IT READS IS OF BULK AT MOST 1048576: true; the input reads as it did. -/
def streamActsUptoRow : OpenClaim := { program := "ytoblmhpjendbfaagreatdoor", sum := "746ad1104e8ba4f5bc5dfcf19939bbb048c2441f59967a7444a9b0ae35ecae3d", func := "domino/dominolaw16.StreamActs", spec := "streamActs", inPlace := ["internal/abi.NoEscape"], unfollowed := true, recurses := true, named := ["domino/varint.lengths"], apart := false, laid := [("domino/varint.lengths", laid_domino_varint_lengths)], narrowed := true }
def StreamActsUptoSaid : Prop := streamActsUptoRow.holds Tryz.pinned (OpenSpec.upto streamActsSpec)

/-- 'dominolaw16.StreamCredit', WHERE WHAT IT READS IS OF BULK AT MOST 1048576: true; the input reads as it did. -/
def streamCreditUptoRow : OpenClaim := { program := "ytoblmhpjendbfaagreatdoor", sum := "746ad1104e8ba4f5bc5dfcf19939bbb048c2441f59967a7444a9b0ae35ecae3d", func := "domino/dominolaw16.StreamCredit", spec := "streamCredit", inPlace := ["internal/abi.NoEscape"], unfollowed := true, recurses := true, named := ["domino/varint.lengths"], apart := false, laid := [("domino/varint.lengths", laid_domino_varint_lengths)], narrowed := true }
def StreamCreditUptoSaid : Prop := streamCreditUptoRow.holds Tryz.pinned (OpenSpec.upto streamCreditSpec)

/-- 'dominolaw16.StreamLimit', WHERE WHAT IT READS IS OF BULK AT MOST 1048576: true; the input reads as it did. -/
def streamLimitUptoRow : OpenClaim := { program := "ytoblmhpjendbfaagreatdoor", sum := "746ad1104e8ba4f5bc5dfcf19939bbb048c2441f59967a7444a9b0ae35ecae3d", func := "domino/dominolaw16.StreamLimit", spec := "streamLimit", inPlace := ["internal/abi.NoEscape"], unfollowed := true, recurses := true, named := ["domino/varint.lengths"], apart := false, laid := [("domino/varint.lengths", laid_domino_varint_lengths)], narrowed := true }
def StreamLimitUptoSaid : Prop := streamLimitUptoRow.holds Tryz.pinned (OpenSpec.upto streamLimitSpec)

/-- 'dominolaw16.StreamReset', WHERE WHAT IT READS IS OF BULK AT MOST 1048576: true; the input reads as it did. -/
def streamResetUptoRow : OpenClaim := { program := "ytoblmhpjendbfaagreatdoor", sum := "746ad1104e8ba4f5bc5dfcf19939bbb048c2441f59967a7444a9b0ae35ecae3d", func := "domino/dominolaw16.StreamReset", spec := "streamReset", inPlace := ["internal/abi.NoEscape"], unfollowed := true, recurses := true, named := ["domino/varint.lengths"], apart := false, laid := [("domino/varint.lengths", laid_domino_varint_lengths)], narrowed := true }
def StreamResetUptoSaid : Prop := streamResetUptoRow.holds Tryz.pinned (OpenSpec.upto streamResetSpec)

/-- 'dominolaw16.StreamBroken', WHERE WHAT IT READS IS OF BULK AT MOST 1048576: true; the input reads as it did. -/
def streamBrokenUptoRow : OpenClaim := { program := "ytoblmhpjendbfaagreatdoor", sum := "746ad1104e8ba4f5bc5dfcf19939bbb048c2441f59967a7444a9b0ae35ecae3d", func := "domino/dominolaw16.StreamBroken", spec := "streamBroken", inPlace := ["internal/abi.NoEscape"], unfollowed := true, recurses := true, named := ["domino/varint.lengths"], apart := false, laid := [("domino/varint.lengths", laid_domino_varint_lengths)], narrowed := true }
def StreamBrokenUptoSaid : Prop := streamBrokenUptoRow.holds Tryz.pinned (OpenSpec.upto streamBrokenSpec)

end Rows
end Go.Proofs.YtoblmhpjendbfaaGreatDoor
