/-
  NARROWER THAN 'FOR EVERY INPUT', by the rows' own cells (each row's printed sentence says how): ParamsTells: laid · ParamsBack: laid · ParamsOrder: laid · ParamsNone: laid · ParamsBad: laid.
  DERIVED. THE GIVEN ROWS OF THIS SEAT. 5 by the template 'for every input the law returns true; each argument reads behind the call as it read before'; 0 by the template 'total and deterministic' (their statements: YthhcpedaldlccaaDoorTotals.lean).
  GIVEN WITH THE SEED: the statements are not yours to turn. If you find one false, say at which input.
  Laid BY PROGRAM, IN A SANDBOX (cutbox-rows.mjs): the forced cells as the released guide's own fill.sh prints them over the translation 9313acf8ce725b21… (all of the seat's roots in one cut). By AI agents, Wed Nov 11 2026. No macro, syntax, notation, axiom, sorry.
-/
import Derived.Test.YthhcpedaldlccaaDoorChecked
import GoSem.Claim
import GoSem.ClaimJoined
import GoSem.ClaimMapViews
import Derived.JoinedTies
import Derived.KernelRfl
namespace Go.Proofs.YthhcpedaldlccaaDoor
/- THE CELL 'sum', in the pinned program and in every row, IS THE sha256 OF THE DUMP (.gsa) THAT YthhcpedaldlccaaDoorProg.lean LOADS. Nothing in Lean hashes anything: it is a label: what it is worth is what the hold of that sum in a sandbox is worth. -/
noncomputable def Tryd.pinned : Pinned := { name := "ythhcpedaldlccaadoor", sum := "9313acf8ce725b211b0e843da3d5c5e88ab1fecdf0164c3434ecfaa3438182a4", checked := Tryd.checked }
namespace Rows
def none {H : Type} : Left H := { results := [], args := [] }

/- WHAT THE LISTED PACKAGE-LEVEL VARIABLES READ AS WHEN THE CALL BEGINS. Each datum BY PROGRAM (the guide's laid-datum.mjs) off the statement by which the dump's own 'gosem.cut.vars' lays the variable. In a bare row this is a premise. The card (YthhcpedaldlccaaDoorCards.lean) ties it to the program's text. -/
def laid_domino_varint_lengths {H : Type} : DataW H := .agg [.lit (.int .i64 1), .lit (.int .i64 2), .lit (.int .i64 4), .lit (.int .i64 8)]
def laid_domino_params_limits {H : Type} : DataW H := .agg [.agg [.lit (.int .u64 0), .lit (.int .u64 0)], .agg [.lit (.int .u64 0), .lit (.int .u64 4611686018427387903)], .agg [.lit (.int .u64 0), .lit (.int .u64 0)], .agg [.lit (.int .u64 1200), .lit (.int .u64 4611686018427387903)], .agg [.lit (.int .u64 0), .lit (.int .u64 4611686018427387903)], .agg [.lit (.int .u64 0), .lit (.int .u64 4611686018427387903)], .agg [.lit (.int .u64 0), .lit (.int .u64 4611686018427387903)], .agg [.lit (.int .u64 0), .lit (.int .u64 4611686018427387903)], .agg [.lit (.int .u64 0), .lit (.int .u64 1152921504606846976)], .agg [.lit (.int .u64 0), .lit (.int .u64 1152921504606846976)], .agg [.lit (.int .u64 0), .lit (.int .u64 20)], .agg [.lit (.int .u64 0), .lit (.int .u64 16383)], .agg [.lit (.int .u64 0), .lit (.int .u64 0)], .agg [.lit (.int .u64 0), .lit (.int .u64 0)], .agg [.lit (.int .u64 2), .lit (.int .u64 4611686018427387903)]]

/-- 'dominolaw05.ParamsTells': WHATEVER THE INPUT: true; the input reads as it did. -/
def paramsTellsSpec : ChangeSpec := { name := "paramsTells", fn := fun _ => fun
  | [d1, d2] => { results := [.lit (.bool true)], args := [d1, d2] }
  | _ => none }
def paramsTellsRow : OpenClaim := { program := "ythhcpedaldlccaadoor", sum := "9313acf8ce725b211b0e843da3d5c5e88ab1fecdf0164c3434ecfaa3438182a4", func := "domino/dominolaw05.ParamsTells", spec := "paramsTells", inPlace := ["internal/abi.NoEscape"], unfollowed := true, recurses := true, named := ["domino/params.limits", "domino/varint.lengths"], apart := false, laid := [("domino/varint.lengths", laid_domino_varint_lengths), ("domino/params.limits", laid_domino_params_limits)] }
def ParamsTellsSaid : Prop := paramsTellsRow.holds Tryd.pinned (OpenSpec.ofChange paramsTellsSpec)

/-- ITS FALSE NEIGHBOUR: 'it returns false'. Refute it at one input. -/
def paramsTellsWrong : ChangeSpec := { name := "paramsTells", fn := fun _ => fun
  | [d1, d2] => { results := [.lit (.bool false)], args := [d1, d2] }
  | _ => none }
def ParamsTellsWrongFalsely : Prop := paramsTellsRow.holds Tryd.pinned (OpenSpec.ofChange paramsTellsWrong)

/-- 'dominolaw05.ParamsBack': WHATEVER THE INPUT: true; the input reads as it did. -/
def paramsBackSpec : ChangeSpec := { name := "paramsBack", fn := fun _ => fun
  | [d1, d2] => { results := [.lit (.bool true)], args := [d1, d2] }
  | _ => none }
def paramsBackRow : OpenClaim := { program := "ythhcpedaldlccaadoor", sum := "9313acf8ce725b211b0e843da3d5c5e88ab1fecdf0164c3434ecfaa3438182a4", func := "domino/dominolaw05.ParamsBack", spec := "paramsBack", inPlace := ["internal/abi.NoEscape"], unfollowed := true, recurses := true, named := ["domino/params.limits", "domino/varint.lengths"], apart := false, laid := [("domino/varint.lengths", laid_domino_varint_lengths), ("domino/params.limits", laid_domino_params_limits)] }
def ParamsBackSaid : Prop := paramsBackRow.holds Tryd.pinned (OpenSpec.ofChange paramsBackSpec)

/-- ITS FALSE NEIGHBOUR: 'it returns false'. Refute it at one input. -/
def paramsBackWrong : ChangeSpec := { name := "paramsBack", fn := fun _ => fun
  | [d1, d2] => { results := [.lit (.bool false)], args := [d1, d2] }
  | _ => none }
def ParamsBackWrongFalsely : Prop := paramsBackRow.holds Tryd.pinned (OpenSpec.ofChange paramsBackWrong)

/-- 'dominolaw05.ParamsOrder': WHATEVER THE INPUT: true; the input reads as it did. -/
def paramsOrderSpec : ChangeSpec := { name := "paramsOrder", fn := fun _ => fun
  | [d1, d2, d3] => { results := [.lit (.bool true)], args := [d1, d2, d3] }
  | _ => none }
def paramsOrderRow : OpenClaim := { program := "ythhcpedaldlccaadoor", sum := "9313acf8ce725b211b0e843da3d5c5e88ab1fecdf0164c3434ecfaa3438182a4", func := "domino/dominolaw05.ParamsOrder", spec := "paramsOrder", inPlace := ["internal/abi.NoEscape"], unfollowed := true, recurses := true, named := ["domino/params.limits", "domino/varint.lengths"], apart := false, laid := [("domino/varint.lengths", laid_domino_varint_lengths), ("domino/params.limits", laid_domino_params_limits)] }
def ParamsOrderSaid : Prop := paramsOrderRow.holds Tryd.pinned (OpenSpec.ofChange paramsOrderSpec)

/-- ITS FALSE NEIGHBOUR: 'it returns false'. Refute it at one input. -/
def paramsOrderWrong : ChangeSpec := { name := "paramsOrder", fn := fun _ => fun
  | [d1, d2, d3] => { results := [.lit (.bool false)], args := [d1, d2, d3] }
  | _ => none }
def ParamsOrderWrongFalsely : Prop := paramsOrderRow.holds Tryd.pinned (OpenSpec.ofChange paramsOrderWrong)

/-- 'dominolaw05.ParamsNone': WHATEVER THE INPUT: true; the input reads as it did. -/
def paramsNoneSpec : ChangeSpec := { name := "paramsNone", fn := fun _ => fun
  | [d] => { results := [.lit (.bool true)], args := [d] }
  | _ => none }
def paramsNoneRow : OpenClaim := { program := "ythhcpedaldlccaadoor", sum := "9313acf8ce725b211b0e843da3d5c5e88ab1fecdf0164c3434ecfaa3438182a4", func := "domino/dominolaw05.ParamsNone", spec := "paramsNone", inPlace := ["internal/abi.NoEscape"], unfollowed := true, recurses := true, named := ["domino/params.limits", "domino/varint.lengths"], apart := false, laid := [("domino/varint.lengths", laid_domino_varint_lengths), ("domino/params.limits", laid_domino_params_limits)] }
def ParamsNoneSaid : Prop := paramsNoneRow.holds Tryd.pinned (OpenSpec.ofChange paramsNoneSpec)

/-- ITS FALSE NEIGHBOUR: 'it returns false'. Refute it at one input. -/
def paramsNoneWrong : ChangeSpec := { name := "paramsNone", fn := fun _ => fun
  | [d] => { results := [.lit (.bool false)], args := [d] }
  | _ => none }
def ParamsNoneWrongFalsely : Prop := paramsNoneRow.holds Tryd.pinned (OpenSpec.ofChange paramsNoneWrong)

/-- 'dominolaw05.ParamsBad': WHATEVER THE INPUT: true; the input reads as it did. -/
def paramsBadSpec : ChangeSpec := { name := "paramsBad", fn := fun _ => fun
  | [d] => { results := [.lit (.bool true)], args := [d] }
  | _ => none }
def paramsBadRow : OpenClaim := { program := "ythhcpedaldlccaadoor", sum := "9313acf8ce725b211b0e843da3d5c5e88ab1fecdf0164c3434ecfaa3438182a4", func := "domino/dominolaw05.ParamsBad", spec := "paramsBad", inPlace := ["internal/abi.NoEscape"], unfollowed := true, recurses := true, named := ["domino/params.limits", "domino/varint.lengths"], apart := false, laid := [("domino/varint.lengths", laid_domino_varint_lengths), ("domino/params.limits", laid_domino_params_limits)] }
def ParamsBadSaid : Prop := paramsBadRow.holds Tryd.pinned (OpenSpec.ofChange paramsBadSpec)

/-- ITS FALSE NEIGHBOUR: 'it returns false'. Refute it at one input. -/
def paramsBadWrong : ChangeSpec := { name := "paramsBad", fn := fun _ => fun
  | [d] => { results := [.lit (.bool false)], args := [d] }
  | _ => none }
def ParamsBadWrongFalsely : Prop := paramsBadRow.holds Tryd.pinned (OpenSpec.ofChange paramsBadWrong)

/- THE SECOND FORM. 'bulk': how many values and letters a reading holds, each counted each time it is reached (what is shared counts as often as it is met; a slice's spare places count too). A statement '..UptoSaid' is the law's where the arguments, and the package variables that the reading takes, are together of bulk at most 1048576: NARROWER than '..Said'. Prove '..Said' where nothing that the law and all that it calls make is longer than what came in: it says more and counts as full. Else prove '..UptoSaid'. A law counts once. -/
mutual
def uptoBulk {H : Type} : DataW H → Nat
  | .lit (.string bytes) => bytes.length + 1
  | .lit _ => 1
  | .nil => 1
  | .ptr d => uptoBulk d + 1
  | .slice elems spare => uptoBulkAll elems + uptoBulkAll spare + 1
  | .agg parts => uptoBulkAll parts + 1
  | .iface _ d => uptoBulk d + 1
  | .map entries => uptoBulkEntries entries + 1
  | .held _ => 1
def uptoBulkAll {H : Type} : List (DataW H) → Nat
  | [] => 0
  | d :: r => uptoBulk d + uptoBulkAll r
def uptoBulkEntries {H : Type} : List (Lit × DataW H) → Nat
  | [] => 0
  | x :: r => uptoBulkEntry x + uptoBulkEntries r
def uptoBulkEntry {H : Type} : Lit × DataW H → Nat
  | (.string bytes, d) => bytes.length + uptoBulk d + 1
  | (_, d) => uptoBulk d + 1
 end
def uptoSmall : (H : Type) → List (DataW H) → Bool := fun _ ds => decide (uptoBulkAll ds ≤ 1048576)
def OpenSpec.upto (s : _root_.Go.ChangeSpec) : _root_.Go.OpenSpec := { _root_.Go.OpenSpec.ofChange s with cond := some uptoSmall }

/-- 'dominolaw05.ParamsTells', WHERE WHAT IT READS IS OF BULK AT MOST 1048576: true; the input reads as it did. -/
def paramsTellsUptoRow : OpenClaim := { program := "ythhcpedaldlccaadoor", sum := "9313acf8ce725b211b0e843da3d5c5e88ab1fecdf0164c3434ecfaa3438182a4", func := "domino/dominolaw05.ParamsTells", spec := "paramsTells", inPlace := ["internal/abi.NoEscape"], unfollowed := true, recurses := true, named := ["domino/params.limits", "domino/varint.lengths"], apart := false, laid := [("domino/varint.lengths", laid_domino_varint_lengths), ("domino/params.limits", laid_domino_params_limits)], narrowed := true }
def ParamsTellsUptoSaid : Prop := paramsTellsUptoRow.holds Tryd.pinned (OpenSpec.upto paramsTellsSpec)

/-- 'dominolaw05.ParamsBack', WHERE WHAT IT READS IS OF BULK AT MOST 1048576: true; the input reads as it did. -/
def paramsBackUptoRow : OpenClaim := { program := "ythhcpedaldlccaadoor", sum := "9313acf8ce725b211b0e843da3d5c5e88ab1fecdf0164c3434ecfaa3438182a4", func := "domino/dominolaw05.ParamsBack", spec := "paramsBack", inPlace := ["internal/abi.NoEscape"], unfollowed := true, recurses := true, named := ["domino/params.limits", "domino/varint.lengths"], apart := false, laid := [("domino/varint.lengths", laid_domino_varint_lengths), ("domino/params.limits", laid_domino_params_limits)], narrowed := true }
def ParamsBackUptoSaid : Prop := paramsBackUptoRow.holds Tryd.pinned (OpenSpec.upto paramsBackSpec)

/-- 'dominolaw05.ParamsOrder', WHERE WHAT IT READS IS OF BULK AT MOST 1048576: true; the input reads as it did. -/
def paramsOrderUptoRow : OpenClaim := { program := "ythhcpedaldlccaadoor", sum := "9313acf8ce725b211b0e843da3d5c5e88ab1fecdf0164c3434ecfaa3438182a4", func := "domino/dominolaw05.ParamsOrder", spec := "paramsOrder", inPlace := ["internal/abi.NoEscape"], unfollowed := true, recurses := true, named := ["domino/params.limits", "domino/varint.lengths"], apart := false, laid := [("domino/varint.lengths", laid_domino_varint_lengths), ("domino/params.limits", laid_domino_params_limits)], narrowed := true }
def ParamsOrderUptoSaid : Prop := paramsOrderUptoRow.holds Tryd.pinned (OpenSpec.upto paramsOrderSpec)

/-- 'dominolaw05.ParamsNone', WHERE WHAT IT READS IS OF BULK AT MOST 1048576: true; the input reads as it did. -/
def paramsNoneUptoRow : OpenClaim := { program := "ythhcpedaldlccaadoor", sum := "9313acf8ce725b211b0e843da3d5c5e88ab1fecdf0164c3434ecfaa3438182a4", func := "domino/dominolaw05.ParamsNone", spec := "paramsNone", inPlace := ["internal/abi.NoEscape"], unfollowed := true, recurses := true, named := ["domino/params.limits", "domino/varint.lengths"], apart := false, laid := [("domino/varint.lengths", laid_domino_varint_lengths), ("domino/params.limits", laid_domino_params_limits)], narrowed := true }
def ParamsNoneUptoSaid : Prop := paramsNoneUptoRow.holds Tryd.pinned (OpenSpec.upto paramsNoneSpec)

/-- 'dominolaw05.ParamsBad', WHERE WHAT IT READS IS OF BULK AT MOST 1048576: true; the input reads as it did. -/
def paramsBadUptoRow : OpenClaim := { program := "ythhcpedaldlccaadoor", sum := "9313acf8ce725b211b0e843da3d5c5e88ab1fecdf0164c3434ecfaa3438182a4", func := "domino/dominolaw05.ParamsBad", spec := "paramsBad", inPlace := ["internal/abi.NoEscape"], unfollowed := true, recurses := true, named := ["domino/params.limits", "domino/varint.lengths"], apart := false, laid := [("domino/varint.lengths", laid_domino_varint_lengths), ("domino/params.limits", laid_domino_params_limits)], narrowed := true }
def ParamsBadUptoSaid : Prop := paramsBadUptoRow.holds Tryd.pinned (OpenSpec.upto paramsBadSpec)

end Rows
end Go.Proofs.YthhcpedaldlccaaDoor
