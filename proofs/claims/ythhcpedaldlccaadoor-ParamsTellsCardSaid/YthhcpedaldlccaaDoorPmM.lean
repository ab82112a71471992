/- Plain mathematics of transport parameters. By tools/gen-params-1.py. -/
import Derived.Test.YthhcpedaldlccaaDoorVmM
namespace Go.Proofs.YthhcpedaldlccaaDoor.Pm
open Vm
set_option linter.unusedVariables false

/-- Transport parameters; the token as bytes. -/
structure Prm where
  idle : Int
  size : Int
  data : Int
  bl : Int
  br : Int
  uni : Int
  bidis : Int
  unis : Int
  expo : Int
  delay : Int
  ids : Int
  tok : List UInt8
/-- Its value of a number; none: there is no parameter of that number that is a number. -/
def fld (p : Prm) : Nat → Option Int
  | 1 => some p.idle
  | 3 => some p.size
  | 4 => some p.data
  | 5 => some p.bl
  | 6 => some p.br
  | 7 => some p.uni
  | 8 => some p.bidis
  | 9 => some p.unis
  | 10 => some p.expo
  | 11 => some p.delay
  | 14 => some p.ids
  | _ => none
def loN : Nat → Int
  | 3 => 1200
  | 14 => 2
  | _ => 0
def hiN : Nat → Int
  | 0 | 2 | 12 | 13 => 0
  | 8 | 9 => 1152921504606846976
  | 10 => 20
  | 11 => 16383
  | _ => 4611686018427387903
def okAt (p : Prm) (n : Nat) : Bool := match fld p n with
  | some v => decide (loN n ≤ v ∧ v ≤ hiN n)
  | none => true
def tokB (p : Prm) : Bool := p.tok.isEmpty || decide (p.tok.length = 16)
/-- Whether the parameters may be. -/
def chkB (p : Prm) : Bool := (List.range 15).all (okAt p) && tokB p
/-- The usual ones. -/
def usual : Prm := ⟨0, 65527, 0, 0, 0, 0, 0, 0, 3, 25, 2, []⟩
/-- All are numbers of 64 bits. -/
structure Wf (p : Prm) : Prop where
  idle : 0 ≤ p.idle ∧ p.idle ≤ 18446744073709551615
  size : 0 ≤ p.size ∧ p.size ≤ 18446744073709551615
  data : 0 ≤ p.data ∧ p.data ≤ 18446744073709551615
  bl : 0 ≤ p.bl ∧ p.bl ≤ 18446744073709551615
  br : 0 ≤ p.br ∧ p.br ≤ 18446744073709551615
  uni : 0 ≤ p.uni ∧ p.uni ≤ 18446744073709551615
  bidis : 0 ≤ p.bidis ∧ p.bidis ≤ 18446744073709551615
  unis : 0 ≤ p.unis ∧ p.unis ≤ 18446744073709551615
  expo : 0 ≤ p.expo ∧ p.expo ≤ 18446744073709551615
  delay : 0 ≤ p.delay ∧ p.delay ≤ 18446744073709551615
  ids : 0 ≤ p.ids ∧ p.ids ≤ 18446744073709551615
  tok : p.tok.length ≤ 140737488351232
end Go.Proofs.YthhcpedaldlccaaDoor.Pm
