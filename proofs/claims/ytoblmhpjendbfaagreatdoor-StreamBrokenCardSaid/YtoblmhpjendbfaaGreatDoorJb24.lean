/- Layer 16: plain mathematics: a stream's state and its turns -/
import Derived.Test.YtoblmhpjendbfaaGreatDoorJb13
import Derived.Test.YtoblmhpjendbfaaGreatDoorJb14
import Derived.Test.YtoblmhpjendbfaaGreatDoorJb23
namespace Go.Proofs.YtoblmhpjendbfaaGreatDoor.Rg
set_option maxRecDepth 20000
open Go.RowKit Go.Shelf
set_option linter.unusedVariables false
set_option linter.unusedSimpArgs false

/-- A stream. -/
structure TS where
  o : SS
  cr : Int
  cd : Int
  wy : Int
  rs : Bool
  td : Bool
  gn : Bool
  i : Gt.GS
  wn : Int
  lm : Int
  rz : Bool
  bk : Bool
  sp : Bool
  sc : Int
  st : Bool
def newT (c w : Int) : TS := ⟨s00, c, 0, 0, false, false, false, ⟨0, [], 0, false⟩, w, w, false, false, false, 0, false⟩
/-! ### Frames -/
def frK (k id off mx code : Int) (d : ByteArray) (f : Bool) : Fm.Frm := ⟨k, id, off, mx, code, 0, 0, 0, f, d.data.toList, [], [], ⟨none, 0, 0⟩⟩
def none0 : ByteArray := ⟨#[]⟩
def rstF (s : TS) (id : Int) : Fm.Frm := frK 4 id 0 s.o.tp s.cd none0 false
def stpF (s : TS) (id : Int) : Fm.Frm := frK 5 id 0 0 s.sc none0 false
def mxF (s : TS) (id : Int) : Fm.Frm := frK 17 id 0 s.lm 0 none0 false
def strF (id : Int) (N : NX) : Fm.Frm := frK 8 id N.off 0 0 N.d N.fin
def okF (f : Fm.Frm) : Bool := Fm.mayF f.kind.toNat f []
def szF (f : Fm.Frm) : Nat := (Fm.putL f []).length
def fitB (f : Fm.Frm) (most : Int) : Bool := okF f && decide ((szF f : Int) ≤ most)
/-- The bytes to send, n of them at most: the greatest count whose frame fits. -/
def nbL (o : SS) (cr id most : Int) : Nat → Option NX
  | 0 => none
  | n + 1 => if (nxt o ((n + 1 : Nat) : Int) cr).iz = true ∧ fitB (strF id (nxt o ((n + 1 : Nat) : Int) cr)) most = true then some (nxt o ((n + 1 : Nat) : Int) cr) else nbL o cr id most n
def crT (s : TS) (more : Int) : Int := min s.cr (s.o.tp + more)
def nbT (s : TS) (id most more : Int) : Option NX := nbL s.o (crT s more) id most (min most 1200).toNat
def l1T (s : TS) (id : Int) : List Fm.Frm := if s.td then [rstF s id] else []
def l2T (s : TS) (id : Int) : List Fm.Frm := l1T s id ++ if s.st then [stpF s id] else []
def l3T (s : TS) (id : Int) : List Fm.Frm := l2T s id ++ if s.rz then [mxF s id] else []
def dueL (s : TS) (id most more : Int) : List Fm.Frm := l3T s id ++ match nbT s id most more with | some N => if s.rs then [] else [strF id N] | none => []
def nextT (s : TS) (id most more : Int) : Option Fm.Frm := (dueL s id most more).find? (fun f => fitB f most)
/-! ### What frames do -/
def wholeB (s : TS) : Bool := s.i.kn && decide (s.i.fin = s.i.rd + Gt.rdy s.i)
def sentT (s : TS) (f : Fm.Frm) : TS := if f.kind = 4 then { s with td := false } else if f.kind = 5 then { s with st := false } else if f.kind = 17 then { s with rz := false } else if f.kind = 8 then { s with o := sentS s.o f.off (f.data.length : Int) f.fin } else s
def raiseT (s : TS) : TS := if s.i.kn = false ∧ s.lm - s.i.rd < s.wn / 2 then { s with lm := s.i.rd + s.wn, rz := true } else s
def readT (s : TS) (n : Int) : TS := if s.bk then s else raiseT { s with i := Gt.takeS s.i (Gt.tk s.i n) }
def offT (s : TS) (c : Int) : TS := { s with bk := true, wy := if s.bk then s.wy else c, i := { s.i with l := [] } }
/-- The state, how much further the stream goes, the error, when bytes came. -/
def dataT (s : TS) (off E : Int) (f : Bool) : TS × Int × Int :=
  if s.lm < E then (s, 0, 170) else if Gt.rfS s.i f E = 0 then (if s.bk then (s, 0, 0) else ({ s with i := Gt.putS s.i off E f }, Gt.hiS (Gt.putS s.i off E f) - Gt.hiS s.i, 0)) else (s, 0, 140)
def breakT (s : TS) (m c : Int) : TS × Int × Int :=
  if s.lm < m then (s, 0, 170) else if Gt.rfS s.i true m = 0 then (if s.bk = false ∧ wholeB s = true then (s, 0, 0) else (offT { s with i := Gt.putS s.i m m true } c, Gt.hiS (Gt.putS s.i m m true) - Gt.hiS s.i, 0)) else (s, 0, 140)
end Go.Proofs.YtoblmhpjendbfaaGreatDoor.Rg
