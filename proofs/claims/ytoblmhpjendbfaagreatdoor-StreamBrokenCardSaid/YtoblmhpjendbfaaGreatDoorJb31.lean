/- Layer 16: a stream's state in a block; own -/
import Derived.Test.YtoblmhpjendbfaaGreatDoorJb24
import Derived.Test.YtoblmhpjendbfaaGreatDoorJb30
import Derived.Deep.WholeRow
import Derived.Laws.Tables
import Derived.Laws.CopyOwn
namespace Go.Proofs.YtoblmhpjendbfaaGreatDoor.Rg
set_option maxRecDepth 20000
open Go.RowKit Go.Shelf
set_option linter.unusedVariables false
set_option linter.unusedSimpArgs false

/-- A stream's state in a block. -/
def TB (W : World) (b : Nat) (u v x : Value) (s : TS) : Prop := W.heap[b]? = some (.cells #[.int .u64 s.o.ba, .int .u64 s.o.tp, .string s.o.d, u, v, .bool s.o.fin, .bool s.o.ft, .bool s.o.fa, .int .u64 s.cr, .int .u64 s.cd, .int .u64 s.wy, .bool s.rs, .bool s.td, .bool s.gn, .int .u64 s.i.rd, x, .int .u64 s.i.fin, .bool s.i.kn, .int .u64 s.wn, .int .u64 s.lm, .bool s.rz, .bool s.bk, .bool s.sp, .int .u64 s.sc, .bool s.st] 35 (0, 0))
theorem TB.lt {W : World} {b : Nat} {u v x : Value} {s : TS} (h : TB W b u v x s) : b < W.heap.size := (Array.getElem?_eq_some_iff.1 h).1
theorem TB.go {W W' : World} {b : Nat} {u v x : Value} {s : TS} (h : TB W b u v x s) (hb : Below W.heap.size W W') : TB W' b u v x s := (hb.block b h.lt).trans h
theorem TB.fz {W : World} {b : Nat} {u v x : Value} {s : TS} (h : TB W b u v x s) (j : Nat) : W.frozen? ⟨b, j, none⟩ = false := Lib.frozen_of_heap h j
theorem TB.c0 {W : World} {b : Nat} {u v x : Value} {s : TS} (h : TB W b u v x s) : W.cell? ⟨b, 0, none⟩ = some (.int .u64 s.o.ba) := Lib.cell_of_heap h 0
theorem TB.c1 {W : World} {b : Nat} {u v x : Value} {s : TS} (h : TB W b u v x s) : W.cell? ⟨b, 1, none⟩ = some (.int .u64 s.o.tp) := Lib.cell_of_heap h 1
theorem TB.c2 {W : World} {b : Nat} {u v x : Value} {s : TS} (h : TB W b u v x s) : W.cell? ⟨b, 2, none⟩ = some (.string s.o.d) := Lib.cell_of_heap h 2
theorem TB.c3 {W : World} {b : Nat} {u v x : Value} {s : TS} (h : TB W b u v x s) : W.cell? ⟨b, 3, none⟩ = some (u) := Lib.cell_of_heap h 3
theorem TB.c4 {W : World} {b : Nat} {u v x : Value} {s : TS} (h : TB W b u v x s) : W.cell? ⟨b, 4, none⟩ = some (v) := Lib.cell_of_heap h 4
theorem TB.c5 {W : World} {b : Nat} {u v x : Value} {s : TS} (h : TB W b u v x s) : W.cell? ⟨b, 5, none⟩ = some (.bool s.o.fin) := Lib.cell_of_heap h 5
theorem TB.c6 {W : World} {b : Nat} {u v x : Value} {s : TS} (h : TB W b u v x s) : W.cell? ⟨b, 6, none⟩ = some (.bool s.o.ft) := Lib.cell_of_heap h 6
theorem TB.c7 {W : World} {b : Nat} {u v x : Value} {s : TS} (h : TB W b u v x s) : W.cell? ⟨b, 7, none⟩ = some (.bool s.o.fa) := Lib.cell_of_heap h 7
theorem TB.c8 {W : World} {b : Nat} {u v x : Value} {s : TS} (h : TB W b u v x s) : W.cell? ⟨b, 8, none⟩ = some (.int .u64 s.cr) := Lib.cell_of_heap h 8
theorem TB.c9 {W : World} {b : Nat} {u v x : Value} {s : TS} (h : TB W b u v x s) : W.cell? ⟨b, 9, none⟩ = some (.int .u64 s.cd) := Lib.cell_of_heap h 9
theorem TB.c10 {W : World} {b : Nat} {u v x : Value} {s : TS} (h : TB W b u v x s) : W.cell? ⟨b, 10, none⟩ = some (.int .u64 s.wy) := Lib.cell_of_heap h 10
theorem TB.c11 {W : World} {b : Nat} {u v x : Value} {s : TS} (h : TB W b u v x s) : W.cell? ⟨b, 11, none⟩ = some (.bool s.rs) := Lib.cell_of_heap h 11
theorem TB.c12 {W : World} {b : Nat} {u v x : Value} {s : TS} (h : TB W b u v x s) : W.cell? ⟨b, 12, none⟩ = some (.bool s.td) := Lib.cell_of_heap h 12
theorem TB.c13 {W : World} {b : Nat} {u v x : Value} {s : TS} (h : TB W b u v x s) : W.cell? ⟨b, 13, none⟩ = some (.bool s.gn) := Lib.cell_of_heap h 13
theorem TB.c14 {W : World} {b : Nat} {u v x : Value} {s : TS} (h : TB W b u v x s) : W.cell? ⟨b, 14, none⟩ = some (.int .u64 s.i.rd) := Lib.cell_of_heap h 14
theorem TB.c15 {W : World} {b : Nat} {u v x : Value} {s : TS} (h : TB W b u v x s) : W.cell? ⟨b, 15, none⟩ = some (x) := Lib.cell_of_heap h 15
theorem TB.c16 {W : World} {b : Nat} {u v x : Value} {s : TS} (h : TB W b u v x s) : W.cell? ⟨b, 16, none⟩ = some (.int .u64 s.i.fin) := Lib.cell_of_heap h 16
theorem TB.c17 {W : World} {b : Nat} {u v x : Value} {s : TS} (h : TB W b u v x s) : W.cell? ⟨b, 17, none⟩ = some (.bool s.i.kn) := Lib.cell_of_heap h 17
theorem TB.c18 {W : World} {b : Nat} {u v x : Value} {s : TS} (h : TB W b u v x s) : W.cell? ⟨b, 18, none⟩ = some (.int .u64 s.wn) := Lib.cell_of_heap h 18
theorem TB.c19 {W : World} {b : Nat} {u v x : Value} {s : TS} (h : TB W b u v x s) : W.cell? ⟨b, 19, none⟩ = some (.int .u64 s.lm) := Lib.cell_of_heap h 19
theorem TB.c20 {W : World} {b : Nat} {u v x : Value} {s : TS} (h : TB W b u v x s) : W.cell? ⟨b, 20, none⟩ = some (.bool s.rz) := Lib.cell_of_heap h 20
theorem TB.c21 {W : World} {b : Nat} {u v x : Value} {s : TS} (h : TB W b u v x s) : W.cell? ⟨b, 21, none⟩ = some (.bool s.bk) := Lib.cell_of_heap h 21
theorem TB.c22 {W : World} {b : Nat} {u v x : Value} {s : TS} (h : TB W b u v x s) : W.cell? ⟨b, 22, none⟩ = some (.bool s.sp) := Lib.cell_of_heap h 22
theorem TB.c23 {W : World} {b : Nat} {u v x : Value} {s : TS} (h : TB W b u v x s) : W.cell? ⟨b, 23, none⟩ = some (.int .u64 s.sc) := Lib.cell_of_heap h 23
theorem TB.c24 {W : World} {b : Nat} {u v x : Value} {s : TS} (h : TB W b u v x s) : W.cell? ⟨b, 24, none⟩ = some (.bool s.st) := Lib.cell_of_heap h 24
theorem TB.s0 {W : World} {b : Nat} {u v x : Value} {s : TS} (h : TB W b u v x s) (y : Int) : TB (W.setCell ⟨b, 0, none⟩ (.int .u64 y)) b u v x { s with o := { s.o with ba := y } } := Joins.block_setCell (i := 0) h _
theorem TB.s1 {W : World} {b : Nat} {u v x : Value} {s : TS} (h : TB W b u v x s) (y : Int) : TB (W.setCell ⟨b, 1, none⟩ (.int .u64 y)) b u v x { s with o := { s.o with tp := y } } := Joins.block_setCell (i := 1) h _
theorem TB.s2 {W : World} {b : Nat} {u v x : Value} {s : TS} (h : TB W b u v x s) (y : ByteArray) : TB (W.setCell ⟨b, 2, none⟩ (.string y)) b u v x { s with o := { s.o with d := y } } := Joins.block_setCell (i := 2) h _
theorem TB.s5 {W : World} {b : Nat} {u v x : Value} {s : TS} (h : TB W b u v x s) (y : Bool) : TB (W.setCell ⟨b, 5, none⟩ (.bool y)) b u v x { s with o := { s.o with fin := y } } := Joins.block_setCell (i := 5) h _
theorem TB.s6 {W : World} {b : Nat} {u v x : Value} {s : TS} (h : TB W b u v x s) (y : Bool) : TB (W.setCell ⟨b, 6, none⟩ (.bool y)) b u v x { s with o := { s.o with ft := y } } := Joins.block_setCell (i := 6) h _
theorem TB.s7 {W : World} {b : Nat} {u v x : Value} {s : TS} (h : TB W b u v x s) (y : Bool) : TB (W.setCell ⟨b, 7, none⟩ (.bool y)) b u v x { s with o := { s.o with fa := y } } := Joins.block_setCell (i := 7) h _
theorem TB.s10 {W : World} {b : Nat} {u v x : Value} {s : TS} (h : TB W b u v x s) (y : Int) : TB (W.setCell ⟨b, 10, none⟩ (.int .u64 y)) b u v x { s with wy := y } := Joins.block_setCell (i := 10) h _
theorem TB.s12 {W : World} {b : Nat} {u v x : Value} {s : TS} (h : TB W b u v x s) (y : Bool) : TB (W.setCell ⟨b, 12, none⟩ (.bool y)) b u v x { s with td := y } := Joins.block_setCell (i := 12) h _
theorem TB.s14 {W : World} {b : Nat} {u v x : Value} {s : TS} (h : TB W b u v x s) (y : Int) : TB (W.setCell ⟨b, 14, none⟩ (.int .u64 y)) b u v x { s with i := { s.i with rd := y } } := Joins.block_setCell (i := 14) h _
theorem TB.s16 {W : World} {b : Nat} {u v x : Value} {s : TS} (h : TB W b u v x s) (y : Int) : TB (W.setCell ⟨b, 16, none⟩ (.int .u64 y)) b u v x { s with i := { s.i with fin := y } } := Joins.block_setCell (i := 16) h _
theorem TB.s17 {W : World} {b : Nat} {u v x : Value} {s : TS} (h : TB W b u v x s) (y : Bool) : TB (W.setCell ⟨b, 17, none⟩ (.bool y)) b u v x { s with i := { s.i with kn := y } } := Joins.block_setCell (i := 17) h _
theorem TB.s19 {W : World} {b : Nat} {u v x : Value} {s : TS} (h : TB W b u v x s) (y : Int) : TB (W.setCell ⟨b, 19, none⟩ (.int .u64 y)) b u v x { s with lm := y } := Joins.block_setCell (i := 19) h _
theorem TB.s20 {W : World} {b : Nat} {u v x : Value} {s : TS} (h : TB W b u v x s) (y : Bool) : TB (W.setCell ⟨b, 20, none⟩ (.bool y)) b u v x { s with rz := y } := Joins.block_setCell (i := 20) h _
theorem TB.s21 {W : World} {b : Nat} {u v x : Value} {s : TS} (h : TB W b u v x s) (y : Bool) : TB (W.setCell ⟨b, 21, none⟩ (.bool y)) b u v x { s with bk := y } := Joins.block_setCell (i := 21) h _
theorem TB.s24 {W : World} {b : Nat} {u v x : Value} {s : TS} (h : TB W b u v x s) (y : Bool) : TB (W.setCell ⟨b, 24, none⟩ (.bool y)) b u v x { s with st := y } := Joins.block_setCell (i := 24) h _
theorem TB.sU {W : World} {b : Nat} {u v x : Value} {s : TS} (h : TB W b u v x s) (y : Value) : TB (W.setCell ⟨b, 3, none⟩ y) b y v x s := Joins.block_setCell (i := 3) h _
theorem TB.sV {W : World} {b : Nat} {u v x : Value} {s : TS} (h : TB W b u v x s) (y : Value) : TB (W.setCell ⟨b, 4, none⟩ y) b u y x s := Joins.block_setCell (i := 4) h _
theorem TB.sX {W : World} {b : Nat} {u v x : Value} {s : TS} (h : TB W b u v x s) (y : Value) : TB (W.setCell ⟨b, 15, none⟩ y) b u v y s := Joins.block_setCell (i := 15) h _
theorem TB.other {W : World} {b : Nat} {u v x : Value} {s : TS} (h : TB W b u v x s) {g k : Nat} (hg : b ≠ g) (y : Value) : TB (W.setCell ⟨g, k, none⟩ y) b u v x s := (Below.heap_setCell W ⟨g, k, none⟩ y b hg).trans h
theorem tb_made (W : World) (u v x : Value) (s : TS) : TB (W.alloc (.cells #[.int .u64 s.o.ba, .int .u64 s.o.tp, .string s.o.d, u, v, .bool s.o.fin, .bool s.o.ft, .bool s.o.fa, .int .u64 s.cr, .int .u64 s.cd, .int .u64 s.wy, .bool s.rs, .bool s.td, .bool s.gn, .int .u64 s.i.rd, x, .int .u64 s.i.fin, .bool s.i.kn, .int .u64 s.wn, .int .u64 s.lm, .bool s.rz, .bool s.bk, .bool s.sp, .int .u64 s.sc, .bool s.st] 35)) W.heap.size u v x s := heap_alloc_new W _
/-- The rows of a state. -/
structure TR (W : World) (u v x : Value) (T : ByteArray) (s : TS) : Prop where
  ra : Rd W u s.o.ak
  rt : Rd W v s.o.td
  rx : Gt.RowG W x T s.i.l
theorem TR.go {W W' : World} {u v x : Value} {T : ByteArray} {s : TS} (h : TR W u v x T s) (hb : Below W.heap.size W W') : TR W' u v x T s := ⟨h.ra.go hb, h.rt.go hb, h.rx.go hb⟩
/-- A state whose rows lie at a place or behind it. -/
structure N3 (m : Nat) (w W : World) (u v x : Value) (T : ByteArray) (s : TS) : Prop where
  r : TR W u v x T s
  nu : ∀ k, Blk u k → m ≤ k
  nv : ∀ k, Blk v k → m ≤ k
  nx : ∀ k, Blk x k → m ≤ k
  bl : Below w.heap.size w W
theorem N3.go {m : Nat} {w W W' : World} {u v x : Value} {T : ByteArray} {s : TS} (h : N3 m w W u v x T s) (hb : Below W.heap.size W W') : N3 m w W' u v x T s := ⟨h.r.go hb, h.nu, h.nv, h.nx, nextG h.bl hb⟩
/-- What a call gives: a state. -/
def GvT (m : Nat) (w : World) (T : ByteArray) (s : TS) (e : Ending) (w' : World) : Prop := ∃ a1 n1 c1 a2 n2 c2 a3 n3 c3, e = .returned (.agg #[.int .u64 s.o.ba, .int .u64 s.o.tp, .string s.o.d, .slice a1 n1 c1, .slice a2 n2 c2, .bool s.o.fin, .bool s.o.ft, .bool s.o.fa, .int .u64 s.cr, .int .u64 s.cd, .int .u64 s.wy, .bool s.rs, .bool s.td, .bool s.gn, .int .u64 s.i.rd, .slice a3 n3 c3, .int .u64 s.i.fin, .bool s.i.kn, .int .u64 s.wn, .int .u64 s.lm, .bool s.rz, .bool s.bk, .bool s.sp, .int .u64 s.sc, .bool s.st]) ∧ N3 m w w' (.slice a1 n1 c1) (.slice a2 n2 c2) (.slice a3 n3 c3) T s
def ZB (W : World) (g : Nat) : Prop := W.heap[g]? = some (.cells #[.int .u64 0, .int .u64 0, .string ⟨#[]⟩, .slice none 0 0, .slice none 0 0, .bool false, .bool false, .bool false, .int .u64 0, .int .u64 0, .int .u64 0, .bool false, .bool false, .bool false, .int .u64 0, .slice none 0 0, .int .u64 0, .bool false, .int .u64 0, .int .u64 0, .bool false, .bool false, .bool false, .int .u64 0, .bool false] 35 (0, 0))
theorem ZB.lt {W : World} {g : Nat} (h : ZB W g) : g < W.heap.size := (Array.getElem?_eq_some_iff.1 h).1
theorem ZB.go {W W' : World} {g : Nat} (h : ZB W g) (hb : Below W.heap.size W W') : ZB W' g := (hb.block g h.lt).trans h
theorem zb_made (W : World) : ZB (W.alloc (.cells #[.int .u64 0, .int .u64 0, .string ⟨#[]⟩, .slice none 0 0, .slice none 0 0, .bool false, .bool false, .bool false, .int .u64 0, .int .u64 0, .int .u64 0, .bool false, .bool false, .bool false, .int .u64 0, .slice none 0 0, .int .u64 0, .bool false, .int .u64 0, .int .u64 0, .bool false, .bool false, .bool false, .int .u64 0, .bool false] 35)) W.heap.size := heap_alloc_new W _
theorem rowg_row {W : World} {v : Value} {T : ByteArray} {G : List Ran} (h : Gt.RowG W v T G) {b : Nat} (hb : ¬ Blk v b) (cs : Array Value) : Gt.RowG (W.setRow b cs) v T G :=
  h.keep (by rw [setRow_size]; exact Nat.le_refl _) (fun q hq => setRow_other W b q cs (fun e => hb (by have e : q = b := e; subst e; exact hq)))
theorem rd_row {W : World} {v : Value} {l : List Ran} (h : Rd W v l) {b : Nat} (hb : ¬ Blk v b) (cs : Array Value) : Rd (W.setRow b cs) v l :=
  h.keep (fun q hq => setRow_other W b q cs (fun e => hb (by have e : q = b := e; subst e; exact hq)))
theorem rowg_set {W : World} {v : Value} {T : ByteArray} {G : List Ran} (h : Gt.RowG W v T G) {b k : Nat} (hb : ¬ Blk v b) (u : Value) : Gt.RowG (W.setCell ⟨b, k, none⟩ u) v T G :=
  h.keep (by simp) (fun q hq => Below.heap_setCell W ⟨b, k, none⟩ u q (fun e => hb (by have e : q = b := e; subst e; exact hq)))
/-- What a call has: the state in its block B, the block Z of its answer. -/
structure FT (m : Nat) (w W : World) (B Z : Nat) (u v x : Value) (T : ByteArray) (s : TS) : Prop where
  q : TB W B u v x s
  r : TR W u v x T s
  z : ZB W Z
  bl : Below w.heap.size w W
  hB : w.heap.size ≤ B
  hZ : w.heap.size ≤ Z
  ne : B ≠ Z
  fu : ∀ k, Blk u k → m ≤ k ∧ k ≠ B ∧ k ≠ Z
  fv : ∀ k, Blk v k → m ≤ k ∧ k ≠ B ∧ k ≠ Z
  fx : ∀ k, Blk x k → m ≤ k ∧ k ≠ B ∧ k ≠ Z
theorem FT.go {m : Nat} {w W W' : World} {B Z : Nat} {u v x : Value} {T : ByteArray} {s : TS} (h : FT m w W B Z u v x T s) (hb : Below W.heap.size W W') : FT m w W' B Z u v x T s := ⟨h.q.go hb, h.r.go hb, h.z.go hb, nextG h.bl hb, h.hB, h.hZ, h.ne, h.fu, h.fv, h.fx⟩
/-- The rows are new. -/
theorem FT.new {m m' : Nat} {w W : World} {B Z : Nat} {u v x u' v' x' : Value} {T T' : ByteArray} {s s' : TS} {W1 : World} (h : FT m w W1 B Z u v x T s) (hn : N3 W1.heap.size W1 W u' v' x' T' s') (h0 : m' ≤ w.heap.size) : FT m' w (W.setRow B #[.int .u64 s'.o.ba, .int .u64 s'.o.tp, .string s'.o.d, u', v', .bool s'.o.fin, .bool s'.o.ft, .bool s'.o.fa, .int .u64 s'.cr, .int .u64 s'.cd, .int .u64 s'.wy, .bool s'.rs, .bool s'.td, .bool s'.gn, .int .u64 s'.i.rd, x', .int .u64 s'.i.fin, .bool s'.i.kn, .int .u64 s'.wn, .int .u64 s'.lm, .bool s'.rz, .bool s'.bk, .bool s'.sp, .int .u64 s'.sc, .bool s'.st]) B Z u' v' x' T' s' :=
  ⟨setRow_heap W B _ _ _ _ (h.q.go hn.bl), ⟨rd_row hn.r.ra (fun hk => by have := hn.nu _ hk; have := h.q.lt; omega) _, rd_row hn.r.rt (fun hk => by have := hn.nv _ hk; have := h.q.lt; omega) _, rowg_row hn.r.rx (fun hk => by have := hn.nx _ hk; have := h.q.lt; omega) _⟩, (setRow_other W B Z _ (fun e => h.ne e.symm)).trans (h.z.go hn.bl), below_setRow (nextG h.bl hn.bl) h.hB _, h.hB, h.hZ, h.ne,
    fun k hk => by have := hn.nu _ hk; have := h.q.lt; have := h.z.lt; have := h.bl.size; omega, fun k hk => by have := hn.nv _ hk; have := h.q.lt; have := h.z.lt; have := h.bl.size; omega, fun k hk => by have := hn.nx _ hk; have := h.q.lt; have := h.z.lt; have := h.bl.size; omega⟩
/-- The state's block is written anew. -/
theorem FT.put {m : Nat} {w W : World} {B Z : Nat} {u v x u' v' x' : Value} {T T' : ByteArray} {s s' : TS} (h : FT m w W B Z u v x T s) (hr : TR W u' v' x' T' s') (fu : ∀ k, Blk u' k → m ≤ k ∧ k ≠ B ∧ k ≠ Z) (fv : ∀ k, Blk v' k → m ≤ k ∧ k ≠ B ∧ k ≠ Z) (fx : ∀ k, Blk x' k → m ≤ k ∧ k ≠ B ∧ k ≠ Z) :
    FT m w (W.setRow B #[.int .u64 s'.o.ba, .int .u64 s'.o.tp, .string s'.o.d, u', v', .bool s'.o.fin, .bool s'.o.ft, .bool s'.o.fa, .int .u64 s'.cr, .int .u64 s'.cd, .int .u64 s'.wy, .bool s'.rs, .bool s'.td, .bool s'.gn, .int .u64 s'.i.rd, x', .int .u64 s'.i.fin, .bool s'.i.kn, .int .u64 s'.wn, .int .u64 s'.lm, .bool s'.rz, .bool s'.bk, .bool s'.sp, .int .u64 s'.sc, .bool s'.st]) B Z u' v' x' T' s' :=
  ⟨setRow_heap W B _ _ _ _ h.q, ⟨rd_row hr.ra (fun hk => (fu _ hk).2.1 rfl) _, rd_row hr.rt (fun hk => (fv _ hk).2.1 rfl) _, rowg_row hr.rx (fun hk => (fx _ hk).2.1 rfl) _⟩, (setRow_other W B Z _ (fun e => h.ne e.symm)).trans h.z, below_setRow h.bl h.hB _, h.hB, h.hZ, h.ne, fu, fv, fx⟩
/-- The answer's block is written. -/
theorem FT.end {m : Nat} {w W : World} {B Z : Nat} {u v x : Value} {T : ByteArray} {s : TS} (h : FT m w W B Z u v x T s) : TB (W.setRow Z #[.int .u64 s.o.ba, .int .u64 s.o.tp, .string s.o.d, u, v, .bool s.o.fin, .bool s.o.ft, .bool s.o.fa, .int .u64 s.cr, .int .u64 s.cd, .int .u64 s.wy, .bool s.rs, .bool s.td, .bool s.gn, .int .u64 s.i.rd, x, .int .u64 s.i.fin, .bool s.i.kn, .int .u64 s.wn, .int .u64 s.lm, .bool s.rz, .bool s.bk, .bool s.sp, .int .u64 s.sc, .bool s.st]) Z u v x s ∧ N3 m w (W.setRow Z #[.int .u64 s.o.ba, .int .u64 s.o.tp, .string s.o.d, u, v, .bool s.o.fin, .bool s.o.ft, .bool s.o.fa, .int .u64 s.cr, .int .u64 s.cd, .int .u64 s.wy, .bool s.rs, .bool s.td, .bool s.gn, .int .u64 s.i.rd, x, .int .u64 s.i.fin, .bool s.i.kn, .int .u64 s.wn, .int .u64 s.lm, .bool s.rz, .bool s.bk, .bool s.sp, .int .u64 s.sc, .bool s.st]) u v x T s :=
  ⟨setRow_heap W Z _ _ _ _ h.z, ⟨rd_row h.r.ra (fun hk => (h.fu _ hk).2.2 rfl) _, rd_row h.r.rt (fun hk => (h.fv _ hk).2.2 rfl) _, rowg_row h.r.rx (fun hk => (h.fx _ hk).2.2 rfl) _⟩, fun k hk => (h.fu k hk).1, fun k hk => (h.fv k hk).1, fun k hk => (h.fx k hk).1, below_setRow h.bl h.hZ _⟩
/-- A cell of the state's block is written. -/
theorem FT.cell {m : Nat} {w W : World} {B Z : Nat} {u v x : Value} {T : ByteArray} {s s' : TS} (h : FT m w W B Z u v x T s) {k : Nat} {y : Value} (hq : TB (W.setCell ⟨B, k, none⟩ y) B u v x s') (ea : s'.o.ak = s.o.ak) (et : s'.o.td = s.o.td) (el : s'.i.l = s.i.l) : FT m w (W.setCell ⟨B, k, none⟩ y) B Z u v x T s' :=
  ⟨hq, ⟨by rw [ea]; exact rd_set h.r.ra (fun hk => (h.fu _ hk).2.1 rfl) y, by rw [et]; exact rd_set h.r.rt (fun hk => (h.fv _ hk).2.1 rfl) y, by rw [el]; exact rowg_set h.r.rx (fun hk => (h.fx _ hk).2.1 rfl) y⟩, (Below.heap_setCell W ⟨B, k, none⟩ y Z (fun e => h.ne e.symm)).trans h.z, Below.setCell h.bl (p := ⟨B, k, none⟩) h.hB y, h.hB, h.hZ, h.ne, h.fu, h.fv, h.fx⟩
theorem FT.s10 {m : Nat} {w W : World} {B Z : Nat} {u v x : Value} {T : ByteArray} {s : TS} (h : FT m w W B Z u v x T s) (y : Int) : FT m w (W.setCell ⟨B, 10, none⟩ (.int .u64 y)) B Z u v x T { s with wy := y } := h.cell (h.q.s10 y) rfl rfl rfl
theorem FT.s12 {m : Nat} {w W : World} {B Z : Nat} {u v x : Value} {T : ByteArray} {s : TS} (h : FT m w W B Z u v x T s) (y : Bool) : FT m w (W.setCell ⟨B, 12, none⟩ (.bool y)) B Z u v x T { s with td := y } := h.cell (h.q.s12 y) rfl rfl rfl
theorem FT.s19 {m : Nat} {w W : World} {B Z : Nat} {u v x : Value} {T : ByteArray} {s : TS} (h : FT m w W B Z u v x T s) (y : Int) : FT m w (W.setCell ⟨B, 19, none⟩ (.int .u64 y)) B Z u v x T { s with lm := y } := h.cell (h.q.s19 y) rfl rfl rfl
theorem FT.s20 {m : Nat} {w W : World} {B Z : Nat} {u v x : Value} {T : ByteArray} {s : TS} (h : FT m w W B Z u v x T s) (y : Bool) : FT m w (W.setCell ⟨B, 20, none⟩ (.bool y)) B Z u v x T { s with rz := y } := h.cell (h.q.s20 y) rfl rfl rfl
theorem FT.s21 {m : Nat} {w W : World} {B Z : Nat} {u v x : Value} {T : ByteArray} {s : TS} (h : FT m w W B Z u v x T s) (y : Bool) : FT m w (W.setCell ⟨B, 21, none⟩ (.bool y)) B Z u v x T { s with bk := y } := h.cell (h.q.s21 y) rfl rfl rfl
theorem FT.s24 {m : Nat} {w W : World} {B Z : Nat} {u v x : Value} {T : ByteArray} {s : TS} (h : FT m w W B Z u v x T s) (y : Bool) : FT m w (W.setCell ⟨B, 24, none⟩ (.bool y)) B Z u v x T { s with st := y } := h.cell (h.q.s24 y) rfl rfl rfl
/-- The eight cells of what goes out are written. -/
theorem FT.out8 {m : Nat} {w W : World} {B Z : Nat} {u v x u' v' : Value} {T : ByteArray} {s : TS} {o : SS} (h : FT m w W B Z u v x T s) (ra : Rd W u' o.ak) (rt : Rd W v' o.td) (fu : ∀ k, Blk u' k → m ≤ k ∧ k ≠ B ∧ k ≠ Z) (fv : ∀ k, Blk v' k → m ≤ k ∧ k ≠ B ∧ k ≠ Z) :
    FT m w ((((((((W.setCell ⟨B, 0, none⟩ (.int .u64 o.ba)).setCell ⟨B, 1, none⟩ (.int .u64 o.tp)).setCell ⟨B, 2, none⟩ (.string o.d)).setCell ⟨B, 3, none⟩ (u')).setCell ⟨B, 4, none⟩ (v')).setCell ⟨B, 5, none⟩ (.bool o.fin)).setCell ⟨B, 6, none⟩ (.bool o.ft)).setCell ⟨B, 7, none⟩ (.bool o.fa)) B Z u' v' x T { s with o := o } :=
  ⟨((((((((h.q.s0 _).s1 _).s2 _).sU _).sV _).s5 _).s6 _).s7 _), ⟨(rd_set (rd_set (rd_set (rd_set (rd_set (rd_set (rd_set (rd_set ra (fun hk => (fu _ hk).2.1 rfl) _) (fun hk => (fu _ hk).2.1 rfl) _) (fun hk => (fu _ hk).2.1 rfl) _) (fun hk => (fu _ hk).2.1 rfl) _) (fun hk => (fu _ hk).2.1 rfl) _) (fun hk => (fu _ hk).2.1 rfl) _) (fun hk => (fu _ hk).2.1 rfl) _) (fun hk => (fu _ hk).2.1 rfl) _), (rd_set (rd_set (rd_set (rd_set (rd_set (rd_set (rd_set (rd_set rt (fun hk => (fv _ hk).2.1 rfl) _) (fun hk => (fv _ hk).2.1 rfl) _) (fun hk => (fv _ hk).2.1 rfl) _) (fun hk => (fv _ hk).2.1 rfl) _) (fun hk => (fv _ hk).2.1 rfl) _) (fun hk => (fv _ hk).2.1 rfl) _) (fun hk => (fv _ hk).2.1 rfl) _) (fun hk => (fv _ hk).2.1 rfl) _), (rowg_set (rowg_set (rowg_set (rowg_set (rowg_set (rowg_set (rowg_set (rowg_set h.r.rx (fun hk => (h.fx _ hk).2.1 rfl) _) (fun hk => (h.fx _ hk).2.1 rfl) _) (fun hk => (h.fx _ hk).2.1 rfl) _) (fun hk => (h.fx _ hk).2.1 rfl) _) (fun hk => (h.fx _ hk).2.1 rfl) _) (fun hk => (h.fx _ hk).2.1 rfl) _) (fun hk => (h.fx _ hk).2.1 rfl) _) (fun hk => (h.fx _ hk).2.1 rfl) _)⟩,
    ((Below.heap_setCell _ ⟨B, 7, none⟩ _ Z (fun e => h.ne e.symm)).trans ((Below.heap_setCell _ ⟨B, 6, none⟩ _ Z (fun e => h.ne e.symm)).trans ((Below.heap_setCell _ ⟨B, 5, none⟩ _ Z (fun e => h.ne e.symm)).trans ((Below.heap_setCell _ ⟨B, 4, none⟩ _ Z (fun e => h.ne e.symm)).trans ((Below.heap_setCell _ ⟨B, 3, none⟩ _ Z (fun e => h.ne e.symm)).trans ((Below.heap_setCell _ ⟨B, 2, none⟩ _ Z (fun e => h.ne e.symm)).trans ((Below.heap_setCell _ ⟨B, 1, none⟩ _ Z (fun e => h.ne e.symm)).trans ((Below.heap_setCell _ ⟨B, 0, none⟩ _ Z (fun e => h.ne e.symm)).trans h.z)))))))), below_eight h.bl h.hB _ _ _ _ _ _ _ _, h.hB, h.hZ, h.ne, fu, fv, h.fx⟩
/-- The four cells of what comes in are written. -/
theorem FT.in4 {m : Nat} {w W : World} {B Z : Nat} {u v x x' : Value} {T T' : ByteArray} {s : TS} {i : Gt.GS} (h : FT m w W B Z u v x T s) (rx : Gt.RowG W x' T' i.l) (fx : ∀ k, Blk x' k → m ≤ k ∧ k ≠ B ∧ k ≠ Z) :
    FT m w ((((W.setCell ⟨B, 14, none⟩ (.int .u64 i.rd)).setCell ⟨B, 15, none⟩ (x')).setCell ⟨B, 16, none⟩ (.int .u64 i.fin)).setCell ⟨B, 17, none⟩ (.bool i.kn)) B Z u v x' T' { s with i := i } :=
  ⟨((((h.q.s14 _).sX _).s16 _).s17 _), ⟨(rd_set (rd_set (rd_set (rd_set h.r.ra (fun hk => (h.fu _ hk).2.1 rfl) _) (fun hk => (h.fu _ hk).2.1 rfl) _) (fun hk => (h.fu _ hk).2.1 rfl) _) (fun hk => (h.fu _ hk).2.1 rfl) _), (rd_set (rd_set (rd_set (rd_set h.r.rt (fun hk => (h.fv _ hk).2.1 rfl) _) (fun hk => (h.fv _ hk).2.1 rfl) _) (fun hk => (h.fv _ hk).2.1 rfl) _) (fun hk => (h.fv _ hk).2.1 rfl) _), (rowg_set (rowg_set (rowg_set (rowg_set rx (fun hk => (fx _ hk).2.1 rfl) _) (fun hk => (fx _ hk).2.1 rfl) _) (fun hk => (fx _ hk).2.1 rfl) _) (fun hk => (fx _ hk).2.1 rfl) _)⟩,
    ((Below.heap_setCell _ ⟨B, 17, none⟩ _ Z (fun e => h.ne e.symm)).trans ((Below.heap_setCell _ ⟨B, 16, none⟩ _ Z (fun e => h.ne e.symm)).trans ((Below.heap_setCell _ ⟨B, 15, none⟩ _ Z (fun e => h.ne e.symm)).trans ((Below.heap_setCell _ ⟨B, 14, none⟩ _ Z (fun e => h.ne e.symm)).trans h.z)))), (Below.setCell (Below.setCell (Below.setCell (Below.setCell h.bl (p := ⟨B, 14, none⟩) h.hB _) (p := ⟨B, 15, none⟩) h.hB _) (p := ⟨B, 16, none⟩) h.hB _) (p := ⟨B, 17, none⟩) h.hB _), h.hB, h.hZ, h.ne, h.fu, h.fv, fx⟩
/-- What comes in has no parts any more. -/
theorem FT.nilx {m : Nat} {w W : World} {B Z : Nat} {u v x : Value} {T : ByteArray} {s : TS} (h : FT m w W B Z u v x T s) : FT m w (W.setCell ⟨B, 15, none⟩ (.slice none 0 0)) B Z u v (.slice none 0 0) T { s with i := { s.i with l := [] } } :=
  ⟨h.q.sX _, ⟨rd_set h.r.ra (fun hk => (h.fu _ hk).2.1 rfl) _, rd_set h.r.rt (fun hk => (h.fv _ hk).2.1 rfl) _, Gt.RowG.nil _ _⟩, (Below.heap_setCell W ⟨B, 15, none⟩ _ Z (fun e => h.ne e.symm)).trans h.z, Below.setCell h.bl (p := ⟨B, 15, none⟩) h.hB _, h.hB, h.hZ, h.ne, h.fu, h.fv, fun k hk => hk.elim⟩
theorem one_ts (s : TS) (a1 : Option Addr) (n1 c1 : Nat) (a2 : Option Addr) (n2 c2 : Nat) (a3 : Option Addr) (n3 c3 : Nat) : (#[.int .u64 s.o.ba, .int .u64 s.o.tp, .string s.o.d, .slice a1 n1 c1, .slice a2 n2 c2, .bool s.o.fin, .bool s.o.ft, .bool s.o.fa, .int .u64 s.cr, .int .u64 s.cd, .int .u64 s.wy, .bool s.rs, .bool s.td, .bool s.gn, .int .u64 s.i.rd, .slice a3 n3 c3, .int .u64 s.i.fin, .bool s.i.kn, .int .u64 s.wn, .int .u64 s.lm, .bool s.rz, .bool s.bk, .bool s.sp, .int .u64 s.sc, .bool s.st] : Array Value).all (·.oneCell') = true := by simp [Value.oneCell']
theorem infT : (Tryz.prog.info? 35).map (·.size) = some 25 := by kernel_rfl
theorem results_ts {fn : Func} {p : Tmp} (h : fn.results = #[.cell p 35]) (tmps : Array Value) (g : Nat) (u v x : Value) (s : TS) (w : World) (hp : tmps.getD p undef = .pointer (some ⟨g, 0, none⟩)) (hc : TB w g u v x s) :
    (results fn tmps).run Tryz.prog w = .ok (.agg #[.int .u64 s.o.ba, .int .u64 s.o.tp, .string s.o.d, u, v, .bool s.o.fin, .bool s.o.ft, .bool s.o.fa, .int .u64 s.cr, .int .u64 s.cd, .int .u64 s.wy, .bool s.rs, .bool s.td, .bool s.gn, .int .u64 s.i.rd, x, .int .u64 s.i.fin, .bool s.i.kn, .int .u64 s.wn, .int .u64 s.lm, .bool s.rz, .bool s.bk, .bool s.sp, .int .u64 s.sc, .bool s.st]) w := by
  rw [results_cell1 h]
  simp only [hp]
  exact run_loadVar_row w g _ _ _ _ _ hc Tryz.underlying35 rfl infT
/-- own's frame: the state's rows are the argument's. -/
structure OT (w W : World) (u v x : Value) (T : ByteArray) (s : TS) : Prop where
  q : TB W w.heap.size u v x s
  r : TR W u v x T s
  z : ZB W (w.heap.size + 1)
  bl : Below w.heap.size w W
theorem OT.go {w W W' : World} {u v x : Value} {T : ByteArray} {s : TS} (h : OT w W u v x T s) (hb : Below W.heap.size W W') : OT w W' u v x T s := ⟨h.q.go hb, h.r.go hb, h.z.go hb, nextG h.bl hb⟩
theorem OT.dr {w W : World} {u v x : Value} {T : ByteArray} {s : TS} (h : OT w W u v x T s) : OT w W.drew u v x T s := h.go (Below.refl _ _).drew
theorem ot_made (w : World) (u v x : Value) (T : ByteArray) (s : TS) (h : TR w u v x T s) : OT w ((w.alloc (.cells #[.int .u64 s.o.ba, .int .u64 s.o.tp, .string s.o.d, u, v, .bool s.o.fin, .bool s.o.ft, .bool s.o.fa, .int .u64 s.cr, .int .u64 s.cd, .int .u64 s.wy, .bool s.rs, .bool s.td, .bool s.gn, .int .u64 s.i.rd, x, .int .u64 s.i.fin, .bool s.i.kn, .int .u64 s.wn, .int .u64 s.lm, .bool s.rz, .bool s.bk, .bool s.sp, .int .u64 s.sc, .bool s.st] 35)).alloc (.cells #[.int .u64 0, .int .u64 0, .string ⟨#[]⟩, .slice none 0 0, .slice none 0 0, .bool false, .bool false, .bool false, .int .u64 0, .int .u64 0, .int .u64 0, .bool false, .bool false, .bool false, .int .u64 0, .slice none 0 0, .int .u64 0, .bool false, .int .u64 0, .int .u64 0, .bool false, .bool false, .bool false, .int .u64 0, .bool false] 35)) u v x T s := by
  have h1 := (Below.refl w.heap.size w).alloc (Nat.le_refl _) (.cells #[.int .u64 s.o.ba, .int .u64 s.o.tp, .string s.o.d, u, v, .bool s.o.fin, .bool s.o.ft, .bool s.o.fa, .int .u64 s.cr, .int .u64 s.cd, .int .u64 s.wy, .bool s.rs, .bool s.td, .bool s.gn, .int .u64 s.i.rd, x, .int .u64 s.i.fin, .bool s.i.kn, .int .u64 s.wn, .int .u64 s.lm, .bool s.rz, .bool s.bk, .bool s.sp, .int .u64 s.sc, .bool s.st] 35)
  have h2 := (Below.refl (w.alloc (.cells #[.int .u64 s.o.ba, .int .u64 s.o.tp, .string s.o.d, u, v, .bool s.o.fin, .bool s.o.ft, .bool s.o.fa, .int .u64 s.cr, .int .u64 s.cd, .int .u64 s.wy, .bool s.rs, .bool s.td, .bool s.gn, .int .u64 s.i.rd, x, .int .u64 s.i.fin, .bool s.i.kn, .int .u64 s.wn, .int .u64 s.lm, .bool s.rz, .bool s.bk, .bool s.sp, .int .u64 s.sc, .bool s.st] 35)).heap.size (w.alloc (.cells #[.int .u64 s.o.ba, .int .u64 s.o.tp, .string s.o.d, u, v, .bool s.o.fin, .bool s.o.ft, .bool s.o.fa, .int .u64 s.cr, .int .u64 s.cd, .int .u64 s.wy, .bool s.rs, .bool s.td, .bool s.gn, .int .u64 s.i.rd, x, .int .u64 s.i.fin, .bool s.i.kn, .int .u64 s.wn, .int .u64 s.lm, .bool s.rz, .bool s.bk, .bool s.sp, .int .u64 s.sc, .bool s.st] 35))).alloc (Nat.le_refl _) (.cells #[.int .u64 0, .int .u64 0, .string ⟨#[]⟩, .slice none 0 0, .slice none 0 0, .bool false, .bool false, .bool false, .int .u64 0, .int .u64 0, .int .u64 0, .bool false, .bool false, .bool false, .int .u64 0, .slice none 0 0, .int .u64 0, .bool false, .int .u64 0, .int .u64 0, .bool false, .bool false, .bool false, .int .u64 0, .bool false] 35)
  have hz := zb_made (w.alloc (.cells #[.int .u64 s.o.ba, .int .u64 s.o.tp, .string s.o.d, u, v, .bool s.o.fin, .bool s.o.ft, .bool s.o.fa, .int .u64 s.cr, .int .u64 s.cd, .int .u64 s.wy, .bool s.rs, .bool s.td, .bool s.gn, .int .u64 s.i.rd, x, .int .u64 s.i.fin, .bool s.i.kn, .int .u64 s.wn, .int .u64 s.lm, .bool s.rz, .bool s.bk, .bool s.sp, .int .u64 s.sc, .bool s.st] 35))
  rw [World.size_alloc] at hz
  exact ⟨(tb_made w u v x s).go h2, h.go (h1.alloc (by simp) _), hz, h1.alloc (by simp) _⟩
/-- A frame in a block. -/
def FB (W : World) (g : Nat) (f : Fm.Frm) : Prop := W.heap[g]? = some (.cells #[.int .u64 f.kind, .int .u64 f.id, .int .u64 f.off, .int .u64 f.max, .int .u64 f.code, .int .u64 f.seq, .int .u64 f.prior, .int .u64 f.delay, .bool f.fin, .string ⟨f.data.toArray⟩, .string ⟨f.cid.toArray⟩, .string ⟨f.token.toArray⟩, .slice f.set.a f.set.n f.set.c] 48 (0, 0))
theorem FB.lt {W : World} {g : Nat} {f : Fm.Frm} (h : FB W g f) : g < W.heap.size := (Array.getElem?_eq_some_iff.1 h).1
theorem FB.go {W W' : World} {g : Nat} {f : Fm.Frm} (h : FB W g f) (hb : Below W.heap.size W W') : FB W' g f := (hb.block g h.lt).trans h
theorem FB.fz {W : World} {g : Nat} {f : Fm.Frm} (h : FB W g f) (j : Nat) : W.frozen? ⟨g, j, none⟩ = false := Lib.frozen_of_heap h j
theorem fb_made (W : World) (f : Fm.Frm) : FB (W.alloc (.cells #[.int .u64 f.kind, .int .u64 f.id, .int .u64 f.off, .int .u64 f.max, .int .u64 f.code, .int .u64 f.seq, .int .u64 f.prior, .int .u64 f.delay, .bool f.fin, .string ⟨f.data.toArray⟩, .string ⟨f.cid.toArray⟩, .string ⟨f.token.toArray⟩, .slice f.set.a f.set.n f.set.c] 48)) W.heap.size f := heap_alloc_new W _
theorem FB.c0 {W : World} {g : Nat} {f : Fm.Frm} (h : FB W g f) : W.cell? ⟨g, 0, none⟩ = some (.int .u64 f.kind) := Lib.cell_of_heap h 0
theorem FB.c1 {W : World} {g : Nat} {f : Fm.Frm} (h : FB W g f) : W.cell? ⟨g, 1, none⟩ = some (.int .u64 f.id) := Lib.cell_of_heap h 1
theorem FB.c2 {W : World} {g : Nat} {f : Fm.Frm} (h : FB W g f) : W.cell? ⟨g, 2, none⟩ = some (.int .u64 f.off) := Lib.cell_of_heap h 2
theorem FB.c3 {W : World} {g : Nat} {f : Fm.Frm} (h : FB W g f) : W.cell? ⟨g, 3, none⟩ = some (.int .u64 f.max) := Lib.cell_of_heap h 3
theorem FB.c4 {W : World} {g : Nat} {f : Fm.Frm} (h : FB W g f) : W.cell? ⟨g, 4, none⟩ = some (.int .u64 f.code) := Lib.cell_of_heap h 4
theorem FB.c5 {W : World} {g : Nat} {f : Fm.Frm} (h : FB W g f) : W.cell? ⟨g, 5, none⟩ = some (.int .u64 f.seq) := Lib.cell_of_heap h 5
theorem FB.c6 {W : World} {g : Nat} {f : Fm.Frm} (h : FB W g f) : W.cell? ⟨g, 6, none⟩ = some (.int .u64 f.prior) := Lib.cell_of_heap h 6
theorem FB.c7 {W : World} {g : Nat} {f : Fm.Frm} (h : FB W g f) : W.cell? ⟨g, 7, none⟩ = some (.int .u64 f.delay) := Lib.cell_of_heap h 7
theorem FB.c8 {W : World} {g : Nat} {f : Fm.Frm} (h : FB W g f) : W.cell? ⟨g, 8, none⟩ = some (.bool f.fin) := Lib.cell_of_heap h 8
theorem FB.c9 {W : World} {g : Nat} {f : Fm.Frm} (h : FB W g f) : W.cell? ⟨g, 9, none⟩ = some (.string ⟨f.data.toArray⟩) := Lib.cell_of_heap h 9
theorem FB.c10 {W : World} {g : Nat} {f : Fm.Frm} (h : FB W g f) : W.cell? ⟨g, 10, none⟩ = some (.string ⟨f.cid.toArray⟩) := Lib.cell_of_heap h 10
theorem FB.c11 {W : World} {g : Nat} {f : Fm.Frm} (h : FB W g f) : W.cell? ⟨g, 11, none⟩ = some (.string ⟨f.token.toArray⟩) := Lib.cell_of_heap h 11
theorem FB.c12 {W : World} {g : Nat} {f : Fm.Frm} (h : FB W g f) : W.cell? ⟨g, 12, none⟩ = some (.slice f.set.a f.set.n f.set.c) := Lib.cell_of_heap h 12
/-- The boxes of a method: the state, the answer. -/
theorem ft_made1 {m : Nat} (w : World) (a1 : Option Addr) (n1 c1 : Nat) (a2 : Option Addr) (n2 c2 : Nat) (a3 : Option Addr) (n3 c3 : Nat) (T : ByteArray) (s : TS) (h : TR w (.slice a1 n1 c1) (.slice a2 n2 c2) (.slice a3 n3 c3) T s) (fu : ∀ k, Blk (.slice a1 n1 c1) k → m ≤ k) (fv : ∀ k, Blk (.slice a2 n2 c2) k → m ≤ k) (fx : ∀ k, Blk (.slice a3 n3 c3) k → m ≤ k) : FT m w ((w.alloc (.cells #[.int .u64 s.o.ba, .int .u64 s.o.tp, .string s.o.d, .slice a1 n1 c1, .slice a2 n2 c2, .bool s.o.fin, .bool s.o.ft, .bool s.o.fa, .int .u64 s.cr, .int .u64 s.cd, .int .u64 s.wy, .bool s.rs, .bool s.td, .bool s.gn, .int .u64 s.i.rd, .slice a3 n3 c3, .int .u64 s.i.fin, .bool s.i.kn, .int .u64 s.wn, .int .u64 s.lm, .bool s.rz, .bool s.bk, .bool s.sp, .int .u64 s.sc, .bool s.st] 35)).alloc (.cells #[.int .u64 0, .int .u64 0, .string ⟨#[]⟩, .slice none 0 0, .slice none 0 0, .bool false, .bool false, .bool false, .int .u64 0, .int .u64 0, .int .u64 0, .bool false, .bool false, .bool false, .int .u64 0, .slice none 0 0, .int .u64 0, .bool false, .int .u64 0, .int .u64 0, .bool false, .bool false, .bool false, .int .u64 0, .bool false] 35)) w.heap.size (w.heap.size + 1) (.slice a1 n1 c1) (.slice a2 n2 c2) (.slice a3 n3 c3) T s := by
  have k := ot_made w (.slice a1 n1 c1) (.slice a2 n2 c2) (.slice a3 n3 c3) T s h
  exact ⟨k.q, k.r, k.z, k.bl, Nat.le_refl _, Nat.le_succ _, by omega, fun q hq => by have := fu q hq; have := h.ra.blk hq; omega, fun q hq => by have := fv q hq; have := h.rt.blk hq; omega, fun q hq => by have := fx q hq; have := h.rx.blk hq; omega⟩
theorem ft_made2 {m : Nat} (w : World) (a1 : Option Addr) (n1 c1 : Nat) (a2 : Option Addr) (n2 c2 : Nat) (a3 : Option Addr) (n3 c3 : Nat) (T : ByteArray) (s : TS) (f : Fm.Frm) (h : TR w (.slice a1 n1 c1) (.slice a2 n2 c2) (.slice a3 n3 c3) T s) (fu : ∀ k, Blk (.slice a1 n1 c1) k → m ≤ k) (fv : ∀ k, Blk (.slice a2 n2 c2) k → m ≤ k) (fx : ∀ k, Blk (.slice a3 n3 c3) k → m ≤ k) : FT m w (((w.alloc (.cells #[.int .u64 s.o.ba, .int .u64 s.o.tp, .string s.o.d, .slice a1 n1 c1, .slice a2 n2 c2, .bool s.o.fin, .bool s.o.ft, .bool s.o.fa, .int .u64 s.cr, .int .u64 s.cd, .int .u64 s.wy, .bool s.rs, .bool s.td, .bool s.gn, .int .u64 s.i.rd, .slice a3 n3 c3, .int .u64 s.i.fin, .bool s.i.kn, .int .u64 s.wn, .int .u64 s.lm, .bool s.rz, .bool s.bk, .bool s.sp, .int .u64 s.sc, .bool s.st] 35)).alloc (.cells #[.int .u64 f.kind, .int .u64 f.id, .int .u64 f.off, .int .u64 f.max, .int .u64 f.code, .int .u64 f.seq, .int .u64 f.prior, .int .u64 f.delay, .bool f.fin, .string ⟨f.data.toArray⟩, .string ⟨f.cid.toArray⟩, .string ⟨f.token.toArray⟩, .slice f.set.a f.set.n f.set.c] 48)).alloc (.cells #[.int .u64 0, .int .u64 0, .string ⟨#[]⟩, .slice none 0 0, .slice none 0 0, .bool false, .bool false, .bool false, .int .u64 0, .int .u64 0, .int .u64 0, .bool false, .bool false, .bool false, .int .u64 0, .slice none 0 0, .int .u64 0, .bool false, .int .u64 0, .int .u64 0, .bool false, .bool false, .bool false, .int .u64 0, .bool false] 35)) w.heap.size (w.heap.size + 2) (.slice a1 n1 c1) (.slice a2 n2 c2) (.slice a3 n3 c3) T s ∧ FB (((w.alloc (.cells #[.int .u64 s.o.ba, .int .u64 s.o.tp, .string s.o.d, .slice a1 n1 c1, .slice a2 n2 c2, .bool s.o.fin, .bool s.o.ft, .bool s.o.fa, .int .u64 s.cr, .int .u64 s.cd, .int .u64 s.wy, .bool s.rs, .bool s.td, .bool s.gn, .int .u64 s.i.rd, .slice a3 n3 c3, .int .u64 s.i.fin, .bool s.i.kn, .int .u64 s.wn, .int .u64 s.lm, .bool s.rz, .bool s.bk, .bool s.sp, .int .u64 s.sc, .bool s.st] 35)).alloc (.cells #[.int .u64 f.kind, .int .u64 f.id, .int .u64 f.off, .int .u64 f.max, .int .u64 f.code, .int .u64 f.seq, .int .u64 f.prior, .int .u64 f.delay, .bool f.fin, .string ⟨f.data.toArray⟩, .string ⟨f.cid.toArray⟩, .string ⟨f.token.toArray⟩, .slice f.set.a f.set.n f.set.c] 48)).alloc (.cells #[.int .u64 0, .int .u64 0, .string ⟨#[]⟩, .slice none 0 0, .slice none 0 0, .bool false, .bool false, .bool false, .int .u64 0, .int .u64 0, .int .u64 0, .bool false, .bool false, .bool false, .int .u64 0, .slice none 0 0, .int .u64 0, .bool false, .int .u64 0, .int .u64 0, .bool false, .bool false, .bool false, .int .u64 0, .bool false] 35)) (w.heap.size + 1) f := by
  have h1 := (Below.refl w.heap.size w).alloc (Nat.le_refl _) (.cells #[.int .u64 s.o.ba, .int .u64 s.o.tp, .string s.o.d, .slice a1 n1 c1, .slice a2 n2 c2, .bool s.o.fin, .bool s.o.ft, .bool s.o.fa, .int .u64 s.cr, .int .u64 s.cd, .int .u64 s.wy, .bool s.rs, .bool s.td, .bool s.gn, .int .u64 s.i.rd, .slice a3 n3 c3, .int .u64 s.i.fin, .bool s.i.kn, .int .u64 s.wn, .int .u64 s.lm, .bool s.rz, .bool s.bk, .bool s.sp, .int .u64 s.sc, .bool s.st] 35)
  have h2 := h1.alloc (by simp) (.cells #[.int .u64 f.kind, .int .u64 f.id, .int .u64 f.off, .int .u64 f.max, .int .u64 f.code, .int .u64 f.seq, .int .u64 f.prior, .int .u64 f.delay, .bool f.fin, .string ⟨f.data.toArray⟩, .string ⟨f.cid.toArray⟩, .string ⟨f.token.toArray⟩, .slice f.set.a f.set.n f.set.c] 48)
  have h3 := h2.alloc (by rw [World.size_alloc, World.size_alloc]; omega) (.cells #[.int .u64 0, .int .u64 0, .string ⟨#[]⟩, .slice none 0 0, .slice none 0 0, .bool false, .bool false, .bool false, .int .u64 0, .int .u64 0, .int .u64 0, .bool false, .bool false, .bool false, .int .u64 0, .slice none 0 0, .int .u64 0, .bool false, .int .u64 0, .int .u64 0, .bool false, .bool false, .bool false, .int .u64 0, .bool false] 35)
  have hz := zb_made ((w.alloc (.cells #[.int .u64 s.o.ba, .int .u64 s.o.tp, .string s.o.d, .slice a1 n1 c1, .slice a2 n2 c2, .bool s.o.fin, .bool s.o.ft, .bool s.o.fa, .int .u64 s.cr, .int .u64 s.cd, .int .u64 s.wy, .bool s.rs, .bool s.td, .bool s.gn, .int .u64 s.i.rd, .slice a3 n3 c3, .int .u64 s.i.fin, .bool s.i.kn, .int .u64 s.wn, .int .u64 s.lm, .bool s.rz, .bool s.bk, .bool s.sp, .int .u64 s.sc, .bool s.st] 35)).alloc (.cells #[.int .u64 f.kind, .int .u64 f.id, .int .u64 f.off, .int .u64 f.max, .int .u64 f.code, .int .u64 f.seq, .int .u64 f.prior, .int .u64 f.delay, .bool f.fin, .string ⟨f.data.toArray⟩, .string ⟨f.cid.toArray⟩, .string ⟨f.token.toArray⟩, .slice f.set.a f.set.n f.set.c] 48))
  have hf := fb_made (w.alloc (.cells #[.int .u64 s.o.ba, .int .u64 s.o.tp, .string s.o.d, .slice a1 n1 c1, .slice a2 n2 c2, .bool s.o.fin, .bool s.o.ft, .bool s.o.fa, .int .u64 s.cr, .int .u64 s.cd, .int .u64 s.wy, .bool s.rs, .bool s.td, .bool s.gn, .int .u64 s.i.rd, .slice a3 n3 c3, .int .u64 s.i.fin, .bool s.i.kn, .int .u64 s.wn, .int .u64 s.lm, .bool s.rz, .bool s.bk, .bool s.sp, .int .u64 s.sc, .bool s.st] 35)) f
  simp only [World.size_alloc] at hz hf
  have hf2 := hf.go ((Below.refl _ _).alloc (Nat.le_refl _) (.cells #[.int .u64 0, .int .u64 0, .string ⟨#[]⟩, .slice none 0 0, .slice none 0 0, .bool false, .bool false, .bool false, .int .u64 0, .int .u64 0, .int .u64 0, .bool false, .bool false, .bool false, .int .u64 0, .slice none 0 0, .int .u64 0, .bool false, .int .u64 0, .int .u64 0, .bool false, .bool false, .bool false, .int .u64 0, .bool false] 35))
  have hq := ((tb_made w (.slice a1 n1 c1) (.slice a2 n2 c2) (.slice a3 n3 c3) s).go ((Below.refl _ _).alloc (Nat.le_refl _) (.cells #[.int .u64 f.kind, .int .u64 f.id, .int .u64 f.off, .int .u64 f.max, .int .u64 f.code, .int .u64 f.seq, .int .u64 f.prior, .int .u64 f.delay, .bool f.fin, .string ⟨f.data.toArray⟩, .string ⟨f.cid.toArray⟩, .string ⟨f.token.toArray⟩, .slice f.set.a f.set.n f.set.c] 48))).go ((Below.refl _ _).alloc (Nat.le_refl _) (.cells #[.int .u64 0, .int .u64 0, .string ⟨#[]⟩, .slice none 0 0, .slice none 0 0, .bool false, .bool false, .bool false, .int .u64 0, .int .u64 0, .int .u64 0, .bool false, .bool false, .bool false, .int .u64 0, .slice none 0 0, .int .u64 0, .bool false, .int .u64 0, .int .u64 0, .bool false, .bool false, .bool false, .int .u64 0, .bool false] 35))
  exact ⟨⟨hq, h.go h3, hz, h3, Nat.le_refl _, by omega, by omega, fun q hq => by have := fu q hq; have := h.ra.blk hq; omega, fun q hq => by have := fv q hq; have := h.rt.blk hq; omega, fun q hq => by have := fx q hq; have := h.rx.blk hq; omega⟩, hf2⟩
theorem wpList_want {P : Program} {ops : Array Oper} {rest : List Oper} {o : Oper} {a : Act} {w : World} {Q : Exit → Act → World → Prop} (hw : Region.wanted o (yielded ops a.tmps) = true) (h : o.wp P a w (wpList P ops Q rest) Q) : wpList P ops Q (o :: rest) a w := by
  unfold wpList
  rw [if_pos hw]
  exact .inl h
/-- The whole state out of its block. -/
theorem ld35 {ops : Array Oper} {rest : List Oper} {o : Oper} {a : Act} {w : World} {Q : Exit → Act → World → Prop} {y : Operand} (ho : o.op = .load 35 y) {g : Nat} {u v x : Value} {s : TS} (hc : TB w g u v x s) (hx : a.eval y = .pointer (some ⟨g, 0, none⟩)) (hw : Region.wanted o (yielded ops a.tmps) = true)
    (h : wpList Tryz.prog ops Q rest (a.put o.dst (.agg #[.int .u64 s.o.ba, .int .u64 s.o.tp, .string s.o.d, u, v, .bool s.o.fin, .bool s.o.ft, .bool s.o.fa, .int .u64 s.cr, .int .u64 s.cd, .int .u64 s.wy, .bool s.rs, .bool s.td, .bool s.gn, .int .u64 s.i.rd, x, .int .u64 s.i.fin, .bool s.i.kn, .int .u64 s.wn, .int .u64 s.lm, .bool s.rz, .bool s.bk, .bool s.sp, .int .u64 s.sc, .bool s.st])) w) : wpList Tryz.prog ops Q (o :: rest) a w :=
  wpList_want hw (wp_load_row _ _ ho g hx _ _ _ _ hc Tryz.underlying35 rfl infT h)
/-- A whole state into a block. -/
theorem st35 {ops : Array Oper} {rest : List Oper} {o : Oper} {a : Act} {w : World} {Q : Exit → Act → World → Prop} {y z : Operand} (ho : o.op = .store 35 y z) {g : Nat} {A : Array Value} (hg : w.heap[g]? = some (.cells A 35 (0, 0))) (hA : A.size = 25) {a1 : Option Addr} {n1 c1 : Nat} {a2 : Option Addr} {n2 c2 : Nat} {a3 : Option Addr} {n3 c3 : Nat} {s : TS} (hx : a.eval y = .pointer (some ⟨g, 0, none⟩)) (hy : a.eval z = .agg #[.int .u64 s.o.ba, .int .u64 s.o.tp, .string s.o.d, .slice a1 n1 c1, .slice a2 n2 c2, .bool s.o.fin, .bool s.o.ft, .bool s.o.fa, .int .u64 s.cr, .int .u64 s.cd, .int .u64 s.wy, .bool s.rs, .bool s.td, .bool s.gn, .int .u64 s.i.rd, .slice a3 n3 c3, .int .u64 s.i.fin, .bool s.i.kn, .int .u64 s.wn, .int .u64 s.lm, .bool s.rz, .bool s.bk, .bool s.sp, .int .u64 s.sc, .bool s.st]) (hw : Region.wanted o (yielded ops a.tmps) = true)
    (h : wpList Tryz.prog ops Q rest (a.put o.dst undef) (w.setRow g #[.int .u64 s.o.ba, .int .u64 s.o.tp, .string s.o.d, .slice a1 n1 c1, .slice a2 n2 c2, .bool s.o.fin, .bool s.o.ft, .bool s.o.fa, .int .u64 s.cr, .int .u64 s.cd, .int .u64 s.wy, .bool s.rs, .bool s.td, .bool s.gn, .int .u64 s.i.rd, .slice a3 n3 c3, .int .u64 s.i.fin, .bool s.i.kn, .int .u64 s.wn, .int .u64 s.lm, .bool s.rz, .bool s.bk, .bool s.sp, .int .u64 s.sc, .bool s.st])) : wpList Tryz.prog ops Q (o :: rest) a w :=
  wpList_want hw (wp_store_row _ _ _ ho g _ hx hy _ _ hg infT hA (one_ts s _ _ _ _ _ _ _ _ _) h)
theorem cloneG_sets (T : ByteArray) (a : Option Addr) (n c : Nat) (l : List Ran) (w : World) (hl : n ≤ 1000) (hrd : Gt.RowG w (.slice a n c) T l) :
    Calls Tryz.prog 92 #[.slice a n c] w fun e w' => ∃ b d, e = .returned (.slice b l.length d) ∧ Gt.RowG w' (.slice b l.length d) T l ∧ (∀ k, Blk (.slice b l.length d) k → w.heap.size ≤ k) ∧ Below w.heap.size w w' := by
  have hn : l.length = n := by
    obtain ⟨a', c', e, _⟩ := hrd
    cases e; rfl
  refine (Gt.cloneG_any T a n c l w hn hl hrd).mono ?_
  rintro e w' ⟨u, rfl, q1, q2⟩
  obtain ⟨b, d, rfl⟩ := q1.form
  exact ⟨b, d, rfl, q1.row, fun k hk => (q1.blk hk).2, q2⟩
set_option maxHeartbeats 8000000 in
theorem own_any (s : TS) (T : ByteArray) (a1 : Option Addr) (n1 c1 : Nat) (a2 : Option Addr) (n2 c2 : Nat) (a3 : Option Addr) (n3 c3 : Nat) (w : World) (hl1 : n1 ≤ 1000) (hl2 : n2 ≤ 1000) (hl3 : n3 ≤ 1000) (h : TR w (.slice a1 n1 c1) (.slice a2 n2 c2) (.slice a3 n3 c3) T s) :
    Calls Tryz.prog 49 #[.agg #[.int .u64 s.o.ba, .int .u64 s.o.tp, .string s.o.d, .slice a1 n1 c1, .slice a2 n2 c2, .bool s.o.fin, .bool s.o.ft, .bool s.o.fa, .int .u64 s.cr, .int .u64 s.cd, .int .u64 s.wy, .bool s.rs, .bool s.td, .bool s.gn, .int .u64 s.i.rd, .slice a3 n3 c3, .int .u64 s.i.fin, .bool s.i.kn, .int .u64 s.wn, .int .u64 s.lm, .bool s.rz, .bool s.bk, .bool s.sp, .int .u64 s.sc, .bool s.st]] w (GvT w.heap.size w T s) := by
  have CA := Lib.hid (fun W (h : Rd W (.slice a1 n1 c1) s.o.ak) => clone_sets a1 n1 c1 s.o.ak W hl1 h)
  have CT := Lib.hid (fun W (h : Rd W (.slice a2 n2 c2) s.o.td) => clone_sets a2 n2 c2 s.o.td W hl2 h)
  have CX := Lib.hid (fun W (h : Gt.RowG W (.slice a3 n3 c3) T s.i.l) => cloneG_sets T a3 n3 c3 s.i.l W hl3 h)
  have HS0 := Lib.hid (ot_made w (.slice a1 n1 c1) (.slice a2 n2 c2) (.slice a3 n3 c3) T s h)
  have h3 := Lib.hid h.rx
  unfold Sets at CA CT
  obtain ⟨m1, hm1⟩ : ∃ m, s.o.ak.length = m := ⟨_, rfl⟩
  obtain ⟨m2, hm2⟩ : ∃ m, s.o.td.length = m := ⟨_, rfl⟩
  obtain ⟨m3, hm3⟩ : ∃ m, s.i.l.length = m := ⟨_, rfl⟩
  rw [hm1] at CA
  rw [hm2] at CT
  rw [hm3] at CX
  clear hl1 hl2 hl3 h hm1 hm2 hm3
  go_enter Tryz.func49, Tryz.ntmps49
  go_wp2_with fail
  refine wp_region_noPanic ?_
  refine wp_region_E (fun W : World => OT w W (.slice a1 n1 c1) (.slice a2 n2 c2) (.slice a3 n3 c3) T s) (fun j => Nat.ble 8 j) (by kernel_rfl) ?_ (fun hHeld => ?_)
  · exact HS0.out.dr
  refine wpAnyE_take (i := 0) (v := ?_) rfl (by kernel_rfl) (by kernel_rfl) (by kernel_rfl) (fun _ _ _ h => h) (Or.inl ⟨by rfl, ?_⟩) ?_
  rotate_left
  · (intro w hSw; go_simp; (try with_reducible rfl))
  try simp only [Act.put, List.getElem_toArray, List.getElem_cons_zero, List.getElem_cons_succ, List.setIfInBounds_toArray, List.set_cons_zero, List.set_cons_succ]
  refine wpAnyE_take (i := 1) (v := ?_) rfl (by kernel_rfl) (by kernel_rfl) (by kernel_rfl) (fun _ _ _ h => h) (Or.inl ⟨by rfl, ?_⟩) ?_
  rotate_left
  · (intro w hSw; go_simp; (try with_reducible rfl))
  try simp only [Act.put, List.getElem_toArray, List.getElem_cons_zero, List.getElem_cons_succ, List.setIfInBounds_toArray, List.set_cons_zero, List.set_cons_succ]
  refine wpAnyE_load (i := 2) (v := ?_) rfl (by kernel_rfl) (by kernel_rfl) (by kernel_rfl) (by kernel_rfl) (fun _ _ _ h => h) (Or.inl ⟨by rfl, ?_⟩) (by assumption) ?_
  rotate_left
  · (intro w hSw; (have k3 := hSw.q.c3; have k4 := hSw.q.c4; have k15 := hSw.q.c15); go_simp; (try with_reducible rfl))
  try simp only [Act.put, List.getElem_toArray, List.getElem_cons_zero, List.getElem_cons_succ, List.setIfInBounds_toArray, List.set_cons_zero, List.set_cons_succ]
  refine wpAnyE_take (i := 4) (v := ?_) rfl (by kernel_rfl) (by kernel_rfl) (by kernel_rfl) (fun _ _ _ h => h) (Or.inl ⟨by rfl, ?_⟩) ?_
  rotate_left
  · (intro w hSw; go_simp; (try with_reducible rfl))
  try simp only [Act.put, List.getElem_toArray, List.getElem_cons_zero, List.getElem_cons_succ, List.setIfInBounds_toArray, List.set_cons_zero, List.set_cons_succ]
  refine wpAnyE_take (i := 5) (v := ?_) rfl (by kernel_rfl) (by kernel_rfl) (by kernel_rfl) (fun _ _ _ h => h) (Or.inl ⟨by rfl, ?_⟩) ?_
  rotate_left
  · (intro w hSw; go_simp; (try with_reducible rfl))
  try simp only [Act.put, List.getElem_toArray, List.getElem_cons_zero, List.getElem_cons_succ, List.setIfInBounds_toArray, List.set_cons_zero, List.set_cons_succ]
  refine wpAnyE_load (i := 6) (v := ?_) rfl (by kernel_rfl) (by kernel_rfl) (by kernel_rfl) (by kernel_rfl) (fun _ _ _ h => h) (Or.inl ⟨by rfl, ?_⟩) (by assumption) ?_
  rotate_left
  · (intro w hSw; (have k3 := hSw.q.c3; have k4 := hSw.q.c4; have k15 := hSw.q.c15); go_simp; (try with_reducible rfl))
  try simp only [Act.put, List.getElem_toArray, List.getElem_cons_zero, List.getElem_cons_succ, List.setIfInBounds_toArray, List.set_cons_zero, List.set_cons_succ]
  refine wpAnyE_call (i := 3) (by kernel_rfl) rfl (by rfl) (fun K hK => ?_)
  go_simp
  refine (CA.out _ HS0.out.dr.r.ra).mono ?_
  rintro e w1 ⟨b1, d1, rfl, hr, hk, hb⟩
  have HU := Lib.hid hr
  have KU := Lib.hid hk
  have HS1 := Lib.hid (HS0.out.dr.go hb)
  clear hr hk hb
  refine hK.out _ _ ?_ (fun hHeld => ?_)
  · exact HS1.out
  clear hK K
  try simp only [Act.put, List.getElem_toArray, List.getElem_cons_zero, List.getElem_cons_succ, List.setIfInBounds_toArray, List.set_cons_zero, List.set_cons_succ]
  refine wpAnyE_take (i := 8) (v := ?_) rfl (by kernel_rfl) (by kernel_rfl) (by kernel_rfl) (fun _ _ _ h => h) (Or.inl ⟨by rfl, ?_⟩) ?_
  rotate_left
  · (intro w hSw; go_simp; (try with_reducible rfl))
  try simp only [Act.put, List.getElem_toArray, List.getElem_cons_zero, List.getElem_cons_succ, List.setIfInBounds_toArray, List.set_cons_zero, List.set_cons_succ]
  refine wpAnyE_take (i := 9) (v := ?_) rfl (by kernel_rfl) (by kernel_rfl) (by kernel_rfl) (fun _ _ _ h => h) (Or.inl ⟨by rfl, ?_⟩) ?_
  rotate_left
  · (intro w hSw; go_simp; (try with_reducible rfl))
  try simp only [Act.put, List.getElem_toArray, List.getElem_cons_zero, List.getElem_cons_succ, List.setIfInBounds_toArray, List.set_cons_zero, List.set_cons_succ]
  refine wpAnyE_call (i := 7) (by kernel_rfl) rfl (by rfl) (fun K hK => ?_)
  go_simp
  refine (CT.out _ HS1.out.r.rt).mono ?_
  rintro e w2 ⟨b2, d2, rfl, hr, hk, hb⟩
  have HV := Lib.hid hr
  have KV := Lib.hid hk
  have HS2 := Lib.hid (HS1.out.go hb)
  replace HU := Lib.hid (HU.out.go hb)
  have HZ1 : Hid (w.heap.size + 1 < w1.heap.size) := Lib.hid HS1.out.z.lt
  clear hr hk hb
  have z0 := HS2.out.q.c0
  have z1 := HS2.out.q.c1
  have z2 := HS2.out.q.c2
  have z3 := HS2.out.q.c3
  have z4 := HS2.out.q.c4
  have z5 := HS2.out.q.c5
  have z6 := HS2.out.q.c6
  have z7 := HS2.out.q.c7
  have z8 := HS2.out.q.c8
  have z9 := HS2.out.q.c9
  have z10 := HS2.out.q.c10
  have z11 := HS2.out.q.c11
  have z12 := HS2.out.q.c12
  have z13 := HS2.out.q.c13
  have z14 := HS2.out.q.c14
  have z15 := HS2.out.q.c15
  have z16 := HS2.out.q.c16
  have z17 := HS2.out.q.c17
  have z18 := HS2.out.q.c18
  have z19 := HS2.out.q.c19
  have z20 := HS2.out.q.c20
  have z21 := HS2.out.q.c21
  have z22 := HS2.out.q.c22
  have z23 := HS2.out.q.c23
  have z24 := HS2.out.q.c24
  have zf := HS2.out.q.fz
  refine hK.out _ _ ?_ (fun hHeld => ?_)
  · exact HS2.out
  clear hK K
  try simp only [Act.put, List.getElem_toArray, List.getElem_cons_zero, List.getElem_cons_succ, List.setIfInBounds_toArray, List.set_cons_zero, List.set_cons_succ]
  refine wpAnyE_store (i := 10) (by kernel_rfl) rfl (by rfl) (by rfl) (fun K hK => ?_)
  go_simp
  refine hK.out _ _ ?_
  clear hK K
  try simp only [Act.put, List.getElem_toArray, List.getElem_cons_zero, List.getElem_cons_succ, List.setIfInBounds_toArray, List.set_cons_zero, List.set_cons_succ]
  refine wpAnyE_take (i := 11) (v := ?_) rfl (by kernel_rfl) (by kernel_rfl) (by kernel_rfl) (fun _ _ _ h => h) (Or.inl ⟨by rfl, ?_⟩) ?_
  rotate_left
  · (intro w hSw; go_simp; (try with_reducible rfl))
  try simp only [Act.put, List.getElem_toArray, List.getElem_cons_zero, List.getElem_cons_succ, List.setIfInBounds_toArray, List.set_cons_zero, List.set_cons_succ]
  refine wpAnyE_take (i := 12) (v := ?_) rfl (by kernel_rfl) (by kernel_rfl) (by kernel_rfl) (fun _ _ _ h => h) (Or.inl ⟨by rfl, ?_⟩) ?_
  rotate_left
  · (intro w hSw; go_simp; (try with_reducible rfl))
  try simp only [Act.put, List.getElem_toArray, List.getElem_cons_zero, List.getElem_cons_succ, List.setIfInBounds_toArray, List.set_cons_zero, List.set_cons_succ]
  refine wpAnyE_store (i := 13) (by kernel_rfl) rfl (by rfl) (by rfl) (fun K hK => ?_)
  go_simp
  refine hK.out _ _ ?_
  clear hK K
  try simp only [Act.put, List.getElem_toArray, List.getElem_cons_zero, List.getElem_cons_succ, List.setIfInBounds_toArray, List.set_cons_zero, List.set_cons_succ]
  refine wpAnyE_done (by kernel_rfl) (NoPanic.normal ?_) _
  have N1 : ¬ Blk (.slice b1 m1 d1) w.heap.size := fun h => by have := KU.out _ h; simp at this; omega
  have N2 : ¬ Blk (.slice b2 m2 d2) w.heap.size := fun h => by have := KV.out _ h; have := HZ1.out; omega
  have HK1 : Hid (∀ k, Blk (.slice b1 m1 d1) k → w.heap.size + 2 ≤ k) := Lib.hid (fun k hk => by have := KU.out k hk; simpa using this)
  have HK2 : Hid (∀ k, Blk (.slice b2 m2 d2) k → w.heap.size + 2 ≤ k) := Lib.hid (fun k hk => by have := KV.out k hk; have := HZ1.out; omega)
  have HX0 : Hid (¬ Blk (.slice a3 n3 c3) w.heap.size) := Lib.hid (fun hk => by have := h3.out.blk hk; omega)
  have HF2 : Hid (OT w ((w2.setCell ⟨w.heap.size, 3, none⟩ (.slice b1 m1 d1)).setCell ⟨w.heap.size, 4, none⟩ (.slice b2 m2 d2)) (.slice b1 m1 d1) (.slice b2 m2 d2) (.slice a3 n3 c3) T s) := Lib.hid ⟨(HS2.out.q.sU _).sV _, ⟨rd_set (rd_set HU.out N1 _) N1 _, rd_set (rd_set HV.out N2 _) N2 _, rowg_set (rowg_set HS2.out.r.rx HX0.out _) HX0.out _⟩, (Below.heap_setCell _ ⟨w.heap.size, 4, none⟩ _ _ (by simp)).trans ((Below.heap_setCell _ ⟨w.heap.size, 3, none⟩ _ _ (by simp)).trans HS2.out.z), Below.setCell (Below.setCell HS2.out.bl (p := ⟨w.heap.size, 3, none⟩) (Nat.le_refl _) _) (p := ⟨w.heap.size, 4, none⟩) (Nat.le_refl _) _⟩
  clear N1 N2 HU HV KU KV HS0 HS1 HS2 HZ1 hHeld CA CT
  go_upto_region 2 with (fail)
  generalize (w2.setCell ⟨w.heap.size, 3, none⟩ (.slice b1 m1 d1)).setCell ⟨w.heap.size, 4, none⟩ (.slice b2 m2 d2) = W2 at HF2 ⊢
  clear z0 z1 z2 z3 z4 z5 z6 z7 z8 z9 z10 z11 z12 z13 z14 z15 z16 z17 z18 z19 z20 z21 z22 z23 z24 zf
  have z15 := HF2.out.q.c15
  go_wp2_with fail
  refine (CX.out _ HF2.out.r.rx).mono ?_
  rintro e w3 ⟨b3, d3, rfl, hx, hk, hb⟩
  have HF3 := Lib.hid (HF2.out.go hb)
  have HK3 : Hid (∀ k, Blk (.slice b3 m3 d3) k → w.heap.size + 2 ≤ k) := Lib.hid (fun k hq => by have := hk k hq; have := HF2.out.z.lt; omega)
  have HX := Lib.hid hx
  clear hx hk hb z15
  have zf := HF3.out.q.fz 15
  have z15 := HF3.out.q.c15
  have N1 : ¬ Blk (.slice b1 m1 d1) w.heap.size := fun h => by have := HK1.out _ h; omega
  have N2 : ¬ Blk (.slice b2 m2 d2) w.heap.size := fun h => by have := HK2.out _ h; omega
  have N3 : ¬ Blk (.slice b3 m3 d3) w.heap.size := fun h => by have := HK3.out _ h; omega
  have HF4 : Hid (FT w.heap.size w (w3.setCell ⟨w.heap.size, 15, none⟩ (.slice b3 m3 d3)) w.heap.size (w.heap.size + 1) (.slice b1 m1 d1) (.slice b2 m2 d2) (.slice b3 m3 d3) T s) := Lib.hid ⟨HF3.out.q.sX _, ⟨rd_set HF3.out.r.ra N1 _, rd_set HF3.out.r.rt N2 _, rowg_set HX.out N3 _⟩, (Below.heap_setCell _ ⟨w.heap.size, 15, none⟩ _ _ (by simp)).trans HF3.out.z, Below.setCell HF3.out.bl (p := ⟨w.heap.size, 15, none⟩) (Nat.le_refl _) _, Nat.le_refl _, Nat.le_succ _, by omega, fun k hk => by have := HK1.out k hk; omega, fun k hk => by have := HK2.out k hk; omega, fun k hk => by have := HK3.out k hk; omega⟩
  clear N1 N2 N3 HX HF2
  go_upto_region 3 with (fail)
  generalize w3.setCell ⟨w.heap.size, 15, none⟩ (.slice b3 m3 d3) = W4 at HF4 ⊢
  clear z15 zf HF3
  refine wp_region_lit ?_
  refine wpList_load_row rfl _ _ rfl w.heap.size rfl _ _ _ _ HF4.out.q Tryz.underlying35 rfl infT ?_
  refine wpList_store_row rfl _ _ _ rfl (w.heap.size + 1) _ rfl rfl _ _ HF4.out.z infT rfl (one_ts _ _ _ _ _ _ _ _ _ _) ?_
  have HE := Lib.hid HF4.out.end
  generalize World.setRow _ _ _ = WW at HE ⊢
  go_wp2
  exact bodyPost_ret (results_ts Tryz.results49 _ (w.heap.size + 1) (.slice b1 m1 d1) (.slice b2 m2 d2) (.slice b3 m3 d3) s _ rfl HE.out.1) rfl ⟨_, _, _, _, _, _, _, _, _, rfl, HE.out.2⟩
end Go.Proofs.YtoblmhpjendbfaaGreatDoor.Rg
