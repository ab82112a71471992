/- The document's functions of layer 5: Default, value, set. By tools/gen-params-9.py. -/
import Derived.Test.YthhcpedaldlccaaDoorPmNone
namespace Go.Proofs.YthhcpedaldlccaaDoor.Pm
open Go.RowKit Vm
set_option linter.unusedVariables false
set_option linter.unusedSimpArgs false

/-- A block that holds the document's parameters. -/
def RBk (b : Nat) (p : Prm) (w : World) : Prop := w.heap[b]? = some (.cells #[.int .u64 p.idle, .int .u64 p.size, .int .u64 p.data, .int .u64 p.bl, .int .u64 p.br, .int .u64 p.uni, .int .u64 p.bidis, .int .u64 p.unis, .int .u64 p.expo, .int .u64 p.delay, .int .u64 p.ids, .string ⟨p.tok.toArray⟩] 26 (0, 0))
theorem RBk.made (w : World) (p : Prm) : RBk w.heap.size p (w.alloc (.cells #[.int .u64 p.idle, .int .u64 p.size, .int .u64 p.data, .int .u64 p.bl, .int .u64 p.br, .int .u64 p.uni, .int .u64 p.bidis, .int .u64 p.unis, .int .u64 p.expo, .int .u64 p.delay, .int .u64 p.ids, .string ⟨p.tok.toArray⟩] 26)) := by
  unfold RBk World.alloc
  simp
theorem RBk.up {b : Nat} {p : Prm} {w w' : World} (h : RBk b p w) {n : Nat} (hb : Below n w w') (hn : b < n) : RBk b p w' := by
  unfold RBk at *
  rw [hb.block b hn]; exact h
theorem RBk.lt {b : Nat} {p : Prm} {w : World} (h : RBk b p w) : b < w.heap.size := by
  rcases Nat.lt_or_ge b w.heap.size with h1 | h1
  · exact h1
  · unfold RBk at h; rw [Array.getElem?_eq_none h1] at h; cases h
theorem RBk.keep {b : Nat} {p : Prm} {w w' : World} (h : RBk b p w) (hb : Below w.heap.size w w') : RBk b p w' := h.up hb h.lt
theorem RBk.cell {b : Nat} {p : Prm} {w : World} (h : RBk b p w) (j : Nat) : w.cell? ⟨b, j, none⟩ = (#[.int .u64 p.idle, .int .u64 p.size, .int .u64 p.data, .int .u64 p.bl, .int .u64 p.br, .int .u64 p.uni, .int .u64 p.bidis, .int .u64 p.unis, .int .u64 p.expo, .int .u64 p.delay, .int .u64 p.ids, .string ⟨p.tok.toArray⟩] : Array Value)[j]? := Lib.cell_of_heap h j
theorem RBk.fz {b : Nat} {p : Prm} {w : World} (h : RBk b p w) (j : Nat) : w.frozen? ⟨b, j, none⟩ = false := Lib.frozen_of_heap h j
theorem RBk.set0 {b : Nat} {p : Prm} {w : World} (h : RBk b p w) (v : Int) : RBk b { p with idle := v } (w.setCell ⟨b, 0, none⟩ (.int .u64 v)) := Joins.block_setCell (i := 0) h _
theorem RBk.cell0 {b : Nat} {p : Prm} {w : World} (h : RBk b p w) : w.cell? ⟨b, 0, none⟩ = some (.int .u64 p.idle) := h.cell 0
theorem RBk.set1 {b : Nat} {p : Prm} {w : World} (h : RBk b p w) (v : Int) : RBk b { p with size := v } (w.setCell ⟨b, 1, none⟩ (.int .u64 v)) := Joins.block_setCell (i := 1) h _
theorem RBk.cell1 {b : Nat} {p : Prm} {w : World} (h : RBk b p w) : w.cell? ⟨b, 1, none⟩ = some (.int .u64 p.size) := h.cell 1
theorem RBk.set2 {b : Nat} {p : Prm} {w : World} (h : RBk b p w) (v : Int) : RBk b { p with data := v } (w.setCell ⟨b, 2, none⟩ (.int .u64 v)) := Joins.block_setCell (i := 2) h _
theorem RBk.cell2 {b : Nat} {p : Prm} {w : World} (h : RBk b p w) : w.cell? ⟨b, 2, none⟩ = some (.int .u64 p.data) := h.cell 2
theorem RBk.set3 {b : Nat} {p : Prm} {w : World} (h : RBk b p w) (v : Int) : RBk b { p with bl := v } (w.setCell ⟨b, 3, none⟩ (.int .u64 v)) := Joins.block_setCell (i := 3) h _
theorem RBk.cell3 {b : Nat} {p : Prm} {w : World} (h : RBk b p w) : w.cell? ⟨b, 3, none⟩ = some (.int .u64 p.bl) := h.cell 3
theorem RBk.set4 {b : Nat} {p : Prm} {w : World} (h : RBk b p w) (v : Int) : RBk b { p with br := v } (w.setCell ⟨b, 4, none⟩ (.int .u64 v)) := Joins.block_setCell (i := 4) h _
theorem RBk.cell4 {b : Nat} {p : Prm} {w : World} (h : RBk b p w) : w.cell? ⟨b, 4, none⟩ = some (.int .u64 p.br) := h.cell 4
theorem RBk.set5 {b : Nat} {p : Prm} {w : World} (h : RBk b p w) (v : Int) : RBk b { p with uni := v } (w.setCell ⟨b, 5, none⟩ (.int .u64 v)) := Joins.block_setCell (i := 5) h _
theorem RBk.cell5 {b : Nat} {p : Prm} {w : World} (h : RBk b p w) : w.cell? ⟨b, 5, none⟩ = some (.int .u64 p.uni) := h.cell 5
theorem RBk.set6 {b : Nat} {p : Prm} {w : World} (h : RBk b p w) (v : Int) : RBk b { p with bidis := v } (w.setCell ⟨b, 6, none⟩ (.int .u64 v)) := Joins.block_setCell (i := 6) h _
theorem RBk.cell6 {b : Nat} {p : Prm} {w : World} (h : RBk b p w) : w.cell? ⟨b, 6, none⟩ = some (.int .u64 p.bidis) := h.cell 6
theorem RBk.set7 {b : Nat} {p : Prm} {w : World} (h : RBk b p w) (v : Int) : RBk b { p with unis := v } (w.setCell ⟨b, 7, none⟩ (.int .u64 v)) := Joins.block_setCell (i := 7) h _
theorem RBk.cell7 {b : Nat} {p : Prm} {w : World} (h : RBk b p w) : w.cell? ⟨b, 7, none⟩ = some (.int .u64 p.unis) := h.cell 7
theorem RBk.set8 {b : Nat} {p : Prm} {w : World} (h : RBk b p w) (v : Int) : RBk b { p with expo := v } (w.setCell ⟨b, 8, none⟩ (.int .u64 v)) := Joins.block_setCell (i := 8) h _
theorem RBk.cell8 {b : Nat} {p : Prm} {w : World} (h : RBk b p w) : w.cell? ⟨b, 8, none⟩ = some (.int .u64 p.expo) := h.cell 8
theorem RBk.set9 {b : Nat} {p : Prm} {w : World} (h : RBk b p w) (v : Int) : RBk b { p with delay := v } (w.setCell ⟨b, 9, none⟩ (.int .u64 v)) := Joins.block_setCell (i := 9) h _
theorem RBk.cell9 {b : Nat} {p : Prm} {w : World} (h : RBk b p w) : w.cell? ⟨b, 9, none⟩ = some (.int .u64 p.delay) := h.cell 9
theorem RBk.set10 {b : Nat} {p : Prm} {w : World} (h : RBk b p w) (v : Int) : RBk b { p with ids := v } (w.setCell ⟨b, 10, none⟩ (.int .u64 v)) := Joins.block_setCell (i := 10) h _
theorem RBk.cell10 {b : Nat} {p : Prm} {w : World} (h : RBk b p w) : w.cell? ⟨b, 10, none⟩ = some (.int .u64 p.ids) := h.cell 10
theorem RBk.set11 {b : Nat} {p : Prm} {w : World} (h : RBk b p w) (l : List UInt8) : RBk b { p with tok := l } (w.setCell ⟨b, 11, none⟩ (.string ⟨l.toArray⟩)) := Joins.block_setCell (i := 11) h _
theorem RBk.cell11 {b : Nat} {p : Prm} {w : World} (h : RBk b p w) : w.cell? ⟨b, 11, none⟩ = some (.string ⟨p.tok.toArray⟩) := h.cell 11
/-- Its value of a number, and whether there is one. -/
def rvN (p : Prm) (n : Nat) : Int := (fld p n).getD 0
def rvB (n : Nat) : Bool := (fld usual n).isSome
set_option maxHeartbeats 400000 in
theorem rdefault_any (w : World) : Calls Tryd.prog 16 #[] w fun e w' => e = .returned (.agg #[.int .u64 0, .int .u64 65527, .int .u64 0, .int .u64 0, .int .u64 0, .int .u64 0, .int .u64 0, .int .u64 0, .int .u64 3, .int .u64 25, .int .u64 2, .string ⟨#[]⟩]) ∧ Below w.heap.size w w' := by
  go_enter Tryd.func16, Tryd.ntmps16
  go_wp2
  refine bodyPost_ret (v := .agg #[.int .u64 0, .int .u64 65527, .int .u64 0, .int .u64 0, .int .u64 0, .int .u64 0, .int .u64 0, .int .u64 0, .int .u64 3, .int .u64 25, .int .u64 2, .string ⟨#[]⟩]) (by simp [results, Tryd.results16, go_sem, *]) rfl ⟨rfl, ?_⟩
  repeat' (with_reducible first | exact Below.refl _ _ | (refine Below.setCell ?_ ?hc _; case hc => simp; done) | (refine Below.alloc ?_ ?ha _; case ha => simp; done))
set_option maxHeartbeats 1000000 in
theorem rvalue_0 (p : Prm) (w : World) : Calls Tryd.prog 21 #[.agg #[.int .u64 p.idle, .int .u64 p.size, .int .u64 p.data, .int .u64 p.bl, .int .u64 p.br, .int .u64 p.uni, .int .u64 p.bidis, .int .u64 p.unis, .int .u64 p.expo, .int .u64 p.delay, .int .u64 p.ids, .string ⟨p.tok.toArray⟩], .int .u64 0] w fun e w' => e = .returned (.tuple #[.int .u64 0, .bool false]) ∧ Below w.heap.size w w' := by
  go_enter Tryd.func21, Tryd.ntmps21
  go_wp2
  go_ret2
  exact ⟨rfl, (Below.refl _ _).alloc (Nat.le_refl _) _⟩
set_option maxHeartbeats 1000000 in
theorem rvalue_1 (p : Prm) (w : World) : Calls Tryd.prog 21 #[.agg #[.int .u64 p.idle, .int .u64 p.size, .int .u64 p.data, .int .u64 p.bl, .int .u64 p.br, .int .u64 p.uni, .int .u64 p.bidis, .int .u64 p.unis, .int .u64 p.expo, .int .u64 p.delay, .int .u64 p.ids, .string ⟨p.tok.toArray⟩], .int .u64 1] w fun e w' => e = .returned (.tuple #[.int .u64 p.idle, .bool true]) ∧ Below w.heap.size w w' := by
  go_enter Tryd.func21, Tryd.ntmps21
  go_wp2
  go_ret2
  exact ⟨rfl, (Below.refl _ _).alloc (Nat.le_refl _) _⟩
set_option maxHeartbeats 1000000 in
theorem rvalue_2 (p : Prm) (w : World) : Calls Tryd.prog 21 #[.agg #[.int .u64 p.idle, .int .u64 p.size, .int .u64 p.data, .int .u64 p.bl, .int .u64 p.br, .int .u64 p.uni, .int .u64 p.bidis, .int .u64 p.unis, .int .u64 p.expo, .int .u64 p.delay, .int .u64 p.ids, .string ⟨p.tok.toArray⟩], .int .u64 2] w fun e w' => e = .returned (.tuple #[.int .u64 0, .bool false]) ∧ Below w.heap.size w w' := by
  go_enter Tryd.func21, Tryd.ntmps21
  go_wp2
  go_ret2
  exact ⟨rfl, (Below.refl _ _).alloc (Nat.le_refl _) _⟩
set_option maxHeartbeats 1000000 in
theorem rvalue_3 (p : Prm) (w : World) : Calls Tryd.prog 21 #[.agg #[.int .u64 p.idle, .int .u64 p.size, .int .u64 p.data, .int .u64 p.bl, .int .u64 p.br, .int .u64 p.uni, .int .u64 p.bidis, .int .u64 p.unis, .int .u64 p.expo, .int .u64 p.delay, .int .u64 p.ids, .string ⟨p.tok.toArray⟩], .int .u64 3] w fun e w' => e = .returned (.tuple #[.int .u64 p.size, .bool true]) ∧ Below w.heap.size w w' := by
  go_enter Tryd.func21, Tryd.ntmps21
  go_wp2
  go_ret2
  exact ⟨rfl, (Below.refl _ _).alloc (Nat.le_refl _) _⟩
set_option maxHeartbeats 1000000 in
theorem rvalue_4 (p : Prm) (w : World) : Calls Tryd.prog 21 #[.agg #[.int .u64 p.idle, .int .u64 p.size, .int .u64 p.data, .int .u64 p.bl, .int .u64 p.br, .int .u64 p.uni, .int .u64 p.bidis, .int .u64 p.unis, .int .u64 p.expo, .int .u64 p.delay, .int .u64 p.ids, .string ⟨p.tok.toArray⟩], .int .u64 4] w fun e w' => e = .returned (.tuple #[.int .u64 p.data, .bool true]) ∧ Below w.heap.size w w' := by
  go_enter Tryd.func21, Tryd.ntmps21
  go_wp2
  go_ret2
  exact ⟨rfl, (Below.refl _ _).alloc (Nat.le_refl _) _⟩
set_option maxHeartbeats 1000000 in
theorem rvalue_5 (p : Prm) (w : World) : Calls Tryd.prog 21 #[.agg #[.int .u64 p.idle, .int .u64 p.size, .int .u64 p.data, .int .u64 p.bl, .int .u64 p.br, .int .u64 p.uni, .int .u64 p.bidis, .int .u64 p.unis, .int .u64 p.expo, .int .u64 p.delay, .int .u64 p.ids, .string ⟨p.tok.toArray⟩], .int .u64 5] w fun e w' => e = .returned (.tuple #[.int .u64 p.bl, .bool true]) ∧ Below w.heap.size w w' := by
  go_enter Tryd.func21, Tryd.ntmps21
  go_wp2
  go_ret2
  exact ⟨rfl, (Below.refl _ _).alloc (Nat.le_refl _) _⟩
set_option maxHeartbeats 1000000 in
theorem rvalue_6 (p : Prm) (w : World) : Calls Tryd.prog 21 #[.agg #[.int .u64 p.idle, .int .u64 p.size, .int .u64 p.data, .int .u64 p.bl, .int .u64 p.br, .int .u64 p.uni, .int .u64 p.bidis, .int .u64 p.unis, .int .u64 p.expo, .int .u64 p.delay, .int .u64 p.ids, .string ⟨p.tok.toArray⟩], .int .u64 6] w fun e w' => e = .returned (.tuple #[.int .u64 p.br, .bool true]) ∧ Below w.heap.size w w' := by
  go_enter Tryd.func21, Tryd.ntmps21
  go_wp2
  go_ret2
  exact ⟨rfl, (Below.refl _ _).alloc (Nat.le_refl _) _⟩
set_option maxHeartbeats 1000000 in
theorem rvalue_7 (p : Prm) (w : World) : Calls Tryd.prog 21 #[.agg #[.int .u64 p.idle, .int .u64 p.size, .int .u64 p.data, .int .u64 p.bl, .int .u64 p.br, .int .u64 p.uni, .int .u64 p.bidis, .int .u64 p.unis, .int .u64 p.expo, .int .u64 p.delay, .int .u64 p.ids, .string ⟨p.tok.toArray⟩], .int .u64 7] w fun e w' => e = .returned (.tuple #[.int .u64 p.uni, .bool true]) ∧ Below w.heap.size w w' := by
  go_enter Tryd.func21, Tryd.ntmps21
  go_wp2
  go_ret2
  exact ⟨rfl, (Below.refl _ _).alloc (Nat.le_refl _) _⟩
set_option maxHeartbeats 1000000 in
theorem rvalue_8 (p : Prm) (w : World) : Calls Tryd.prog 21 #[.agg #[.int .u64 p.idle, .int .u64 p.size, .int .u64 p.data, .int .u64 p.bl, .int .u64 p.br, .int .u64 p.uni, .int .u64 p.bidis, .int .u64 p.unis, .int .u64 p.expo, .int .u64 p.delay, .int .u64 p.ids, .string ⟨p.tok.toArray⟩], .int .u64 8] w fun e w' => e = .returned (.tuple #[.int .u64 p.bidis, .bool true]) ∧ Below w.heap.size w w' := by
  go_enter Tryd.func21, Tryd.ntmps21
  go_wp2
  go_ret2
  exact ⟨rfl, (Below.refl _ _).alloc (Nat.le_refl _) _⟩
set_option maxHeartbeats 1000000 in
theorem rvalue_9 (p : Prm) (w : World) : Calls Tryd.prog 21 #[.agg #[.int .u64 p.idle, .int .u64 p.size, .int .u64 p.data, .int .u64 p.bl, .int .u64 p.br, .int .u64 p.uni, .int .u64 p.bidis, .int .u64 p.unis, .int .u64 p.expo, .int .u64 p.delay, .int .u64 p.ids, .string ⟨p.tok.toArray⟩], .int .u64 9] w fun e w' => e = .returned (.tuple #[.int .u64 p.unis, .bool true]) ∧ Below w.heap.size w w' := by
  go_enter Tryd.func21, Tryd.ntmps21
  go_wp2
  go_ret2
  exact ⟨rfl, (Below.refl _ _).alloc (Nat.le_refl _) _⟩
set_option maxHeartbeats 1000000 in
theorem rvalue_10 (p : Prm) (w : World) : Calls Tryd.prog 21 #[.agg #[.int .u64 p.idle, .int .u64 p.size, .int .u64 p.data, .int .u64 p.bl, .int .u64 p.br, .int .u64 p.uni, .int .u64 p.bidis, .int .u64 p.unis, .int .u64 p.expo, .int .u64 p.delay, .int .u64 p.ids, .string ⟨p.tok.toArray⟩], .int .u64 10] w fun e w' => e = .returned (.tuple #[.int .u64 p.expo, .bool true]) ∧ Below w.heap.size w w' := by
  go_enter Tryd.func21, Tryd.ntmps21
  go_wp2
  go_ret2
  exact ⟨rfl, (Below.refl _ _).alloc (Nat.le_refl _) _⟩
set_option maxHeartbeats 1000000 in
theorem rvalue_11 (p : Prm) (w : World) : Calls Tryd.prog 21 #[.agg #[.int .u64 p.idle, .int .u64 p.size, .int .u64 p.data, .int .u64 p.bl, .int .u64 p.br, .int .u64 p.uni, .int .u64 p.bidis, .int .u64 p.unis, .int .u64 p.expo, .int .u64 p.delay, .int .u64 p.ids, .string ⟨p.tok.toArray⟩], .int .u64 11] w fun e w' => e = .returned (.tuple #[.int .u64 p.delay, .bool true]) ∧ Below w.heap.size w w' := by
  go_enter Tryd.func21, Tryd.ntmps21
  go_wp2
  go_ret2
  exact ⟨rfl, (Below.refl _ _).alloc (Nat.le_refl _) _⟩
set_option maxHeartbeats 1000000 in
theorem rvalue_12 (p : Prm) (w : World) : Calls Tryd.prog 21 #[.agg #[.int .u64 p.idle, .int .u64 p.size, .int .u64 p.data, .int .u64 p.bl, .int .u64 p.br, .int .u64 p.uni, .int .u64 p.bidis, .int .u64 p.unis, .int .u64 p.expo, .int .u64 p.delay, .int .u64 p.ids, .string ⟨p.tok.toArray⟩], .int .u64 12] w fun e w' => e = .returned (.tuple #[.int .u64 0, .bool false]) ∧ Below w.heap.size w w' := by
  go_enter Tryd.func21, Tryd.ntmps21
  go_wp2
  go_ret2
  exact ⟨rfl, (Below.refl _ _).alloc (Nat.le_refl _) _⟩
set_option maxHeartbeats 1000000 in
theorem rvalue_13 (p : Prm) (w : World) : Calls Tryd.prog 21 #[.agg #[.int .u64 p.idle, .int .u64 p.size, .int .u64 p.data, .int .u64 p.bl, .int .u64 p.br, .int .u64 p.uni, .int .u64 p.bidis, .int .u64 p.unis, .int .u64 p.expo, .int .u64 p.delay, .int .u64 p.ids, .string ⟨p.tok.toArray⟩], .int .u64 13] w fun e w' => e = .returned (.tuple #[.int .u64 0, .bool false]) ∧ Below w.heap.size w w' := by
  go_enter Tryd.func21, Tryd.ntmps21
  go_wp2
  go_ret2
  exact ⟨rfl, (Below.refl _ _).alloc (Nat.le_refl _) _⟩
set_option maxHeartbeats 1000000 in
theorem rvalue_14 (p : Prm) (w : World) : Calls Tryd.prog 21 #[.agg #[.int .u64 p.idle, .int .u64 p.size, .int .u64 p.data, .int .u64 p.bl, .int .u64 p.br, .int .u64 p.uni, .int .u64 p.bidis, .int .u64 p.unis, .int .u64 p.expo, .int .u64 p.delay, .int .u64 p.ids, .string ⟨p.tok.toArray⟩], .int .u64 14] w fun e w' => e = .returned (.tuple #[.int .u64 p.ids, .bool true]) ∧ Below w.heap.size w w' := by
  go_enter Tryd.func21, Tryd.ntmps21
  go_wp2
  go_ret2
  exact ⟨rfl, (Below.refl _ _).alloc (Nat.le_refl _) _⟩
set_option maxHeartbeats 1000000 in
theorem rvalue_15 (p : Prm) (n : Int) (h : 15 ≤ n) (w : World) : Calls Tryd.prog 21 #[.agg #[.int .u64 p.idle, .int .u64 p.size, .int .u64 p.data, .int .u64 p.bl, .int .u64 p.br, .int .u64 p.uni, .int .u64 p.bidis, .int .u64 p.unis, .int .u64 p.expo, .int .u64 p.delay, .int .u64 p.ids, .string ⟨p.tok.toArray⟩], .int .u64 n] w fun e w' => e = .returned (.tuple #[.int .u64 0, .bool false]) ∧ Below w.heap.size w w' := by
  have c1 : (n == 1) = false := beq_eq_false_iff_ne.2 (by omega)
  have c3 : (n == 3) = false := beq_eq_false_iff_ne.2 (by omega)
  have c4 : (n == 4) = false := beq_eq_false_iff_ne.2 (by omega)
  have c5 : (n == 5) = false := beq_eq_false_iff_ne.2 (by omega)
  have c6 : (n == 6) = false := beq_eq_false_iff_ne.2 (by omega)
  have c7 : (n == 7) = false := beq_eq_false_iff_ne.2 (by omega)
  have c8 : (n == 8) = false := beq_eq_false_iff_ne.2 (by omega)
  have c9 : (n == 9) = false := beq_eq_false_iff_ne.2 (by omega)
  have c10 : (n == 10) = false := beq_eq_false_iff_ne.2 (by omega)
  have c11 : (n == 11) = false := beq_eq_false_iff_ne.2 (by omega)
  have c14 : (n == 14) = false := beq_eq_false_iff_ne.2 (by omega)
  go_enter Tryd.func21, Tryd.ntmps21
  go_wp2
  go_ret2
  exact ⟨rfl, (Below.refl _ _).alloc (Nat.le_refl _) _⟩
theorem rvalue_any (p : Prm) (n : Nat) (w : World) : Calls Tryd.prog 21 #[.agg #[.int .u64 p.idle, .int .u64 p.size, .int .u64 p.data, .int .u64 p.bl, .int .u64 p.br, .int .u64 p.uni, .int .u64 p.bidis, .int .u64 p.unis, .int .u64 p.expo, .int .u64 p.delay, .int .u64 p.ids, .string ⟨p.tok.toArray⟩], .int .u64 (n : Nat)] w fun e w' => e = .returned (.tuple #[.int .u64 (rvN p n), .bool (rvB n)]) ∧ Below w.heap.size w w' := by
  match n with
  | 0 => exact rvalue_0 p w
  | 1 => exact rvalue_1 p w
  | 2 => exact rvalue_2 p w
  | 3 => exact rvalue_3 p w
  | 4 => exact rvalue_4 p w
  | 5 => exact rvalue_5 p w
  | 6 => exact rvalue_6 p w
  | 7 => exact rvalue_7 p w
  | 8 => exact rvalue_8 p w
  | 9 => exact rvalue_9 p w
  | 10 => exact rvalue_10 p w
  | 11 => exact rvalue_11 p w
  | 12 => exact rvalue_12 p w
  | 13 => exact rvalue_13 p w
  | 14 => exact rvalue_14 p w
  | k + 15 => exact rvalue_15 p _ (by omega) w
set_option maxHeartbeats 1000000 in
theorem rset_1 (p : Prm) (v : Int) (w : World) : Calls Tryd.prog 27 #[.agg #[.int .u64 p.idle, .int .u64 p.size, .int .u64 p.data, .int .u64 p.bl, .int .u64 p.br, .int .u64 p.uni, .int .u64 p.bidis, .int .u64 p.unis, .int .u64 p.expo, .int .u64 p.delay, .int .u64 p.ids, .string ⟨p.tok.toArray⟩], .int .u64 1, .int .u64 v] w fun e w' => e = .returned (.agg #[.int .u64 v, .int .u64 p.size, .int .u64 p.data, .int .u64 p.bl, .int .u64 p.br, .int .u64 p.uni, .int .u64 p.bidis, .int .u64 p.unis, .int .u64 p.expo, .int .u64 p.delay, .int .u64 p.ids, .string ⟨p.tok.toArray⟩]) ∧ Below w.heap.size w w' := by
  go_enter Tryd.func27, Tryd.ntmps27
  go_wp2
  refine bodyPost_ret (v := .agg #[.int .u64 v, .int .u64 p.size, .int .u64 p.data, .int .u64 p.bl, .int .u64 p.br, .int .u64 p.uni, .int .u64 p.bidis, .int .u64 p.unis, .int .u64 p.expo, .int .u64 p.delay, .int .u64 p.ids, .string ⟨p.tok.toArray⟩]) (by simp [results, Tryd.results27, go_sem, *]) rfl ⟨rfl, ?_⟩
  repeat' (with_reducible first | exact Below.refl _ _ | (refine Below.setCell ?_ ?hc _; case hc => simp; done) | (refine Below.alloc ?_ ?ha _; case ha => simp; done))
set_option maxHeartbeats 1000000 in
theorem rset_3 (p : Prm) (v : Int) (w : World) : Calls Tryd.prog 27 #[.agg #[.int .u64 p.idle, .int .u64 p.size, .int .u64 p.data, .int .u64 p.bl, .int .u64 p.br, .int .u64 p.uni, .int .u64 p.bidis, .int .u64 p.unis, .int .u64 p.expo, .int .u64 p.delay, .int .u64 p.ids, .string ⟨p.tok.toArray⟩], .int .u64 3, .int .u64 v] w fun e w' => e = .returned (.agg #[.int .u64 p.idle, .int .u64 v, .int .u64 p.data, .int .u64 p.bl, .int .u64 p.br, .int .u64 p.uni, .int .u64 p.bidis, .int .u64 p.unis, .int .u64 p.expo, .int .u64 p.delay, .int .u64 p.ids, .string ⟨p.tok.toArray⟩]) ∧ Below w.heap.size w w' := by
  go_enter Tryd.func27, Tryd.ntmps27
  go_wp2
  refine bodyPost_ret (v := .agg #[.int .u64 p.idle, .int .u64 v, .int .u64 p.data, .int .u64 p.bl, .int .u64 p.br, .int .u64 p.uni, .int .u64 p.bidis, .int .u64 p.unis, .int .u64 p.expo, .int .u64 p.delay, .int .u64 p.ids, .string ⟨p.tok.toArray⟩]) (by simp [results, Tryd.results27, go_sem, *]) rfl ⟨rfl, ?_⟩
  repeat' (with_reducible first | exact Below.refl _ _ | (refine Below.setCell ?_ ?hc _; case hc => simp; done) | (refine Below.alloc ?_ ?ha _; case ha => simp; done))
set_option maxHeartbeats 1000000 in
theorem rset_4 (p : Prm) (v : Int) (w : World) : Calls Tryd.prog 27 #[.agg #[.int .u64 p.idle, .int .u64 p.size, .int .u64 p.data, .int .u64 p.bl, .int .u64 p.br, .int .u64 p.uni, .int .u64 p.bidis, .int .u64 p.unis, .int .u64 p.expo, .int .u64 p.delay, .int .u64 p.ids, .string ⟨p.tok.toArray⟩], .int .u64 4, .int .u64 v] w fun e w' => e = .returned (.agg #[.int .u64 p.idle, .int .u64 p.size, .int .u64 v, .int .u64 p.bl, .int .u64 p.br, .int .u64 p.uni, .int .u64 p.bidis, .int .u64 p.unis, .int .u64 p.expo, .int .u64 p.delay, .int .u64 p.ids, .string ⟨p.tok.toArray⟩]) ∧ Below w.heap.size w w' := by
  go_enter Tryd.func27, Tryd.ntmps27
  go_wp2
  refine bodyPost_ret (v := .agg #[.int .u64 p.idle, .int .u64 p.size, .int .u64 v, .int .u64 p.bl, .int .u64 p.br, .int .u64 p.uni, .int .u64 p.bidis, .int .u64 p.unis, .int .u64 p.expo, .int .u64 p.delay, .int .u64 p.ids, .string ⟨p.tok.toArray⟩]) (by simp [results, Tryd.results27, go_sem, *]) rfl ⟨rfl, ?_⟩
  repeat' (with_reducible first | exact Below.refl _ _ | (refine Below.setCell ?_ ?hc _; case hc => simp; done) | (refine Below.alloc ?_ ?ha _; case ha => simp; done))
set_option maxHeartbeats 1000000 in
theorem rset_5 (p : Prm) (v : Int) (w : World) : Calls Tryd.prog 27 #[.agg #[.int .u64 p.idle, .int .u64 p.size, .int .u64 p.data, .int .u64 p.bl, .int .u64 p.br, .int .u64 p.uni, .int .u64 p.bidis, .int .u64 p.unis, .int .u64 p.expo, .int .u64 p.delay, .int .u64 p.ids, .string ⟨p.tok.toArray⟩], .int .u64 5, .int .u64 v] w fun e w' => e = .returned (.agg #[.int .u64 p.idle, .int .u64 p.size, .int .u64 p.data, .int .u64 v, .int .u64 p.br, .int .u64 p.uni, .int .u64 p.bidis, .int .u64 p.unis, .int .u64 p.expo, .int .u64 p.delay, .int .u64 p.ids, .string ⟨p.tok.toArray⟩]) ∧ Below w.heap.size w w' := by
  go_enter Tryd.func27, Tryd.ntmps27
  go_wp2
  refine bodyPost_ret (v := .agg #[.int .u64 p.idle, .int .u64 p.size, .int .u64 p.data, .int .u64 v, .int .u64 p.br, .int .u64 p.uni, .int .u64 p.bidis, .int .u64 p.unis, .int .u64 p.expo, .int .u64 p.delay, .int .u64 p.ids, .string ⟨p.tok.toArray⟩]) (by simp [results, Tryd.results27, go_sem, *]) rfl ⟨rfl, ?_⟩
  repeat' (with_reducible first | exact Below.refl _ _ | (refine Below.setCell ?_ ?hc _; case hc => simp; done) | (refine Below.alloc ?_ ?ha _; case ha => simp; done))
set_option maxHeartbeats 1000000 in
theorem rset_6 (p : Prm) (v : Int) (w : World) : Calls Tryd.prog 27 #[.agg #[.int .u64 p.idle, .int .u64 p.size, .int .u64 p.data, .int .u64 p.bl, .int .u64 p.br, .int .u64 p.uni, .int .u64 p.bidis, .int .u64 p.unis, .int .u64 p.expo, .int .u64 p.delay, .int .u64 p.ids, .string ⟨p.tok.toArray⟩], .int .u64 6, .int .u64 v] w fun e w' => e = .returned (.agg #[.int .u64 p.idle, .int .u64 p.size, .int .u64 p.data, .int .u64 p.bl, .int .u64 v, .int .u64 p.uni, .int .u64 p.bidis, .int .u64 p.unis, .int .u64 p.expo, .int .u64 p.delay, .int .u64 p.ids, .string ⟨p.tok.toArray⟩]) ∧ Below w.heap.size w w' := by
  go_enter Tryd.func27, Tryd.ntmps27
  go_wp2
  refine bodyPost_ret (v := .agg #[.int .u64 p.idle, .int .u64 p.size, .int .u64 p.data, .int .u64 p.bl, .int .u64 v, .int .u64 p.uni, .int .u64 p.bidis, .int .u64 p.unis, .int .u64 p.expo, .int .u64 p.delay, .int .u64 p.ids, .string ⟨p.tok.toArray⟩]) (by simp [results, Tryd.results27, go_sem, *]) rfl ⟨rfl, ?_⟩
  repeat' (with_reducible first | exact Below.refl _ _ | (refine Below.setCell ?_ ?hc _; case hc => simp; done) | (refine Below.alloc ?_ ?ha _; case ha => simp; done))
set_option maxHeartbeats 1000000 in
theorem rset_7 (p : Prm) (v : Int) (w : World) : Calls Tryd.prog 27 #[.agg #[.int .u64 p.idle, .int .u64 p.size, .int .u64 p.data, .int .u64 p.bl, .int .u64 p.br, .int .u64 p.uni, .int .u64 p.bidis, .int .u64 p.unis, .int .u64 p.expo, .int .u64 p.delay, .int .u64 p.ids, .string ⟨p.tok.toArray⟩], .int .u64 7, .int .u64 v] w fun e w' => e = .returned (.agg #[.int .u64 p.idle, .int .u64 p.size, .int .u64 p.data, .int .u64 p.bl, .int .u64 p.br, .int .u64 v, .int .u64 p.bidis, .int .u64 p.unis, .int .u64 p.expo, .int .u64 p.delay, .int .u64 p.ids, .string ⟨p.tok.toArray⟩]) ∧ Below w.heap.size w w' := by
  go_enter Tryd.func27, Tryd.ntmps27
  go_wp2
  refine bodyPost_ret (v := .agg #[.int .u64 p.idle, .int .u64 p.size, .int .u64 p.data, .int .u64 p.bl, .int .u64 p.br, .int .u64 v, .int .u64 p.bidis, .int .u64 p.unis, .int .u64 p.expo, .int .u64 p.delay, .int .u64 p.ids, .string ⟨p.tok.toArray⟩]) (by simp [results, Tryd.results27, go_sem, *]) rfl ⟨rfl, ?_⟩
  repeat' (with_reducible first | exact Below.refl _ _ | (refine Below.setCell ?_ ?hc _; case hc => simp; done) | (refine Below.alloc ?_ ?ha _; case ha => simp; done))
set_option maxHeartbeats 1000000 in
theorem rset_8 (p : Prm) (v : Int) (w : World) : Calls Tryd.prog 27 #[.agg #[.int .u64 p.idle, .int .u64 p.size, .int .u64 p.data, .int .u64 p.bl, .int .u64 p.br, .int .u64 p.uni, .int .u64 p.bidis, .int .u64 p.unis, .int .u64 p.expo, .int .u64 p.delay, .int .u64 p.ids, .string ⟨p.tok.toArray⟩], .int .u64 8, .int .u64 v] w fun e w' => e = .returned (.agg #[.int .u64 p.idle, .int .u64 p.size, .int .u64 p.data, .int .u64 p.bl, .int .u64 p.br, .int .u64 p.uni, .int .u64 v, .int .u64 p.unis, .int .u64 p.expo, .int .u64 p.delay, .int .u64 p.ids, .string ⟨p.tok.toArray⟩]) ∧ Below w.heap.size w w' := by
  go_enter Tryd.func27, Tryd.ntmps27
  go_wp2
  refine bodyPost_ret (v := .agg #[.int .u64 p.idle, .int .u64 p.size, .int .u64 p.data, .int .u64 p.bl, .int .u64 p.br, .int .u64 p.uni, .int .u64 v, .int .u64 p.unis, .int .u64 p.expo, .int .u64 p.delay, .int .u64 p.ids, .string ⟨p.tok.toArray⟩]) (by simp [results, Tryd.results27, go_sem, *]) rfl ⟨rfl, ?_⟩
  repeat' (with_reducible first | exact Below.refl _ _ | (refine Below.setCell ?_ ?hc _; case hc => simp; done) | (refine Below.alloc ?_ ?ha _; case ha => simp; done))
set_option maxHeartbeats 1000000 in
theorem rset_9 (p : Prm) (v : Int) (w : World) : Calls Tryd.prog 27 #[.agg #[.int .u64 p.idle, .int .u64 p.size, .int .u64 p.data, .int .u64 p.bl, .int .u64 p.br, .int .u64 p.uni, .int .u64 p.bidis, .int .u64 p.unis, .int .u64 p.expo, .int .u64 p.delay, .int .u64 p.ids, .string ⟨p.tok.toArray⟩], .int .u64 9, .int .u64 v] w fun e w' => e = .returned (.agg #[.int .u64 p.idle, .int .u64 p.size, .int .u64 p.data, .int .u64 p.bl, .int .u64 p.br, .int .u64 p.uni, .int .u64 p.bidis, .int .u64 v, .int .u64 p.expo, .int .u64 p.delay, .int .u64 p.ids, .string ⟨p.tok.toArray⟩]) ∧ Below w.heap.size w w' := by
  go_enter Tryd.func27, Tryd.ntmps27
  go_wp2
  refine bodyPost_ret (v := .agg #[.int .u64 p.idle, .int .u64 p.size, .int .u64 p.data, .int .u64 p.bl, .int .u64 p.br, .int .u64 p.uni, .int .u64 p.bidis, .int .u64 v, .int .u64 p.expo, .int .u64 p.delay, .int .u64 p.ids, .string ⟨p.tok.toArray⟩]) (by simp [results, Tryd.results27, go_sem, *]) rfl ⟨rfl, ?_⟩
  repeat' (with_reducible first | exact Below.refl _ _ | (refine Below.setCell ?_ ?hc _; case hc => simp; done) | (refine Below.alloc ?_ ?ha _; case ha => simp; done))
set_option maxHeartbeats 1000000 in
theorem rset_10 (p : Prm) (v : Int) (w : World) : Calls Tryd.prog 27 #[.agg #[.int .u64 p.idle, .int .u64 p.size, .int .u64 p.data, .int .u64 p.bl, .int .u64 p.br, .int .u64 p.uni, .int .u64 p.bidis, .int .u64 p.unis, .int .u64 p.expo, .int .u64 p.delay, .int .u64 p.ids, .string ⟨p.tok.toArray⟩], .int .u64 10, .int .u64 v] w fun e w' => e = .returned (.agg #[.int .u64 p.idle, .int .u64 p.size, .int .u64 p.data, .int .u64 p.bl, .int .u64 p.br, .int .u64 p.uni, .int .u64 p.bidis, .int .u64 p.unis, .int .u64 v, .int .u64 p.delay, .int .u64 p.ids, .string ⟨p.tok.toArray⟩]) ∧ Below w.heap.size w w' := by
  go_enter Tryd.func27, Tryd.ntmps27
  go_wp2
  refine bodyPost_ret (v := .agg #[.int .u64 p.idle, .int .u64 p.size, .int .u64 p.data, .int .u64 p.bl, .int .u64 p.br, .int .u64 p.uni, .int .u64 p.bidis, .int .u64 p.unis, .int .u64 v, .int .u64 p.delay, .int .u64 p.ids, .string ⟨p.tok.toArray⟩]) (by simp [results, Tryd.results27, go_sem, *]) rfl ⟨rfl, ?_⟩
  repeat' (with_reducible first | exact Below.refl _ _ | (refine Below.setCell ?_ ?hc _; case hc => simp; done) | (refine Below.alloc ?_ ?ha _; case ha => simp; done))
set_option maxHeartbeats 1000000 in
theorem rset_11 (p : Prm) (v : Int) (w : World) : Calls Tryd.prog 27 #[.agg #[.int .u64 p.idle, .int .u64 p.size, .int .u64 p.data, .int .u64 p.bl, .int .u64 p.br, .int .u64 p.uni, .int .u64 p.bidis, .int .u64 p.unis, .int .u64 p.expo, .int .u64 p.delay, .int .u64 p.ids, .string ⟨p.tok.toArray⟩], .int .u64 11, .int .u64 v] w fun e w' => e = .returned (.agg #[.int .u64 p.idle, .int .u64 p.size, .int .u64 p.data, .int .u64 p.bl, .int .u64 p.br, .int .u64 p.uni, .int .u64 p.bidis, .int .u64 p.unis, .int .u64 p.expo, .int .u64 v, .int .u64 p.ids, .string ⟨p.tok.toArray⟩]) ∧ Below w.heap.size w w' := by
  go_enter Tryd.func27, Tryd.ntmps27
  go_wp2
  refine bodyPost_ret (v := .agg #[.int .u64 p.idle, .int .u64 p.size, .int .u64 p.data, .int .u64 p.bl, .int .u64 p.br, .int .u64 p.uni, .int .u64 p.bidis, .int .u64 p.unis, .int .u64 p.expo, .int .u64 v, .int .u64 p.ids, .string ⟨p.tok.toArray⟩]) (by simp [results, Tryd.results27, go_sem, *]) rfl ⟨rfl, ?_⟩
  repeat' (with_reducible first | exact Below.refl _ _ | (refine Below.setCell ?_ ?hc _; case hc => simp; done) | (refine Below.alloc ?_ ?ha _; case ha => simp; done))
set_option maxHeartbeats 1000000 in
theorem rset_14 (p : Prm) (v : Int) (w : World) : Calls Tryd.prog 27 #[.agg #[.int .u64 p.idle, .int .u64 p.size, .int .u64 p.data, .int .u64 p.bl, .int .u64 p.br, .int .u64 p.uni, .int .u64 p.bidis, .int .u64 p.unis, .int .u64 p.expo, .int .u64 p.delay, .int .u64 p.ids, .string ⟨p.tok.toArray⟩], .int .u64 14, .int .u64 v] w fun e w' => e = .returned (.agg #[.int .u64 p.idle, .int .u64 p.size, .int .u64 p.data, .int .u64 p.bl, .int .u64 p.br, .int .u64 p.uni, .int .u64 p.bidis, .int .u64 p.unis, .int .u64 p.expo, .int .u64 p.delay, .int .u64 v, .string ⟨p.tok.toArray⟩]) ∧ Below w.heap.size w w' := by
  go_enter Tryd.func27, Tryd.ntmps27
  go_wp2
  refine bodyPost_ret (v := .agg #[.int .u64 p.idle, .int .u64 p.size, .int .u64 p.data, .int .u64 p.bl, .int .u64 p.br, .int .u64 p.uni, .int .u64 p.bidis, .int .u64 p.unis, .int .u64 p.expo, .int .u64 p.delay, .int .u64 v, .string ⟨p.tok.toArray⟩]) (by simp [results, Tryd.results27, go_sem, *]) rfl ⟨rfl, ?_⟩
  repeat' (with_reducible first | exact Below.refl _ _ | (refine Below.setCell ?_ ?hc _; case hc => simp; done) | (refine Below.alloc ?_ ?ha _; case ha => simp; done))
theorem rset_any (p : Prm) (n : Nat) (hn : rvB n = true) (v : Int) (w : World) : Calls Tryd.prog 27 #[.agg #[.int .u64 p.idle, .int .u64 p.size, .int .u64 p.data, .int .u64 p.bl, .int .u64 p.br, .int .u64 p.uni, .int .u64 p.bidis, .int .u64 p.unis, .int .u64 p.expo, .int .u64 p.delay, .int .u64 p.ids, .string ⟨p.tok.toArray⟩], .int .u64 (n : Nat), .int .u64 v] w fun e w' => e = .returned (pv (setF p n v)) ∧ Below w.heap.size w w' := by
  match n, hn with
  | 1, _ => exact rset_1 p v w
  | 3, _ => exact rset_3 p v w
  | 4, _ => exact rset_4 p v w
  | 5, _ => exact rset_5 p v w
  | 6, _ => exact rset_6 p v w
  | 7, _ => exact rset_7 p v w
  | 8, _ => exact rset_8 p v w
  | 9, _ => exact rset_9 p v w
  | 10, _ => exact rset_10 p v w
  | 11, _ => exact rset_11 p v w
  | 14, _ => exact rset_14 p v w
end Go.Proofs.YthhcpedaldlccaaDoor.Pm
