/- The walks of layer 4: the document's ahead, a walk for each way out. By tools/gen-header-ref3.py. -/
import Derived.Test.YtabikljimndliaaDoorHdM
import Derived.Test.YtabikljimndliaaDoorHdA
import Derived.OpenShut
namespace Go.Proofs.YtabikljimndliaaDoor.Hd
open Go.RowKit Vm
set_option linter.unusedVariables false
set_option linter.unusedSimpArgs false

/-- A block that holds a header of the document's, known whole. -/
def RBk (b : Nat) (x0 x1 x2 x3 x4 x5 x6 x7 x8 x9 x10 : Value) (w : World) : Prop := w.heap[b]? = some (.cells #[x0, x1, x2, x3, x4, x5, x6, x7, x8, x9, x10] 28 (0, 0))
theorem RBk.made (w : World) (x0 x1 x2 x3 x4 x5 x6 x7 x8 x9 x10 : Value) : RBk w.heap.size x0 x1 x2 x3 x4 x5 x6 x7 x8 x9 x10 (w.alloc (.cells #[x0, x1, x2, x3, x4, x5, x6, x7, x8, x9, x10] 28)) := by
  unfold RBk World.alloc
  simp
theorem RBk.made2 (w : World) (o : Obj) (x0 x1 x2 x3 x4 x5 x6 x7 x8 x9 x10 : Value) : RBk (w.heap.size + 1) x0 x1 x2 x3 x4 x5 x6 x7 x8 x9 x10 ((w.alloc o).alloc (.cells #[x0, x1, x2, x3, x4, x5, x6, x7, x8, x9, x10] 28)) := by
  have h := RBk.made (w.alloc o) x0 x1 x2 x3 x4 x5 x6 x7 x8 x9 x10
  have e : (w.alloc o).heap.size = w.heap.size + 1 := by simp
  rw [e] at h
  exact h
theorem RBk.up {b : Nat} {x0 x1 x2 x3 x4 x5 x6 x7 x8 x9 x10 : Value} {w w' : World} (h : RBk b x0 x1 x2 x3 x4 x5 x6 x7 x8 x9 x10 w) {n : Nat} (hb : Below n w w') (hn : b < n) : RBk b x0 x1 x2 x3 x4 x5 x6 x7 x8 x9 x10 w' := by
  unfold RBk at *
  rw [hb.block b hn]; exact h
theorem RBk.lt {b : Nat} {x0 x1 x2 x3 x4 x5 x6 x7 x8 x9 x10 : Value} {w : World} (h : RBk b x0 x1 x2 x3 x4 x5 x6 x7 x8 x9 x10 w) : b < w.heap.size := by
  rcases Nat.lt_or_ge b w.heap.size with h1 | h1
  · exact h1
  · unfold RBk at h; rw [Array.getElem?_eq_none h1] at h; cases h
theorem RBk.keep {b : Nat} {x0 x1 x2 x3 x4 x5 x6 x7 x8 x9 x10 : Value} {w w' : World} (h : RBk b x0 x1 x2 x3 x4 x5 x6 x7 x8 x9 x10 w) (hb : Below w.heap.size w w') : RBk b x0 x1 x2 x3 x4 x5 x6 x7 x8 x9 x10 w' := h.up hb h.lt
theorem RBk.cell {b : Nat} {x0 x1 x2 x3 x4 x5 x6 x7 x8 x9 x10 : Value} {w : World} (h : RBk b x0 x1 x2 x3 x4 x5 x6 x7 x8 x9 x10 w) (j : Nat) : w.cell? ⟨b, j, none⟩ = (#[x0, x1, x2, x3, x4, x5, x6, x7, x8, x9, x10] : Array Value)[j]? := Lib.cell_of_heap h j
theorem RBk.fz {b : Nat} {x0 x1 x2 x3 x4 x5 x6 x7 x8 x9 x10 : Value} {w : World} (h : RBk b x0 x1 x2 x3 x4 x5 x6 x7 x8 x9 x10 w) (j : Nat) : w.frozen? ⟨b, j, none⟩ = false := Lib.frozen_of_heap h j
theorem RBk.set0 {b : Nat} {x0 x1 x2 x3 x4 x5 x6 x7 x8 x9 x10 : Value} {w : World} (h : RBk b x0 x1 x2 x3 x4 x5 x6 x7 x8 x9 x10 w) (v : Value) : RBk b v x1 x2 x3 x4 x5 x6 x7 x8 x9 x10 (w.setCell ⟨b, 0, none⟩ v) := Joins.block_setCell (i := 0) h _
theorem RBk.set1 {b : Nat} {x0 x1 x2 x3 x4 x5 x6 x7 x8 x9 x10 : Value} {w : World} (h : RBk b x0 x1 x2 x3 x4 x5 x6 x7 x8 x9 x10 w) (v : Value) : RBk b x0 v x2 x3 x4 x5 x6 x7 x8 x9 x10 (w.setCell ⟨b, 1, none⟩ v) := Joins.block_setCell (i := 1) h _
theorem RBk.set2 {b : Nat} {x0 x1 x2 x3 x4 x5 x6 x7 x8 x9 x10 : Value} {w : World} (h : RBk b x0 x1 x2 x3 x4 x5 x6 x7 x8 x9 x10 w) (v : Value) : RBk b x0 x1 v x3 x4 x5 x6 x7 x8 x9 x10 (w.setCell ⟨b, 2, none⟩ v) := Joins.block_setCell (i := 2) h _
theorem RBk.set3 {b : Nat} {x0 x1 x2 x3 x4 x5 x6 x7 x8 x9 x10 : Value} {w : World} (h : RBk b x0 x1 x2 x3 x4 x5 x6 x7 x8 x9 x10 w) (v : Value) : RBk b x0 x1 x2 v x4 x5 x6 x7 x8 x9 x10 (w.setCell ⟨b, 3, none⟩ v) := Joins.block_setCell (i := 3) h _
theorem RBk.set4 {b : Nat} {x0 x1 x2 x3 x4 x5 x6 x7 x8 x9 x10 : Value} {w : World} (h : RBk b x0 x1 x2 x3 x4 x5 x6 x7 x8 x9 x10 w) (v : Value) : RBk b x0 x1 x2 x3 v x5 x6 x7 x8 x9 x10 (w.setCell ⟨b, 4, none⟩ v) := Joins.block_setCell (i := 4) h _
theorem RBk.set5 {b : Nat} {x0 x1 x2 x3 x4 x5 x6 x7 x8 x9 x10 : Value} {w : World} (h : RBk b x0 x1 x2 x3 x4 x5 x6 x7 x8 x9 x10 w) (v : Value) : RBk b x0 x1 x2 x3 x4 v x6 x7 x8 x9 x10 (w.setCell ⟨b, 5, none⟩ v) := Joins.block_setCell (i := 5) h _
theorem RBk.set6 {b : Nat} {x0 x1 x2 x3 x4 x5 x6 x7 x8 x9 x10 : Value} {w : World} (h : RBk b x0 x1 x2 x3 x4 x5 x6 x7 x8 x9 x10 w) (v : Value) : RBk b x0 x1 x2 x3 x4 x5 v x7 x8 x9 x10 (w.setCell ⟨b, 6, none⟩ v) := Joins.block_setCell (i := 6) h _
theorem RBk.set7 {b : Nat} {x0 x1 x2 x3 x4 x5 x6 x7 x8 x9 x10 : Value} {w : World} (h : RBk b x0 x1 x2 x3 x4 x5 x6 x7 x8 x9 x10 w) (v : Value) : RBk b x0 x1 x2 x3 x4 x5 x6 v x8 x9 x10 (w.setCell ⟨b, 7, none⟩ v) := Joins.block_setCell (i := 7) h _
theorem RBk.set8 {b : Nat} {x0 x1 x2 x3 x4 x5 x6 x7 x8 x9 x10 : Value} {w : World} (h : RBk b x0 x1 x2 x3 x4 x5 x6 x7 x8 x9 x10 w) (v : Value) : RBk b x0 x1 x2 x3 x4 x5 x6 x7 v x9 x10 (w.setCell ⟨b, 8, none⟩ v) := Joins.block_setCell (i := 8) h _
theorem RBk.set9 {b : Nat} {x0 x1 x2 x3 x4 x5 x6 x7 x8 x9 x10 : Value} {w : World} (h : RBk b x0 x1 x2 x3 x4 x5 x6 x7 x8 x9 x10 w) (v : Value) : RBk b x0 x1 x2 x3 x4 x5 x6 x7 x8 v x10 (w.setCell ⟨b, 9, none⟩ v) := Joins.block_setCell (i := 9) h _
theorem RBk.set10 {b : Nat} {x0 x1 x2 x3 x4 x5 x6 x7 x8 x9 x10 : Value} {w : World} (h : RBk b x0 x1 x2 x3 x4 x5 x6 x7 x8 x9 x10 w) (v : Value) : RBk b x0 x1 x2 x3 x4 x5 x6 x7 x8 x9 v (w.setCell ⟨b, 10, none⟩ v) := Joins.block_setCell (i := 10) h _
set_option maxHeartbeats 4000000 in
theorem ahead_nil (s : ByteArray) (hs : s.size = 0) (w : World) :
    Calls Tryd.prog 28 #[.string s] w fun e w' => e = .returned (.tuple #[.agg #[.bool false, .bool false, .bool false, .int .i64 0, .int .u32 0, .string ⟨#[]⟩, .string ⟨#[]⟩, .string ⟨#[]⟩, .int .u64 0, .int .i64 0, .int .u64 0], .string ⟨#[]⟩, .bool false]) ∧ Below w.heap.size w w' := by
  have he := empty_yes s hs
  clear hs
  go_enter Tryd.func28, Tryd.ntmps28
  go_wp2
  refine bodyPost_ret (v := .tuple #[.agg #[.bool false, .bool false, .bool false, .int .i64 0, .int .u32 0, .string ⟨#[]⟩, .string ⟨#[]⟩, .string ⟨#[]⟩, .int .u64 0, .int .i64 0, .int .u64 0], .string ⟨#[]⟩, .bool false]) (by simp [results, Tryd.results28, go_sem, *]) rfl ⟨rfl, ?_⟩
  repeat (first | exact Below.refl _ _ | refine Below.setCell ?_ (by simp) _ | refine below_drew ?_ | refine Below.alloc ?_ (by simp) _)
set_option maxHeartbeats 4000000 in
theorem ahead_bit (s : ByteArray) (b : UInt8) (hp : 0 < s.size) (hl : s.size ≤ 9223372036854775807) (I0 : s[0]'hp = b) (hb0 : (0 : Int) ≤ ((b.toNat : Nat) : Int)) (hb : ((b.toNat : Nat) : Int) ≤ 255) (h64 : (((b.toNat : Nat) : Int) / 64 % 2 == 0) = true) (w : World) :
    Calls Tryd.prog 28 #[.string s] w fun e w' => e = .returned (.tuple #[.agg #[.bool false, .bool false, .bool false, .int .i64 0, .int .u32 0, .string ⟨#[]⟩, .string ⟨#[]⟩, .string ⟨#[]⟩, .int .u64 0, .int .i64 0, .int .u64 0], .string ⟨#[]⟩, .bool false]) ∧ Below w.heap.size w w' := by
  have he := empty_no s hp
  go_enter Tryd.func28, Tryd.ntmps28
  go_wp2
  refine bodyPost_ret (v := .tuple #[.agg #[.bool false, .bool false, .bool false, .int .i64 0, .int .u32 0, .string ⟨#[]⟩, .string ⟨#[]⟩, .string ⟨#[]⟩, .int .u64 0, .int .i64 0, .int .u64 0], .string ⟨#[]⟩, .bool false]) (by simp [results, Tryd.results28, go_sem, *]) rfl ⟨rfl, ?_⟩
  repeat (first | exact Below.refl _ _ | refine Below.setCell ?_ (by simp) _ | refine below_drew ?_ | refine Below.alloc ?_ (by simp) _)
set_option maxHeartbeats 4000000 in
theorem ahead_few (s : ByteArray) (b : UInt8) (hp : 0 < s.size) (hl : s.size ≤ 9223372036854775807) (I0 : s[0]'hp = b) (hb0 : (0 : Int) ≤ ((b.toNat : Nat) : Int)) (hb : ((b.toNat : Nat) : Int) ≤ 255) (h64 : (((b.toNat : Nat) : Int) / 64 % 2 == 0) = false) (h128 : decide (128 ≤ ((b.toNat : Nat) : Int)) = false) (hf : ((s.size : Nat) : Int) < 9) (w : World) :
    Calls Tryd.prog 28 #[.string s] w fun e w' => e = .returned (.tuple #[.agg #[.bool false, .bool false, .bool false, .int .i64 0, .int .u32 0, .string ⟨#[]⟩, .string ⟨#[]⟩, .string ⟨#[]⟩, .int .u64 0, .int .i64 0, .int .u64 0], .string ⟨#[]⟩, .bool false]) ∧ Below w.heap.size w w' := by
  have he := empty_no s hp
  go_enter Tryd.func28, Tryd.ntmps28
  go_wp2
  refine bodyPost_ret (v := .tuple #[.agg #[.bool false, .bool false, .bool false, .int .i64 0, .int .u32 0, .string ⟨#[]⟩, .string ⟨#[]⟩, .string ⟨#[]⟩, .int .u64 0, .int .i64 0, .int .u64 0], .string ⟨#[]⟩, .bool false]) (by simp [results, Tryd.results28, go_sem, *]) rfl ⟨rfl, ?_⟩
  repeat (first | exact Below.refl _ _ | refine Below.setCell ?_ (by simp) _ | refine below_drew ?_ | refine Below.alloc ?_ (by simp) _)
set_option maxHeartbeats 4000000 in
theorem ahead_short (s : ByteArray) (d r : ByteArray) (b : UInt8) (hp : 0 < s.size) (hl : s.size ≤ 9223372036854775807) (I0 : s[0]'hp = b) (hb0 : (0 : Int) ≤ ((b.toNat : Nat) : Int)) (hb : ((b.toNat : Nat) : Int) ≤ 255) (h64 : (((b.toNat : Nat) : Int) / 64 % 2 == 0) = false) (h128 : decide (128 ≤ ((b.toNat : Nat) : Int)) = false) (hf : ¬ ((s.size : Nat) : Int) < 9) (hf9 : 9 ≤ s.size) (X1 : s.extract 1 9 = d) (X2 : s.extract 9 s.size = r) (w : World) :
    Calls Tryd.prog 28 #[.string s] w fun e w' => e = .returned (.tuple #[.agg #[.bool false, .bool (((b.toNat : Nat) : Int) / 32 % 2 == 1), .bool false, .int .i64 0, .int .u32 0, .string d, .string ⟨#[]⟩, .string ⟨#[]⟩, .int .u64 0, .int .i64 0, .int .u64 0], .string r, .bool true]) ∧ Below w.heap.size w w' := by
  have he := empty_no s hp
  go_enter Tryd.func28, Tryd.ntmps28
  go_wp2_with fail
  go_region
  all_goals go_wp2
  all_goals refine bodyPost_ret (v := .tuple #[.agg #[.bool false, .bool (((b.toNat : Nat) : Int) / 32 % 2 == 1), .bool false, .int .i64 0, .int .u32 0, .string d, .string ⟨#[]⟩, .string ⟨#[]⟩, .int .u64 0, .int .i64 0, .int .u64 0], .string r, .bool true]) (by simp [results, Tryd.results28, go_sem, *]) rfl ⟨rfl, ?_⟩
  all_goals repeat (first | exact Below.refl _ _ | refine Below.setCell ?_ (by simp) _ | refine below_drew ?_ | refine Below.alloc ?_ (by simp) _)
set_option maxHeartbeats 4000000 in
theorem ahead_l4 (s : ByteArray) (b : UInt8) (hp : 0 < s.size) (hl : s.size ≤ 9223372036854775807) (I0 : s[0]'hp = b) (hb0 : (0 : Int) ≤ ((b.toNat : Nat) : Int)) (hb : ((b.toNat : Nat) : Int) ≤ 255) (h64 : (((b.toNat : Nat) : Int) / 64 % 2 == 0) = false) (h128 : decide (128 ≤ ((b.toNat : Nat) : Int)) = true) (hf : ((s.size : Nat) : Int) < 5) (w : World) :
    Calls Tryd.prog 28 #[.string s] w fun e w' => e = .returned (.tuple #[.agg #[.bool false, .bool false, .bool false, .int .i64 0, .int .u32 0, .string ⟨#[]⟩, .string ⟨#[]⟩, .string ⟨#[]⟩, .int .u64 0, .int .i64 0, .int .u64 0], .string ⟨#[]⟩, .bool false]) ∧ Below w.heap.size w w' := by
  have he := empty_no s hp
  go_enter Tryd.func28, Tryd.ntmps28
  go_wp2
  refine bodyPost_ret (v := .tuple #[.agg #[.bool false, .bool false, .bool false, .int .i64 0, .int .u32 0, .string ⟨#[]⟩, .string ⟨#[]⟩, .string ⟨#[]⟩, .int .u64 0, .int .i64 0, .int .u64 0], .string ⟨#[]⟩, .bool false]) (by simp [results, Tryd.results28, go_sem, *]) rfl ⟨rfl, ?_⟩
  repeat (first | exact Below.refl _ _ | refine Below.setCell ?_ (by simp) _ | refine below_drew ?_ | refine Below.alloc ?_ (by simp) _)
set_option maxHeartbeats 4000000 in
theorem ahead_t3 (s : ByteArray) (b : UInt8) (hp : 0 < s.size) (hl : s.size ≤ 9223372036854775807) (I0 : s[0]'hp = b) (hb0 : (0 : Int) ≤ ((b.toNat : Nat) : Int)) (hb : ((b.toNat : Nat) : Int) ≤ 255) (h64 : (((b.toNat : Nat) : Int) / 64 % 2 == 0) = false) (h128 : decide (128 ≤ ((b.toNat : Nat) : Int)) = true) (hf : ¬ ((s.size : Nat) : Int) < 5) (h3 : (((b.toNat : Nat) : Int) / 16 % 4 == 3) = true) (w : World) :
    Calls Tryd.prog 28 #[.string s] w fun e w' => e = .returned (.tuple #[.agg #[.bool false, .bool false, .bool false, .int .i64 0, .int .u32 0, .string ⟨#[]⟩, .string ⟨#[]⟩, .string ⟨#[]⟩, .int .u64 0, .int .i64 0, .int .u64 0], .string ⟨#[]⟩, .bool false]) ∧ Below w.heap.size w w' := by
  have he := empty_no s hp
  go_enter Tryd.func28, Tryd.ntmps28
  go_wp2
  refine bodyPost_ret (v := .tuple #[.agg #[.bool false, .bool false, .bool false, .int .i64 0, .int .u32 0, .string ⟨#[]⟩, .string ⟨#[]⟩, .string ⟨#[]⟩, .int .u64 0, .int .i64 0, .int .u64 0], .string ⟨#[]⟩, .bool false]) (by simp [results, Tryd.results28, go_sem, *]) rfl ⟨rfl, ?_⟩
  repeat (first | exact Below.refl _ _ | refine Below.setCell ?_ (by simp) _ | refine below_drew ?_ | refine Below.alloc ?_ (by simp) _)
end Go.Proofs.YtabikljimndliaaDoor.Hd
