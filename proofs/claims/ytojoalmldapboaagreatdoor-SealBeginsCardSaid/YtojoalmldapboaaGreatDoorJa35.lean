/- The walks of layer 4: a header's first byte, a varint that is known to be one -/
import Derived.Test.YtojoalmldapboaaGreatDoorJa24
import Derived.Lib.Builder
import Derived.Lib.Hide
namespace Go.Proofs.YtojoalmldapboaaGreatDoor.Hd
set_option maxRecDepth 20000
open Go.RowKit Vm
set_option linter.unusedVariables false

/-- A header's first byte. -/
def fbN (lg sp ph : Bool) (ty wi : Int) : Nat := if lg then (191 + wi + 16 * ty).toNat else (63 + wi).toNat + (if sp then 32 else 0) + (if ph then 4 else 0)
theorem first_l01 (sp : Bool) (ph : Bool) (ve : Int) (dc : List UInt8) (sc : List UInt8) (tk : List UInt8) (le : Int) (nu : Int) (w : World) :
    Calls Tryz.prog 87 #[.agg #[.bool true, .bool sp, .bool ph, .int .i64 0, .int .u32 ve, .string ⟨dc.toArray⟩, .string ⟨sc.toArray⟩, .string ⟨tk.toArray⟩, .int .u64 le, .int .i64 1, .int .u64 nu]] w fun e w' => e = .returned (.int .u8 192) ∧ Below w.heap.size w w' := by
  go_enter Tryz.func87, Tryz.ntmps87
  go_wp2
  go_ret
  exact ⟨by first | rfl | (congr 1), (Below.refl _ _).alloc (Nat.le_refl _) _⟩
theorem first_l02 (sp : Bool) (ph : Bool) (ve : Int) (dc : List UInt8) (sc : List UInt8) (tk : List UInt8) (le : Int) (nu : Int) (w : World) :
    Calls Tryz.prog 87 #[.agg #[.bool true, .bool sp, .bool ph, .int .i64 0, .int .u32 ve, .string ⟨dc.toArray⟩, .string ⟨sc.toArray⟩, .string ⟨tk.toArray⟩, .int .u64 le, .int .i64 2, .int .u64 nu]] w fun e w' => e = .returned (.int .u8 193) ∧ Below w.heap.size w w' := by
  go_enter Tryz.func87, Tryz.ntmps87
  go_wp2
  go_ret
  exact ⟨by first | rfl | (congr 1), (Below.refl _ _).alloc (Nat.le_refl _) _⟩
theorem first_l03 (sp : Bool) (ph : Bool) (ve : Int) (dc : List UInt8) (sc : List UInt8) (tk : List UInt8) (le : Int) (nu : Int) (w : World) :
    Calls Tryz.prog 87 #[.agg #[.bool true, .bool sp, .bool ph, .int .i64 0, .int .u32 ve, .string ⟨dc.toArray⟩, .string ⟨sc.toArray⟩, .string ⟨tk.toArray⟩, .int .u64 le, .int .i64 3, .int .u64 nu]] w fun e w' => e = .returned (.int .u8 194) ∧ Below w.heap.size w w' := by
  go_enter Tryz.func87, Tryz.ntmps87
  go_wp2
  go_ret
  exact ⟨by first | rfl | (congr 1), (Below.refl _ _).alloc (Nat.le_refl _) _⟩
theorem first_l04 (sp : Bool) (ph : Bool) (ve : Int) (dc : List UInt8) (sc : List UInt8) (tk : List UInt8) (le : Int) (nu : Int) (w : World) :
    Calls Tryz.prog 87 #[.agg #[.bool true, .bool sp, .bool ph, .int .i64 0, .int .u32 ve, .string ⟨dc.toArray⟩, .string ⟨sc.toArray⟩, .string ⟨tk.toArray⟩, .int .u64 le, .int .i64 4, .int .u64 nu]] w fun e w' => e = .returned (.int .u8 195) ∧ Below w.heap.size w w' := by
  go_enter Tryz.func87, Tryz.ntmps87
  go_wp2
  go_ret
  exact ⟨by first | rfl | (congr 1), (Below.refl _ _).alloc (Nat.le_refl _) _⟩
theorem first_l11 (sp : Bool) (ph : Bool) (ve : Int) (dc : List UInt8) (sc : List UInt8) (tk : List UInt8) (le : Int) (nu : Int) (w : World) :
    Calls Tryz.prog 87 #[.agg #[.bool true, .bool sp, .bool ph, .int .i64 1, .int .u32 ve, .string ⟨dc.toArray⟩, .string ⟨sc.toArray⟩, .string ⟨tk.toArray⟩, .int .u64 le, .int .i64 1, .int .u64 nu]] w fun e w' => e = .returned (.int .u8 208) ∧ Below w.heap.size w w' := by
  go_enter Tryz.func87, Tryz.ntmps87
  go_wp2
  go_ret
  exact ⟨by first | rfl | (congr 1), (Below.refl _ _).alloc (Nat.le_refl _) _⟩
theorem first_l12 (sp : Bool) (ph : Bool) (ve : Int) (dc : List UInt8) (sc : List UInt8) (tk : List UInt8) (le : Int) (nu : Int) (w : World) :
    Calls Tryz.prog 87 #[.agg #[.bool true, .bool sp, .bool ph, .int .i64 1, .int .u32 ve, .string ⟨dc.toArray⟩, .string ⟨sc.toArray⟩, .string ⟨tk.toArray⟩, .int .u64 le, .int .i64 2, .int .u64 nu]] w fun e w' => e = .returned (.int .u8 209) ∧ Below w.heap.size w w' := by
  go_enter Tryz.func87, Tryz.ntmps87
  go_wp2
  go_ret
  exact ⟨by first | rfl | (congr 1), (Below.refl _ _).alloc (Nat.le_refl _) _⟩
theorem first_l13 (sp : Bool) (ph : Bool) (ve : Int) (dc : List UInt8) (sc : List UInt8) (tk : List UInt8) (le : Int) (nu : Int) (w : World) :
    Calls Tryz.prog 87 #[.agg #[.bool true, .bool sp, .bool ph, .int .i64 1, .int .u32 ve, .string ⟨dc.toArray⟩, .string ⟨sc.toArray⟩, .string ⟨tk.toArray⟩, .int .u64 le, .int .i64 3, .int .u64 nu]] w fun e w' => e = .returned (.int .u8 210) ∧ Below w.heap.size w w' := by
  go_enter Tryz.func87, Tryz.ntmps87
  go_wp2
  go_ret
  exact ⟨by first | rfl | (congr 1), (Below.refl _ _).alloc (Nat.le_refl _) _⟩
theorem first_l14 (sp : Bool) (ph : Bool) (ve : Int) (dc : List UInt8) (sc : List UInt8) (tk : List UInt8) (le : Int) (nu : Int) (w : World) :
    Calls Tryz.prog 87 #[.agg #[.bool true, .bool sp, .bool ph, .int .i64 1, .int .u32 ve, .string ⟨dc.toArray⟩, .string ⟨sc.toArray⟩, .string ⟨tk.toArray⟩, .int .u64 le, .int .i64 4, .int .u64 nu]] w fun e w' => e = .returned (.int .u8 211) ∧ Below w.heap.size w w' := by
  go_enter Tryz.func87, Tryz.ntmps87
  go_wp2
  go_ret
  exact ⟨by first | rfl | (congr 1), (Below.refl _ _).alloc (Nat.le_refl _) _⟩
theorem first_l21 (sp : Bool) (ph : Bool) (ve : Int) (dc : List UInt8) (sc : List UInt8) (tk : List UInt8) (le : Int) (nu : Int) (w : World) :
    Calls Tryz.prog 87 #[.agg #[.bool true, .bool sp, .bool ph, .int .i64 2, .int .u32 ve, .string ⟨dc.toArray⟩, .string ⟨sc.toArray⟩, .string ⟨tk.toArray⟩, .int .u64 le, .int .i64 1, .int .u64 nu]] w fun e w' => e = .returned (.int .u8 224) ∧ Below w.heap.size w w' := by
  go_enter Tryz.func87, Tryz.ntmps87
  go_wp2
  go_ret
  exact ⟨by first | rfl | (congr 1), (Below.refl _ _).alloc (Nat.le_refl _) _⟩
theorem first_l22 (sp : Bool) (ph : Bool) (ve : Int) (dc : List UInt8) (sc : List UInt8) (tk : List UInt8) (le : Int) (nu : Int) (w : World) :
    Calls Tryz.prog 87 #[.agg #[.bool true, .bool sp, .bool ph, .int .i64 2, .int .u32 ve, .string ⟨dc.toArray⟩, .string ⟨sc.toArray⟩, .string ⟨tk.toArray⟩, .int .u64 le, .int .i64 2, .int .u64 nu]] w fun e w' => e = .returned (.int .u8 225) ∧ Below w.heap.size w w' := by
  go_enter Tryz.func87, Tryz.ntmps87
  go_wp2
  go_ret
  exact ⟨by first | rfl | (congr 1), (Below.refl _ _).alloc (Nat.le_refl _) _⟩
theorem first_l23 (sp : Bool) (ph : Bool) (ve : Int) (dc : List UInt8) (sc : List UInt8) (tk : List UInt8) (le : Int) (nu : Int) (w : World) :
    Calls Tryz.prog 87 #[.agg #[.bool true, .bool sp, .bool ph, .int .i64 2, .int .u32 ve, .string ⟨dc.toArray⟩, .string ⟨sc.toArray⟩, .string ⟨tk.toArray⟩, .int .u64 le, .int .i64 3, .int .u64 nu]] w fun e w' => e = .returned (.int .u8 226) ∧ Below w.heap.size w w' := by
  go_enter Tryz.func87, Tryz.ntmps87
  go_wp2
  go_ret
  exact ⟨by first | rfl | (congr 1), (Below.refl _ _).alloc (Nat.le_refl _) _⟩
theorem first_l24 (sp : Bool) (ph : Bool) (ve : Int) (dc : List UInt8) (sc : List UInt8) (tk : List UInt8) (le : Int) (nu : Int) (w : World) :
    Calls Tryz.prog 87 #[.agg #[.bool true, .bool sp, .bool ph, .int .i64 2, .int .u32 ve, .string ⟨dc.toArray⟩, .string ⟨sc.toArray⟩, .string ⟨tk.toArray⟩, .int .u64 le, .int .i64 4, .int .u64 nu]] w fun e w' => e = .returned (.int .u8 227) ∧ Below w.heap.size w w' := by
  go_enter Tryz.func87, Tryz.ntmps87
  go_wp2
  go_ret
  exact ⟨by first | rfl | (congr 1), (Below.refl _ _).alloc (Nat.le_refl _) _⟩
theorem first_sff1 (ty : Int) (ve : Int) (dc : List UInt8) (sc : List UInt8) (tk : List UInt8) (le : Int) (nu : Int) (w : World) :
    Calls Tryz.prog 87 #[.agg #[.bool false, .bool false, .bool false, .int .i64 ty, .int .u32 ve, .string ⟨dc.toArray⟩, .string ⟨sc.toArray⟩, .string ⟨tk.toArray⟩, .int .u64 le, .int .i64 1, .int .u64 nu]] w fun e w' => e = .returned (.int .u8 64) ∧ Below w.heap.size w w' := by
  go_enter Tryz.func87, Tryz.ntmps87
  go_wp2
  go_ret
  exact ⟨by first | rfl | (congr 1), (Below.refl _ _).alloc (Nat.le_refl _) _⟩
theorem first_sff2 (ty : Int) (ve : Int) (dc : List UInt8) (sc : List UInt8) (tk : List UInt8) (le : Int) (nu : Int) (w : World) :
    Calls Tryz.prog 87 #[.agg #[.bool false, .bool false, .bool false, .int .i64 ty, .int .u32 ve, .string ⟨dc.toArray⟩, .string ⟨sc.toArray⟩, .string ⟨tk.toArray⟩, .int .u64 le, .int .i64 2, .int .u64 nu]] w fun e w' => e = .returned (.int .u8 65) ∧ Below w.heap.size w w' := by
  go_enter Tryz.func87, Tryz.ntmps87
  go_wp2
  go_ret
  exact ⟨by first | rfl | (congr 1), (Below.refl _ _).alloc (Nat.le_refl _) _⟩
theorem first_sff3 (ty : Int) (ve : Int) (dc : List UInt8) (sc : List UInt8) (tk : List UInt8) (le : Int) (nu : Int) (w : World) :
    Calls Tryz.prog 87 #[.agg #[.bool false, .bool false, .bool false, .int .i64 ty, .int .u32 ve, .string ⟨dc.toArray⟩, .string ⟨sc.toArray⟩, .string ⟨tk.toArray⟩, .int .u64 le, .int .i64 3, .int .u64 nu]] w fun e w' => e = .returned (.int .u8 66) ∧ Below w.heap.size w w' := by
  go_enter Tryz.func87, Tryz.ntmps87
  go_wp2
  go_ret
  exact ⟨by first | rfl | (congr 1), (Below.refl _ _).alloc (Nat.le_refl _) _⟩
theorem first_sff4 (ty : Int) (ve : Int) (dc : List UInt8) (sc : List UInt8) (tk : List UInt8) (le : Int) (nu : Int) (w : World) :
    Calls Tryz.prog 87 #[.agg #[.bool false, .bool false, .bool false, .int .i64 ty, .int .u32 ve, .string ⟨dc.toArray⟩, .string ⟨sc.toArray⟩, .string ⟨tk.toArray⟩, .int .u64 le, .int .i64 4, .int .u64 nu]] w fun e w' => e = .returned (.int .u8 67) ∧ Below w.heap.size w w' := by
  go_enter Tryz.func87, Tryz.ntmps87
  go_wp2
  go_ret
  exact ⟨by first | rfl | (congr 1), (Below.refl _ _).alloc (Nat.le_refl _) _⟩
theorem first_sft1 (ty : Int) (ve : Int) (dc : List UInt8) (sc : List UInt8) (tk : List UInt8) (le : Int) (nu : Int) (w : World) :
    Calls Tryz.prog 87 #[.agg #[.bool false, .bool false, .bool true, .int .i64 ty, .int .u32 ve, .string ⟨dc.toArray⟩, .string ⟨sc.toArray⟩, .string ⟨tk.toArray⟩, .int .u64 le, .int .i64 1, .int .u64 nu]] w fun e w' => e = .returned (.int .u8 68) ∧ Below w.heap.size w w' := by
  go_enter Tryz.func87, Tryz.ntmps87
  go_wp2
  go_ret
  exact ⟨by first | rfl | (congr 1), (Below.refl _ _).alloc (Nat.le_refl _) _⟩
theorem first_sft2 (ty : Int) (ve : Int) (dc : List UInt8) (sc : List UInt8) (tk : List UInt8) (le : Int) (nu : Int) (w : World) :
    Calls Tryz.prog 87 #[.agg #[.bool false, .bool false, .bool true, .int .i64 ty, .int .u32 ve, .string ⟨dc.toArray⟩, .string ⟨sc.toArray⟩, .string ⟨tk.toArray⟩, .int .u64 le, .int .i64 2, .int .u64 nu]] w fun e w' => e = .returned (.int .u8 69) ∧ Below w.heap.size w w' := by
  go_enter Tryz.func87, Tryz.ntmps87
  go_wp2
  go_ret
  exact ⟨by first | rfl | (congr 1), (Below.refl _ _).alloc (Nat.le_refl _) _⟩
theorem first_sft3 (ty : Int) (ve : Int) (dc : List UInt8) (sc : List UInt8) (tk : List UInt8) (le : Int) (nu : Int) (w : World) :
    Calls Tryz.prog 87 #[.agg #[.bool false, .bool false, .bool true, .int .i64 ty, .int .u32 ve, .string ⟨dc.toArray⟩, .string ⟨sc.toArray⟩, .string ⟨tk.toArray⟩, .int .u64 le, .int .i64 3, .int .u64 nu]] w fun e w' => e = .returned (.int .u8 70) ∧ Below w.heap.size w w' := by
  go_enter Tryz.func87, Tryz.ntmps87
  go_wp2
  go_ret
  exact ⟨by first | rfl | (congr 1), (Below.refl _ _).alloc (Nat.le_refl _) _⟩
theorem first_sft4 (ty : Int) (ve : Int) (dc : List UInt8) (sc : List UInt8) (tk : List UInt8) (le : Int) (nu : Int) (w : World) :
    Calls Tryz.prog 87 #[.agg #[.bool false, .bool false, .bool true, .int .i64 ty, .int .u32 ve, .string ⟨dc.toArray⟩, .string ⟨sc.toArray⟩, .string ⟨tk.toArray⟩, .int .u64 le, .int .i64 4, .int .u64 nu]] w fun e w' => e = .returned (.int .u8 71) ∧ Below w.heap.size w w' := by
  go_enter Tryz.func87, Tryz.ntmps87
  go_wp2
  go_ret
  exact ⟨by first | rfl | (congr 1), (Below.refl _ _).alloc (Nat.le_refl _) _⟩
theorem first_stf1 (ty : Int) (ve : Int) (dc : List UInt8) (sc : List UInt8) (tk : List UInt8) (le : Int) (nu : Int) (w : World) :
    Calls Tryz.prog 87 #[.agg #[.bool false, .bool true, .bool false, .int .i64 ty, .int .u32 ve, .string ⟨dc.toArray⟩, .string ⟨sc.toArray⟩, .string ⟨tk.toArray⟩, .int .u64 le, .int .i64 1, .int .u64 nu]] w fun e w' => e = .returned (.int .u8 96) ∧ Below w.heap.size w w' := by
  go_enter Tryz.func87, Tryz.ntmps87
  go_wp2
  go_ret
  exact ⟨by first | rfl | (congr 1), (Below.refl _ _).alloc (Nat.le_refl _) _⟩
theorem first_stf2 (ty : Int) (ve : Int) (dc : List UInt8) (sc : List UInt8) (tk : List UInt8) (le : Int) (nu : Int) (w : World) :
    Calls Tryz.prog 87 #[.agg #[.bool false, .bool true, .bool false, .int .i64 ty, .int .u32 ve, .string ⟨dc.toArray⟩, .string ⟨sc.toArray⟩, .string ⟨tk.toArray⟩, .int .u64 le, .int .i64 2, .int .u64 nu]] w fun e w' => e = .returned (.int .u8 97) ∧ Below w.heap.size w w' := by
  go_enter Tryz.func87, Tryz.ntmps87
  go_wp2
  go_ret
  exact ⟨by first | rfl | (congr 1), (Below.refl _ _).alloc (Nat.le_refl _) _⟩
theorem first_stf3 (ty : Int) (ve : Int) (dc : List UInt8) (sc : List UInt8) (tk : List UInt8) (le : Int) (nu : Int) (w : World) :
    Calls Tryz.prog 87 #[.agg #[.bool false, .bool true, .bool false, .int .i64 ty, .int .u32 ve, .string ⟨dc.toArray⟩, .string ⟨sc.toArray⟩, .string ⟨tk.toArray⟩, .int .u64 le, .int .i64 3, .int .u64 nu]] w fun e w' => e = .returned (.int .u8 98) ∧ Below w.heap.size w w' := by
  go_enter Tryz.func87, Tryz.ntmps87
  go_wp2
  go_ret
  exact ⟨by first | rfl | (congr 1), (Below.refl _ _).alloc (Nat.le_refl _) _⟩
theorem first_stf4 (ty : Int) (ve : Int) (dc : List UInt8) (sc : List UInt8) (tk : List UInt8) (le : Int) (nu : Int) (w : World) :
    Calls Tryz.prog 87 #[.agg #[.bool false, .bool true, .bool false, .int .i64 ty, .int .u32 ve, .string ⟨dc.toArray⟩, .string ⟨sc.toArray⟩, .string ⟨tk.toArray⟩, .int .u64 le, .int .i64 4, .int .u64 nu]] w fun e w' => e = .returned (.int .u8 99) ∧ Below w.heap.size w w' := by
  go_enter Tryz.func87, Tryz.ntmps87
  go_wp2
  go_ret
  exact ⟨by first | rfl | (congr 1), (Below.refl _ _).alloc (Nat.le_refl _) _⟩
theorem first_stt1 (ty : Int) (ve : Int) (dc : List UInt8) (sc : List UInt8) (tk : List UInt8) (le : Int) (nu : Int) (w : World) :
    Calls Tryz.prog 87 #[.agg #[.bool false, .bool true, .bool true, .int .i64 ty, .int .u32 ve, .string ⟨dc.toArray⟩, .string ⟨sc.toArray⟩, .string ⟨tk.toArray⟩, .int .u64 le, .int .i64 1, .int .u64 nu]] w fun e w' => e = .returned (.int .u8 100) ∧ Below w.heap.size w w' := by
  go_enter Tryz.func87, Tryz.ntmps87
  go_wp2
  go_ret
  exact ⟨by first | rfl | (congr 1), (Below.refl _ _).alloc (Nat.le_refl _) _⟩
theorem first_stt2 (ty : Int) (ve : Int) (dc : List UInt8) (sc : List UInt8) (tk : List UInt8) (le : Int) (nu : Int) (w : World) :
    Calls Tryz.prog 87 #[.agg #[.bool false, .bool true, .bool true, .int .i64 ty, .int .u32 ve, .string ⟨dc.toArray⟩, .string ⟨sc.toArray⟩, .string ⟨tk.toArray⟩, .int .u64 le, .int .i64 2, .int .u64 nu]] w fun e w' => e = .returned (.int .u8 101) ∧ Below w.heap.size w w' := by
  go_enter Tryz.func87, Tryz.ntmps87
  go_wp2
  go_ret
  exact ⟨by first | rfl | (congr 1), (Below.refl _ _).alloc (Nat.le_refl _) _⟩
theorem first_stt3 (ty : Int) (ve : Int) (dc : List UInt8) (sc : List UInt8) (tk : List UInt8) (le : Int) (nu : Int) (w : World) :
    Calls Tryz.prog 87 #[.agg #[.bool false, .bool true, .bool true, .int .i64 ty, .int .u32 ve, .string ⟨dc.toArray⟩, .string ⟨sc.toArray⟩, .string ⟨tk.toArray⟩, .int .u64 le, .int .i64 3, .int .u64 nu]] w fun e w' => e = .returned (.int .u8 102) ∧ Below w.heap.size w w' := by
  go_enter Tryz.func87, Tryz.ntmps87
  go_wp2
  go_ret
  exact ⟨by first | rfl | (congr 1), (Below.refl _ _).alloc (Nat.le_refl _) _⟩
theorem first_stt4 (ty : Int) (ve : Int) (dc : List UInt8) (sc : List UInt8) (tk : List UInt8) (le : Int) (nu : Int) (w : World) :
    Calls Tryz.prog 87 #[.agg #[.bool false, .bool true, .bool true, .int .i64 ty, .int .u32 ve, .string ⟨dc.toArray⟩, .string ⟨sc.toArray⟩, .string ⟨tk.toArray⟩, .int .u64 le, .int .i64 4, .int .u64 nu]] w fun e w' => e = .returned (.int .u8 103) ∧ Below w.heap.size w w' := by
  go_enter Tryz.func87, Tryz.ntmps87
  go_wp2
  go_ret
  exact ⟨by first | rfl | (congr 1), (Below.refl _ _).alloc (Nat.le_refl _) _⟩
theorem first_any (lg sp ph : Bool) (ty ve : Int) (dc sc tk : List UInt8) (le wi nu : Int) (w : World) (h1 : 1 ≤ wi) (h2 : wi ≤ 4) (h3 : lg = true → 0 ≤ ty ∧ ty ≤ 2) :
    Calls Tryz.prog 87 #[.agg #[.bool lg, .bool sp, .bool ph, .int .i64 ty, .int .u32 ve, .string ⟨dc.toArray⟩, .string ⟨sc.toArray⟩, .string ⟨tk.toArray⟩, .int .u64 le, .int .i64 wi, .int .u64 nu]] w fun e w' => e = .returned (.int .u8 (fbN lg sp ph ty wi : Nat)) ∧ Below w.heap.size w w' := by
  have hw : wi = 1 ∨ wi = 2 ∨ wi = 3 ∨ wi = 4 := by omega
  cases lg with
  | true =>
    have ht := h3 rfl
    have ht : ty = 0 ∨ ty = 1 ∨ ty = 2 := by omega
    rcases ht with rfl | rfl | rfl
    · rcases hw with rfl | rfl | rfl | rfl
      · exact first_l01 sp ph ve dc sc tk le nu w
      · exact first_l02 sp ph ve dc sc tk le nu w
      · exact first_l03 sp ph ve dc sc tk le nu w
      · exact first_l04 sp ph ve dc sc tk le nu w
    · rcases hw with rfl | rfl | rfl | rfl
      · exact first_l11 sp ph ve dc sc tk le nu w
      · exact first_l12 sp ph ve dc sc tk le nu w
      · exact first_l13 sp ph ve dc sc tk le nu w
      · exact first_l14 sp ph ve dc sc tk le nu w
    · rcases hw with rfl | rfl | rfl | rfl
      · exact first_l21 sp ph ve dc sc tk le nu w
      · exact first_l22 sp ph ve dc sc tk le nu w
      · exact first_l23 sp ph ve dc sc tk le nu w
      · exact first_l24 sp ph ve dc sc tk le nu w
  | false =>
    cases sp <;> cases ph
    · rcases hw with rfl | rfl | rfl | rfl
      · exact first_sff1 ty ve dc sc tk le nu w
      · exact first_sff2 ty ve dc sc tk le nu w
      · exact first_sff3 ty ve dc sc tk le nu w
      · exact first_sff4 ty ve dc sc tk le nu w
    · rcases hw with rfl | rfl | rfl | rfl
      · exact first_sft1 ty ve dc sc tk le nu w
      · exact first_sft2 ty ve dc sc tk le nu w
      · exact first_sft3 ty ve dc sc tk le nu w
      · exact first_sft4 ty ve dc sc tk le nu w
    · rcases hw with rfl | rfl | rfl | rfl
      · exact first_stf1 ty ve dc sc tk le nu w
      · exact first_stf2 ty ve dc sc tk le nu w
      · exact first_stf3 ty ve dc sc tk le nu w
      · exact first_stf4 ty ve dc sc tk le nu w
    · rcases hw with rfl | rfl | rfl | rfl
      · exact first_stt1 ty ve dc sc tk le nu w
      · exact first_stt2 ty ve dc sc tk le nu w
      · exact first_stt3 ty ve dc sc tk le nu w
      · exact first_stt4 ty ve dc sc tk le nu w
set_option maxHeartbeats 1000000 in
theorem sized_any (n : Int) (w : World) (ht : Tab w) (h0 : 0 ≤ n) :
    Calls Tryz.prog 122 #[.int .u64 n] w fun e w' => e = .returned (.string ⟨(ps n.toNat).toArray⟩) ∧ Below w.heap.size w w' := by
  have HT := Lib.hid ht
  clear ht
  go_enter Tryz.func122, Tryz.ntmps122
  go_wp2_with fail
  refine (vput _ _ HT.out h0).mono ?_
  rintro e w1 ⟨rfl, hb⟩
  go_wp2
  go_ret
  exact ⟨rfl, hb⟩
end Go.Proofs.YtojoalmldapboaaGreatDoor.Hd
