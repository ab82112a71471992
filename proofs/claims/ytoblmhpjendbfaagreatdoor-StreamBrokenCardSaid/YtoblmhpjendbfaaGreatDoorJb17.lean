/- The walks of layer 6: the parts of kinds · The walks of layer 6: where a frame's numbers stand, the numbers, the texts -/
import Derived.Test.YtoblmhpjendbfaaGreatDoorJb16
import Derived.Laws.BitsLemmas
import Derived.Laws.Bits64
import Derived.BigRegion
namespace Go.Proofs.YtoblmhpjendbfaaGreatDoor.Fm
set_option maxRecDepth 20000
open Go.RowKit Vm
set_option linter.unusedVariables false
set_option linter.unusedSimpArgs false

/-- The parts of a kind, a bit each; none: there is no such kind. -/
def partsN : Nat → Option Nat
  | 0 => some 0
  | 1 => some 0
  | 2 => some 2112
  | 4 => some 13
  | 5 => some 5
  | 6 => some 130
  | 8 => some 1155
  | 16 => some 8
  | 17 => some 9
  | 18 => some 8
  | 19 => some 8
  | 20 => some 8
  | 21 => some 9
  | 22 => some 8
  | 23 => some 8
  | 24 => some 816
  | 25 => some 16
  | 26 => some 512
  | 27 => some 512
  | 28 => some 196
  | 29 => some 132
  | 30 => some 0
  | _ => none
/-- What a first byte tells: the kind, the parts that it comes with, whether there is such a kind. -/
def toldK (n : Nat) : Nat := if n / 8 = 1 then 8 else n
def toldP : Nat → Nat
  | 8 => 4097
  | 9 => 5121
  | 10 => 129
  | 11 => 1153
  | 12 => 4099
  | 13 => 5123
  | 14 => 131
  | 15 => 1155
  | n => (partsN n).getD 0
def toldB (n : Nat) : Bool := decide (n / 8 = 1) || (partsN n).isSome
def pR (n : Nat) : Value := .tuple #[.int .u64 ((partsN n).getD 0 : Nat), .bool (partsN n).isSome]
set_option maxHeartbeats 1000000 in
theorem partsOf_0 (w : World) : Calls Tryz.prog 123 #[.int .u64 0] w fun e w' => e = .returned (.tuple #[.int .u64 0, .bool true]) ∧ w' = w := by
  go_enter Tryz.func123, Tryz.ntmps123
  go_wp2
  go_ret2
  exact ⟨rfl, rfl⟩
set_option maxHeartbeats 1000000 in
theorem partsOf_1 (w : World) : Calls Tryz.prog 123 #[.int .u64 1] w fun e w' => e = .returned (.tuple #[.int .u64 0, .bool true]) ∧ w' = w := by
  go_enter Tryz.func123, Tryz.ntmps123
  go_wp2
  go_ret2
  exact ⟨rfl, rfl⟩
set_option maxHeartbeats 1000000 in
theorem partsOf_2 (w : World) : Calls Tryz.prog 123 #[.int .u64 2] w fun e w' => e = .returned (.tuple #[.int .u64 2112, .bool true]) ∧ w' = w := by
  go_enter Tryz.func123, Tryz.ntmps123
  go_wp2
  go_ret2
  exact ⟨rfl, rfl⟩
set_option maxHeartbeats 1000000 in
theorem partsOf_3 (w : World) : Calls Tryz.prog 123 #[.int .u64 3] w fun e w' => e = .returned (.tuple #[.int .u64 0, .bool false]) ∧ w' = w := by
  go_enter Tryz.func123, Tryz.ntmps123
  go_wp2
  go_ret2
  exact ⟨rfl, rfl⟩
set_option maxHeartbeats 1000000 in
theorem partsOf_4 (w : World) : Calls Tryz.prog 123 #[.int .u64 4] w fun e w' => e = .returned (.tuple #[.int .u64 13, .bool true]) ∧ w' = w := by
  go_enter Tryz.func123, Tryz.ntmps123
  go_wp2
  go_ret2
  exact ⟨rfl, rfl⟩
set_option maxHeartbeats 1000000 in
theorem partsOf_5 (w : World) : Calls Tryz.prog 123 #[.int .u64 5] w fun e w' => e = .returned (.tuple #[.int .u64 5, .bool true]) ∧ w' = w := by
  go_enter Tryz.func123, Tryz.ntmps123
  go_wp2
  go_ret2
  exact ⟨rfl, rfl⟩
set_option maxHeartbeats 1000000 in
theorem partsOf_6 (w : World) : Calls Tryz.prog 123 #[.int .u64 6] w fun e w' => e = .returned (.tuple #[.int .u64 130, .bool true]) ∧ w' = w := by
  go_enter Tryz.func123, Tryz.ntmps123
  go_wp2
  go_ret2
  exact ⟨rfl, rfl⟩
set_option maxHeartbeats 1000000 in
theorem partsOf_7 (w : World) : Calls Tryz.prog 123 #[.int .u64 7] w fun e w' => e = .returned (.tuple #[.int .u64 0, .bool false]) ∧ w' = w := by
  go_enter Tryz.func123, Tryz.ntmps123
  go_wp2
  go_ret2
  exact ⟨rfl, rfl⟩
set_option maxHeartbeats 1000000 in
theorem partsOf_8 (w : World) : Calls Tryz.prog 123 #[.int .u64 8] w fun e w' => e = .returned (.tuple #[.int .u64 1155, .bool true]) ∧ w' = w := by
  go_enter Tryz.func123, Tryz.ntmps123
  go_wp2
  go_ret2
  exact ⟨rfl, rfl⟩
set_option maxHeartbeats 1000000 in
theorem partsOf_9 (w : World) : Calls Tryz.prog 123 #[.int .u64 9] w fun e w' => e = .returned (.tuple #[.int .u64 0, .bool false]) ∧ w' = w := by
  go_enter Tryz.func123, Tryz.ntmps123
  go_wp2
  go_ret2
  exact ⟨rfl, rfl⟩
set_option maxHeartbeats 1000000 in
theorem partsOf_10 (w : World) : Calls Tryz.prog 123 #[.int .u64 10] w fun e w' => e = .returned (.tuple #[.int .u64 0, .bool false]) ∧ w' = w := by
  go_enter Tryz.func123, Tryz.ntmps123
  go_wp2
  go_ret2
  exact ⟨rfl, rfl⟩
set_option maxHeartbeats 1000000 in
theorem partsOf_11 (w : World) : Calls Tryz.prog 123 #[.int .u64 11] w fun e w' => e = .returned (.tuple #[.int .u64 0, .bool false]) ∧ w' = w := by
  go_enter Tryz.func123, Tryz.ntmps123
  go_wp2
  go_ret2
  exact ⟨rfl, rfl⟩
set_option maxHeartbeats 1000000 in
theorem partsOf_12 (w : World) : Calls Tryz.prog 123 #[.int .u64 12] w fun e w' => e = .returned (.tuple #[.int .u64 0, .bool false]) ∧ w' = w := by
  go_enter Tryz.func123, Tryz.ntmps123
  go_wp2
  go_ret2
  exact ⟨rfl, rfl⟩
set_option maxHeartbeats 1000000 in
theorem partsOf_13 (w : World) : Calls Tryz.prog 123 #[.int .u64 13] w fun e w' => e = .returned (.tuple #[.int .u64 0, .bool false]) ∧ w' = w := by
  go_enter Tryz.func123, Tryz.ntmps123
  go_wp2
  go_ret2
  exact ⟨rfl, rfl⟩
set_option maxHeartbeats 1000000 in
theorem partsOf_14 (w : World) : Calls Tryz.prog 123 #[.int .u64 14] w fun e w' => e = .returned (.tuple #[.int .u64 0, .bool false]) ∧ w' = w := by
  go_enter Tryz.func123, Tryz.ntmps123
  go_wp2
  go_ret2
  exact ⟨rfl, rfl⟩
set_option maxHeartbeats 1000000 in
theorem partsOf_15 (w : World) : Calls Tryz.prog 123 #[.int .u64 15] w fun e w' => e = .returned (.tuple #[.int .u64 0, .bool false]) ∧ w' = w := by
  go_enter Tryz.func123, Tryz.ntmps123
  go_wp2
  go_ret2
  exact ⟨rfl, rfl⟩
set_option maxHeartbeats 1000000 in
theorem partsOf_16 (w : World) : Calls Tryz.prog 123 #[.int .u64 16] w fun e w' => e = .returned (.tuple #[.int .u64 8, .bool true]) ∧ w' = w := by
  go_enter Tryz.func123, Tryz.ntmps123
  go_wp2
  go_ret2
  exact ⟨rfl, rfl⟩
set_option maxHeartbeats 1000000 in
theorem partsOf_17 (w : World) : Calls Tryz.prog 123 #[.int .u64 17] w fun e w' => e = .returned (.tuple #[.int .u64 9, .bool true]) ∧ w' = w := by
  go_enter Tryz.func123, Tryz.ntmps123
  go_wp2
  go_ret2
  exact ⟨rfl, rfl⟩
set_option maxHeartbeats 1000000 in
theorem partsOf_18 (w : World) : Calls Tryz.prog 123 #[.int .u64 18] w fun e w' => e = .returned (.tuple #[.int .u64 8, .bool true]) ∧ w' = w := by
  go_enter Tryz.func123, Tryz.ntmps123
  go_wp2
  go_ret2
  exact ⟨rfl, rfl⟩
set_option maxHeartbeats 1000000 in
theorem partsOf_19 (w : World) : Calls Tryz.prog 123 #[.int .u64 19] w fun e w' => e = .returned (.tuple #[.int .u64 8, .bool true]) ∧ w' = w := by
  go_enter Tryz.func123, Tryz.ntmps123
  go_wp2
  go_ret2
  exact ⟨rfl, rfl⟩
set_option maxHeartbeats 1000000 in
theorem partsOf_20 (w : World) : Calls Tryz.prog 123 #[.int .u64 20] w fun e w' => e = .returned (.tuple #[.int .u64 8, .bool true]) ∧ w' = w := by
  go_enter Tryz.func123, Tryz.ntmps123
  go_wp2
  go_ret2
  exact ⟨rfl, rfl⟩
set_option maxHeartbeats 1000000 in
theorem partsOf_21 (w : World) : Calls Tryz.prog 123 #[.int .u64 21] w fun e w' => e = .returned (.tuple #[.int .u64 9, .bool true]) ∧ w' = w := by
  go_enter Tryz.func123, Tryz.ntmps123
  go_wp2
  go_ret2
  exact ⟨rfl, rfl⟩
set_option maxHeartbeats 1000000 in
theorem partsOf_22 (w : World) : Calls Tryz.prog 123 #[.int .u64 22] w fun e w' => e = .returned (.tuple #[.int .u64 8, .bool true]) ∧ w' = w := by
  go_enter Tryz.func123, Tryz.ntmps123
  go_wp2
  go_ret2
  exact ⟨rfl, rfl⟩
set_option maxHeartbeats 1000000 in
theorem partsOf_23 (w : World) : Calls Tryz.prog 123 #[.int .u64 23] w fun e w' => e = .returned (.tuple #[.int .u64 8, .bool true]) ∧ w' = w := by
  go_enter Tryz.func123, Tryz.ntmps123
  go_wp2
  go_ret2
  exact ⟨rfl, rfl⟩
set_option maxHeartbeats 1000000 in
theorem partsOf_24 (w : World) : Calls Tryz.prog 123 #[.int .u64 24] w fun e w' => e = .returned (.tuple #[.int .u64 816, .bool true]) ∧ w' = w := by
  go_enter Tryz.func123, Tryz.ntmps123
  go_wp2
  go_ret2
  exact ⟨rfl, rfl⟩
set_option maxHeartbeats 1000000 in
theorem partsOf_25 (w : World) : Calls Tryz.prog 123 #[.int .u64 25] w fun e w' => e = .returned (.tuple #[.int .u64 16, .bool true]) ∧ w' = w := by
  go_enter Tryz.func123, Tryz.ntmps123
  go_wp2
  go_ret2
  exact ⟨rfl, rfl⟩
set_option maxHeartbeats 1000000 in
theorem partsOf_26 (w : World) : Calls Tryz.prog 123 #[.int .u64 26] w fun e w' => e = .returned (.tuple #[.int .u64 512, .bool true]) ∧ w' = w := by
  go_enter Tryz.func123, Tryz.ntmps123
  go_wp2
  go_ret2
  exact ⟨rfl, rfl⟩
set_option maxHeartbeats 1000000 in
theorem partsOf_27 (w : World) : Calls Tryz.prog 123 #[.int .u64 27] w fun e w' => e = .returned (.tuple #[.int .u64 512, .bool true]) ∧ w' = w := by
  go_enter Tryz.func123, Tryz.ntmps123
  go_wp2
  go_ret2
  exact ⟨rfl, rfl⟩
set_option maxHeartbeats 1000000 in
theorem partsOf_28 (w : World) : Calls Tryz.prog 123 #[.int .u64 28] w fun e w' => e = .returned (.tuple #[.int .u64 196, .bool true]) ∧ w' = w := by
  go_enter Tryz.func123, Tryz.ntmps123
  go_wp2
  go_ret2
  exact ⟨rfl, rfl⟩
set_option maxHeartbeats 1000000 in
theorem partsOf_29 (w : World) : Calls Tryz.prog 123 #[.int .u64 29] w fun e w' => e = .returned (.tuple #[.int .u64 132, .bool true]) ∧ w' = w := by
  go_enter Tryz.func123, Tryz.ntmps123
  go_wp2
  go_ret2
  exact ⟨rfl, rfl⟩
set_option maxHeartbeats 1000000 in
theorem partsOf_30 (w : World) : Calls Tryz.prog 123 #[.int .u64 30] w fun e w' => e = .returned (.tuple #[.int .u64 0, .bool true]) ∧ w' = w := by
  go_enter Tryz.func123, Tryz.ntmps123
  go_wp2
  go_ret2
  exact ⟨rfl, rfl⟩
set_option maxHeartbeats 1000000 in
theorem partsOf_31 (n : Nat) (h : 31 ≤ n) (w : World) : Calls Tryz.prog 123 #[.int .u64 (n : Nat)] w fun e w' => e = .returned (.tuple #[.int .u64 0, .bool false]) ∧ w' = w := by
  have c0 : (((n : Nat) : Int) == 0) = false := beq_eq_false_iff_ne.2 (by omega)
  have c1 : (((n : Nat) : Int) == 1) = false := beq_eq_false_iff_ne.2 (by omega)
  have c2 : (((n : Nat) : Int) == 2) = false := beq_eq_false_iff_ne.2 (by omega)
  have c4 : (((n : Nat) : Int) == 4) = false := beq_eq_false_iff_ne.2 (by omega)
  have c5 : (((n : Nat) : Int) == 5) = false := beq_eq_false_iff_ne.2 (by omega)
  have c6 : (((n : Nat) : Int) == 6) = false := beq_eq_false_iff_ne.2 (by omega)
  have c8 : (((n : Nat) : Int) == 8) = false := beq_eq_false_iff_ne.2 (by omega)
  have c16 : (((n : Nat) : Int) == 16) = false := beq_eq_false_iff_ne.2 (by omega)
  have c17 : (((n : Nat) : Int) == 17) = false := beq_eq_false_iff_ne.2 (by omega)
  have c18 : (((n : Nat) : Int) == 18) = false := beq_eq_false_iff_ne.2 (by omega)
  have c19 : (((n : Nat) : Int) == 19) = false := beq_eq_false_iff_ne.2 (by omega)
  have c20 : (((n : Nat) : Int) == 20) = false := beq_eq_false_iff_ne.2 (by omega)
  have c21 : (((n : Nat) : Int) == 21) = false := beq_eq_false_iff_ne.2 (by omega)
  have c22 : (((n : Nat) : Int) == 22) = false := beq_eq_false_iff_ne.2 (by omega)
  have c23 : (((n : Nat) : Int) == 23) = false := beq_eq_false_iff_ne.2 (by omega)
  have c24 : (((n : Nat) : Int) == 24) = false := beq_eq_false_iff_ne.2 (by omega)
  have c25 : (((n : Nat) : Int) == 25) = false := beq_eq_false_iff_ne.2 (by omega)
  have c26 : (((n : Nat) : Int) == 26) = false := beq_eq_false_iff_ne.2 (by omega)
  have c27 : (((n : Nat) : Int) == 27) = false := beq_eq_false_iff_ne.2 (by omega)
  have c28 : (((n : Nat) : Int) == 28) = false := beq_eq_false_iff_ne.2 (by omega)
  have c29 : (((n : Nat) : Int) == 29) = false := beq_eq_false_iff_ne.2 (by omega)
  have c30 : (((n : Nat) : Int) == 30) = false := beq_eq_false_iff_ne.2 (by omega)
  clear h
  go_enter Tryz.func123, Tryz.ntmps123
  go_wp2
  go_ret2
  exact ⟨rfl, rfl⟩
theorem partsOf_any (n : Nat) (w : World) : Calls Tryz.prog 123 #[.int .u64 (n : Nat)] w fun e w' => e = .returned (pR n) ∧ w' = w := by
  match n with
  | 0 => exact partsOf_0 w
  | 1 => exact partsOf_1 w
  | 2 => exact partsOf_2 w
  | 3 => exact partsOf_3 w
  | 4 => exact partsOf_4 w
  | 5 => exact partsOf_5 w
  | 6 => exact partsOf_6 w
  | 7 => exact partsOf_7 w
  | 8 => exact partsOf_8 w
  | 9 => exact partsOf_9 w
  | 10 => exact partsOf_10 w
  | 11 => exact partsOf_11 w
  | 12 => exact partsOf_12 w
  | 13 => exact partsOf_13 w
  | 14 => exact partsOf_14 w
  | 15 => exact partsOf_15 w
  | 16 => exact partsOf_16 w
  | 17 => exact partsOf_17 w
  | 18 => exact partsOf_18 w
  | 19 => exact partsOf_19 w
  | 20 => exact partsOf_20 w
  | 21 => exact partsOf_21 w
  | 22 => exact partsOf_22 w
  | 23 => exact partsOf_23 w
  | 24 => exact partsOf_24 w
  | 25 => exact partsOf_25 w
  | 26 => exact partsOf_26 w
  | 27 => exact partsOf_27 w
  | 28 => exact partsOf_28 w
  | 29 => exact partsOf_29 w
  | 30 => exact partsOf_30 w
  | k + 31 => exact partsOf_31 (k + 31) (by omega) w
set_option maxHeartbeats 1000000 in
theorem told_8 (w : World) : Calls Tryz.prog 127 #[.int .u64 8] w fun e w' => e = .returned (.tuple #[.int .u64 8, .int .u64 4097, .bool true]) ∧ w' = w := by
  have e0 : bits .andNot .u64 8 7 = 8 := by decide
  have e1 : bits .and .u64 8 1 = 0 := by decide
  have e2 : bits .and .u64 8 2 = 0 := by decide
  have e3 : bits .and .u64 8 4 = 0 := by decide
  have e4 : bits .andNot .u64 1155 1024 = 131 := by decide
  have e5 : bits .andNot .u64 131 128 = 3 := by decide
  have e6 : bits .or .u64 3 4096 = 4099 := by decide
  have e7 : bits .andNot .u64 4099 2 = 4097 := by decide
  go_enter Tryz.func127, Tryz.ntmps127
  go_wp2_with fail
  refine (partsOf_8 _).mono ?_
  rintro e w1 ⟨rfl, rfl⟩
  go_wp2
  go_ret3
  exact ⟨rfl, rfl⟩
set_option maxHeartbeats 1000000 in
theorem told_9 (w : World) : Calls Tryz.prog 127 #[.int .u64 9] w fun e w' => e = .returned (.tuple #[.int .u64 8, .int .u64 5121, .bool true]) ∧ w' = w := by
  have e0 : bits .andNot .u64 9 7 = 8 := by decide
  have e1 : bits .and .u64 9 1 = 1 := by decide
  have e2 : bits .and .u64 9 2 = 0 := by decide
  have e3 : bits .and .u64 9 4 = 0 := by decide
  have e5 : bits .andNot .u64 1155 128 = 1027 := by decide
  have e6 : bits .or .u64 1027 4096 = 5123 := by decide
  have e7 : bits .andNot .u64 5123 2 = 5121 := by decide
  go_enter Tryz.func127, Tryz.ntmps127
  go_wp2_with fail
  refine (partsOf_8 _).mono ?_
  rintro e w1 ⟨rfl, rfl⟩
  go_wp2
  go_ret3
  exact ⟨rfl, rfl⟩
set_option maxHeartbeats 1000000 in
theorem told_10 (w : World) : Calls Tryz.prog 127 #[.int .u64 10] w fun e w' => e = .returned (.tuple #[.int .u64 8, .int .u64 129, .bool true]) ∧ w' = w := by
  have e0 : bits .andNot .u64 10 7 = 8 := by decide
  have e1 : bits .and .u64 10 1 = 0 := by decide
  have e2 : bits .and .u64 10 2 = 2 := by decide
  have e3 : bits .and .u64 10 4 = 0 := by decide
  have e4 : bits .andNot .u64 1155 1024 = 131 := by decide
  have e7 : bits .andNot .u64 131 2 = 129 := by decide
  go_enter Tryz.func127, Tryz.ntmps127
  go_wp2_with fail
  refine (partsOf_8 _).mono ?_
  rintro e w1 ⟨rfl, rfl⟩
  go_wp2
  go_ret3
  exact ⟨rfl, rfl⟩
set_option maxHeartbeats 1000000 in
theorem told_11 (w : World) : Calls Tryz.prog 127 #[.int .u64 11] w fun e w' => e = .returned (.tuple #[.int .u64 8, .int .u64 1153, .bool true]) ∧ w' = w := by
  have e0 : bits .andNot .u64 11 7 = 8 := by decide
  have e1 : bits .and .u64 11 1 = 1 := by decide
  have e2 : bits .and .u64 11 2 = 2 := by decide
  have e3 : bits .and .u64 11 4 = 0 := by decide
  have e7 : bits .andNot .u64 1155 2 = 1153 := by decide
  go_enter Tryz.func127, Tryz.ntmps127
  go_wp2_with fail
  refine (partsOf_8 _).mono ?_
  rintro e w1 ⟨rfl, rfl⟩
  go_wp2
  go_ret3
  exact ⟨rfl, rfl⟩
set_option maxHeartbeats 1000000 in
theorem told_12 (w : World) : Calls Tryz.prog 127 #[.int .u64 12] w fun e w' => e = .returned (.tuple #[.int .u64 8, .int .u64 4099, .bool true]) ∧ w' = w := by
  have e0 : bits .andNot .u64 12 7 = 8 := by decide
  have e1 : bits .and .u64 12 1 = 0 := by decide
  have e2 : bits .and .u64 12 2 = 0 := by decide
  have e3 : bits .and .u64 12 4 = 4 := by decide
  have e4 : bits .andNot .u64 1155 1024 = 131 := by decide
  have e5 : bits .andNot .u64 131 128 = 3 := by decide
  have e6 : bits .or .u64 3 4096 = 4099 := by decide
  go_enter Tryz.func127, Tryz.ntmps127
  go_wp2_with fail
  refine (partsOf_8 _).mono ?_
  rintro e w1 ⟨rfl, rfl⟩
  go_wp2
  go_ret3
  exact ⟨rfl, rfl⟩
set_option maxHeartbeats 1000000 in
theorem told_13 (w : World) : Calls Tryz.prog 127 #[.int .u64 13] w fun e w' => e = .returned (.tuple #[.int .u64 8, .int .u64 5123, .bool true]) ∧ w' = w := by
  have e0 : bits .andNot .u64 13 7 = 8 := by decide
  have e1 : bits .and .u64 13 1 = 1 := by decide
  have e2 : bits .and .u64 13 2 = 0 := by decide
  have e3 : bits .and .u64 13 4 = 4 := by decide
  have e5 : bits .andNot .u64 1155 128 = 1027 := by decide
  have e6 : bits .or .u64 1027 4096 = 5123 := by decide
  go_enter Tryz.func127, Tryz.ntmps127
  go_wp2_with fail
  refine (partsOf_8 _).mono ?_
  rintro e w1 ⟨rfl, rfl⟩
  go_wp2
  go_ret3
  exact ⟨rfl, rfl⟩
set_option maxHeartbeats 1000000 in
theorem told_14 (w : World) : Calls Tryz.prog 127 #[.int .u64 14] w fun e w' => e = .returned (.tuple #[.int .u64 8, .int .u64 131, .bool true]) ∧ w' = w := by
  have e0 : bits .andNot .u64 14 7 = 8 := by decide
  have e1 : bits .and .u64 14 1 = 0 := by decide
  have e2 : bits .and .u64 14 2 = 2 := by decide
  have e3 : bits .and .u64 14 4 = 4 := by decide
  have e4 : bits .andNot .u64 1155 1024 = 131 := by decide
  go_enter Tryz.func127, Tryz.ntmps127
  go_wp2_with fail
  refine (partsOf_8 _).mono ?_
  rintro e w1 ⟨rfl, rfl⟩
  go_wp2
  go_ret3
  exact ⟨rfl, rfl⟩
set_option maxHeartbeats 1000000 in
theorem told_15 (w : World) : Calls Tryz.prog 127 #[.int .u64 15] w fun e w' => e = .returned (.tuple #[.int .u64 8, .int .u64 1155, .bool true]) ∧ w' = w := by
  have e0 : bits .andNot .u64 15 7 = 8 := by decide
  have e1 : bits .and .u64 15 1 = 1 := by decide
  have e2 : bits .and .u64 15 2 = 2 := by decide
  have e3 : bits .and .u64 15 4 = 4 := by decide
  go_enter Tryz.func127, Tryz.ntmps127
  go_wp2_with fail
  refine (partsOf_8 _).mono ?_
  rintro e w1 ⟨rfl, rfl⟩
  go_wp2
  go_ret3
  exact ⟨rfl, rfl⟩
theorem not8 : ∀ n : Fin 256, n.val / 8 ≠ 1 → (bits .andNot .u64 (n.val : Nat) 7 != 8) = true := by decide
set_option maxHeartbeats 1000000 in
theorem told_not (n : Nat) (hn : n < 256) (h : n / 8 ≠ 1) (w : World) : Calls Tryz.prog 127 #[.int .u64 (n : Nat)] w fun e w' => e = .returned (.tuple #[.int .u64 (n : Nat), .int .u64 ((partsN n).getD 0 : Nat), .bool (partsN n).isSome]) ∧ w' = w := by
  have e0 := not8 ⟨n, hn⟩ h
  simp only at e0
  have CP := Lib.hid (partsOf_any n)
  unfold pR at CP
  generalize (partsN n).getD 0 = p at *
  generalize (partsN n).isSome = b at *
  generalize hx : bits .andNot .u64 ((n : Nat) : Int) 7 = x at e0
  clear hn h
  go_enter Tryz.func127, Tryz.ntmps127
  go_wp2_with fail
  refine (CP.out _).mono ?_
  rintro e w1 ⟨rfl, rfl⟩
  go_wp2
  go_ret3
  exact ⟨rfl, rfl⟩
theorem told_any (n : Nat) (hn : n < 256) (w : World) : Calls Tryz.prog 127 #[.int .u64 (n : Nat)] w fun e w' => e = .returned (.tuple #[.int .u64 (toldK n : Nat), .int .u64 (toldP n : Nat), .bool (toldB n)]) ∧ w' = w := by
  by_cases h : n / 8 = 1
  · have : n = 8 ∨ n = 9 ∨ n = 10 ∨ n = 11 ∨ n = 12 ∨ n = 13 ∨ n = 14 ∨ n = 15 := by omega
    rcases this with rfl | rfl | rfl | rfl | rfl | rfl | rfl | rfl
    · exact told_8 w
    · exact told_9 w
    · exact told_10 w
    · exact told_11 w
    · exact told_12 w
    · exact told_13 w
    · exact told_14 w
    · exact told_15 w
  · have e1 : toldK n = n := if_neg h
    have e2 : toldP n = (partsN n).getD 0 := by
      unfold toldP
      split <;> first | (exfalso; omega) | rfl
    have e3 : toldB n = (partsN n).isSome := by unfold toldB; rw [decide_eq_false h]; rfl
    rw [e1, e2, e3]
    exact told_not n hn h w
theorem and_u64 (p q : Nat) (hp : p < 8192) (hq : q < 8192) : bits .and .u64 (p : Nat) (q : Nat) = ((p &&& q : Nat) : Int) :=
  (bits_nat .u64 13 (by decide) (fun n h0 h1 => by rw [IntKind.wrap_u64]; omega) p q hp hq).1
theorem and_pow (p i : Nat) : p &&& 2 ^ i = if p.testBit i = true then 2 ^ i else 0 := by
  apply Nat.eq_of_testBit_eq
  intro j
  rw [Nat.testBit_and, Nat.testBit_two_pow]
  by_cases h : i = j
  · subst h
    cases hb : p.testBit i with
    | true => simp [Nat.testBit_two_pow]
    | false => simp
  · have e : decide (i = j) = false := decide_eq_false h
    rw [e, Bool.and_false]
    split
    · rw [Nat.testBit_two_pow, e]
    · simp
theorem bit_ne (p i : Nat) : (((p &&& 2 ^ i : Nat) : Int) != 0) = p.testBit i := by
  rw [and_pow]
  have hp : (2 : Nat) ^ i ≠ 0 := Nat.pos_iff_ne_zero.1 (Nat.pow_pos (by decide))
  cases p.testBit i with
  | true => rw [if_pos rfl, bne_iff_ne]; omega
  | false => rfl
set_option maxHeartbeats 1000000 in
theorem bit_0 (p : Nat) (hp : p < 8192) (w : World) : Calls Tryz.prog 160 #[.int .u64 (p : Nat), .int .i64 0] w fun e w' => e = .returned (.bool (p.testBit 0)) ∧ w' = w := by
  have e1 : bits .and .u64 ((p : Nat) : Int) 1 = ((p &&& 2 ^ 0 : Nat) : Int) := and_u64 p 1 hp (by decide)
  have e2 := bit_ne p 0
  generalize p.testBit 0 = b at *
  generalize (p &&& 2 ^ 0) = q at *
  go_enter Tryz.func160, Tryz.ntmps160
  go_wp2
  go_ret
  exact ⟨rfl, rfl⟩
set_option maxHeartbeats 1000000 in
theorem bit_1 (p : Nat) (hp : p < 8192) (w : World) : Calls Tryz.prog 160 #[.int .u64 (p : Nat), .int .i64 1] w fun e w' => e = .returned (.bool (p.testBit 1)) ∧ w' = w := by
  have e1 : bits .and .u64 ((p : Nat) : Int) 2 = ((p &&& 2 ^ 1 : Nat) : Int) := and_u64 p 2 hp (by decide)
  have e2 := bit_ne p 1
  generalize p.testBit 1 = b at *
  generalize (p &&& 2 ^ 1) = q at *
  go_enter Tryz.func160, Tryz.ntmps160
  go_wp2
  go_ret
  exact ⟨rfl, rfl⟩
set_option maxHeartbeats 1000000 in
theorem bit_2 (p : Nat) (hp : p < 8192) (w : World) : Calls Tryz.prog 160 #[.int .u64 (p : Nat), .int .i64 2] w fun e w' => e = .returned (.bool (p.testBit 2)) ∧ w' = w := by
  have e1 : bits .and .u64 ((p : Nat) : Int) 4 = ((p &&& 2 ^ 2 : Nat) : Int) := and_u64 p 4 hp (by decide)
  have e2 := bit_ne p 2
  generalize p.testBit 2 = b at *
  generalize (p &&& 2 ^ 2) = q at *
  go_enter Tryz.func160, Tryz.ntmps160
  go_wp2
  go_ret
  exact ⟨rfl, rfl⟩
set_option maxHeartbeats 1000000 in
theorem bit_3 (p : Nat) (hp : p < 8192) (w : World) : Calls Tryz.prog 160 #[.int .u64 (p : Nat), .int .i64 3] w fun e w' => e = .returned (.bool (p.testBit 3)) ∧ w' = w := by
  have e1 : bits .and .u64 ((p : Nat) : Int) 8 = ((p &&& 2 ^ 3 : Nat) : Int) := and_u64 p 8 hp (by decide)
  have e2 := bit_ne p 3
  generalize p.testBit 3 = b at *
  generalize (p &&& 2 ^ 3) = q at *
  go_enter Tryz.func160, Tryz.ntmps160
  go_wp2
  go_ret
  exact ⟨rfl, rfl⟩
set_option maxHeartbeats 1000000 in
theorem bit_4 (p : Nat) (hp : p < 8192) (w : World) : Calls Tryz.prog 160 #[.int .u64 (p : Nat), .int .i64 4] w fun e w' => e = .returned (.bool (p.testBit 4)) ∧ w' = w := by
  have e1 : bits .and .u64 ((p : Nat) : Int) 16 = ((p &&& 2 ^ 4 : Nat) : Int) := and_u64 p 16 hp (by decide)
  have e2 := bit_ne p 4
  generalize p.testBit 4 = b at *
  generalize (p &&& 2 ^ 4) = q at *
  go_enter Tryz.func160, Tryz.ntmps160
  go_wp2
  go_ret
  exact ⟨rfl, rfl⟩
set_option maxHeartbeats 1000000 in
theorem bit_5 (p : Nat) (hp : p < 8192) (w : World) : Calls Tryz.prog 160 #[.int .u64 (p : Nat), .int .i64 5] w fun e w' => e = .returned (.bool (p.testBit 5)) ∧ w' = w := by
  have e1 : bits .and .u64 ((p : Nat) : Int) 32 = ((p &&& 2 ^ 5 : Nat) : Int) := and_u64 p 32 hp (by decide)
  have e2 := bit_ne p 5
  generalize p.testBit 5 = b at *
  generalize (p &&& 2 ^ 5) = q at *
  go_enter Tryz.func160, Tryz.ntmps160
  go_wp2
  go_ret
  exact ⟨rfl, rfl⟩
set_option maxHeartbeats 1000000 in
theorem bit_6 (p : Nat) (hp : p < 8192) (w : World) : Calls Tryz.prog 160 #[.int .u64 (p : Nat), .int .i64 6] w fun e w' => e = .returned (.bool (p.testBit 6)) ∧ w' = w := by
  have e1 : bits .and .u64 ((p : Nat) : Int) 64 = ((p &&& 2 ^ 6 : Nat) : Int) := and_u64 p 64 hp (by decide)
  have e2 := bit_ne p 6
  generalize p.testBit 6 = b at *
  generalize (p &&& 2 ^ 6) = q at *
  go_enter Tryz.func160, Tryz.ntmps160
  go_wp2
  go_ret
  exact ⟨rfl, rfl⟩
set_option maxHeartbeats 1000000 in
theorem tokenLen_id (w : World) : Calls Tryz.prog 158 #[.int .u64 24] w fun e w' => e = .returned (.int .i64 16) ∧ w' = w := by
  go_enter Tryz.func158, Tryz.ntmps158
  go_wp2
  go_ret
  exact ⟨rfl, rfl⟩
set_option maxHeartbeats 1000000 in
theorem tokenLen_path (n : Int) (h : (n == 24) = false) (w : World) : Calls Tryz.prog 158 #[.int .u64 n] w fun e w' => e = .returned (.int .i64 8) ∧ w' = w := by
  go_enter Tryz.func158, Tryz.ntmps158
  go_wp2
  go_ret
  exact ⟨rfl, rfl⟩
end Go.Proofs.YtoblmhpjendbfaaGreatDoor.Fm
namespace Go.Proofs.YtoblmhpjendbfaaGreatDoor.Fm
set_option maxRecDepth 20000
open Go.RowKit Vm
set_option linter.unusedVariables false
set_option linter.unusedSimpArgs false

/-- An array by value, at an index that fits: its cell. -/
theorem run_index_ptr7 (cs : Array Value) (i : Nat) (v : Value) (w : World) (hn : i < 7) (hv : cs[i]? = some v) : (Instr.index 199 (.agg cs) (.int .i64 (i : Nat))).run Tryz.prog w = .ok v w := by
  have h : ((i : Nat) : Int) < 7 := by omega
  have hsz : (Tryz.prog.info? 198).isSome = true := by kernel_rfl
  obtain ⟨inf, hinf⟩ := Option.isSome_iff_exists.1 hsz
  have hc : Tryz.prog.cellsOf 198 = 1 := by kernel_rfl
  simp [Instr.index, run_underlying Tryz.underlying199, asIntOf, h, run_sizeOf (w := w) hinf, hc, part, isAgg, run_underlying Tryz.underlying198, hv, go_sem]
  intro h2
  omega
theorem run_index_num7 (cs : Array Value) (i : Nat) (v : Value) (w : World) (hn : i < 7) (hv : cs[i]? = some v) : (Instr.index 148 (.agg cs) (.int .i64 (i : Nat))).run Tryz.prog w = .ok v w := by
  have h : ((i : Nat) : Int) < 7 := by omega
  have hsz : (Tryz.prog.info? 23).isSome = true := by kernel_rfl
  obtain ⟨inf, hinf⟩ := Option.isSome_iff_exists.1 hsz
  have hc : Tryz.prog.cellsOf 23 = 1 := by kernel_rfl
  simp [Instr.index, run_underlying Tryz.underlying148, asIntOf, h, run_sizeOf (w := w) hinf, hc, part, isAgg, run_underlying Tryz.underlying23, hv, go_sem]
  intro h2
  omega
set_option maxHeartbeats 4000000 in
theorem places_0 (b : Nat) (w : World) (hb : b < w.heap.size) : Calls Tryz.prog 133 #[.pointer (some ⟨b, 0, none⟩)] w fun e w' => e = .returned (.agg #[.pointer (some ⟨b, 1, none⟩), .pointer (some ⟨b, 2, none⟩), .pointer (some ⟨b, 4, none⟩), .pointer (some ⟨b, 3, none⟩), .pointer (some ⟨b, 5, none⟩), .pointer (some ⟨b, 6, none⟩), .pointer (some ⟨b, 7, none⟩)]) ∧ Below w.heap.size w w' := by
  go_enter Tryz.func133, Tryz.ntmps133
  go_wp2
  go_region
  go_wp2
  refine bodyPost_ret (v := .agg #[.pointer (some ⟨b, 1, none⟩), .pointer (some ⟨b, 2, none⟩), .pointer (some ⟨b, 4, none⟩), .pointer (some ⟨b, 3, none⟩), .pointer (some ⟨b, 5, none⟩), .pointer (some ⟨b, 6, none⟩), .pointer (some ⟨b, 7, none⟩)]) (by simp [results, Tryz.results133, go_sem, *]) rfl ⟨rfl, ?_⟩
  exact (Below.refl _ _).trans (((Below.refl _ _).alloc (Nat.le_refl _) _).trans ((Below.refl _ _).trans ⟨rfl, rfl, rfl, Nat.le_refl _, fun _ _ => rfl⟩))
/-- The numbers that are told so far. -/
def numA (f : Frm) (i : Nat) : Array Value := #[.int .u64 (if 0 < i then f.id else 0), .int .u64 (if 1 < i then f.off else 0), .int .u64 (if 2 < i then f.code else 0), .int .u64 (if 3 < i then f.max else 0), .int .u64 (if 4 < i then f.seq else 0), .int .u64 (if 5 < i then f.prior else 0), .int .u64 (if 6 < i then f.delay else 0)]
/-- A frame, as a value. -/
def fv (f : Frm) : Value := .agg #[.int .u64 f.kind, .int .u64 f.id, .int .u64 f.off, .int .u64 f.max, .int .u64 f.code, .int .u64 f.seq, .int .u64 f.prior, .int .u64 f.delay, .bool f.fin, .string ⟨f.data.toArray⟩, .string ⟨f.cid.toArray⟩, .string ⟨f.token.toArray⟩, .slice f.set.a f.set.n f.set.c]
set_option maxHeartbeats 8000000 in
theorem numbers_any (f : Frm) (w : World) : Calls Tryz.prog 88 #[.agg #[.int .u64 f.kind, .int .u64 f.id, .int .u64 f.off, .int .u64 f.max, .int .u64 f.code, .int .u64 f.seq, .int .u64 f.prior, .int .u64 f.delay, .bool f.fin, .string ⟨f.data.toArray⟩, .string ⟨f.cid.toArray⟩, .string ⟨f.token.toArray⟩, .slice f.set.a f.set.n f.set.c]] w fun e w' => e = .returned (.agg #[.int .u64 f.id, .int .u64 f.off, .int .u64 f.code, .int .u64 f.max, .int .u64 f.seq, .int .u64 f.prior, .int .u64 f.delay]) ∧ Below w.heap.size w w' := by
  have hI0 := fun (u : World) => run_index_ptr7 #[.pointer (some ⟨w.heap.size, 1, none⟩), .pointer (some ⟨w.heap.size, 2, none⟩), .pointer (some ⟨w.heap.size, 4, none⟩), .pointer (some ⟨w.heap.size, 3, none⟩), .pointer (some ⟨w.heap.size, 5, none⟩), .pointer (some ⟨w.heap.size, 6, none⟩), .pointer (some ⟨w.heap.size, 7, none⟩)] 0 (.pointer (some ⟨w.heap.size, 1, none⟩)) u (by decide) rfl
  have hI1 := fun (u : World) => run_index_ptr7 #[.pointer (some ⟨w.heap.size, 1, none⟩), .pointer (some ⟨w.heap.size, 2, none⟩), .pointer (some ⟨w.heap.size, 4, none⟩), .pointer (some ⟨w.heap.size, 3, none⟩), .pointer (some ⟨w.heap.size, 5, none⟩), .pointer (some ⟨w.heap.size, 6, none⟩), .pointer (some ⟨w.heap.size, 7, none⟩)] 1 (.pointer (some ⟨w.heap.size, 2, none⟩)) u (by decide) rfl
  have hI2 := fun (u : World) => run_index_ptr7 #[.pointer (some ⟨w.heap.size, 1, none⟩), .pointer (some ⟨w.heap.size, 2, none⟩), .pointer (some ⟨w.heap.size, 4, none⟩), .pointer (some ⟨w.heap.size, 3, none⟩), .pointer (some ⟨w.heap.size, 5, none⟩), .pointer (some ⟨w.heap.size, 6, none⟩), .pointer (some ⟨w.heap.size, 7, none⟩)] 2 (.pointer (some ⟨w.heap.size, 4, none⟩)) u (by decide) rfl
  have hI3 := fun (u : World) => run_index_ptr7 #[.pointer (some ⟨w.heap.size, 1, none⟩), .pointer (some ⟨w.heap.size, 2, none⟩), .pointer (some ⟨w.heap.size, 4, none⟩), .pointer (some ⟨w.heap.size, 3, none⟩), .pointer (some ⟨w.heap.size, 5, none⟩), .pointer (some ⟨w.heap.size, 6, none⟩), .pointer (some ⟨w.heap.size, 7, none⟩)] 3 (.pointer (some ⟨w.heap.size, 3, none⟩)) u (by decide) rfl
  have hI4 := fun (u : World) => run_index_ptr7 #[.pointer (some ⟨w.heap.size, 1, none⟩), .pointer (some ⟨w.heap.size, 2, none⟩), .pointer (some ⟨w.heap.size, 4, none⟩), .pointer (some ⟨w.heap.size, 3, none⟩), .pointer (some ⟨w.heap.size, 5, none⟩), .pointer (some ⟨w.heap.size, 6, none⟩), .pointer (some ⟨w.heap.size, 7, none⟩)] 4 (.pointer (some ⟨w.heap.size, 5, none⟩)) u (by decide) rfl
  have hI5 := fun (u : World) => run_index_ptr7 #[.pointer (some ⟨w.heap.size, 1, none⟩), .pointer (some ⟨w.heap.size, 2, none⟩), .pointer (some ⟨w.heap.size, 4, none⟩), .pointer (some ⟨w.heap.size, 3, none⟩), .pointer (some ⟨w.heap.size, 5, none⟩), .pointer (some ⟨w.heap.size, 6, none⟩), .pointer (some ⟨w.heap.size, 7, none⟩)] 5 (.pointer (some ⟨w.heap.size, 6, none⟩)) u (by decide) rfl
  have hI6 := fun (u : World) => run_index_ptr7 #[.pointer (some ⟨w.heap.size, 1, none⟩), .pointer (some ⟨w.heap.size, 2, none⟩), .pointer (some ⟨w.heap.size, 4, none⟩), .pointer (some ⟨w.heap.size, 3, none⟩), .pointer (some ⟨w.heap.size, 5, none⟩), .pointer (some ⟨w.heap.size, 6, none⟩), .pointer (some ⟨w.heap.size, 7, none⟩)] 6 (.pointer (some ⟨w.heap.size, 7, none⟩)) u (by decide) rfl
  go_enter Tryz.func88, Tryz.ntmps88
  go_wp2_with fail
  refine (places_0 _ _ (by simp; omega)).mono ?_
  rintro e w1 ⟨rfl, hb⟩
  have hl := hb.size
  simp at hl
  have hN : w1.heap[w.heap.size]? = some (.cells #[.int .u64 f.kind, .int .u64 f.id, .int .u64 f.off, .int .u64 f.max, .int .u64 f.code, .int .u64 f.seq, .int .u64 f.prior, .int .u64 f.delay, .bool f.fin, .string ⟨f.data.toArray⟩, .string ⟨f.cid.toArray⟩, .string ⟨f.token.toArray⟩, .slice f.set.a f.set.n f.set.c] 48 (0, 0)) := (hb.block _ (by simp; omega)).trans (by
    rw [Below.heap_alloc _ _ _ (by simp; omega), Below.heap_alloc _ _ _ (by simp)]
    exact World.alloc_heap_new w _)
  have hR : w1.heap[w.heap.size + 1]? = some (.cells #[.int .u64 0, .int .u64 0, .int .u64 0, .int .u64 0, .int .u64 0, .int .u64 0, .int .u64 0] 148 (0, 0)) := (hb.block _ (by simp)).trans (by
    rw [Below.heap_alloc _ _ _ (by simp)]
    have := World.alloc_heap_new (w.alloc (.cells #[.int .u64 f.kind, .int .u64 f.id, .int .u64 f.off, .int .u64 f.max, .int .u64 f.code, .int .u64 f.seq, .int .u64 f.prior, .int .u64 f.delay, .bool f.fin, .string ⟨f.data.toArray⟩, .string ⟨f.cid.toArray⟩, .string ⟨f.token.toArray⟩, .slice f.set.a f.set.n f.set.c] 48)) (.cells #[.int .u64 0, .int .u64 0, .int .u64 0, .int .u64 0, .int .u64 0, .int .u64 0, .int .u64 0] 148)
    rwa [World.size_alloc] at this)
  have hL : w1.heap[w.heap.size + 1 + 1]? = some (.cells (numA f 0) 148 (0, 0)) := (hb.block _ (by simp)).trans (by
    have := World.alloc_heap_new ((w.alloc (.cells #[.int .u64 f.kind, .int .u64 f.id, .int .u64 f.off, .int .u64 f.max, .int .u64 f.code, .int .u64 f.seq, .int .u64 f.prior, .int .u64 f.delay, .bool f.fin, .string ⟨f.data.toArray⟩, .string ⟨f.cid.toArray⟩, .string ⟨f.token.toArray⟩, .slice f.set.a f.set.n f.set.c] 48)).alloc (.cells #[.int .u64 0, .int .u64 0, .int .u64 0, .int .u64 0, .int .u64 0, .int .u64 0, .int .u64 0] 148)) (.cells #[.int .u64 0, .int .u64 0, .int .u64 0, .int .u64 0, .int .u64 0, .int .u64 0, .int .u64 0] 148)
    rw [World.size_alloc, World.size_alloc] at this
    exact this)
  have HB1 := Lib.hid ((((Below.refl w.heap.size w).alloc (Nat.le_refl _) _).alloc (by simp) _ |>.alloc (by simp; omega) _).trans (hb.mono (by simp; omega)))
  have HN := Lib.hid hN
  have HR := Lib.hid hR
  have HL := Lib.hid hL
  clear hb hN hR hL hl
  go_wp2
  go_loopw [7] (fun iv wr => ∃ i : Nat, i ≤ 7 ∧ iv = .int .i64 (i : Nat) ∧ wr.heap[w.heap.size]? = some (.cells #[.int .u64 f.kind, .int .u64 f.id, .int .u64 f.off, .int .u64 f.max, .int .u64 f.code, .int .u64 f.seq, .int .u64 f.prior, .int .u64 f.delay, .bool f.fin, .string ⟨f.data.toArray⟩, .string ⟨f.cid.toArray⟩, .string ⟨f.token.toArray⟩, .slice f.set.a f.set.n f.set.c] 48 (0, 0)) ∧ wr.heap[w.heap.size + 1]? = some (.cells #[.int .u64 0, .int .u64 0, .int .u64 0, .int .u64 0, .int .u64 0, .int .u64 0, .int .u64 0] 148 (0, 0)) ∧ wr.heap[w.heap.size + 1 + 1]? = some (.cells (numA f i) 148 (0, 0)) ∧ Below w.heap.size w wr) (fun iv _ => 7 - (intOf iv).toNat)
  case atStart => exact ⟨0, by decide, rfl, HN.out, HR.out, HL.out, HB1.out⟩
  case round =>
    obtain ⟨i, hi, rfl, hN, hR, hL, hb⟩ := hrel
    have HN := Lib.hid hN
    have HR := Lib.hid hR
    have HL := Lib.hid hL
    have HB := Lib.hid hb
    clear hN hR hL hb
    match i, hi with
    | 0, _ =>
      have c : wr.cell? ⟨w.heap.size, 1, none⟩ = some (.int .u64 f.id) := Lib.cell_of_heap HN.out 1
      have d : wr.cell? ⟨w.heap.size + 1 + 1, 0, none⟩ = some (.int .u64 0) := Lib.cell_of_heap HL.out 0
      have g : wr.frozen? ⟨w.heap.size + 1 + 1, 0, none⟩ = false := Lib.frozen_of_heap HL.out 0
      go_wp2_with fail
      erw [hI0]
      go_wp2
      go_roundw
      case rel =>
        refine ⟨1, by decide, rfl, ?_, ?_, Joins.block_setCell (i := 0) HL.out _, ?_⟩
        · exact (Below.heap_setCell _ _ _ _ (by simp only; omega)).trans HN.out
        · exact (Below.heap_setCell _ _ _ _ (by simp only; omega)).trans HR.out
        · exact HB.out.setCell (p := ⟨w.heap.size + 1 + 1, 0, none⟩) (by simp only; omega) _
      case measure => simp [intOf]
    | 1, _ =>
      have c : wr.cell? ⟨w.heap.size, 2, none⟩ = some (.int .u64 f.off) := Lib.cell_of_heap HN.out 2
      have d : wr.cell? ⟨w.heap.size + 1 + 1, 1, none⟩ = some (.int .u64 0) := Lib.cell_of_heap HL.out 1
      have g : wr.frozen? ⟨w.heap.size + 1 + 1, 1, none⟩ = false := Lib.frozen_of_heap HL.out 1
      go_wp2_with fail
      erw [hI1]
      go_wp2
      go_roundw
      case rel =>
        refine ⟨2, by decide, rfl, ?_, ?_, Joins.block_setCell (i := 1) HL.out _, ?_⟩
        · exact (Below.heap_setCell _ _ _ _ (by simp only; omega)).trans HN.out
        · exact (Below.heap_setCell _ _ _ _ (by simp only; omega)).trans HR.out
        · exact HB.out.setCell (p := ⟨w.heap.size + 1 + 1, 1, none⟩) (by simp only; omega) _
      case measure => simp [intOf]
    | 2, _ =>
      have c : wr.cell? ⟨w.heap.size, 4, none⟩ = some (.int .u64 f.code) := Lib.cell_of_heap HN.out 4
      have d : wr.cell? ⟨w.heap.size + 1 + 1, 2, none⟩ = some (.int .u64 0) := Lib.cell_of_heap HL.out 2
      have g : wr.frozen? ⟨w.heap.size + 1 + 1, 2, none⟩ = false := Lib.frozen_of_heap HL.out 2
      go_wp2_with fail
      erw [hI2]
      go_wp2
      go_roundw
      case rel =>
        refine ⟨3, by decide, rfl, ?_, ?_, Joins.block_setCell (i := 2) HL.out _, ?_⟩
        · exact (Below.heap_setCell _ _ _ _ (by simp only; omega)).trans HN.out
        · exact (Below.heap_setCell _ _ _ _ (by simp only; omega)).trans HR.out
        · exact HB.out.setCell (p := ⟨w.heap.size + 1 + 1, 2, none⟩) (by simp only; omega) _
      case measure => simp [intOf]
    | 3, _ =>
      have c : wr.cell? ⟨w.heap.size, 3, none⟩ = some (.int .u64 f.max) := Lib.cell_of_heap HN.out 3
      have d : wr.cell? ⟨w.heap.size + 1 + 1, 3, none⟩ = some (.int .u64 0) := Lib.cell_of_heap HL.out 3
      have g : wr.frozen? ⟨w.heap.size + 1 + 1, 3, none⟩ = false := Lib.frozen_of_heap HL.out 3
      go_wp2_with fail
      erw [hI3]
      go_wp2
      go_roundw
      case rel =>
        refine ⟨4, by decide, rfl, ?_, ?_, Joins.block_setCell (i := 3) HL.out _, ?_⟩
        · exact (Below.heap_setCell _ _ _ _ (by simp only; omega)).trans HN.out
        · exact (Below.heap_setCell _ _ _ _ (by simp only; omega)).trans HR.out
        · exact HB.out.setCell (p := ⟨w.heap.size + 1 + 1, 3, none⟩) (by simp only; omega) _
      case measure => simp [intOf]
    | 4, _ =>
      have c : wr.cell? ⟨w.heap.size, 5, none⟩ = some (.int .u64 f.seq) := Lib.cell_of_heap HN.out 5
      have d : wr.cell? ⟨w.heap.size + 1 + 1, 4, none⟩ = some (.int .u64 0) := Lib.cell_of_heap HL.out 4
      have g : wr.frozen? ⟨w.heap.size + 1 + 1, 4, none⟩ = false := Lib.frozen_of_heap HL.out 4
      go_wp2_with fail
      erw [hI4]
      go_wp2
      go_roundw
      case rel =>
        refine ⟨5, by decide, rfl, ?_, ?_, Joins.block_setCell (i := 4) HL.out _, ?_⟩
        · exact (Below.heap_setCell _ _ _ _ (by simp only; omega)).trans HN.out
        · exact (Below.heap_setCell _ _ _ _ (by simp only; omega)).trans HR.out
        · exact HB.out.setCell (p := ⟨w.heap.size + 1 + 1, 4, none⟩) (by simp only; omega) _
      case measure => simp [intOf]
    | 5, _ =>
      have c : wr.cell? ⟨w.heap.size, 6, none⟩ = some (.int .u64 f.prior) := Lib.cell_of_heap HN.out 6
      have d : wr.cell? ⟨w.heap.size + 1 + 1, 5, none⟩ = some (.int .u64 0) := Lib.cell_of_heap HL.out 5
      have g : wr.frozen? ⟨w.heap.size + 1 + 1, 5, none⟩ = false := Lib.frozen_of_heap HL.out 5
      go_wp2_with fail
      erw [hI5]
      go_wp2
      go_roundw
      case rel =>
        refine ⟨6, by decide, rfl, ?_, ?_, Joins.block_setCell (i := 5) HL.out _, ?_⟩
        · exact (Below.heap_setCell _ _ _ _ (by simp only; omega)).trans HN.out
        · exact (Below.heap_setCell _ _ _ _ (by simp only; omega)).trans HR.out
        · exact HB.out.setCell (p := ⟨w.heap.size + 1 + 1, 5, none⟩) (by simp only; omega) _
      case measure => simp [intOf]
    | 6, _ =>
      have c : wr.cell? ⟨w.heap.size, 7, none⟩ = some (.int .u64 f.delay) := Lib.cell_of_heap HN.out 7
      have d : wr.cell? ⟨w.heap.size + 1 + 1, 6, none⟩ = some (.int .u64 0) := Lib.cell_of_heap HL.out 6
      have g : wr.frozen? ⟨w.heap.size + 1 + 1, 6, none⟩ = false := Lib.frozen_of_heap HL.out 6
      go_wp2_with fail
      erw [hI6]
      go_wp2
      go_roundw
      case rel =>
        refine ⟨7, by decide, rfl, ?_, ?_, Joins.block_setCell (i := 6) HL.out _, ?_⟩
        · exact (Below.heap_setCell _ _ _ _ (by simp only; omega)).trans HN.out
        · exact (Below.heap_setCell _ _ _ _ (by simp only; omega)).trans HR.out
        · exact HB.out.setCell (p := ⟨w.heap.size + 1 + 1, 6, none⟩) (by simp only; omega) _
      case measure => simp [intOf]
    | 7, _ =>
      have d0 : wr.cell? ⟨w.heap.size + 1 + 1, 0, none⟩ = some (.int .u64 f.id) := Lib.cell_of_heap HL.out 0
      have r0 : wr.cell? ⟨w.heap.size + 1, 0, none⟩ = some (.int .u64 0) := Lib.cell_of_heap HR.out 0
      have d1 : wr.cell? ⟨w.heap.size + 1 + 1, 1, none⟩ = some (.int .u64 f.off) := Lib.cell_of_heap HL.out 1
      have r1 : wr.cell? ⟨w.heap.size + 1, 1, none⟩ = some (.int .u64 0) := Lib.cell_of_heap HR.out 1
      have d2 : wr.cell? ⟨w.heap.size + 1 + 1, 2, none⟩ = some (.int .u64 f.code) := Lib.cell_of_heap HL.out 2
      have r2 : wr.cell? ⟨w.heap.size + 1, 2, none⟩ = some (.int .u64 0) := Lib.cell_of_heap HR.out 2
      have d3 : wr.cell? ⟨w.heap.size + 1 + 1, 3, none⟩ = some (.int .u64 f.max) := Lib.cell_of_heap HL.out 3
      have r3 : wr.cell? ⟨w.heap.size + 1, 3, none⟩ = some (.int .u64 0) := Lib.cell_of_heap HR.out 3
      have d4 : wr.cell? ⟨w.heap.size + 1 + 1, 4, none⟩ = some (.int .u64 f.seq) := Lib.cell_of_heap HL.out 4
      have r4 : wr.cell? ⟨w.heap.size + 1, 4, none⟩ = some (.int .u64 0) := Lib.cell_of_heap HR.out 4
      have d5 : wr.cell? ⟨w.heap.size + 1 + 1, 5, none⟩ = some (.int .u64 f.prior) := Lib.cell_of_heap HL.out 5
      have r5 : wr.cell? ⟨w.heap.size + 1, 5, none⟩ = some (.int .u64 0) := Lib.cell_of_heap HR.out 5
      have d6 : wr.cell? ⟨w.heap.size + 1 + 1, 6, none⟩ = some (.int .u64 f.delay) := Lib.cell_of_heap HL.out 6
      have r6 : wr.cell? ⟨w.heap.size + 1, 6, none⟩ = some (.int .u64 0) := Lib.cell_of_heap HR.out 6
      have g : ∀ j, wr.frozen? ⟨w.heap.size + 1, j, none⟩ = false := fun j => Lib.frozen_of_heap HR.out j
      go_wp2
      refine bodyPost_ret (v := .agg #[.int .u64 f.id, .int .u64 f.off, .int .u64 f.code, .int .u64 f.max, .int .u64 f.seq, .int .u64 f.prior, .int .u64 f.delay]) (by simp [results, Tryz.results88, go_sem, *]) rfl ⟨rfl, ?_⟩
      iterate 7 (with_reducible refine Below.setCell ?_ ?hc _; case hc => simp; done)
      exact HB.out
end Go.Proofs.YtoblmhpjendbfaaGreatDoor.Fm
