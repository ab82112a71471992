/- The walks of layer 6: the parts of kinds. By tools/gen-frame-2.py. -/
import Derived.Test.YtfeecfdbncjmnaaDoorFmA
import Derived.Laws.BitsLemmas
import Derived.Laws.Bits64
namespace Go.Proofs.YtfeecfdbncjmnaaDoor.Fm
set_option maxRecDepth 20000
open Go.RowKit Vm
set_option linter.unusedVariables false
set_option linter.unusedSimpArgs false

/-- The parts of a kind, a bit each; none: there is no such kind. -/
def partsN : Nat → Option Nat
  | 0 => some 0
  | 1 => some 0
  | 2 => some 2112
  | 4 => some 13
  | 5 => some 5
  | 6 => some 130
  | 8 => some 1155
  | 16 => some 8
  | 17 => some 9
  | 18 => some 8
  | 19 => some 8
  | 20 => some 8
  | 21 => some 9
  | 22 => some 8
  | 23 => some 8
  | 24 => some 816
  | 25 => some 16
  | 26 => some 512
  | 27 => some 512
  | 28 => some 196
  | 29 => some 132
  | 30 => some 0
  | _ => none
/-- What a first byte tells: the kind, the parts that it comes with, whether there is such a kind. -/
def toldK (n : Nat) : Nat := if n / 8 = 1 then 8 else n
def toldP : Nat → Nat
  | 8 => 4097
  | 9 => 5121
  | 10 => 129
  | 11 => 1153
  | 12 => 4099
  | 13 => 5123
  | 14 => 131
  | 15 => 1155
  | n => (partsN n).getD 0
def toldB (n : Nat) : Bool := decide (n / 8 = 1) || (partsN n).isSome
def pR (n : Nat) : Value := .tuple #[.int .u64 ((partsN n).getD 0 : Nat), .bool (partsN n).isSome]
set_option maxHeartbeats 1000000 in
theorem partsOf_0 (w : World) : Calls Tryd.prog 32 #[.int .u64 0] w fun e w' => e = .returned (.tuple #[.int .u64 0, .bool true]) ∧ w' = w := by
  go_enter Tryd.func32, Tryd.ntmps32
  go_wp2
  go_ret2
  exact ⟨rfl, rfl⟩
set_option maxHeartbeats 1000000 in
theorem partsOf_1 (w : World) : Calls Tryd.prog 32 #[.int .u64 1] w fun e w' => e = .returned (.tuple #[.int .u64 0, .bool true]) ∧ w' = w := by
  go_enter Tryd.func32, Tryd.ntmps32
  go_wp2
  go_ret2
  exact ⟨rfl, rfl⟩
set_option maxHeartbeats 1000000 in
theorem partsOf_2 (w : World) : Calls Tryd.prog 32 #[.int .u64 2] w fun e w' => e = .returned (.tuple #[.int .u64 2112, .bool true]) ∧ w' = w := by
  go_enter Tryd.func32, Tryd.ntmps32
  go_wp2
  go_ret2
  exact ⟨rfl, rfl⟩
set_option maxHeartbeats 1000000 in
theorem partsOf_3 (w : World) : Calls Tryd.prog 32 #[.int .u64 3] w fun e w' => e = .returned (.tuple #[.int .u64 0, .bool false]) ∧ w' = w := by
  go_enter Tryd.func32, Tryd.ntmps32
  go_wp2
  go_ret2
  exact ⟨rfl, rfl⟩
set_option maxHeartbeats 1000000 in
theorem partsOf_4 (w : World) : Calls Tryd.prog 32 #[.int .u64 4] w fun e w' => e = .returned (.tuple #[.int .u64 13, .bool true]) ∧ w' = w := by
  go_enter Tryd.func32, Tryd.ntmps32
  go_wp2
  go_ret2
  exact ⟨rfl, rfl⟩
set_option maxHeartbeats 1000000 in
theorem partsOf_5 (w : World) : Calls Tryd.prog 32 #[.int .u64 5] w fun e w' => e = .returned (.tuple #[.int .u64 5, .bool true]) ∧ w' = w := by
  go_enter Tryd.func32, Tryd.ntmps32
  go_wp2
  go_ret2
  exact ⟨rfl, rfl⟩
set_option maxHeartbeats 1000000 in
theorem partsOf_6 (w : World) : Calls Tryd.prog 32 #[.int .u64 6] w fun e w' => e = .returned (.tuple #[.int .u64 130, .bool true]) ∧ w' = w := by
  go_enter Tryd.func32, Tryd.ntmps32
  go_wp2
  go_ret2
  exact ⟨rfl, rfl⟩
set_option maxHeartbeats 1000000 in
theorem partsOf_7 (w : World) : Calls Tryd.prog 32 #[.int .u64 7] w fun e w' => e = .returned (.tuple #[.int .u64 0, .bool false]) ∧ w' = w := by
  go_enter Tryd.func32, Tryd.ntmps32
  go_wp2
  go_ret2
  exact ⟨rfl, rfl⟩
set_option maxHeartbeats 1000000 in
theorem partsOf_8 (w : World) : Calls Tryd.prog 32 #[.int .u64 8] w fun e w' => e = .returned (.tuple #[.int .u64 1155, .bool true]) ∧ w' = w := by
  go_enter Tryd.func32, Tryd.ntmps32
  go_wp2
  go_ret2
  exact ⟨rfl, rfl⟩
set_option maxHeartbeats 1000000 in
theorem partsOf_9 (w : World) : Calls Tryd.prog 32 #[.int .u64 9] w fun e w' => e = .returned (.tuple #[.int .u64 0, .bool false]) ∧ w' = w := by
  go_enter Tryd.func32, Tryd.ntmps32
  go_wp2
  go_ret2
  exact ⟨rfl, rfl⟩
set_option maxHeartbeats 1000000 in
theorem partsOf_10 (w : World) : Calls Tryd.prog 32 #[.int .u64 10] w fun e w' => e = .returned (.tuple #[.int .u64 0, .bool false]) ∧ w' = w := by
  go_enter Tryd.func32, Tryd.ntmps32
  go_wp2
  go_ret2
  exact ⟨rfl, rfl⟩
set_option maxHeartbeats 1000000 in
theorem partsOf_11 (w : World) : Calls Tryd.prog 32 #[.int .u64 11] w fun e w' => e = .returned (.tuple #[.int .u64 0, .bool false]) ∧ w' = w := by
  go_enter Tryd.func32, Tryd.ntmps32
  go_wp2
  go_ret2
  exact ⟨rfl, rfl⟩
set_option maxHeartbeats 1000000 in
theorem partsOf_12 (w : World) : Calls Tryd.prog 32 #[.int .u64 12] w fun e w' => e = .returned (.tuple #[.int .u64 0, .bool false]) ∧ w' = w := by
  go_enter Tryd.func32, Tryd.ntmps32
  go_wp2
  go_ret2
  exact ⟨rfl, rfl⟩
set_option maxHeartbeats 1000000 in
theorem partsOf_13 (w : World) : Calls Tryd.prog 32 #[.int .u64 13] w fun e w' => e = .returned (.tuple #[.int .u64 0, .bool false]) ∧ w' = w := by
  go_enter Tryd.func32, Tryd.ntmps32
  go_wp2
  go_ret2
  exact ⟨rfl, rfl⟩
set_option maxHeartbeats 1000000 in
theorem partsOf_14 (w : World) : Calls Tryd.prog 32 #[.int .u64 14] w fun e w' => e = .returned (.tuple #[.int .u64 0, .bool false]) ∧ w' = w := by
  go_enter Tryd.func32, Tryd.ntmps32
  go_wp2
  go_ret2
  exact ⟨rfl, rfl⟩
set_option maxHeartbeats 1000000 in
theorem partsOf_15 (w : World) : Calls Tryd.prog 32 #[.int .u64 15] w fun e w' => e = .returned (.tuple #[.int .u64 0, .bool false]) ∧ w' = w := by
  go_enter Tryd.func32, Tryd.ntmps32
  go_wp2
  go_ret2
  exact ⟨rfl, rfl⟩
set_option maxHeartbeats 1000000 in
theorem partsOf_16 (w : World) : Calls Tryd.prog 32 #[.int .u64 16] w fun e w' => e = .returned (.tuple #[.int .u64 8, .bool true]) ∧ w' = w := by
  go_enter Tryd.func32, Tryd.ntmps32
  go_wp2
  go_ret2
  exact ⟨rfl, rfl⟩
set_option maxHeartbeats 1000000 in
theorem partsOf_17 (w : World) : Calls Tryd.prog 32 #[.int .u64 17] w fun e w' => e = .returned (.tuple #[.int .u64 9, .bool true]) ∧ w' = w := by
  go_enter Tryd.func32, Tryd.ntmps32
  go_wp2
  go_ret2
  exact ⟨rfl, rfl⟩
set_option maxHeartbeats 1000000 in
theorem partsOf_18 (w : World) : Calls Tryd.prog 32 #[.int .u64 18] w fun e w' => e = .returned (.tuple #[.int .u64 8, .bool true]) ∧ w' = w := by
  go_enter Tryd.func32, Tryd.ntmps32
  go_wp2
  go_ret2
  exact ⟨rfl, rfl⟩
set_option maxHeartbeats 1000000 in
theorem partsOf_19 (w : World) : Calls Tryd.prog 32 #[.int .u64 19] w fun e w' => e = .returned (.tuple #[.int .u64 8, .bool true]) ∧ w' = w := by
  go_enter Tryd.func32, Tryd.ntmps32
  go_wp2
  go_ret2
  exact ⟨rfl, rfl⟩
set_option maxHeartbeats 1000000 in
theorem partsOf_20 (w : World) : Calls Tryd.prog 32 #[.int .u64 20] w fun e w' => e = .returned (.tuple #[.int .u64 8, .bool true]) ∧ w' = w := by
  go_enter Tryd.func32, Tryd.ntmps32
  go_wp2
  go_ret2
  exact ⟨rfl, rfl⟩
set_option maxHeartbeats 1000000 in
theorem partsOf_21 (w : World) : Calls Tryd.prog 32 #[.int .u64 21] w fun e w' => e = .returned (.tuple #[.int .u64 9, .bool true]) ∧ w' = w := by
  go_enter Tryd.func32, Tryd.ntmps32
  go_wp2
  go_ret2
  exact ⟨rfl, rfl⟩
set_option maxHeartbeats 1000000 in
theorem partsOf_22 (w : World) : Calls Tryd.prog 32 #[.int .u64 22] w fun e w' => e = .returned (.tuple #[.int .u64 8, .bool true]) ∧ w' = w := by
  go_enter Tryd.func32, Tryd.ntmps32
  go_wp2
  go_ret2
  exact ⟨rfl, rfl⟩
set_option maxHeartbeats 1000000 in
theorem partsOf_23 (w : World) : Calls Tryd.prog 32 #[.int .u64 23] w fun e w' => e = .returned (.tuple #[.int .u64 8, .bool true]) ∧ w' = w := by
  go_enter Tryd.func32, Tryd.ntmps32
  go_wp2
  go_ret2
  exact ⟨rfl, rfl⟩
set_option maxHeartbeats 1000000 in
theorem partsOf_24 (w : World) : Calls Tryd.prog 32 #[.int .u64 24] w fun e w' => e = .returned (.tuple #[.int .u64 816, .bool true]) ∧ w' = w := by
  go_enter Tryd.func32, Tryd.ntmps32
  go_wp2
  go_ret2
  exact ⟨rfl, rfl⟩
set_option maxHeartbeats 1000000 in
theorem partsOf_25 (w : World) : Calls Tryd.prog 32 #[.int .u64 25] w fun e w' => e = .returned (.tuple #[.int .u64 16, .bool true]) ∧ w' = w := by
  go_enter Tryd.func32, Tryd.ntmps32
  go_wp2
  go_ret2
  exact ⟨rfl, rfl⟩
set_option maxHeartbeats 1000000 in
theorem partsOf_26 (w : World) : Calls Tryd.prog 32 #[.int .u64 26] w fun e w' => e = .returned (.tuple #[.int .u64 512, .bool true]) ∧ w' = w := by
  go_enter Tryd.func32, Tryd.ntmps32
  go_wp2
  go_ret2
  exact ⟨rfl, rfl⟩
set_option maxHeartbeats 1000000 in
theorem partsOf_27 (w : World) : Calls Tryd.prog 32 #[.int .u64 27] w fun e w' => e = .returned (.tuple #[.int .u64 512, .bool true]) ∧ w' = w := by
  go_enter Tryd.func32, Tryd.ntmps32
  go_wp2
  go_ret2
  exact ⟨rfl, rfl⟩
set_option maxHeartbeats 1000000 in
theorem partsOf_28 (w : World) : Calls Tryd.prog 32 #[.int .u64 28] w fun e w' => e = .returned (.tuple #[.int .u64 196, .bool true]) ∧ w' = w := by
  go_enter Tryd.func32, Tryd.ntmps32
  go_wp2
  go_ret2
  exact ⟨rfl, rfl⟩
set_option maxHeartbeats 1000000 in
theorem partsOf_29 (w : World) : Calls Tryd.prog 32 #[.int .u64 29] w fun e w' => e = .returned (.tuple #[.int .u64 132, .bool true]) ∧ w' = w := by
  go_enter Tryd.func32, Tryd.ntmps32
  go_wp2
  go_ret2
  exact ⟨rfl, rfl⟩
set_option maxHeartbeats 1000000 in
theorem partsOf_30 (w : World) : Calls Tryd.prog 32 #[.int .u64 30] w fun e w' => e = .returned (.tuple #[.int .u64 0, .bool true]) ∧ w' = w := by
  go_enter Tryd.func32, Tryd.ntmps32
  go_wp2
  go_ret2
  exact ⟨rfl, rfl⟩
set_option maxHeartbeats 1000000 in
theorem partsOf_31 (n : Nat) (h : 31 ≤ n) (w : World) : Calls Tryd.prog 32 #[.int .u64 (n : Nat)] w fun e w' => e = .returned (.tuple #[.int .u64 0, .bool false]) ∧ w' = w := by
  have c0 : (((n : Nat) : Int) == 0) = false := beq_eq_false_iff_ne.2 (by omega)
  have c1 : (((n : Nat) : Int) == 1) = false := beq_eq_false_iff_ne.2 (by omega)
  have c2 : (((n : Nat) : Int) == 2) = false := beq_eq_false_iff_ne.2 (by omega)
  have c4 : (((n : Nat) : Int) == 4) = false := beq_eq_false_iff_ne.2 (by omega)
  have c5 : (((n : Nat) : Int) == 5) = false := beq_eq_false_iff_ne.2 (by omega)
  have c6 : (((n : Nat) : Int) == 6) = false := beq_eq_false_iff_ne.2 (by omega)
  have c8 : (((n : Nat) : Int) == 8) = false := beq_eq_false_iff_ne.2 (by omega)
  have c16 : (((n : Nat) : Int) == 16) = false := beq_eq_false_iff_ne.2 (by omega)
  have c17 : (((n : Nat) : Int) == 17) = false := beq_eq_false_iff_ne.2 (by omega)
  have c18 : (((n : Nat) : Int) == 18) = false := beq_eq_false_iff_ne.2 (by omega)
  have c19 : (((n : Nat) : Int) == 19) = false := beq_eq_false_iff_ne.2 (by omega)
  have c20 : (((n : Nat) : Int) == 20) = false := beq_eq_false_iff_ne.2 (by omega)
  have c21 : (((n : Nat) : Int) == 21) = false := beq_eq_false_iff_ne.2 (by omega)
  have c22 : (((n : Nat) : Int) == 22) = false := beq_eq_false_iff_ne.2 (by omega)
  have c23 : (((n : Nat) : Int) == 23) = false := beq_eq_false_iff_ne.2 (by omega)
  have c24 : (((n : Nat) : Int) == 24) = false := beq_eq_false_iff_ne.2 (by omega)
  have c25 : (((n : Nat) : Int) == 25) = false := beq_eq_false_iff_ne.2 (by omega)
  have c26 : (((n : Nat) : Int) == 26) = false := beq_eq_false_iff_ne.2 (by omega)
  have c27 : (((n : Nat) : Int) == 27) = false := beq_eq_false_iff_ne.2 (by omega)
  have c28 : (((n : Nat) : Int) == 28) = false := beq_eq_false_iff_ne.2 (by omega)
  have c29 : (((n : Nat) : Int) == 29) = false := beq_eq_false_iff_ne.2 (by omega)
  have c30 : (((n : Nat) : Int) == 30) = false := beq_eq_false_iff_ne.2 (by omega)
  clear h
  go_enter Tryd.func32, Tryd.ntmps32
  go_wp2
  go_ret2
  exact ⟨rfl, rfl⟩
theorem partsOf_any (n : Nat) (w : World) : Calls Tryd.prog 32 #[.int .u64 (n : Nat)] w fun e w' => e = .returned (pR n) ∧ w' = w := by
  match n with
  | 0 => exact partsOf_0 w
  | 1 => exact partsOf_1 w
  | 2 => exact partsOf_2 w
  | 3 => exact partsOf_3 w
  | 4 => exact partsOf_4 w
  | 5 => exact partsOf_5 w
  | 6 => exact partsOf_6 w
  | 7 => exact partsOf_7 w
  | 8 => exact partsOf_8 w
  | 9 => exact partsOf_9 w
  | 10 => exact partsOf_10 w
  | 11 => exact partsOf_11 w
  | 12 => exact partsOf_12 w
  | 13 => exact partsOf_13 w
  | 14 => exact partsOf_14 w
  | 15 => exact partsOf_15 w
  | 16 => exact partsOf_16 w
  | 17 => exact partsOf_17 w
  | 18 => exact partsOf_18 w
  | 19 => exact partsOf_19 w
  | 20 => exact partsOf_20 w
  | 21 => exact partsOf_21 w
  | 22 => exact partsOf_22 w
  | 23 => exact partsOf_23 w
  | 24 => exact partsOf_24 w
  | 25 => exact partsOf_25 w
  | 26 => exact partsOf_26 w
  | 27 => exact partsOf_27 w
  | 28 => exact partsOf_28 w
  | 29 => exact partsOf_29 w
  | 30 => exact partsOf_30 w
  | k + 31 => exact partsOf_31 (k + 31) (by omega) w
set_option maxHeartbeats 1000000 in
theorem told_8 (w : World) : Calls Tryd.prog 45 #[.int .u64 8] w fun e w' => e = .returned (.tuple #[.int .u64 8, .int .u64 4097, .bool true]) ∧ w' = w := by
  have e0 : bits .andNot .u64 8 7 = 8 := by decide
  have e1 : bits .and .u64 8 1 = 0 := by decide
  have e2 : bits .and .u64 8 2 = 0 := by decide
  have e3 : bits .and .u64 8 4 = 0 := by decide
  have e4 : bits .andNot .u64 1155 1024 = 131 := by decide
  have e5 : bits .andNot .u64 131 128 = 3 := by decide
  have e6 : bits .or .u64 3 4096 = 4099 := by decide
  have e7 : bits .andNot .u64 4099 2 = 4097 := by decide
  go_enter Tryd.func45, Tryd.ntmps45
  go_wp2_with fail
  refine (partsOf_8 _).mono ?_
  rintro e w1 ⟨rfl, rfl⟩
  go_wp2
  go_ret3
  exact ⟨rfl, rfl⟩
set_option maxHeartbeats 1000000 in
theorem told_9 (w : World) : Calls Tryd.prog 45 #[.int .u64 9] w fun e w' => e = .returned (.tuple #[.int .u64 8, .int .u64 5121, .bool true]) ∧ w' = w := by
  have e0 : bits .andNot .u64 9 7 = 8 := by decide
  have e1 : bits .and .u64 9 1 = 1 := by decide
  have e2 : bits .and .u64 9 2 = 0 := by decide
  have e3 : bits .and .u64 9 4 = 0 := by decide
  have e5 : bits .andNot .u64 1155 128 = 1027 := by decide
  have e6 : bits .or .u64 1027 4096 = 5123 := by decide
  have e7 : bits .andNot .u64 5123 2 = 5121 := by decide
  go_enter Tryd.func45, Tryd.ntmps45
  go_wp2_with fail
  refine (partsOf_8 _).mono ?_
  rintro e w1 ⟨rfl, rfl⟩
  go_wp2
  go_ret3
  exact ⟨rfl, rfl⟩
set_option maxHeartbeats 1000000 in
theorem told_10 (w : World) : Calls Tryd.prog 45 #[.int .u64 10] w fun e w' => e = .returned (.tuple #[.int .u64 8, .int .u64 129, .bool true]) ∧ w' = w := by
  have e0 : bits .andNot .u64 10 7 = 8 := by decide
  have e1 : bits .and .u64 10 1 = 0 := by decide
  have e2 : bits .and .u64 10 2 = 2 := by decide
  have e3 : bits .and .u64 10 4 = 0 := by decide
  have e4 : bits .andNot .u64 1155 1024 = 131 := by decide
  have e7 : bits .andNot .u64 131 2 = 129 := by decide
  go_enter Tryd.func45, Tryd.ntmps45
  go_wp2_with fail
  refine (partsOf_8 _).mono ?_
  rintro e w1 ⟨rfl, rfl⟩
  go_wp2
  go_ret3
  exact ⟨rfl, rfl⟩
set_option maxHeartbeats 1000000 in
theorem told_11 (w : World) : Calls Tryd.prog 45 #[.int .u64 11] w fun e w' => e = .returned (.tuple #[.int .u64 8, .int .u64 1153, .bool true]) ∧ w' = w := by
  have e0 : bits .andNot .u64 11 7 = 8 := by decide
  have e1 : bits .and .u64 11 1 = 1 := by decide
  have e2 : bits .and .u64 11 2 = 2 := by decide
  have e3 : bits .and .u64 11 4 = 0 := by decide
  have e7 : bits .andNot .u64 1155 2 = 1153 := by decide
  go_enter Tryd.func45, Tryd.ntmps45
  go_wp2_with fail
  refine (partsOf_8 _).mono ?_
  rintro e w1 ⟨rfl, rfl⟩
  go_wp2
  go_ret3
  exact ⟨rfl, rfl⟩
set_option maxHeartbeats 1000000 in
theorem told_12 (w : World) : Calls Tryd.prog 45 #[.int .u64 12] w fun e w' => e = .returned (.tuple #[.int .u64 8, .int .u64 4099, .bool true]) ∧ w' = w := by
  have e0 : bits .andNot .u64 12 7 = 8 := by decide
  have e1 : bits .and .u64 12 1 = 0 := by decide
  have e2 : bits .and .u64 12 2 = 0 := by decide
  have e3 : bits .and .u64 12 4 = 4 := by decide
  have e4 : bits .andNot .u64 1155 1024 = 131 := by decide
  have e5 : bits .andNot .u64 131 128 = 3 := by decide
  have e6 : bits .or .u64 3 4096 = 4099 := by decide
  go_enter Tryd.func45, Tryd.ntmps45
  go_wp2_with fail
  refine (partsOf_8 _).mono ?_
  rintro e w1 ⟨rfl, rfl⟩
  go_wp2
  go_ret3
  exact ⟨rfl, rfl⟩
set_option maxHeartbeats 1000000 in
theorem told_13 (w : World) : Calls Tryd.prog 45 #[.int .u64 13] w fun e w' => e = .returned (.tuple #[.int .u64 8, .int .u64 5123, .bool true]) ∧ w' = w := by
  have e0 : bits .andNot .u64 13 7 = 8 := by decide
  have e1 : bits .and .u64 13 1 = 1 := by decide
  have e2 : bits .and .u64 13 2 = 0 := by decide
  have e3 : bits .and .u64 13 4 = 4 := by decide
  have e5 : bits .andNot .u64 1155 128 = 1027 := by decide
  have e6 : bits .or .u64 1027 4096 = 5123 := by decide
  go_enter Tryd.func45, Tryd.ntmps45
  go_wp2_with fail
  refine (partsOf_8 _).mono ?_
  rintro e w1 ⟨rfl, rfl⟩
  go_wp2
  go_ret3
  exact ⟨rfl, rfl⟩
set_option maxHeartbeats 1000000 in
theorem told_14 (w : World) : Calls Tryd.prog 45 #[.int .u64 14] w fun e w' => e = .returned (.tuple #[.int .u64 8, .int .u64 131, .bool true]) ∧ w' = w := by
  have e0 : bits .andNot .u64 14 7 = 8 := by decide
  have e1 : bits .and .u64 14 1 = 0 := by decide
  have e2 : bits .and .u64 14 2 = 2 := by decide
  have e3 : bits .and .u64 14 4 = 4 := by decide
  have e4 : bits .andNot .u64 1155 1024 = 131 := by decide
  go_enter Tryd.func45, Tryd.ntmps45
  go_wp2_with fail
  refine (partsOf_8 _).mono ?_
  rintro e w1 ⟨rfl, rfl⟩
  go_wp2
  go_ret3
  exact ⟨rfl, rfl⟩
set_option maxHeartbeats 1000000 in
theorem told_15 (w : World) : Calls Tryd.prog 45 #[.int .u64 15] w fun e w' => e = .returned (.tuple #[.int .u64 8, .int .u64 1155, .bool true]) ∧ w' = w := by
  have e0 : bits .andNot .u64 15 7 = 8 := by decide
  have e1 : bits .and .u64 15 1 = 1 := by decide
  have e2 : bits .and .u64 15 2 = 2 := by decide
  have e3 : bits .and .u64 15 4 = 4 := by decide
  go_enter Tryd.func45, Tryd.ntmps45
  go_wp2_with fail
  refine (partsOf_8 _).mono ?_
  rintro e w1 ⟨rfl, rfl⟩
  go_wp2
  go_ret3
  exact ⟨rfl, rfl⟩
theorem not8 : ∀ n : Fin 256, n.val / 8 ≠ 1 → (bits .andNot .u64 (n.val : Nat) 7 != 8) = true := by decide
set_option maxHeartbeats 1000000 in
theorem told_not (n : Nat) (hn : n < 256) (h : n / 8 ≠ 1) (w : World) : Calls Tryd.prog 45 #[.int .u64 (n : Nat)] w fun e w' => e = .returned (.tuple #[.int .u64 (n : Nat), .int .u64 ((partsN n).getD 0 : Nat), .bool (partsN n).isSome]) ∧ w' = w := by
  have e0 := not8 ⟨n, hn⟩ h
  simp only at e0
  have CP := Lib.hid (partsOf_any n)
  unfold pR at CP
  generalize (partsN n).getD 0 = p at *
  generalize (partsN n).isSome = b at *
  generalize hx : bits .andNot .u64 ((n : Nat) : Int) 7 = x at e0
  clear hn h
  go_enter Tryd.func45, Tryd.ntmps45
  go_wp2_with fail
  refine (CP.out _).mono ?_
  rintro e w1 ⟨rfl, rfl⟩
  go_wp2
  go_ret3
  exact ⟨rfl, rfl⟩
theorem told_any (n : Nat) (hn : n < 256) (w : World) : Calls Tryd.prog 45 #[.int .u64 (n : Nat)] w fun e w' => e = .returned (.tuple #[.int .u64 (toldK n : Nat), .int .u64 (toldP n : Nat), .bool (toldB n)]) ∧ w' = w := by
  by_cases h : n / 8 = 1
  · have : n = 8 ∨ n = 9 ∨ n = 10 ∨ n = 11 ∨ n = 12 ∨ n = 13 ∨ n = 14 ∨ n = 15 := by omega
    rcases this with rfl | rfl | rfl | rfl | rfl | rfl | rfl | rfl
    · exact told_8 w
    · exact told_9 w
    · exact told_10 w
    · exact told_11 w
    · exact told_12 w
    · exact told_13 w
    · exact told_14 w
    · exact told_15 w
  · have e1 : toldK n = n := if_neg h
    have e2 : toldP n = (partsN n).getD 0 := by
      unfold toldP
      split <;> first | (exfalso; omega) | rfl
    have e3 : toldB n = (partsN n).isSome := by unfold toldB; rw [decide_eq_false h]; rfl
    rw [e1, e2, e3]
    exact told_not n hn h w
theorem and_u64 (p q : Nat) (hp : p < 8192) (hq : q < 8192) : bits .and .u64 (p : Nat) (q : Nat) = ((p &&& q : Nat) : Int) :=
  (bits_nat .u64 13 (by decide) (fun n h0 h1 => by rw [IntKind.wrap_u64]; omega) p q hp hq).1
theorem and_pow (p i : Nat) : p &&& 2 ^ i = if p.testBit i = true then 2 ^ i else 0 := by
  apply Nat.eq_of_testBit_eq
  intro j
  rw [Nat.testBit_and, Nat.testBit_two_pow]
  by_cases h : i = j
  · subst h
    cases hb : p.testBit i with
    | true => simp [Nat.testBit_two_pow]
    | false => simp
  · have e : decide (i = j) = false := decide_eq_false h
    rw [e, Bool.and_false]
    split
    · rw [Nat.testBit_two_pow, e]
    · simp
theorem bit_ne (p i : Nat) : (((p &&& 2 ^ i : Nat) : Int) != 0) = p.testBit i := by
  rw [and_pow]
  have hp : (2 : Nat) ^ i ≠ 0 := Nat.pos_iff_ne_zero.1 (Nat.pow_pos (by decide))
  cases p.testBit i with
  | true => rw [if_pos rfl, bne_iff_ne]; omega
  | false => rfl
set_option maxHeartbeats 1000000 in
theorem bit_0 (p : Nat) (hp : p < 8192) (w : World) : Calls Tryd.prog 54 #[.int .u64 (p : Nat), .int .i64 0] w fun e w' => e = .returned (.bool (p.testBit 0)) ∧ w' = w := by
  have e1 : bits .and .u64 ((p : Nat) : Int) 1 = ((p &&& 2 ^ 0 : Nat) : Int) := and_u64 p 1 hp (by decide)
  have e2 := bit_ne p 0
  generalize p.testBit 0 = b at *
  generalize (p &&& 2 ^ 0) = q at *
  go_enter Tryd.func54, Tryd.ntmps54
  go_wp2
  go_ret
  exact ⟨rfl, rfl⟩
set_option maxHeartbeats 1000000 in
theorem bit_1 (p : Nat) (hp : p < 8192) (w : World) : Calls Tryd.prog 54 #[.int .u64 (p : Nat), .int .i64 1] w fun e w' => e = .returned (.bool (p.testBit 1)) ∧ w' = w := by
  have e1 : bits .and .u64 ((p : Nat) : Int) 2 = ((p &&& 2 ^ 1 : Nat) : Int) := and_u64 p 2 hp (by decide)
  have e2 := bit_ne p 1
  generalize p.testBit 1 = b at *
  generalize (p &&& 2 ^ 1) = q at *
  go_enter Tryd.func54, Tryd.ntmps54
  go_wp2
  go_ret
  exact ⟨rfl, rfl⟩
set_option maxHeartbeats 1000000 in
theorem bit_2 (p : Nat) (hp : p < 8192) (w : World) : Calls Tryd.prog 54 #[.int .u64 (p : Nat), .int .i64 2] w fun e w' => e = .returned (.bool (p.testBit 2)) ∧ w' = w := by
  have e1 : bits .and .u64 ((p : Nat) : Int) 4 = ((p &&& 2 ^ 2 : Nat) : Int) := and_u64 p 4 hp (by decide)
  have e2 := bit_ne p 2
  generalize p.testBit 2 = b at *
  generalize (p &&& 2 ^ 2) = q at *
  go_enter Tryd.func54, Tryd.ntmps54
  go_wp2
  go_ret
  exact ⟨rfl, rfl⟩
set_option maxHeartbeats 1000000 in
theorem bit_3 (p : Nat) (hp : p < 8192) (w : World) : Calls Tryd.prog 54 #[.int .u64 (p : Nat), .int .i64 3] w fun e w' => e = .returned (.bool (p.testBit 3)) ∧ w' = w := by
  have e1 : bits .and .u64 ((p : Nat) : Int) 8 = ((p &&& 2 ^ 3 : Nat) : Int) := and_u64 p 8 hp (by decide)
  have e2 := bit_ne p 3
  generalize p.testBit 3 = b at *
  generalize (p &&& 2 ^ 3) = q at *
  go_enter Tryd.func54, Tryd.ntmps54
  go_wp2
  go_ret
  exact ⟨rfl, rfl⟩
set_option maxHeartbeats 1000000 in
theorem bit_4 (p : Nat) (hp : p < 8192) (w : World) : Calls Tryd.prog 54 #[.int .u64 (p : Nat), .int .i64 4] w fun e w' => e = .returned (.bool (p.testBit 4)) ∧ w' = w := by
  have e1 : bits .and .u64 ((p : Nat) : Int) 16 = ((p &&& 2 ^ 4 : Nat) : Int) := and_u64 p 16 hp (by decide)
  have e2 := bit_ne p 4
  generalize p.testBit 4 = b at *
  generalize (p &&& 2 ^ 4) = q at *
  go_enter Tryd.func54, Tryd.ntmps54
  go_wp2
  go_ret
  exact ⟨rfl, rfl⟩
set_option maxHeartbeats 1000000 in
theorem bit_5 (p : Nat) (hp : p < 8192) (w : World) : Calls Tryd.prog 54 #[.int .u64 (p : Nat), .int .i64 5] w fun e w' => e = .returned (.bool (p.testBit 5)) ∧ w' = w := by
  have e1 : bits .and .u64 ((p : Nat) : Int) 32 = ((p &&& 2 ^ 5 : Nat) : Int) := and_u64 p 32 hp (by decide)
  have e2 := bit_ne p 5
  generalize p.testBit 5 = b at *
  generalize (p &&& 2 ^ 5) = q at *
  go_enter Tryd.func54, Tryd.ntmps54
  go_wp2
  go_ret
  exact ⟨rfl, rfl⟩
set_option maxHeartbeats 1000000 in
theorem bit_6 (p : Nat) (hp : p < 8192) (w : World) : Calls Tryd.prog 54 #[.int .u64 (p : Nat), .int .i64 6] w fun e w' => e = .returned (.bool (p.testBit 6)) ∧ w' = w := by
  have e1 : bits .and .u64 ((p : Nat) : Int) 64 = ((p &&& 2 ^ 6 : Nat) : Int) := and_u64 p 64 hp (by decide)
  have e2 := bit_ne p 6
  generalize p.testBit 6 = b at *
  generalize (p &&& 2 ^ 6) = q at *
  go_enter Tryd.func54, Tryd.ntmps54
  go_wp2
  go_ret
  exact ⟨rfl, rfl⟩
set_option maxHeartbeats 1000000 in
theorem tokenLen_id (w : World) : Calls Tryd.prog 58 #[.int .u64 24] w fun e w' => e = .returned (.int .i64 16) ∧ w' = w := by
  go_enter Tryd.func58, Tryd.ntmps58
  go_wp2
  go_ret
  exact ⟨rfl, rfl⟩
set_option maxHeartbeats 1000000 in
theorem tokenLen_path (n : Int) (h : (n == 24) = false) (w : World) : Calls Tryd.prog 58 #[.int .u64 n] w fun e w' => e = .returned (.int .i64 8) ∧ w' = w := by
  go_enter Tryd.func58, Tryd.ntmps58
  go_wp2
  go_ret
  exact ⟨rfl, rfl⟩
end Go.Proofs.YtfeecfdbncjmnaaDoor.Fm
