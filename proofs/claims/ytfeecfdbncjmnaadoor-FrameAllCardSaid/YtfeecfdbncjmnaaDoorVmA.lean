/- The walks of layer 1's small functions: powers of two, room, shortest, sizes. No conditions beyond the stated ranges. -/
import Derived.Test.YtfeecfdbncjmnaaDoorRows
import Derived.Test.YtfeecfdbncjmnaaDoorVmM
import Derived.WalkKit
import Derived.WalkSpells
import Derived.WalkLawsBesides
import Derived.Lib.Hide
namespace Go.Proofs.YtfeecfdbncjmnaaDoor.Vm
set_option maxRecDepth 20000
open Go.RowKit
set_option linter.unusedVariables false

def pw (n : Int) : Int := ((2 ^ n.toNat : Nat) : Int)
theorem pw_succ (k : Nat) : pw ((k : Int) + 1) = pw k * 2 := by
  unfold pw; rw [show ((k : Int) + 1).toNat = k + 1 from by omega, Int.toNat_natCast, Nat.pow_succ]; push_cast; rfl
theorem pw_le (k : Nat) (h : k ≤ 62) : 1 ≤ pw k ∧ pw k ≤ 4611686018427387904 := by
  unfold pw
  have : 2 ^ k ≤ 2 ^ 62 := Nat.pow_le_pow_right (by omega) h
  have h1 : 1 ≤ 2 ^ k := Nat.one_le_two_pow
  rw [Int.toNat_natCast]; omega

set_option maxHeartbeats 400000 in
theorem power_any (n : Int) (w : World) (h0 : 0 ≤ n) (h1 : n ≤ 63) :
    Calls Tryd.prog 36 #[.int .i64 n] w fun e w' => e = .returned (.int .u64 (pw n)) ∧ w = w' := by
  obtain ⟨m, rfl⟩ := Int.eq_ofNat_of_zero_le h0
  go_enter Tryd.func36, Tryd.ntmps36
  go_wp2
  go_loop [3, 4] (fun x i => ∃ k : Nat, k ≤ m ∧ i = .int .i64 k ∧ x = .int .u64 (pw k)) (fun _ i => m - (intOf i).toNat)
  case atStart => exact ⟨0, Nat.zero_le _, rfl, rfl⟩
  case round =>
    obtain ⟨k, hk, rfl, rfl⟩ := hrel
    by_cases hlt : k < m
    · have hp := pw_le k (by omega)
      have HS := Lib.hid (pw_succ k)
      go_wp2
      go_round
      case rel => exact ⟨k + 1, by omega, by go_num, by rw [show ((k + 1 : Nat) : Int) = (k : Int) + 1 from by omega, HS.out]⟩
      case measure => simp [intOf]; omega
    · obtain rfl : k = m := by omega
      go_wp2
      go_ret
      exact ⟨rfl, rfl⟩

set_option maxHeartbeats 400000 in
theorem room_any (n : Int) (w : World) (h0 : 0 ≤ n) (h1 : n ≤ 8) :
    Calls Tryd.prog 71 #[.int .i64 n] w fun e w' => e = .returned (.int .i64 (8 * n - 2)) ∧ w = w' := by
  go_enter Tryd.func71, Tryd.ntmps71
  go_wp2
  go_ret
  exact ⟨rfl, rfl⟩

/-- What the walks are told of the table 'lengths'. -/
def Tab (w : World) : Prop := w.cell? ⟨0, 0, none⟩ = some (.int .i64 1) ∧ w.cell? ⟨0, 1, none⟩ = some (.int .i64 2) ∧
  w.cell? ⟨0, 2, none⟩ = some (.int .i64 4) ∧ w.cell? ⟨0, 3, none⟩ = some (.int .i64 8)

theorem i0 (w : World) : (Instr.index 133 (.agg #[.int .i64 1, .int .i64 2, .int .i64 4, .int .i64 8]) (.int .i64 0)).run Tryd.prog w = .ok (.int .i64 1) w := by kernel_rfl
theorem i1 (w : World) : (Instr.index 133 (.agg #[.int .i64 1, .int .i64 2, .int .i64 4, .int .i64 8]) (.int .i64 1)).run Tryd.prog w = .ok (.int .i64 2) w := by kernel_rfl
theorem i2 (w : World) : (Instr.index 133 (.agg #[.int .i64 1, .int .i64 2, .int .i64 4, .int .i64 8]) (.int .i64 2)).run Tryd.prog w = .ok (.int .i64 4) w := by kernel_rfl
theorem i3 (w : World) : (Instr.index 133 (.agg #[.int .i64 1, .int .i64 2, .int .i64 4, .int .i64 8]) (.int .i64 3)).run Tryd.prog w = .ok (.int .i64 8) w := by kernel_rfl

set_option maxHeartbeats 400000 in
theorem shortest_0 (m : Nat) (w : World) (hh : m < 64) (ht : Tab w) :
    Calls Tryd.prog 73 #[.int .u64 m] w fun e w' => e = .returned (.tuple #[.int .i64 0, .bool true]) ∧ w = w' := by
  obtain ⟨t0, t1, t2, t3⟩ := ht
  have i0 := i0; have i1 := i1; have i2 := i2; have i3 := i3
  have q0 : ((m : Int) / 64 == 0) = true := by rw [beq_iff_eq]; omega
  go_enter Tryd.func73, Tryd.ntmps73
  go_wp2
  refine wp_loop_rounds 5 ?_
  rw [rounds_succ]
  go_wp2_with (go_at_call 71; refine (room_any _ _ (by omega) (by omega)).mono ?_; rintro e w' ⟨rfl, rfl⟩)
  go_ret2
  exact ⟨rfl, rfl⟩
set_option maxHeartbeats 400000 in
theorem shortest_1 (m : Nat) (w : World) (hl : 64 ≤ m) (hh : m < 16384) (ht : Tab w) :
    Calls Tryd.prog 73 #[.int .u64 m] w fun e w' => e = .returned (.tuple #[.int .i64 1, .bool true]) ∧ w = w' := by
  obtain ⟨t0, t1, t2, t3⟩ := ht
  have i0 := i0; have i1 := i1; have i2 := i2; have i3 := i3
  have q0 : ((m : Int) / 64 == 0) = false := by rw [beq_eq_false_iff_ne]; omega
  have q1 : ((m : Int) / 16384 == 0) = true := by rw [beq_iff_eq]; omega
  go_enter Tryd.func73, Tryd.ntmps73
  go_wp2
  refine wp_loop_rounds 5 ?_
  rw [rounds_succ]
  go_wp2_with (go_at_call 71; refine (room_any _ _ (by omega) (by omega)).mono ?_; rintro e w' ⟨rfl, rfl⟩)
  rw [rounds_succ]
  go_wp2_with (go_at_call 71; refine (room_any _ _ (by omega) (by omega)).mono ?_; rintro e w' ⟨rfl, rfl⟩)
  go_ret2
  exact ⟨rfl, rfl⟩
set_option maxHeartbeats 400000 in
theorem shortest_2 (m : Nat) (w : World) (hl : 16384 ≤ m) (hh : m < 1073741824) (ht : Tab w) :
    Calls Tryd.prog 73 #[.int .u64 m] w fun e w' => e = .returned (.tuple #[.int .i64 2, .bool true]) ∧ w = w' := by
  obtain ⟨t0, t1, t2, t3⟩ := ht
  have i0 := i0; have i1 := i1; have i2 := i2; have i3 := i3
  have q0 : ((m : Int) / 64 == 0) = false := by rw [beq_eq_false_iff_ne]; omega
  have q1 : ((m : Int) / 16384 == 0) = false := by rw [beq_eq_false_iff_ne]; omega
  have q2 : ((m : Int) / 1073741824 == 0) = true := by rw [beq_iff_eq]; omega
  go_enter Tryd.func73, Tryd.ntmps73
  go_wp2
  refine wp_loop_rounds 5 ?_
  rw [rounds_succ]
  go_wp2_with (go_at_call 71; refine (room_any _ _ (by omega) (by omega)).mono ?_; rintro e w' ⟨rfl, rfl⟩)
  rw [rounds_succ]
  go_wp2_with (go_at_call 71; refine (room_any _ _ (by omega) (by omega)).mono ?_; rintro e w' ⟨rfl, rfl⟩)
  rw [rounds_succ]
  go_wp2_with (go_at_call 71; refine (room_any _ _ (by omega) (by omega)).mono ?_; rintro e w' ⟨rfl, rfl⟩)
  go_ret2
  exact ⟨rfl, rfl⟩
set_option maxHeartbeats 400000 in
theorem shortest_3 (m : Nat) (w : World) (hl : 1073741824 ≤ m) (hh : m < 4611686018427387904) (ht : Tab w) :
    Calls Tryd.prog 73 #[.int .u64 m] w fun e w' => e = .returned (.tuple #[.int .i64 3, .bool true]) ∧ w = w' := by
  obtain ⟨t0, t1, t2, t3⟩ := ht
  have i0 := i0; have i1 := i1; have i2 := i2; have i3 := i3
  have q0 : ((m : Int) / 64 == 0) = false := by rw [beq_eq_false_iff_ne]; omega
  have q1 : ((m : Int) / 16384 == 0) = false := by rw [beq_eq_false_iff_ne]; omega
  have q2 : ((m : Int) / 1073741824 == 0) = false := by rw [beq_eq_false_iff_ne]; omega
  have q3 : ((m : Int) / 4611686018427387904 == 0) = true := by rw [beq_iff_eq]; omega
  go_enter Tryd.func73, Tryd.ntmps73
  go_wp2
  refine wp_loop_rounds 5 ?_
  rw [rounds_succ]
  go_wp2_with (go_at_call 71; refine (room_any _ _ (by omega) (by omega)).mono ?_; rintro e w' ⟨rfl, rfl⟩)
  rw [rounds_succ]
  go_wp2_with (go_at_call 71; refine (room_any _ _ (by omega) (by omega)).mono ?_; rintro e w' ⟨rfl, rfl⟩)
  rw [rounds_succ]
  go_wp2_with (go_at_call 71; refine (room_any _ _ (by omega) (by omega)).mono ?_; rintro e w' ⟨rfl, rfl⟩)
  rw [rounds_succ]
  go_wp2_with (go_at_call 71; refine (room_any _ _ (by omega) (by omega)).mono ?_; rintro e w' ⟨rfl, rfl⟩)
  go_ret2
  exact ⟨rfl, rfl⟩
set_option maxHeartbeats 400000 in
theorem shortest_4 (m : Nat) (w : World) (hl : 4611686018427387904 ≤ m) (ht : Tab w) :
    Calls Tryd.prog 73 #[.int .u64 m] w fun e w' => e = .returned (.tuple #[.int .i64 0, .bool false]) ∧ w = w' := by
  obtain ⟨t0, t1, t2, t3⟩ := ht
  have i0 := i0; have i1 := i1; have i2 := i2; have i3 := i3
  have q0 : ((m : Int) / 64 == 0) = false := by rw [beq_eq_false_iff_ne]; omega
  have q1 : ((m : Int) / 16384 == 0) = false := by rw [beq_eq_false_iff_ne]; omega
  have q2 : ((m : Int) / 1073741824 == 0) = false := by rw [beq_eq_false_iff_ne]; omega
  have q3 : ((m : Int) / 4611686018427387904 == 0) = false := by rw [beq_eq_false_iff_ne]; omega
  go_enter Tryd.func73, Tryd.ntmps73
  go_wp2
  refine wp_loop_rounds 5 ?_
  rw [rounds_succ]
  go_wp2_with (go_at_call 71; refine (room_any _ _ (by omega) (by omega)).mono ?_; rintro e w' ⟨rfl, rfl⟩)
  rw [rounds_succ]
  go_wp2_with (go_at_call 71; refine (room_any _ _ (by omega) (by omega)).mono ?_; rintro e w' ⟨rfl, rfl⟩)
  rw [rounds_succ]
  go_wp2_with (go_at_call 71; refine (room_any _ _ (by omega) (by omega)).mono ?_; rintro e w' ⟨rfl, rfl⟩)
  rw [rounds_succ]
  go_wp2_with (go_at_call 71; refine (room_any _ _ (by omega) (by omega)).mono ?_; rintro e w' ⟨rfl, rfl⟩)
  rw [rounds_succ]
  go_wp2_with (go_at_call 71; refine (room_any _ _ (by omega) (by omega)).mono ?_; rintro e w' ⟨rfl, rfl⟩)
  go_ret2
  exact ⟨rfl, rfl⟩
end Go.Proofs.YtfeecfdbncjmnaaDoor.Vm
