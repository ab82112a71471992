/- The walks of layer 1's small functions: powers of two, room, shortest, sizes. No conditions beyond the stated ranges. -/
import Derived.Test.YtliakeiaeakliaaRows
import Derived.Test.YtliakeiaeakliaaVmM
import Derived.WalkKit
import Derived.WalkSpells
import Derived.WalkLawsBesides
import Derived.Lib.Hide
namespace Go.Proofs.Ytliakeiaeakliaa.Vm
set_option maxRecDepth 20000
open Go.RowKit
set_option linter.unusedVariables false

def pw (n : Int) : Int := ((2 ^ n.toNat : Nat) : Int)
theorem pw_succ (k : Nat) : pw ((k : Int) + 1) = pw k * 2 := by
  unfold pw; rw [show ((k : Int) + 1).toNat = k + 1 from by omega, Int.toNat_natCast, Nat.pow_succ]; push_cast; rfl
theorem pw_le (k : Nat) (h : k ≤ 62) : 1 ≤ pw k ∧ pw k ≤ 4611686018427387904 := by
  unfold pw
  have : 2 ^ k ≤ 2 ^ 62 := Nat.pow_le_pow_right (by omega) h
  have h1 : 1 ≤ 2 ^ k := Nat.one_le_two_pow
  rw [Int.toNat_natCast]; omega

set_option maxHeartbeats 400000 in
theorem power_any (n : Int) (w : World) (h0 : 0 ≤ n) (h1 : n ≤ 63) :
    Calls Try.prog 40 #[.int .i64 n] w fun e w' => e = .returned (.int .u64 (pw n)) ∧ w = w' := by
  obtain ⟨m, rfl⟩ := Int.eq_ofNat_of_zero_le h0
  go_enter Try.func40, Try.ntmps40
  go_wp2
  go_loop [3, 4] (fun x i => ∃ k : Nat, k ≤ m ∧ i = .int .i64 k ∧ x = .int .u64 (pw k)) (fun _ i => m - (intOf i).toNat)
  case atStart => exact ⟨0, Nat.zero_le _, rfl, rfl⟩
  case round =>
    obtain ⟨k, hk, rfl, rfl⟩ := hrel
    by_cases hlt : k < m
    · have hp := pw_le k (by omega)
      have HS := Lib.hid (pw_succ k)
      go_wp2
      go_round
      case rel => exact ⟨k + 1, by omega, by go_num, by rw [show ((k + 1 : Nat) : Int) = (k : Int) + 1 from by omega, HS.out]⟩
      case measure => simp [intOf]; omega
    · obtain rfl : k = m := by omega
      go_wp2
      go_ret
      exact ⟨rfl, rfl⟩

end Go.Proofs.Ytliakeiaeakliaa.Vm
