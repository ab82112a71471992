/- The walks of layer 1: Put and Size, both ways. -/
import Derived.Test.YtliakeiaeakliaaVmD
namespace Go.Proofs.Ytliakeiaeakliaa.Vm
set_option maxRecDepth 20000
open Go.RowKit
set_option linter.unusedVariables false

theorem rfixed' (n k : Int) (w : World) (h0 : 0 ≤ n) (hn : n ≤ 18446744073709551615) (h1 : 1 ≤ k) (hk : k ≤ 8) :
    Calls Try.prog 39 #[.int .u64 n, .int .i64 k] w fun e w' => e = .returned (.string ⟨(fx n.toNat k.toNat).toArray⟩) ∧ Below w.heap.size w w' := by
  obtain ⟨n, rfl⟩ := Int.eq_ofNat_of_zero_le h0
  obtain ⟨k, rfl⟩ := Int.eq_ofNat_of_zero_le (show 0 ≤ k by omega)
  exact rfixed n k w hn (by omega) (by omega)

theorem pt_0 (n : Nat) (hh : n < 64) : fx n 1 = pt n := by
  have hp : pl n = 0 := by have := pl_cases n; omega
  unfold pt
  rw [hp, show 0 * 2 ^ (8 * wd 0 - 2) = 0 from by decide, show wd 0 = 1 from rfl, Nat.zero_add]
theorem or_0 (n : Nat) (hh : n < 64) : bits .or .u64 0 (n : Int) = ((0 + n : Nat) : Int) := by
  have h := or_sum 6 0 n (by omega) (by omega) (by omega)
  exact h
set_option maxHeartbeats 400000 in
theorem rput_0 (n : Int) (w : World) (hl : 0 ≤ n) (hh : n < 64) :
    Calls Try.prog 34 #[.int .u64 n] w fun e w' => e = .returned (.tuple #[.string ⟨(pt n.toNat).toArray⟩, .int .i64 0]) ∧ Below w.heap.size w w' := by
  go_enter Try.func34, Try.ntmps34
  go_wp2_with fail
  refine (rsize_0 _ _ (by omega) (by omega)).mono ?_
  rintro e w' ⟨rfl, rfl⟩
  go_wp2_with fail
  refine (rfixed' _ _ _ (by omega) (by omega) (by omega) (by omega)).mono ?_
  rintro e w' ⟨rfl, hb⟩
  go_wp2
  go_ret2
  refine ⟨?_, hb⟩
  rw [← pt_0 n.toNat (by omega)]
  rfl
theorem pt_1 (n : Nat) (hl : 64 ≤ n) (hh : n < 16384) : fx (16384 + n) 2 = pt n := by
  have hp : pl n = 1 := by have := pl_cases n; omega
  unfold pt
  rw [hp, show 1 * 2 ^ (8 * wd 1 - 2) = 16384 from by decide, show wd 1 = 2 from rfl]
theorem or_1 (n : Nat) (hh : n < 16384) : bits .or .u64 16384 (n : Int) = ((16384 + n : Nat) : Int) := by
  have h := or_sum 14 1 n (by omega) (by omega) (by omega)
  exact h
set_option maxHeartbeats 400000 in
theorem rput_1 (n : Int) (w : World) (hl : 64 ≤ n) (hh : n < 16384) :
    Calls Try.prog 34 #[.int .u64 n] w fun e w' => e = .returned (.tuple #[.string ⟨(pt n.toNat).toArray⟩, .int .i64 0]) ∧ Below w.heap.size w w' := by
  go_enter Try.func34, Try.ntmps34
  go_wp2_with fail
  refine (rsize_1 _ _ (by omega) (by omega)).mono ?_
  rintro e w' ⟨rfl, rfl⟩
  go_wp2_with fail
  refine (power_14 _).mono ?_
  rintro e w' ⟨rfl, rfl⟩
  go_wp2_with fail
  refine (rfixed' _ _ _ (by omega) (by omega) (by omega) (by omega)).mono ?_
  rintro e w' ⟨rfl, hb⟩
  go_wp2
  go_ret2
  refine ⟨?_, hb⟩
  rw [← pt_1 n.toNat (by omega) (by omega), show 16384 + n.toNat = (n + 16384).toNat from by omega]
  rfl
theorem pt_2 (n : Nat) (hl : 16384 ≤ n) (hh : n < 1073741824) : fx (2147483648 + n) 4 = pt n := by
  have hp : pl n = 2 := by have := pl_cases n; omega
  unfold pt
  rw [hp, show 2 * 2 ^ (8 * wd 2 - 2) = 2147483648 from by decide, show wd 2 = 4 from rfl]
theorem or_2 (n : Nat) (hh : n < 1073741824) : bits .or .u64 2147483648 (n : Int) = ((2147483648 + n : Nat) : Int) := by
  have h := or_sum 30 2 n (by omega) (by omega) (by omega)
  exact h
set_option maxHeartbeats 400000 in
theorem rput_2 (n : Int) (w : World) (hl : 16384 ≤ n) (hh : n < 1073741824) :
    Calls Try.prog 34 #[.int .u64 n] w fun e w' => e = .returned (.tuple #[.string ⟨(pt n.toNat).toArray⟩, .int .i64 0]) ∧ Below w.heap.size w w' := by
  go_enter Try.func34, Try.ntmps34
  go_wp2_with fail
  refine (rsize_2 _ _ (by omega) (by omega)).mono ?_
  rintro e w' ⟨rfl, rfl⟩
  go_wp2_with fail
  refine (power_30 _).mono ?_
  rintro e w' ⟨rfl, rfl⟩
  go_wp2_with fail
  refine (rfixed' _ _ _ (by omega) (by omega) (by omega) (by omega)).mono ?_
  rintro e w' ⟨rfl, hb⟩
  go_wp2
  go_ret2
  refine ⟨?_, hb⟩
  rw [← pt_2 n.toNat (by omega) (by omega), show 2147483648 + n.toNat = (n + 2147483648).toNat from by omega]
  rfl
theorem pt_3 (n : Nat) (hl : 1073741824 ≤ n) (hh : n < 4611686018427387904) : fx (13835058055282163712 + n) 8 = pt n := by
  have hp : pl n = 3 := by have := pl_cases n; omega
  unfold pt
  rw [hp, show 3 * 2 ^ (8 * wd 3 - 2) = 13835058055282163712 from by decide, show wd 3 = 8 from rfl]
theorem or_3 (n : Nat) (hh : n < 4611686018427387904) : bits .or .u64 13835058055282163712 (n : Int) = ((13835058055282163712 + n : Nat) : Int) := by
  have h := or_sum 62 3 n (by omega) (by omega) (by omega)
  exact h
set_option maxHeartbeats 400000 in
theorem rput_3 (n : Int) (w : World) (hl : 1073741824 ≤ n) (hh : n < 4611686018427387904) :
    Calls Try.prog 34 #[.int .u64 n] w fun e w' => e = .returned (.tuple #[.string ⟨(pt n.toNat).toArray⟩, .int .i64 0]) ∧ Below w.heap.size w w' := by
  go_enter Try.func34, Try.ntmps34
  go_wp2_with fail
  refine (rsize_3 _ _ (by omega) (by omega)).mono ?_
  rintro e w' ⟨rfl, rfl⟩
  go_wp2_with fail
  refine (power_62 _).mono ?_
  rintro e w' ⟨rfl, rfl⟩
  go_wp2_with fail
  refine (rfixed' _ _ _ (by omega) (by omega) (by omega) (by omega)).mono ?_
  rintro e w' ⟨rfl, hb⟩
  go_wp2
  go_ret2
  refine ⟨?_, hb⟩
  rw [← pt_3 n.toNat (by omega) (by omega), show 13835058055282163712 + n.toNat = (n + 13835058055282163712).toNat from by omega]
  rfl
set_option maxHeartbeats 400000 in
theorem rput_4 (n : Int) (w : World) (hl : 4611686018427387904 ≤ n) :
    Calls Try.prog 34 #[.int .u64 n] w fun e w' => e = .returned (.tuple #[.string ⟨#[]⟩, .int .i64 1]) ∧ Below w.heap.size w w' := by
  go_enter Try.func34, Try.ntmps34
  go_wp2_with fail
  refine (rsize_4 _ _ (by omega)).mono ?_
  rintro e w' ⟨rfl, rfl⟩
  go_wp2
  go_ret2
  exact ⟨rfl, Below.refl _ _⟩
end Go.Proofs.Ytliakeiaeakliaa.Vm
