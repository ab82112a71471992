/- The walks of layer 1: Put and Size, both ways. -/
import Derived.Test.YtfeecfdbncjmnaaDoorVmD
namespace Go.Proofs.YtfeecfdbncjmnaaDoor.Vm
set_option maxRecDepth 20000
open Go.RowKit
set_option linter.unusedVariables false

theorem vfixed' (n k : Int) (w : World) (h0 : 0 ≤ n) (hn : n ≤ 18446744073709551615) (h1 : 1 ≤ k) (hk : k ≤ 8) :
    Calls Tryd.prog 74 #[.int .u64 n, .int .i64 k] w fun e w' => e = .returned (.string ⟨(fx n.toNat k.toNat).toArray⟩) ∧ Below w.heap.size w w' := by
  obtain ⟨n, rfl⟩ := Int.eq_ofNat_of_zero_le h0
  obtain ⟨k, rfl⟩ := Int.eq_ofNat_of_zero_le (show 0 ≤ k by omega)
  exact vfixed n k w hn (by omega) (by omega)
theorem pt_0 (n : Nat) (hh : n < 64) : fx n 1 = pt n := by
  have hp : pl n = 0 := by have := pl_cases n; omega
  unfold pt
  rw [hp, show 0 * 2 ^ (8 * wd 0 - 2) = 0 from by decide, show wd 0 = 1 from rfl, Nat.zero_add]
theorem or_0 (n : Nat) (hh : n < 64) : bits .or .u64 0 (n : Int) = ((0 + n : Nat) : Int) := by
  have h := or_sum 6 0 n (by omega) (by omega) (by omega)
  exact h
set_option maxHeartbeats 400000 in
theorem vput_0 (n : Int) (w : World) (ht : Tab w) (hl : 0 ≤ n) (hh : n < 64) :
    Calls Tryd.prog 69 #[.int .u64 n] w fun e w' => e = .returned (.tuple #[.string ⟨(pt n.toNat).toArray⟩, .int .i64 0]) ∧ Below w.heap.size w w' := by
  obtain ⟨n, rfl⟩ := Int.eq_ofNat_of_zero_le (show 0 ≤ n by omega)
  have ht' := Lib.hid ht
  obtain ⟨t0, t1, t2, t3⟩ := ht
  have HO := Lib.hid (or_0 n (by omega))
  go_enter Tryd.func69, Tryd.ntmps69
  go_wp2_with fail
  refine (shortest_0 _ _ (by omega) ht'.out).mono ?_
  rintro e w' ⟨rfl, rfl⟩
  go_wp2_with fail
  refine (room_any _ _ (by omega) (by omega)).mono ?_
  rintro e w' ⟨rfl, rfl⟩
  go_wp2_with fail
  rw [HO.out]
  refine (vfixed' _ _ _ (by omega) (by omega) (by omega) (by omega)).mono ?_
  rintro e w' ⟨rfl, hb⟩
  go_wp2
  go_ret2
  refine ⟨?_, hb⟩
  rw [Int.toNat_natCast, ← pt_0 n (by omega)]
  rfl
theorem pt_1 (n : Nat) (hl : 64 ≤ n) (hh : n < 16384) : fx (16384 + n) 2 = pt n := by
  have hp : pl n = 1 := by have := pl_cases n; omega
  unfold pt
  rw [hp, show 1 * 2 ^ (8 * wd 1 - 2) = 16384 from by decide, show wd 1 = 2 from rfl]
theorem or_1 (n : Nat) (hh : n < 16384) : bits .or .u64 16384 (n : Int) = ((16384 + n : Nat) : Int) := by
  have h := or_sum 14 1 n (by omega) (by omega) (by omega)
  exact h
set_option maxHeartbeats 400000 in
theorem vput_1 (n : Int) (w : World) (ht : Tab w) (hl : 64 ≤ n) (hh : n < 16384) :
    Calls Tryd.prog 69 #[.int .u64 n] w fun e w' => e = .returned (.tuple #[.string ⟨(pt n.toNat).toArray⟩, .int .i64 0]) ∧ Below w.heap.size w w' := by
  obtain ⟨n, rfl⟩ := Int.eq_ofNat_of_zero_le (show 0 ≤ n by omega)
  have ht' := Lib.hid ht
  obtain ⟨t0, t1, t2, t3⟩ := ht
  have HO := Lib.hid (or_1 n (by omega))
  go_enter Tryd.func69, Tryd.ntmps69
  go_wp2_with fail
  refine (shortest_1 _ _ (by omega) (by omega) ht'.out).mono ?_
  rintro e w' ⟨rfl, rfl⟩
  go_wp2_with fail
  refine (room_any _ _ (by omega) (by omega)).mono ?_
  rintro e w' ⟨rfl, rfl⟩
  go_wp2_with fail
  rw [HO.out]
  refine (vfixed' _ _ _ (by omega) (by omega) (by omega) (by omega)).mono ?_
  rintro e w' ⟨rfl, hb⟩
  go_wp2
  go_ret2
  refine ⟨?_, hb⟩
  rw [Int.toNat_natCast, ← pt_1 n (by omega) (by omega)]
  rfl
theorem pt_2 (n : Nat) (hl : 16384 ≤ n) (hh : n < 1073741824) : fx (2147483648 + n) 4 = pt n := by
  have hp : pl n = 2 := by have := pl_cases n; omega
  unfold pt
  rw [hp, show 2 * 2 ^ (8 * wd 2 - 2) = 2147483648 from by decide, show wd 2 = 4 from rfl]
theorem or_2 (n : Nat) (hh : n < 1073741824) : bits .or .u64 2147483648 (n : Int) = ((2147483648 + n : Nat) : Int) := by
  have h := or_sum 30 2 n (by omega) (by omega) (by omega)
  exact h
set_option maxHeartbeats 400000 in
theorem vput_2 (n : Int) (w : World) (ht : Tab w) (hl : 16384 ≤ n) (hh : n < 1073741824) :
    Calls Tryd.prog 69 #[.int .u64 n] w fun e w' => e = .returned (.tuple #[.string ⟨(pt n.toNat).toArray⟩, .int .i64 0]) ∧ Below w.heap.size w w' := by
  obtain ⟨n, rfl⟩ := Int.eq_ofNat_of_zero_le (show 0 ≤ n by omega)
  have ht' := Lib.hid ht
  obtain ⟨t0, t1, t2, t3⟩ := ht
  have HO := Lib.hid (or_2 n (by omega))
  go_enter Tryd.func69, Tryd.ntmps69
  go_wp2_with fail
  refine (shortest_2 _ _ (by omega) (by omega) ht'.out).mono ?_
  rintro e w' ⟨rfl, rfl⟩
  go_wp2_with fail
  refine (room_any _ _ (by omega) (by omega)).mono ?_
  rintro e w' ⟨rfl, rfl⟩
  go_wp2_with fail
  rw [HO.out]
  refine (vfixed' _ _ _ (by omega) (by omega) (by omega) (by omega)).mono ?_
  rintro e w' ⟨rfl, hb⟩
  go_wp2
  go_ret2
  refine ⟨?_, hb⟩
  rw [Int.toNat_natCast, ← pt_2 n (by omega) (by omega)]
  rfl
theorem pt_3 (n : Nat) (hl : 1073741824 ≤ n) (hh : n < 4611686018427387904) : fx (13835058055282163712 + n) 8 = pt n := by
  have hp : pl n = 3 := by have := pl_cases n; omega
  unfold pt
  rw [hp, show 3 * 2 ^ (8 * wd 3 - 2) = 13835058055282163712 from by decide, show wd 3 = 8 from rfl]
theorem or_3 (n : Nat) (hh : n < 4611686018427387904) : bits .or .u64 13835058055282163712 (n : Int) = ((13835058055282163712 + n : Nat) : Int) := by
  have h := or_sum 62 3 n (by omega) (by omega) (by omega)
  exact h
set_option maxHeartbeats 400000 in
theorem vput_3 (n : Int) (w : World) (ht : Tab w) (hl : 1073741824 ≤ n) (hh : n < 4611686018427387904) :
    Calls Tryd.prog 69 #[.int .u64 n] w fun e w' => e = .returned (.tuple #[.string ⟨(pt n.toNat).toArray⟩, .int .i64 0]) ∧ Below w.heap.size w w' := by
  obtain ⟨n, rfl⟩ := Int.eq_ofNat_of_zero_le (show 0 ≤ n by omega)
  have ht' := Lib.hid ht
  obtain ⟨t0, t1, t2, t3⟩ := ht
  have HO := Lib.hid (or_3 n (by omega))
  go_enter Tryd.func69, Tryd.ntmps69
  go_wp2_with fail
  refine (shortest_3 _ _ (by omega) (by omega) ht'.out).mono ?_
  rintro e w' ⟨rfl, rfl⟩
  go_wp2_with fail
  refine (room_any _ _ (by omega) (by omega)).mono ?_
  rintro e w' ⟨rfl, rfl⟩
  go_wp2_with fail
  rw [HO.out]
  refine (vfixed' _ _ _ (by omega) (by omega) (by omega) (by omega)).mono ?_
  rintro e w' ⟨rfl, hb⟩
  go_wp2
  go_ret2
  refine ⟨?_, hb⟩
  rw [Int.toNat_natCast, ← pt_3 n (by omega) (by omega)]
  rfl
set_option maxHeartbeats 400000 in
theorem vput_4 (n : Int) (w : World) (ht : Tab w) (hl : 4611686018427387904 ≤ n) :
    Calls Tryd.prog 69 #[.int .u64 n] w fun e w' => e = .returned (.tuple #[.string ⟨#[]⟩, .int .i64 1]) ∧ Below w.heap.size w w' := by
  obtain ⟨n, rfl⟩ := Int.eq_ofNat_of_zero_le (show 0 ≤ n by omega)
  have ht' := Lib.hid ht
  obtain ⟨t0, t1, t2, t3⟩ := ht
  go_enter Tryd.func69, Tryd.ntmps69
  go_wp2_with fail
  refine (shortest_4 _ _ (by omega) ht'.out).mono ?_
  rintro e w' ⟨rfl, rfl⟩
  go_wp2
  go_ret2
  exact ⟨rfl, Below.refl _ _⟩
end Go.Proofs.YtfeecfdbncjmnaaDoor.Vm
