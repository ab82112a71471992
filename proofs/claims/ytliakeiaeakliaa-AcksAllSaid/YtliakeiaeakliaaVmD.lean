/- The walks of layer 1: both readings of bytes as a number (at most eight bytes). -/
import Derived.Test.YtliakeiaeakliaaVmC
namespace Go.Proofs.Ytliakeiaeakliaa.Vm
set_option maxRecDepth 20000
open Go.RowKit
set_option linter.unusedVariables false

theorem bk_take_succ (s : ByteArray) (k : Nat) (h : k < s.size) : bk (s.data.toList.take (k + 1)) = bk (s.data.toList.take k) * 256 + s[k].toNat := by
  rw [List.take_succ_eq_append_getElem (by simpa using h), bk_snoc]; rfl
theorem bk_take_lt (s : ByteArray) (k : Nat) (h : k ≤ 7) : bk (s.data.toList.take k) < 256 ^ 7 :=
  Nat.lt_of_lt_of_le (bk_lt _) (Nat.pow_le_pow_right (by omega) (by have := List.length_take_le k s.data.toList; omega))

theorem bits_or_u64_nat (a b : Nat) (ha : a < 2 ^ 64) (hb : b < 2 ^ 64) : bits .or .u64 (a : Int) (b : Int) = ((a ||| b : Nat) : Int) := by
  have hx : a ||| b < 2 ^ 64 := Nat.or_lt_two_pow ha hb
  have h1 : (BitVec.ofInt 64 (a : Int)).toNat = a := by
    rw [BitVec.ofInt_natCast, BitVec.toNat_ofNat]; exact Nat.mod_eq_of_lt ha
  have h2 : (BitVec.ofInt 64 (b : Int)).toNat = b := by
    rw [BitVec.ofInt_natCast, BitVec.toNat_ofNat]; exact Nat.mod_eq_of_lt hb
  show IntKind.u64.wrap ((BitVec.ofInt 64 (a : Int) ||| BitVec.ofInt 64 (b : Int)).toNat : Int) = _
  rw [BitVec.toNat_or, h1, h2, IntKind.wrap_u64]
  omega
theorem bits_and_u64_nat (a b : Nat) (ha : a < 2 ^ 64) (hb : b < 2 ^ 64) : bits .and .u64 (a : Int) (b : Int) = ((a &&& b : Nat) : Int) := by
  have hx : a &&& b < 2 ^ 64 := Nat.and_lt_two_pow _ hb
  have h1 : (BitVec.ofInt 64 (a : Int)).toNat = a := by
    rw [BitVec.ofInt_natCast, BitVec.toNat_ofNat]; exact Nat.mod_eq_of_lt ha
  have h2 : (BitVec.ofInt 64 (b : Int)).toNat = b := by
    rw [BitVec.ofInt_natCast, BitVec.toNat_ofNat]; exact Nat.mod_eq_of_lt hb
  show IntKind.u64.wrap ((BitVec.ofInt 64 (a : Int) &&& BitVec.ofInt 64 (b : Int)).toNat : Int) = _
  rw [BitVec.toNat_and, h1, h2, IntKind.wrap_u64]
  omega
/-- Two numbers that share no bit, laid on one another, are their sum. -/
theorem or_sum (i a b : Nat) (hb : b < 2 ^ i) (h : a * 2 ^ i < 2 ^ 64) (h64 : 2 ^ i ≤ 2 ^ 64) : bits .or .u64 ((a * 2 ^ i : Nat) : Int) (b : Int) = ((a * 2 ^ i + b : Nat) : Int) := by
  rw [bits_or_u64_nat _ _ h (Nat.lt_of_lt_of_le hb h64)]
  have := Nat.shiftLeft_add_eq_or_of_lt hb a
  rw [Nat.shiftLeft_eq] at this
  rw [this]
theorem or_byte (a b : Nat) (ha : a < 256 ^ 7) (hb : b < 256) : bits .or .u64 ((a : Int) * 256) (b : Int) = ((a * 256 + b : Nat) : Int) := by
  have h := or_sum 8 a b hb (by omega) (by decide)
  have e : ((a * 2 ^ 8 : Nat) : Int) = (a : Int) * 256 := by omega
  rw [e] at h
  exact h
theorem and_mod (i a : Nat) (ha : a < 2 ^ 64) (hi : i ≤ 63) : bits .and .u64 (a : Int) ((2 ^ i - 1 : Nat) : Int) = ((a % 2 ^ i : Nat) : Int) := by
  have h1 : 2 ^ i ≤ 2 ^ 63 := Nat.pow_le_pow_right (by omega) hi
  rw [bits_and_u64_nat _ _ ha (by omega), Nat.and_two_pow_sub_one_eq_mod]

theorem power_6 (w : World) : Calls Try.prog 40 #[.int .i64 6] w fun e w' => e = .returned (.int .u64 64) ∧ w = w' :=
  (power_any 6 w (by omega) (by omega)).mono fun e w' h => by rw [show pw 6 = 64 from by decide] at h; exact h
theorem power_14 (w : World) : Calls Try.prog 40 #[.int .i64 14] w fun e w' => e = .returned (.int .u64 16384) ∧ w = w' :=
  (power_any 14 w (by omega) (by omega)).mono fun e w' h => by rw [show pw 14 = 16384 from by decide] at h; exact h
theorem power_30 (w : World) : Calls Try.prog 40 #[.int .i64 30] w fun e w' => e = .returned (.int .u64 1073741824) ∧ w = w' :=
  (power_any 30 w (by omega) (by omega)).mono fun e w' h => by rw [show pw 30 = 1073741824 from by decide] at h; exact h
theorem power_62 (w : World) : Calls Try.prog 40 #[.int .i64 62] w fun e w' => e = .returned (.int .u64 4611686018427387904) ∧ w = w' :=
  (power_any 62 w (by omega) (by omega)).mono fun e w' h => by rw [show pw 62 = 4611686018427387904 from by decide] at h; exact h
set_option maxHeartbeats 400000 in
theorem rsize_0 (n : Int) (w : World) (h0 : 0 ≤ n) (hh : n < 64) :
    Calls Try.prog 38 #[.int .u64 n] w fun e w' => e = .returned (.int .i64 1) ∧ w = w' := by
  go_enter Try.func38, Try.ntmps38
  go_wp2_with fail
  refine (power_6 _).mono ?_
  rintro e w' ⟨rfl, rfl⟩
  go_wp2
  go_ret
  exact ⟨rfl, rfl⟩
set_option maxHeartbeats 400000 in
theorem rsize_1 (n : Int) (w : World) (hl : 64 ≤ n) (hh : n < 16384) :
    Calls Try.prog 38 #[.int .u64 n] w fun e w' => e = .returned (.int .i64 2) ∧ w = w' := by
  go_enter Try.func38, Try.ntmps38
  go_wp2_with fail
  refine (power_6 _).mono ?_
  rintro e w' ⟨rfl, rfl⟩
  go_wp2_with fail
  refine (power_14 _).mono ?_
  rintro e w' ⟨rfl, rfl⟩
  go_wp2
  go_ret
  exact ⟨rfl, rfl⟩
set_option maxHeartbeats 400000 in
theorem rsize_2 (n : Int) (w : World) (hl : 16384 ≤ n) (hh : n < 1073741824) :
    Calls Try.prog 38 #[.int .u64 n] w fun e w' => e = .returned (.int .i64 4) ∧ w = w' := by
  go_enter Try.func38, Try.ntmps38
  go_wp2_with fail
  refine (power_6 _).mono ?_
  rintro e w' ⟨rfl, rfl⟩
  go_wp2_with fail
  refine (power_14 _).mono ?_
  rintro e w' ⟨rfl, rfl⟩
  go_wp2_with fail
  refine (power_30 _).mono ?_
  rintro e w' ⟨rfl, rfl⟩
  go_wp2
  go_ret
  exact ⟨rfl, rfl⟩
set_option maxHeartbeats 400000 in
theorem rsize_3 (n : Int) (w : World) (hl : 1073741824 ≤ n) (hh : n < 4611686018427387904) :
    Calls Try.prog 38 #[.int .u64 n] w fun e w' => e = .returned (.int .i64 8) ∧ w = w' := by
  go_enter Try.func38, Try.ntmps38
  go_wp2_with fail
  refine (power_6 _).mono ?_
  rintro e w' ⟨rfl, rfl⟩
  go_wp2_with fail
  refine (power_14 _).mono ?_
  rintro e w' ⟨rfl, rfl⟩
  go_wp2_with fail
  refine (power_30 _).mono ?_
  rintro e w' ⟨rfl, rfl⟩
  go_wp2_with fail
  refine (power_62 _).mono ?_
  rintro e w' ⟨rfl, rfl⟩
  go_wp2
  go_ret
  exact ⟨rfl, rfl⟩
set_option maxHeartbeats 400000 in
theorem rsize_4 (n : Int) (w : World) (hl : 4611686018427387904 ≤ n) :
    Calls Try.prog 38 #[.int .u64 n] w fun e w' => e = .returned (.int .i64 0) ∧ w = w' := by
  go_enter Try.func38, Try.ntmps38
  go_wp2_with fail
  refine (power_6 _).mono ?_
  rintro e w' ⟨rfl, rfl⟩
  go_wp2_with fail
  refine (power_14 _).mono ?_
  rintro e w' ⟨rfl, rfl⟩
  go_wp2_with fail
  refine (power_30 _).mono ?_
  rintro e w' ⟨rfl, rfl⟩
  go_wp2_with fail
  refine (power_62 _).mono ?_
  rintro e w' ⟨rfl, rfl⟩
  go_wp2
  go_ret
  exact ⟨rfl, rfl⟩
end Go.Proofs.Ytliakeiaeakliaa.Vm
