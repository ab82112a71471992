/- The walks of layer 7: words turned to the right. -/
import Derived.Test.YthjphechdhbenaaRows
import Derived.Test.YthjphechdhbenaaDgM
import Derived.WalkKit
import Derived.WalkSpells
import Derived.WalkLawsBesides
import Derived.Laws.Bits64b
import Derived.Lib.Hide
namespace Go.Proofs.Ythjphechdhbenaa.Dg
set_option maxRecDepth 20000
open Go.RowKit
set_option linter.unusedVariables false
set_option linter.unusedSimpArgs false

theorem and32 (a b : Nat) (ha : a < 4294967296) (hb : b < 4294967296) : bits .and .u32 (a : Int) (b : Int) = ((a &&& b : Nat) : Int) := by
  have hx : a &&& b < 2 ^ 32 := Nat.and_lt_two_pow _ (by omega)
  have h1 : (BitVec.ofInt 32 (a : Int)).toNat = a := by
    rw [BitVec.ofInt_natCast, BitVec.toNat_ofNat]; exact Nat.mod_eq_of_lt (by omega)
  have h2 : (BitVec.ofInt 32 (b : Int)).toNat = b := by
    rw [BitVec.ofInt_natCast, BitVec.toNat_ofNat]; exact Nat.mod_eq_of_lt (by omega)
  show IntKind.u32.wrap ((BitVec.ofInt 32 (a : Int) &&& BitVec.ofInt 32 (b : Int)).toNat : Int) = _
  rw [BitVec.toNat_and, h1, h2, IntKind.wrap_u32]
  omega
theorem or32 (a b : Nat) (ha : a < 4294967296) (hb : b < 4294967296) : bits .or .u32 (a : Int) (b : Int) = ((a ||| b : Nat) : Int) := by
  have hx : a ||| b < 2 ^ 32 := Nat.or_lt_two_pow (by omega) (by omega)
  have h1 : (BitVec.ofInt 32 (a : Int)).toNat = a := by
    rw [BitVec.ofInt_natCast, BitVec.toNat_ofNat]; exact Nat.mod_eq_of_lt (by omega)
  have h2 : (BitVec.ofInt 32 (b : Int)).toNat = b := by
    rw [BitVec.ofInt_natCast, BitVec.toNat_ofNat]; exact Nat.mod_eq_of_lt (by omega)
  show IntKind.u32.wrap ((BitVec.ofInt 32 (a : Int) ||| BitVec.ofInt 32 (b : Int)).toNat : Int) = _
  rw [BitVec.toNat_or, h1, h2, IntKind.wrap_u32]
  omega
theorem xor32 (a b : Nat) (ha : a < 4294967296) (hb : b < 4294967296) : bits .xor .u32 (a : Int) (b : Int) = ((a ^^^ b : Nat) : Int) := by
  have hx : a ^^^ b < 2 ^ 32 := Nat.xor_lt_two_pow (by omega) (by omega)
  have h1 : (BitVec.ofInt 32 (a : Int)).toNat = a := by
    rw [BitVec.ofInt_natCast, BitVec.toNat_ofNat]; exact Nat.mod_eq_of_lt (by omega)
  have h2 : (BitVec.ofInt 32 (b : Int)).toNat = b := by
    rw [BitVec.ofInt_natCast, BitVec.toNat_ofNat]; exact Nat.mod_eq_of_lt (by omega)
  show IntKind.u32.wrap ((BitVec.ofInt 32 (a : Int) ^^^ BitVec.ofInt 32 (b : Int)).toNat : Int) = _
  rw [BitVec.toNat_xor, h1, h2, IntKind.wrap_u32]
  omega
theorem or_add (a b m : Nat) (hb : b < 2 ^ m) : a * 2 ^ m ||| b = a * 2 ^ m + b := by
  rw [Nat.mul_comm]; exact (Nat.two_pow_add_eq_or_of_lt hb a).symm
theorem rot_num (x n m : Nat) (hx : x < 4294967296) (hnm : n + m = 32) (h1 : 1 ≤ n) (h2 : 1 ≤ m) :
    bits .or .u32 (IntKind.u32.wrap ((x : Int) * 2 ^ m)) ((x : Int) / 2 ^ n) = ((rr x n : Nat) : Int) := by
  have e1 : IntKind.u32.wrap ((x : Int) * 2 ^ m) = ((x % 2 ^ n * 2 ^ m : Nat) : Int) := by
    rw [IntKind.wrap_u32]
    have e : ((x : Int) * 2 ^ m) = ((x * 2 ^ m : Nat) : Int) := by push_cast; rfl
    have e3 : (4294967296 : Nat) = 2 ^ n * 2 ^ m := by rw [← Nat.pow_add, hnm]
    have e2 : x * 2 ^ m % 4294967296 = x % 2 ^ n * 2 ^ m := by rw [e3, Nat.mul_mod_mul_right]
    rw [e, ← e2]; omega
  have hb : x / 2 ^ n < 2 ^ m := by
    rw [Nat.div_lt_iff_lt_mul (Nat.two_pow_pos n), ← Nat.pow_add, Nat.add_comm m n, hnm]; exact hx
  have e4 : ((x : Int) / 2 ^ n) = ((x / 2 ^ n : Nat) : Int) := by push_cast; rfl
  have hlt := rr_lt hx (n := n) (by omega)
  have em : 32 - n = m := by omega
  unfold rr at hlt ⊢
  rw [em] at hlt ⊢
  rw [e1, e4, or32 _ _ (Nat.lt_of_le_of_lt (Nat.le_add_left _ _) hlt) (Nat.lt_of_le_of_lt (Nat.le_add_right _ _) hlt), or_add _ _ _ hb, Nat.add_comm]

set_option maxHeartbeats 1000000 in
theorem rot_any (x n : Nat) (w : World) (hx : x < 4294967296) (h1 : 1 ≤ n) (h2 : n ≤ 31) :
    Calls Try.prog 80 #[.int .u32 x, .int .i64 (-(n : Int))] w fun e w' => e = .returned (.int .u32 (rr x n : Nat)) ∧ w = w' := by
  obtain ⟨m, hm⟩ : ∃ m, n + m = 32 := ⟨32 - n, by omega⟩
  have hb : bits .and .u64 (IntKind.u64.wrap (-(n : Int))) 31 = (m : Int) := by
    have e : IntKind.u64.wrap (-(n : Int)) = ((18446744073709551616 - n : Nat) : Int) := by rw [IntKind.wrap_u64]; omega
    have h := bits_and_u64_nat (18446744073709551616 - n) 31 (by omega) (by omega)
    rw [e]
    have e2 : (18446744073709551616 - n) &&& 31 = (18446744073709551616 - n) % 32 := Nat.and_two_pow_sub_one_eq_mod _ 5
    rw [e2] at h
    refine h.trans ?_
    omega
  have HR := Lib.hid (rot_num x n m hx hm h1 (by omega))
  have hn0 : (32 : Int) - m = n := by omega
  have hm1 : 1 ≤ m := by omega
  go_enter Try.func80, Try.ntmps80
  go_wp2
  go_ret
  refine ⟨?_, rfl⟩
  rw [← HR.out, IntKind.wrap_u32]
  simp

set_option maxHeartbeats 1000000 in
theorem right2 (x n m b : Nat) (w : World) (hx : x < 4294967296) (h1 : 1 ≤ n) (h2 : n ≤ 31) (h3 : 1 ≤ m) (h4 : m ≤ 31) (c0 : w.cell? ⟨b, 0, none⟩ = some (.int .i64 n)) (c1 : w.cell? ⟨b, 1, none⟩ = some (.int .i64 m)) :
    Calls Try.prog 75 #[.int .u32 x, .slice (some ⟨b, 0, none⟩) 2 2] w fun e w' => e = .returned (.int .u32 (rr x n ^^^ rr x m : Nat)) ∧ w = w' := by
  have X1 : bits .xor .u32 0 ((rr x n : Nat) : Int) = ((rr x n : Nat) : Int) := by
    have := xor32 0 (rr x n) (by decide) (rr_lt hx (by omega)); rw [Nat.zero_xor] at this; exact this
  have X2 := xor32 (rr x n) (rr x m) (rr_lt hx (by omega)) (rr_lt hx (by omega))
  have C1 := Lib.hid (fun w => rot_any x n w hx h1 h2)
  have C2 := Lib.hid (fun w => rot_any x m w hx h3 h4)
  clear hx
  go_enter Try.func75, Try.ntmps75
  go_wp2
  refine wp_loop_rounds 3 ?_
  rw [rounds_succ]
  go_wp2_with fail
  refine (C1.out _).mono ?_
  rintro e w1 ⟨rfl, rfl⟩
  go_wp2_with fail
  rw [rounds_succ]
  go_wp2_with fail
  refine (C2.out _).mono ?_
  rintro e w1 ⟨rfl, rfl⟩
  go_wp2_with fail
  rw [rounds_succ]
  go_wp2_with fail
  go_ret
  exact ⟨rfl, rfl⟩
set_option maxHeartbeats 1000000 in
theorem right3 (x n m k b : Nat) (w : World) (hx : x < 4294967296) (h1 : 1 ≤ n) (h2 : n ≤ 31) (h3 : 1 ≤ m) (h4 : m ≤ 31) (h5 : 1 ≤ k) (h6 : k ≤ 31) (c0 : w.cell? ⟨b, 0, none⟩ = some (.int .i64 n)) (c1 : w.cell? ⟨b, 1, none⟩ = some (.int .i64 m)) (c2 : w.cell? ⟨b, 2, none⟩ = some (.int .i64 k)) :
    Calls Try.prog 75 #[.int .u32 x, .slice (some ⟨b, 0, none⟩) 3 3] w fun e w' => e = .returned (.int .u32 (rr x n ^^^ rr x m ^^^ rr x k : Nat)) ∧ w = w' := by
  have X1 : bits .xor .u32 0 ((rr x n : Nat) : Int) = ((rr x n : Nat) : Int) := by
    have := xor32 0 (rr x n) (by decide) (rr_lt hx (by omega)); rw [Nat.zero_xor] at this; exact this
  have X2 := xor32 (rr x n) (rr x m) (rr_lt hx (by omega)) (rr_lt hx (by omega))
  have X3 := xor32 (rr x n ^^^ rr x m) (rr x k) (xor_lt (rr_lt hx (by omega)) (rr_lt hx (by omega))) (rr_lt hx (by omega))
  have C1 := Lib.hid (fun w => rot_any x n w hx h1 h2)
  have C2 := Lib.hid (fun w => rot_any x m w hx h3 h4)
  have C3 := Lib.hid (fun w => rot_any x k w hx h5 h6)
  clear hx
  go_enter Try.func75, Try.ntmps75
  go_wp2
  refine wp_loop_rounds 4 ?_
  rw [rounds_succ]
  go_wp2_with fail
  refine (C1.out _).mono ?_
  rintro e w1 ⟨rfl, rfl⟩
  go_wp2_with fail
  rw [rounds_succ]
  go_wp2_with fail
  refine (C2.out _).mono ?_
  rintro e w1 ⟨rfl, rfl⟩
  go_wp2_with fail
  rw [rounds_succ]
  go_wp2_with fail
  refine (C3.out _).mono ?_
  rintro e w1 ⟨rfl, rfl⟩
  go_wp2_with fail
  rw [rounds_succ]
  go_wp2_with fail
  go_ret
  exact ⟨rfl, rfl⟩
end Go.Proofs.Ythjphechdhbenaa.Dg
