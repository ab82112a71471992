/- The walks of layer 10: what a number is mixed to, by the program and by the document; the base. By hand. -/
import Derived.Test.YtffjnfoleofffaaRows
import Derived.Test.YtffjnfoleofffaaIdM
import Derived.WalkKit
import Derived.WalkSpells
import Derived.WalkLawsBesides
import Derived.Laws.Bits64b
import Derived.Lib.Hide
namespace Go.Proofs.Ytffjnfoleofffaa.Id
open Go.RowKit
open Vm
set_option linter.unusedVariables false
set_option linter.unusedSimpArgs false

theorem xor64 (a b : Nat) (ha : a < 18446744073709551616) (hb : b < 18446744073709551616) : bits .xor .u64 (a : Int) (b : Int) = ((a ^^^ b : Nat) : Int) := by
  have hx : a ^^^ b < 2 ^ 64 := Nat.xor_lt_two_pow (by omega) (by omega)
  have h1 : (BitVec.ofInt 64 (a : Int)).toNat = a := by
    rw [BitVec.ofInt_natCast, BitVec.toNat_ofNat]; exact Nat.mod_eq_of_lt (by omega)
  have h2 : (BitVec.ofInt 64 (b : Int)).toNat = b := by
    rw [BitVec.ofInt_natCast, BitVec.toNat_ofNat]; exact Nat.mod_eq_of_lt (by omega)
  show IntKind.u64.wrap ((BitVec.ofInt 64 (a : Int) ^^^ BitVec.ofInt 64 (b : Int)).toNat : Int) = _
  rw [BitVec.toNat_xor, h1, h2, IntKind.wrap_u64]
  omega
theorem sx_num (k z : Nat) (h : z < 18446744073709551616) (d : Int) (hd : d = ((2 ^ k : Nat) : Int)) : bits .xor .u64 (z : Int) ((z : Int) / d) = ((sx k z : Nat) : Int) := by
  have e : (z : Int) / d = ((z / 2 ^ k : Nat) : Int) := by rw [hd, Int.natCast_ediv]
  rw [e]
  exact xor64 _ _ h (Nat.lt_of_le_of_lt (Nat.div_le_self _ _) h)

set_option maxHeartbeats 1000000 in
theorem laid30 (a : Int) (z : Nat) (w : World) (ha : a = (z : Int)) (h : z < 18446744073709551616) :
    Calls Try.prog 40 #[.int .u64 a, .int .i64 30] w fun e w' => e = .returned (.int .u64 (sx 30 z : Nat)) ∧ w = w' := by
  have X := Lib.hid (sx_num 30 z h 1073741824 (by decide))
  subst ha
  clear h
  go_enter Try.func40, Try.ntmps40
  go_wp2
  go_ret
  refine ⟨?_, rfl⟩
  rw [← X.out]
  rfl
set_option maxHeartbeats 1000000 in
theorem laid27 (a : Int) (z : Nat) (w : World) (ha : a = (z : Int)) (h : z < 18446744073709551616) :
    Calls Try.prog 40 #[.int .u64 a, .int .i64 27] w fun e w' => e = .returned (.int .u64 (sx 27 z : Nat)) ∧ w = w' := by
  have X := Lib.hid (sx_num 27 z h 134217728 (by decide))
  subst ha
  clear h
  go_enter Try.func40, Try.ntmps40
  go_wp2
  go_ret
  refine ⟨?_, rfl⟩
  rw [← X.out]
  rfl
set_option maxHeartbeats 1000000 in
theorem laid31 (a : Int) (z : Nat) (w : World) (ha : a = (z : Int)) (h : z < 18446744073709551616) :
    Calls Try.prog 40 #[.int .u64 a, .int .i64 31] w fun e w' => e = .returned (.int .u64 (sx 31 z : Nat)) ∧ w = w' := by
  have X := Lib.hid (sx_num 31 z h 2147483648 (by decide))
  subst ha
  clear h
  go_enter Try.func40, Try.ntmps40
  go_wp2
  go_ret
  refine ⟨?_, rfl⟩
  rw [← X.out]
  rfl

theorem ret_u64 {a b : Int} (h : a = b) : Ending.returned (.int .u64 a) = .returned (.int .u64 b) := by rw [h]
theorem sum_mod (z c : Nat) : IntKind.u64.wrap ((z : Int) + (c : Int)) = (((z + c) % 18446744073709551616 : Nat) : Int) := by
  rw [IntKind.wrap_u64]; omega
theorem mul_mod (z c : Nat) : IntKind.u64.wrap ((z : Int) * (c : Int)) = ((z * c % 18446744073709551616 : Nat) : Int) := by
  rw [IntKind.wrap_u64]
  have : (z : Int) * (c : Int) = ((z * c : Nat) : Int) := by push_cast; rfl
  rw [this]; omega
theorem sum_lit (z : Nat) (c : Int) (d : Nat) (hc : c = (d : Int)) : IntKind.u64.wrap ((z : Int) + c) = (((z + d) % 18446744073709551616 : Nat) : Int) := by
  rw [hc]; exact sum_mod z d
theorem mul_lit (z : Nat) (c : Int) (d : Nat) (hc : c = (d : Int)) : IntKind.u64.wrap ((z : Int) * c) = ((z * d % 18446744073709551616 : Nat) : Int) := by
  rw [hc]; exact mul_mod z d
set_option maxHeartbeats 1000000 in
theorem mix_any (z : Nat) (w : World) :
    Calls Try.prog 33 #[.int .u64 z] w fun e w' => e = .returned (.int .u64 (mixN z : Nat)) ∧ w = w' := by
  have S1 := Lib.hid (sum_lit z 11400714819323198485 11400714819323198485 rfl)
  have S2 := Lib.hid (mul_lit (sx 30 ((z + 11400714819323198485) % 18446744073709551616)) 13787848793156543929 13787848793156543929 rfl)
  have S3 := Lib.hid (mul_lit (sx 27 (sx 30 ((z + 11400714819323198485) % 18446744073709551616) * 13787848793156543929 % 18446744073709551616)) 10723151780598845931 10723151780598845931 rfl)
  obtain ⟨R, hR⟩ : ∃ R, mixN z = R := ⟨_, rfl⟩
  rw [hR]
  have HR := Lib.hid hR
  clear hR
  go_enter Try.func33, Try.ntmps33
  go_wp2_with fail
  with_reducible refine (laid30 _ _ _ S1.out (m64 _)).mono ?_
  rintro e w1 ⟨rfl, rfl⟩
  go_wp2_with fail
  with_reducible refine (laid27 _ _ _ S2.out (m64 _)).mono ?_
  rintro e w1 ⟨rfl, rfl⟩
  go_wp2_with fail
  with_reducible refine (laid31 _ _ _ S3.out (m64 _)).mono ?_
  rintro e w1 ⟨rfl, rfl⟩
  go_wp2_with fail
  go_ret
  refine ⟨?_, rfl⟩
  rw [← HR.out]
  rfl
theorem sx_div (k x : Nat) (d : Int) (hd : d = ((2 ^ k : Nat) : Int)) (h : x < 18446744073709551616) : bits .xor .u64 (x : Int) (IntKind.u64.wrap ((x : Int).tdiv d)) = ((sx k x : Nat) : Int) := by
  have e : IntKind.u64.wrap ((x : Int).tdiv d) = (x : Int) / d := by
    rw [Int.tdiv_eq_ediv_of_nonneg (Int.natCast_nonneg x), hd, show (x : Int) / ((2 ^ k : Nat) : Int) = ((x / 2 ^ k : Nat) : Int) from by rw [Int.natCast_ediv]]
    have : x / 2 ^ k ≤ x := Nat.div_le_self _ _
    generalize x / 2 ^ k = q at *
    rw [IntKind.wrap_u64]; omega
  rw [e]
  exact sx_num k x h d hd
set_option maxHeartbeats 1000000 in
theorem rmix_any (z : Nat) (w : World) :
    Calls Try.prog 27 #[.int .u64 z] w fun e w' => e = .returned (.int .u64 (mixN z : Nat)) ∧ w = w' := by
  have S1 := Lib.hid (sum_lit z 11400714819323198485 11400714819323198485 rfl)
  have HR : Hid (mixN z = sx 31 (sx 27 (sx 30 ((z + 11400714819323198485) % 18446744073709551616) * 13787848793156543929 % 18446744073709551616) * 10723151780598845931 % 18446744073709551616)) := Lib.hid rfl
  obtain ⟨R, hR⟩ : ∃ R, mixN z = R := ⟨_, rfl⟩
  rw [hR] at HR ⊢
  clear hR
  go_enter Try.func27, Try.ntmps27
  go_wp2_with fail
  go_ret
  refine ⟨?_, rfl⟩
  have A1 := m64 (z + 11400714819323198485)
  rw [HR.out]
  refine ret_u64 ?_
  rw [S1.out]
  obtain ⟨a, ha⟩ : ∃ a, (z + 11400714819323198485) % 18446744073709551616 = a := ⟨_, rfl⟩
  rw [ha] at A1 ⊢
  rw [sx_div 30 a 1073741824 (by decide) A1, mul_lit (sx 30 a) 13787848793156543929 13787848793156543929 rfl]
  have A2 := m64 (sx 30 a * 13787848793156543929)
  obtain ⟨b, hb⟩ : ∃ b, sx 30 a * 13787848793156543929 % 18446744073709551616 = b := ⟨_, rfl⟩
  rw [hb] at A2 ⊢
  rw [sx_div 27 b 134217728 (by decide) A2, mul_lit (sx 27 b) 10723151780598845931 10723151780598845931 rfl]
  have A3 := m64 (sx 27 b * 10723151780598845931)
  obtain ⟨c, hc⟩ : ∃ c, sx 27 b * 10723151780598845931 % 18446744073709551616 = c := ⟨_, rfl⟩
  rw [hc] at A3 ⊢
  rw [sx_div 31 c 2147483648 (by decide) A3]
theorem mixI (a : Int) (z : Nat) (w : World) (ha : a = (z : Int)) :
    Calls Try.prog 33 #[.int .u64 a] w fun e w' => e = .returned (.int .u64 (mixN z : Nat)) ∧ w = w' := by
  subst ha; exact mix_any z w
theorem rmixI (a : Int) (z : Nat) (w : World) (ha : a = (z : Int)) :
    Calls Try.prog 27 #[.int .u64 a] w fun e w' => e = .returned (.int .u64 (mixN z : Nat)) ∧ w = w' := by
  subst ha; exact rmix_any z w
set_option maxHeartbeats 1000000 in
theorem base_any (s i : Nat) (w : World) :
    Calls Try.prog 25 #[.int .u64 s, .int .u64 i] w fun e w' => e = .returned (.int .u64 (baseN s i : Nat)) ∧ w = w' := by
  have S1 := Lib.hid (sum_lit (mixN s) i i rfl)
  have HR : Hid (baseN s i = mixN ((mixN s + i) % 18446744073709551616)) := Lib.hid rfl
  obtain ⟨R, hR⟩ : ∃ R, baseN s i = R := ⟨_, rfl⟩
  rw [hR] at HR ⊢
  clear hR
  go_enter Try.func25, Try.ntmps25
  go_wp2_with fail
  with_reducible refine (mix_any _ _).mono ?_
  rintro e w1 ⟨rfl, rfl⟩
  go_wp2_with fail
  with_reducible refine (mixI _ _ _ S1.out).mono ?_
  rintro e w1 ⟨rfl, rfl⟩
  go_wp2_with fail
  go_ret
  exact ⟨by rw [HR.out]; rfl, rfl⟩
end Go.Proofs.Ytffjnfoleofffaa.Id
