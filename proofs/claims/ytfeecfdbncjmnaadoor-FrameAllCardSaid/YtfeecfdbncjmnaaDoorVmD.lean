/- The walks of layer 1: both readings of bytes as a number (at most eight bytes). -/
import Derived.Test.YtfeecfdbncjmnaaDoorVmC
namespace Go.Proofs.YtfeecfdbncjmnaaDoor.Vm
set_option maxRecDepth 20000
open Go.RowKit
set_option linter.unusedVariables false

theorem bk_take_succ (s : ByteArray) (k : Nat) (h : k < s.size) : bk (s.data.toList.take (k + 1)) = bk (s.data.toList.take k) * 256 + s[k].toNat := by
  rw [List.take_succ_eq_append_getElem (by simpa using h), bk_snoc]; rfl
theorem bk_take_lt (s : ByteArray) (k : Nat) (h : k ≤ 7) : bk (s.data.toList.take k) < 256 ^ 7 :=
  Nat.lt_of_lt_of_le (bk_lt _) (Nat.pow_le_pow_right (by omega) (by have := List.length_take_le k s.data.toList; omega))

theorem bits_or_u64_nat (a b : Nat) (ha : a < 2 ^ 64) (hb : b < 2 ^ 64) : bits .or .u64 (a : Int) (b : Int) = ((a ||| b : Nat) : Int) := by
  have hx : a ||| b < 2 ^ 64 := Nat.or_lt_two_pow ha hb
  have h1 : (BitVec.ofInt 64 (a : Int)).toNat = a := by
    rw [BitVec.ofInt_natCast, BitVec.toNat_ofNat]; exact Nat.mod_eq_of_lt ha
  have h2 : (BitVec.ofInt 64 (b : Int)).toNat = b := by
    rw [BitVec.ofInt_natCast, BitVec.toNat_ofNat]; exact Nat.mod_eq_of_lt hb
  show IntKind.u64.wrap ((BitVec.ofInt 64 (a : Int) ||| BitVec.ofInt 64 (b : Int)).toNat : Int) = _
  rw [BitVec.toNat_or, h1, h2, IntKind.wrap_u64]
  omega
theorem bits_and_u64_nat (a b : Nat) (ha : a < 2 ^ 64) (hb : b < 2 ^ 64) : bits .and .u64 (a : Int) (b : Int) = ((a &&& b : Nat) : Int) := by
  have hx : a &&& b < 2 ^ 64 := Nat.and_lt_two_pow _ hb
  have h1 : (BitVec.ofInt 64 (a : Int)).toNat = a := by
    rw [BitVec.ofInt_natCast, BitVec.toNat_ofNat]; exact Nat.mod_eq_of_lt ha
  have h2 : (BitVec.ofInt 64 (b : Int)).toNat = b := by
    rw [BitVec.ofInt_natCast, BitVec.toNat_ofNat]; exact Nat.mod_eq_of_lt hb
  show IntKind.u64.wrap ((BitVec.ofInt 64 (a : Int) &&& BitVec.ofInt 64 (b : Int)).toNat : Int) = _
  rw [BitVec.toNat_and, h1, h2, IntKind.wrap_u64]
  omega
/-- Two numbers that share no bit, laid on one another, are their sum. -/
theorem or_sum (i a b : Nat) (hb : b < 2 ^ i) (h : a * 2 ^ i < 2 ^ 64) (h64 : 2 ^ i ≤ 2 ^ 64) : bits .or .u64 ((a * 2 ^ i : Nat) : Int) (b : Int) = ((a * 2 ^ i + b : Nat) : Int) := by
  rw [bits_or_u64_nat _ _ h (Nat.lt_of_lt_of_le hb h64)]
  have := Nat.shiftLeft_add_eq_or_of_lt hb a
  rw [Nat.shiftLeft_eq] at this
  rw [this]
theorem or_byte (a b : Nat) (ha : a < 256 ^ 7) (hb : b < 256) : bits .or .u64 ((a : Int) * 256) (b : Int) = ((a * 256 + b : Nat) : Int) := by
  have h := or_sum 8 a b hb (by omega) (by decide)
  have e : ((a * 2 ^ 8 : Nat) : Int) = (a : Int) * 256 := by omega
  rw [e] at h
  exact h
theorem and_mod (i a : Nat) (ha : a < 2 ^ 64) (hi : i ≤ 63) : bits .and .u64 (a : Int) ((2 ^ i - 1 : Nat) : Int) = ((a % 2 ^ i : Nat) : Int) := by
  have h1 : 2 ^ i ≤ 2 ^ 63 := Nat.pow_le_pow_right (by omega) hi
  rw [bits_and_u64_nat _ _ ha (by omega), Nat.and_two_pow_sub_one_eq_mod]

set_option maxHeartbeats 400000 in
theorem rback (s : ByteArray) (w : World) (hs : s.size ≤ 8) :
    Calls Tryd.prog 59 #[.string s] w fun e w' => e = .returned (.int .u64 (bk s.data.toList : Nat)) ∧ w = w' := by
  go_enter Tryd.func59, Tryd.ntmps59
  go_wp2
  go_loop [3, 4] (fun n i => ∃ k : Nat, k ≤ s.size ∧ i = .int .i64 k ∧ n = .int .u64 (bk (s.data.toList.take k) : Nat)) (fun _ i => s.size - (intOf i).toNat)
  case atStart => exact ⟨0, Nat.zero_le _, rfl, rfl⟩
  case round =>
    obtain ⟨k, hk, rfl, rfl⟩ := hrel
    by_cases hlt : k < s.size
    · have hb := bk_take_lt s k (by omega)
      have HS := Lib.hid (bk_take_succ s k hlt)
      have hc := s[k].toNat_lt
      go_wp2
      go_round
      case rel => exact ⟨k + 1, by omega, by go_num, by rw [HS.out]; go_num⟩
      case measure => simp [intOf]; omega
    · go_wp2
      go_ret
      exact ⟨by rw [List.take_of_length_le (by simp; omega)]; rfl, rfl⟩

set_option maxHeartbeats 400000 in
theorem vback_8 (s : ByteArray) (w : World) (hs : s.size = 8) :
    Calls Tryd.prog 63 #[.string s] w fun e w' => e = .returned (.int .u64 (bk s.data.toList : Nat)) ∧ w = w' := by
  have hs1 : s.size ≤ 8 := by omega
  have HS8 := Lib.hid hs
  have hs2 : 8 ≤ s.size := by omega
  clear hs
  go_enter Tryd.func63, Tryd.ntmps63
  go_wp2
  go_loop [3, 4] (fun n i => ∃ k : Nat, k ≤ s.size ∧ i = .int .i64 k ∧ n = .int .u64 (bk (s.data.toList.take k) : Nat)) (fun _ i => s.size - (intOf i).toNat)
  case atStart => exact ⟨0, Nat.zero_le _, by rw [HS8.out]; rfl, rfl⟩
  case round =>
    obtain ⟨k, hk, rfl, rfl⟩ := hrel
    by_cases hlt : k < s.size
    · have hb := bk_take_lt s k (by omega)
      have HS := Lib.hid (bk_take_succ s k hlt)
      have hc := s[k].toNat_lt
      have HO := Lib.hid (or_byte (bk (s.data.toList.take k)) s[k].toNat hb hc)
      go_wp2
      go_round
      case rel => exact ⟨k + 1, by omega, by go_num, by rw [HS.out, ← HO.out]⟩
      case measure => simp [intOf]; omega
    · go_wp2
      go_ret
      exact ⟨by rw [List.take_of_length_le (by simp; omega)]; rfl, rfl⟩

set_option maxHeartbeats 400000 in
theorem vback_7 (s : ByteArray) (w : World) (hs : s.size ≤ 7) :
    Calls Tryd.prog 63 #[.string s] w fun e w' => e = .returned (.int .u64 (bk s.data.toList : Nat)) ∧ w = w' := by
  have hs1 : s.size ≤ 8 := by omega
  go_enter Tryd.func63, Tryd.ntmps63
  go_wp2
  go_loop [3, 4] (fun n i => ∃ k : Nat, k ≤ s.size ∧ i = .int .i64 k ∧ n = .int .u64 (bk (s.data.toList.take k) : Nat)) (fun _ i => s.size - (intOf i).toNat)
  case atStart => exact ⟨0, Nat.zero_le _, rfl, rfl⟩
  case round =>
    obtain ⟨k, hk, rfl, rfl⟩ := hrel
    by_cases hlt : k < s.size
    · have hb := bk_take_lt s k (by omega)
      have HS := Lib.hid (bk_take_succ s k hlt)
      have hc := s[k].toNat_lt
      have HO := Lib.hid (or_byte (bk (s.data.toList.take k)) s[k].toNat hb hc)
      go_wp2
      go_round
      case rel => exact ⟨k + 1, by omega, by go_num, by rw [HS.out, ← HO.out]⟩
      case measure => simp [intOf]; omega
    · go_wp2
      go_ret
      exact ⟨by rw [List.take_of_length_le (by simp; omega)]; rfl, rfl⟩

theorem vback (s : ByteArray) (w : World) (hs : s.size ≤ 8) :
    Calls Tryd.prog 63 #[.string s] w fun e w' => e = .returned (.int .u64 (bk s.data.toList : Nat)) ∧ w = w' := by
  by_cases h : s.size = 8
  · exact vback_8 s w h
  · exact vback_7 s w (by omega)

theorem power_6 (w : World) : Calls Tryd.prog 36 #[.int .i64 6] w fun e w' => e = .returned (.int .u64 64) ∧ w = w' :=
  (power_any 6 w (by omega) (by omega)).mono fun e w' h => by rw [show pw 6 = 64 from by decide] at h; exact h
theorem power_14 (w : World) : Calls Tryd.prog 36 #[.int .i64 14] w fun e w' => e = .returned (.int .u64 16384) ∧ w = w' :=
  (power_any 14 w (by omega) (by omega)).mono fun e w' h => by rw [show pw 14 = 16384 from by decide] at h; exact h
theorem power_30 (w : World) : Calls Tryd.prog 36 #[.int .i64 30] w fun e w' => e = .returned (.int .u64 1073741824) ∧ w = w' :=
  (power_any 30 w (by omega) (by omega)).mono fun e w' h => by rw [show pw 30 = 1073741824 from by decide] at h; exact h
theorem power_62 (w : World) : Calls Tryd.prog 36 #[.int .i64 62] w fun e w' => e = .returned (.int .u64 4611686018427387904) ∧ w = w' :=
  (power_any 62 w (by omega) (by omega)).mono fun e w' h => by rw [show pw 62 = 4611686018427387904 from by decide] at h; exact h
set_option maxHeartbeats 400000 in
theorem rsize_0 (n : Int) (w : World) (h0 : 0 ≤ n) (hh : n < 64) :
    Calls Tryd.prog 21 #[.int .u64 n] w fun e w' => e = .returned (.int .i64 1) ∧ w = w' := by
  go_enter Tryd.func21, Tryd.ntmps21
  go_wp2_with fail
  refine (power_6 _).mono ?_
  rintro e w' ⟨rfl, rfl⟩
  go_wp2
  go_ret
  exact ⟨rfl, rfl⟩
set_option maxHeartbeats 400000 in
theorem rsize_1 (n : Int) (w : World) (hl : 64 ≤ n) (hh : n < 16384) :
    Calls Tryd.prog 21 #[.int .u64 n] w fun e w' => e = .returned (.int .i64 2) ∧ w = w' := by
  go_enter Tryd.func21, Tryd.ntmps21
  go_wp2_with fail
  refine (power_6 _).mono ?_
  rintro e w' ⟨rfl, rfl⟩
  go_wp2_with fail
  refine (power_14 _).mono ?_
  rintro e w' ⟨rfl, rfl⟩
  go_wp2
  go_ret
  exact ⟨rfl, rfl⟩
set_option maxHeartbeats 400000 in
theorem rsize_2 (n : Int) (w : World) (hl : 16384 ≤ n) (hh : n < 1073741824) :
    Calls Tryd.prog 21 #[.int .u64 n] w fun e w' => e = .returned (.int .i64 4) ∧ w = w' := by
  go_enter Tryd.func21, Tryd.ntmps21
  go_wp2_with fail
  refine (power_6 _).mono ?_
  rintro e w' ⟨rfl, rfl⟩
  go_wp2_with fail
  refine (power_14 _).mono ?_
  rintro e w' ⟨rfl, rfl⟩
  go_wp2_with fail
  refine (power_30 _).mono ?_
  rintro e w' ⟨rfl, rfl⟩
  go_wp2
  go_ret
  exact ⟨rfl, rfl⟩
set_option maxHeartbeats 400000 in
theorem rsize_3 (n : Int) (w : World) (hl : 1073741824 ≤ n) (hh : n < 4611686018427387904) :
    Calls Tryd.prog 21 #[.int .u64 n] w fun e w' => e = .returned (.int .i64 8) ∧ w = w' := by
  go_enter Tryd.func21, Tryd.ntmps21
  go_wp2_with fail
  refine (power_6 _).mono ?_
  rintro e w' ⟨rfl, rfl⟩
  go_wp2_with fail
  refine (power_14 _).mono ?_
  rintro e w' ⟨rfl, rfl⟩
  go_wp2_with fail
  refine (power_30 _).mono ?_
  rintro e w' ⟨rfl, rfl⟩
  go_wp2_with fail
  refine (power_62 _).mono ?_
  rintro e w' ⟨rfl, rfl⟩
  go_wp2
  go_ret
  exact ⟨rfl, rfl⟩
set_option maxHeartbeats 400000 in
theorem rsize_4 (n : Int) (w : World) (hl : 4611686018427387904 ≤ n) :
    Calls Tryd.prog 21 #[.int .u64 n] w fun e w' => e = .returned (.int .i64 0) ∧ w = w' := by
  go_enter Tryd.func21, Tryd.ntmps21
  go_wp2_with fail
  refine (power_6 _).mono ?_
  rintro e w' ⟨rfl, rfl⟩
  go_wp2_with fail
  refine (power_14 _).mono ?_
  rintro e w' ⟨rfl, rfl⟩
  go_wp2_with fail
  refine (power_30 _).mono ?_
  rintro e w' ⟨rfl, rfl⟩
  go_wp2_with fail
  refine (power_62 _).mono ?_
  rintro e w' ⟨rfl, rfl⟩
  go_wp2
  go_ret
  exact ⟨rfl, rfl⟩
end Go.Proofs.YtfeecfdbncjmnaaDoor.Vm
