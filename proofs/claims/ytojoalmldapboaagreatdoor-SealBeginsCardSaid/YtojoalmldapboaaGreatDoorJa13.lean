/- The walks of layer 1's small functions: powers of two, room, shortest, sizes. No conditions beyond the stated ranges. · The walks of layer 1: Fixed, the program's: the lowest bytes of a number, the highest first. Widths from 0 to 8. · The walks of layer 1: the document's own Fixed; both readings of bytes as a number (at most eight bytes). · The walks of layer 1: both readings of bytes as a number (at most eight bytes). -/
import Derived.Test.YtojoalmldapboaaGreatDoorRows
import Derived.Test.YtojoalmldapboaaGreatDoorJa01
import Derived.WalkKit
import Derived.WalkSpells
import Derived.WalkLawsBesides
import Derived.Lib.Hide
import Derived.Laws.BytesArg
import Derived.Laws.IdiomStrings
import Derived.Laws.Bits64
namespace Go.Proofs.YtojoalmldapboaaGreatDoor.Vm
set_option maxRecDepth 20000
open Go.RowKit
set_option linter.unusedVariables false

def pw (n : Int) : Int := ((2 ^ n.toNat : Nat) : Int)
set_option maxHeartbeats 400000 in
theorem room_any (n : Int) (w : World) (h0 : 0 ≤ n) (h1 : n ≤ 8) :
    Calls Tryz.prog 171 #[.int .i64 n] w fun e w' => e = .returned (.int .i64 (8 * n - 2)) ∧ w = w' := by
  go_enter Tryz.func171, Tryz.ntmps171
  go_wp2
  go_ret
  exact ⟨rfl, rfl⟩

/-- What the walks are told of the table 'lengths'. -/
def Tab (w : World) : Prop := w.cell? ⟨0, 0, none⟩ = some (.int .i64 1) ∧ w.cell? ⟨0, 1, none⟩ = some (.int .i64 2) ∧
  w.cell? ⟨0, 2, none⟩ = some (.int .i64 4) ∧ w.cell? ⟨0, 3, none⟩ = some (.int .i64 8)

theorem i0 (w : World) : (Instr.index 215 (.agg #[.int .i64 1, .int .i64 2, .int .i64 4, .int .i64 8]) (.int .i64 0)).run Tryz.prog w = .ok (.int .i64 1) w := by kernel_rfl
theorem i1 (w : World) : (Instr.index 215 (.agg #[.int .i64 1, .int .i64 2, .int .i64 4, .int .i64 8]) (.int .i64 1)).run Tryz.prog w = .ok (.int .i64 2) w := by kernel_rfl
theorem i2 (w : World) : (Instr.index 215 (.agg #[.int .i64 1, .int .i64 2, .int .i64 4, .int .i64 8]) (.int .i64 2)).run Tryz.prog w = .ok (.int .i64 4) w := by kernel_rfl
theorem i3 (w : World) : (Instr.index 215 (.agg #[.int .i64 1, .int .i64 2, .int .i64 4, .int .i64 8]) (.int .i64 3)).run Tryz.prog w = .ok (.int .i64 8) w := by kernel_rfl

set_option maxHeartbeats 400000 in
theorem shortest_0 (m : Nat) (w : World) (hh : m < 64) (ht : Tab w) :
    Calls Tryz.prog 170 #[.int .u64 m] w fun e w' => e = .returned (.tuple #[.int .i64 0, .bool true]) ∧ w = w' := by
  obtain ⟨t0, t1, t2, t3⟩ := ht
  have i0 := i0; have i1 := i1; have i2 := i2; have i3 := i3
  have q0 : ((m : Int) / 64 == 0) = true := by rw [beq_iff_eq]; omega
  go_enter Tryz.func170, Tryz.ntmps170
  go_wp2
  refine wp_loop_rounds 5 ?_
  rw [rounds_succ]
  go_wp2_with (go_at_call 171; refine (room_any _ _ (by omega) (by omega)).mono ?_; rintro e w' ⟨rfl, rfl⟩)
  go_ret2
  exact ⟨rfl, rfl⟩
set_option maxHeartbeats 400000 in
theorem shortest_1 (m : Nat) (w : World) (hl : 64 ≤ m) (hh : m < 16384) (ht : Tab w) :
    Calls Tryz.prog 170 #[.int .u64 m] w fun e w' => e = .returned (.tuple #[.int .i64 1, .bool true]) ∧ w = w' := by
  obtain ⟨t0, t1, t2, t3⟩ := ht
  have i0 := i0; have i1 := i1; have i2 := i2; have i3 := i3
  have q0 : ((m : Int) / 64 == 0) = false := by rw [beq_eq_false_iff_ne]; omega
  have q1 : ((m : Int) / 16384 == 0) = true := by rw [beq_iff_eq]; omega
  go_enter Tryz.func170, Tryz.ntmps170
  go_wp2
  refine wp_loop_rounds 5 ?_
  rw [rounds_succ]
  go_wp2_with (go_at_call 171; refine (room_any _ _ (by omega) (by omega)).mono ?_; rintro e w' ⟨rfl, rfl⟩)
  rw [rounds_succ]
  go_wp2_with (go_at_call 171; refine (room_any _ _ (by omega) (by omega)).mono ?_; rintro e w' ⟨rfl, rfl⟩)
  go_ret2
  exact ⟨rfl, rfl⟩
set_option maxHeartbeats 400000 in
theorem shortest_2 (m : Nat) (w : World) (hl : 16384 ≤ m) (hh : m < 1073741824) (ht : Tab w) :
    Calls Tryz.prog 170 #[.int .u64 m] w fun e w' => e = .returned (.tuple #[.int .i64 2, .bool true]) ∧ w = w' := by
  obtain ⟨t0, t1, t2, t3⟩ := ht
  have i0 := i0; have i1 := i1; have i2 := i2; have i3 := i3
  have q0 : ((m : Int) / 64 == 0) = false := by rw [beq_eq_false_iff_ne]; omega
  have q1 : ((m : Int) / 16384 == 0) = false := by rw [beq_eq_false_iff_ne]; omega
  have q2 : ((m : Int) / 1073741824 == 0) = true := by rw [beq_iff_eq]; omega
  go_enter Tryz.func170, Tryz.ntmps170
  go_wp2
  refine wp_loop_rounds 5 ?_
  rw [rounds_succ]
  go_wp2_with (go_at_call 171; refine (room_any _ _ (by omega) (by omega)).mono ?_; rintro e w' ⟨rfl, rfl⟩)
  rw [rounds_succ]
  go_wp2_with (go_at_call 171; refine (room_any _ _ (by omega) (by omega)).mono ?_; rintro e w' ⟨rfl, rfl⟩)
  rw [rounds_succ]
  go_wp2_with (go_at_call 171; refine (room_any _ _ (by omega) (by omega)).mono ?_; rintro e w' ⟨rfl, rfl⟩)
  go_ret2
  exact ⟨rfl, rfl⟩
set_option maxHeartbeats 400000 in
theorem shortest_3 (m : Nat) (w : World) (hl : 1073741824 ≤ m) (hh : m < 4611686018427387904) (ht : Tab w) :
    Calls Tryz.prog 170 #[.int .u64 m] w fun e w' => e = .returned (.tuple #[.int .i64 3, .bool true]) ∧ w = w' := by
  obtain ⟨t0, t1, t2, t3⟩ := ht
  have i0 := i0; have i1 := i1; have i2 := i2; have i3 := i3
  have q0 : ((m : Int) / 64 == 0) = false := by rw [beq_eq_false_iff_ne]; omega
  have q1 : ((m : Int) / 16384 == 0) = false := by rw [beq_eq_false_iff_ne]; omega
  have q2 : ((m : Int) / 1073741824 == 0) = false := by rw [beq_eq_false_iff_ne]; omega
  have q3 : ((m : Int) / 4611686018427387904 == 0) = true := by rw [beq_iff_eq]; omega
  go_enter Tryz.func170, Tryz.ntmps170
  go_wp2
  refine wp_loop_rounds 5 ?_
  rw [rounds_succ]
  go_wp2_with (go_at_call 171; refine (room_any _ _ (by omega) (by omega)).mono ?_; rintro e w' ⟨rfl, rfl⟩)
  rw [rounds_succ]
  go_wp2_with (go_at_call 171; refine (room_any _ _ (by omega) (by omega)).mono ?_; rintro e w' ⟨rfl, rfl⟩)
  rw [rounds_succ]
  go_wp2_with (go_at_call 171; refine (room_any _ _ (by omega) (by omega)).mono ?_; rintro e w' ⟨rfl, rfl⟩)
  rw [rounds_succ]
  go_wp2_with (go_at_call 171; refine (room_any _ _ (by omega) (by omega)).mono ?_; rintro e w' ⟨rfl, rfl⟩)
  go_ret2
  exact ⟨rfl, rfl⟩
set_option maxHeartbeats 400000 in
theorem shortest_4 (m : Nat) (w : World) (hl : 4611686018427387904 ≤ m) (ht : Tab w) :
    Calls Tryz.prog 170 #[.int .u64 m] w fun e w' => e = .returned (.tuple #[.int .i64 0, .bool false]) ∧ w = w' := by
  obtain ⟨t0, t1, t2, t3⟩ := ht
  have i0 := i0; have i1 := i1; have i2 := i2; have i3 := i3
  have q0 : ((m : Int) / 64 == 0) = false := by rw [beq_eq_false_iff_ne]; omega
  have q1 : ((m : Int) / 16384 == 0) = false := by rw [beq_eq_false_iff_ne]; omega
  have q2 : ((m : Int) / 1073741824 == 0) = false := by rw [beq_eq_false_iff_ne]; omega
  have q3 : ((m : Int) / 4611686018427387904 == 0) = false := by rw [beq_eq_false_iff_ne]; omega
  go_enter Tryz.func170, Tryz.ntmps170
  go_wp2
  refine wp_loop_rounds 5 ?_
  rw [rounds_succ]
  go_wp2_with (go_at_call 171; refine (room_any _ _ (by omega) (by omega)).mono ?_; rintro e w' ⟨rfl, rfl⟩)
  rw [rounds_succ]
  go_wp2_with (go_at_call 171; refine (room_any _ _ (by omega) (by omega)).mono ?_; rintro e w' ⟨rfl, rfl⟩)
  rw [rounds_succ]
  go_wp2_with (go_at_call 171; refine (room_any _ _ (by omega) (by omega)).mono ?_; rintro e w' ⟨rfl, rfl⟩)
  rw [rounds_succ]
  go_wp2_with (go_at_call 171; refine (room_any _ _ (by omega) (by omega)).mono ?_; rintro e w' ⟨rfl, rfl⟩)
  rw [rounds_succ]
  go_wp2_with (go_at_call 171; refine (room_any _ _ (by omega) (by omega)).mono ?_; rintro e w' ⟨rfl, rfl⟩)
  go_ret2
  exact ⟨rfl, rfl⟩
end Go.Proofs.YtojoalmldapboaaGreatDoor.Vm
namespace Go.Proofs.YtojoalmldapboaaGreatDoor.Vm
set_option maxRecDepth 20000
open Go.RowKit
set_option linter.unusedVariables false

theorem conv8 (w : World) (c0 c1 c2 c3 c4 c5 c6 c7 : Int) (j len : Nat) (hl : len + j = 8) :
    (convert 66 9 (.slice (some ⟨w.heap.size, j, none⟩) len len)).run Tryz.prog (w.alloc (.cells #[.int .u8 c0, .int .u8 c1, .int .u8 c2, .int .u8 c3, .int .u8 c4, .int .u8 c5, .int .u8 c6, .int .u8 c7] 165)) =
      .ok (.string (strOfNums ([c0, c1, c2, c3, c4, c5, c6, c7].drop j))) (w.alloc (.cells #[.int .u8 c0, .int .u8 c1, .int .u8 c2, .int .u8 c3, .int .u8 c4, .int .u8 c5, .int .u8 c6, .int .u8 c7] 165)) := by
  refine run_convert_bytes_arg (P := Tryz.prog) _ 66 5 Tryz.underlying66 Tryz.underlying5 w.heap.size j len len ([c0, c1, c2, c3, c4, c5, c6, c7].drop j) (by simp; omega) ?_ 9 Tryz.underlying9
  intro i hi
  have : j + i < 8 := by omega
  have e : (List.drop j [c0, c1, c2, c3, c4, c5, c6, c7]).getD i 0 = [c0, c1, c2, c3, c4, c5, c6, c7].getD (j + i) 0 := by
    simp [List.getD, List.getElem?_drop]
  rw [e]
  generalize j + i = q at *
  match q, this with
  | 0, _ | 1, _ | 2, _ | 3, _ | 4, _ | 5, _ | 6, _ | 7, _ => simp

theorem byte_eq (n a : Nat) (x : Int) (h : x.toNat % 256 = n / a % 256) : UInt8.ofNat x.toNat = UInt8.ofNat (n / a % 256) := by
  apply UInt8.toNat_inj.1
  rw [UInt8.toNat_ofNat', UInt8.toNat_ofNat']; omega

theorem fx8 (n : Nat) (hn : (n : Int) ≤ 18446744073709551615) (j k : Nat) (h : k + j = 8) : strOfNums ([(n : Int) / 72057594037927936, (n : Int) / 281474976710656 % 256, (n : Int) / 1099511627776 % 256, (n : Int) / 4294967296 % 256, (n : Int) / 16777216 % 256, (n : Int) / 65536 % 256, (n : Int) / 256 % 256, (n : Int) % 256].drop j) = ⟨(fx n k).toArray⟩ := by
  have e : strOfNums ([(n : Int) / 72057594037927936, (n : Int) / 281474976710656 % 256, (n : Int) / 1099511627776 % 256, (n : Int) / 4294967296 % 256, (n : Int) / 16777216 % 256, (n : Int) / 65536 % 256, (n : Int) / 256 % 256, (n : Int) % 256].drop j) = ⟨((fx n 8).drop j).toArray⟩ := by
    unfold strOfNums
    rw [List.map_drop]
    have : List.map (fun n : Int => UInt8.ofNat n.toNat) [(n : Int) / 72057594037927936, (n : Int) / 281474976710656 % 256, (n : Int) / 1099511627776 % 256, (n : Int) / 4294967296 % 256, (n : Int) / 16777216 % 256, (n : Int) / 65536 % 256, (n : Int) / 256 % 256, (n : Int) % 256] = fx n 8 := by
      simp only [List.map_cons, List.map_nil, fx]
      rw [byte_eq n (256 ^ 7) _ (by omega), byte_eq n (256 ^ 6) _ (by omega), byte_eq n (256 ^ 5) _ (by omega), byte_eq n (256 ^ 4) _ (by omega), byte_eq n (256 ^ 3) _ (by omega), byte_eq n (256 ^ 2) _ (by omega), byte_eq n (256 ^ 1) _ (by omega), byte_eq n (256 ^ 0) _ (by omega)]
    rw [this]
  rw [e]
  have : ∀ j k, k + j = 8 → (fx n 8).drop j = fx n k := by
    intro j k h
    match j, k, h with
    | 0, 8, _ | 1, 7, _ | 2, 6, _ | 3, 5, _ | 4, 4, _ | 5, 3, _ | 6, 2, _ | 7, 1, _ | 8, 0, _ => rfl
  rw [this j k h]

theorem slice8 (k b : Nat) (W : World) (h1 : 1 ≤ k) (h8 : k ≤ 8) :
    (Instr.sliceAt 165 (.pointer (some ⟨b, 0, none⟩)) (some (.int .i64 (8 - (k : Int)))) none none).run Tryz.prog W = .ok (.slice (some ⟨b, 8 - k, none⟩) k k) W := by
  have : k = 1 ∨ k = 2 ∨ k = 3 ∨ k = 4 ∨ k = 5 ∨ k = 6 ∨ k = 7 ∨ k = 8 := by omega
  rcases this with rfl | rfl | rfl | rfl | rfl | rfl | rfl | rfl
  all_goals (show _ = _; kernel_rfl)

set_option maxHeartbeats 1000000 in
set_option maxRecDepth 100000 in
theorem vfixed (n k : Nat) (w : World) (hn : (n : Int) ≤ 18446744073709551615) (h1 : 1 ≤ k) (hk : k ≤ 8) :
    Calls Tryz.prog 88 #[.int .u64 n, .int .i64 k] w fun e w' => e = .returned (.string ⟨(fx n k).toArray⟩) ∧ Below w.heap.size w w' := by
  have hs := fun W => slice8 k w.heap.size W h1 hk
  have hc := Lib.hid (conv8 w (n / 72057594037927936) (n / 281474976710656 % 256) (n / 1099511627776 % 256) (n / 4294967296 % 256) (n / 16777216 % 256) (n / 65536 % 256) (n / 256 % 256) (n % 256) (8 - k) k (by omega))
  rw [fx8 n hn (8 - k) k (by omega)] at hc
  go_enter Tryz.func88, Tryz.ntmps88
  go_wp2
  refine wp_loop_rounds 9 ?_
  iterate 9 (rw [rounds_succ]; go_wp2)
  rw [hc.out]
  go_wp2
  go_ret
  exact ⟨rfl, (Below.refl _ _).alloc (Nat.le_refl _) _⟩
end Go.Proofs.YtojoalmldapboaaGreatDoor.Vm
namespace Go.Proofs.YtojoalmldapboaaGreatDoor.Vm
set_option maxRecDepth 20000
open Go.RowKit
set_option linter.unusedVariables false

end Go.Proofs.YtojoalmldapboaaGreatDoor.Vm
namespace Go.Proofs.YtojoalmldapboaaGreatDoor.Vm
set_option maxRecDepth 20000
open Go.RowKit
set_option linter.unusedVariables false

theorem bk_take_succ (s : ByteArray) (k : Nat) (h : k < s.size) : bk (s.data.toList.take (k + 1)) = bk (s.data.toList.take k) * 256 + s[k].toNat := by
  rw [List.take_succ_eq_append_getElem (by simpa using h), bk_snoc]; rfl
theorem bk_take_lt (s : ByteArray) (k : Nat) (h : k ≤ 7) : bk (s.data.toList.take k) < 256 ^ 7 :=
  Nat.lt_of_lt_of_le (bk_lt _) (Nat.pow_le_pow_right (by omega) (by have := List.length_take_le k s.data.toList; omega))

theorem bits_or_u64_nat (a b : Nat) (ha : a < 2 ^ 64) (hb : b < 2 ^ 64) : bits .or .u64 (a : Int) (b : Int) = ((a ||| b : Nat) : Int) := by
  have hx : a ||| b < 2 ^ 64 := Nat.or_lt_two_pow ha hb
  have h1 : (BitVec.ofInt 64 (a : Int)).toNat = a := by
    rw [BitVec.ofInt_natCast, BitVec.toNat_ofNat]; exact Nat.mod_eq_of_lt ha
  have h2 : (BitVec.ofInt 64 (b : Int)).toNat = b := by
    rw [BitVec.ofInt_natCast, BitVec.toNat_ofNat]; exact Nat.mod_eq_of_lt hb
  show IntKind.u64.wrap ((BitVec.ofInt 64 (a : Int) ||| BitVec.ofInt 64 (b : Int)).toNat : Int) = _
  rw [BitVec.toNat_or, h1, h2, IntKind.wrap_u64]
  omega
theorem bits_and_u64_nat (a b : Nat) (ha : a < 2 ^ 64) (hb : b < 2 ^ 64) : bits .and .u64 (a : Int) (b : Int) = ((a &&& b : Nat) : Int) := by
  have hx : a &&& b < 2 ^ 64 := Nat.and_lt_two_pow _ hb
  have h1 : (BitVec.ofInt 64 (a : Int)).toNat = a := by
    rw [BitVec.ofInt_natCast, BitVec.toNat_ofNat]; exact Nat.mod_eq_of_lt ha
  have h2 : (BitVec.ofInt 64 (b : Int)).toNat = b := by
    rw [BitVec.ofInt_natCast, BitVec.toNat_ofNat]; exact Nat.mod_eq_of_lt hb
  show IntKind.u64.wrap ((BitVec.ofInt 64 (a : Int) &&& BitVec.ofInt 64 (b : Int)).toNat : Int) = _
  rw [BitVec.toNat_and, h1, h2, IntKind.wrap_u64]
  omega
/-- Two numbers that share no bit, laid on one another, are their sum. -/
theorem or_sum (i a b : Nat) (hb : b < 2 ^ i) (h : a * 2 ^ i < 2 ^ 64) (h64 : 2 ^ i ≤ 2 ^ 64) : bits .or .u64 ((a * 2 ^ i : Nat) : Int) (b : Int) = ((a * 2 ^ i + b : Nat) : Int) := by
  rw [bits_or_u64_nat _ _ h (Nat.lt_of_lt_of_le hb h64)]
  have := Nat.shiftLeft_add_eq_or_of_lt hb a
  rw [Nat.shiftLeft_eq] at this
  rw [this]
theorem or_byte (a b : Nat) (ha : a < 256 ^ 7) (hb : b < 256) : bits .or .u64 ((a : Int) * 256) (b : Int) = ((a * 256 + b : Nat) : Int) := by
  have h := or_sum 8 a b hb (by omega) (by decide)
  have e : ((a * 2 ^ 8 : Nat) : Int) = (a : Int) * 256 := by omega
  rw [e] at h
  exact h
theorem and_mod (i a : Nat) (ha : a < 2 ^ 64) (hi : i ≤ 63) : bits .and .u64 (a : Int) ((2 ^ i - 1 : Nat) : Int) = ((a % 2 ^ i : Nat) : Int) := by
  have h1 : 2 ^ i ≤ 2 ^ 63 := Nat.pow_le_pow_right (by omega) hi
  rw [bits_and_u64_nat _ _ ha (by omega), Nat.and_two_pow_sub_one_eq_mod]

set_option maxHeartbeats 400000 in
theorem vback_8 (s : ByteArray) (w : World) (hs : s.size = 8) :
    Calls Tryz.prog 172 #[.string s] w fun e w' => e = .returned (.int .u64 (bk s.data.toList : Nat)) ∧ w = w' := by
  have hs1 : s.size ≤ 8 := by omega
  have HS8 := Lib.hid hs
  have hs2 : 8 ≤ s.size := by omega
  clear hs
  go_enter Tryz.func172, Tryz.ntmps172
  go_wp2
  go_loop [3, 4] (fun n i => ∃ k : Nat, k ≤ s.size ∧ i = .int .i64 k ∧ n = .int .u64 (bk (s.data.toList.take k) : Nat)) (fun _ i => s.size - (intOf i).toNat)
  case atStart => exact ⟨0, Nat.zero_le _, by rw [HS8.out]; rfl, rfl⟩
  case round =>
    obtain ⟨k, hk, rfl, rfl⟩ := hrel
    by_cases hlt : k < s.size
    · have hb := bk_take_lt s k (by omega)
      have HS := Lib.hid (bk_take_succ s k hlt)
      have hc := s[k].toNat_lt
      have HO := Lib.hid (or_byte (bk (s.data.toList.take k)) s[k].toNat hb hc)
      go_wp2
      go_round
      case rel => exact ⟨k + 1, by omega, by go_num, by rw [HS.out, ← HO.out]⟩
      case measure => simp [intOf]; omega
    · go_wp2
      go_ret
      exact ⟨by rw [List.take_of_length_le (by simp; omega)]; rfl, rfl⟩

set_option maxHeartbeats 400000 in
theorem vback_7 (s : ByteArray) (w : World) (hs : s.size ≤ 7) :
    Calls Tryz.prog 172 #[.string s] w fun e w' => e = .returned (.int .u64 (bk s.data.toList : Nat)) ∧ w = w' := by
  have hs1 : s.size ≤ 8 := by omega
  go_enter Tryz.func172, Tryz.ntmps172
  go_wp2
  go_loop [3, 4] (fun n i => ∃ k : Nat, k ≤ s.size ∧ i = .int .i64 k ∧ n = .int .u64 (bk (s.data.toList.take k) : Nat)) (fun _ i => s.size - (intOf i).toNat)
  case atStart => exact ⟨0, Nat.zero_le _, rfl, rfl⟩
  case round =>
    obtain ⟨k, hk, rfl, rfl⟩ := hrel
    by_cases hlt : k < s.size
    · have hb := bk_take_lt s k (by omega)
      have HS := Lib.hid (bk_take_succ s k hlt)
      have hc := s[k].toNat_lt
      have HO := Lib.hid (or_byte (bk (s.data.toList.take k)) s[k].toNat hb hc)
      go_wp2
      go_round
      case rel => exact ⟨k + 1, by omega, by go_num, by rw [HS.out, ← HO.out]⟩
      case measure => simp [intOf]; omega
    · go_wp2
      go_ret
      exact ⟨by rw [List.take_of_length_le (by simp; omega)]; rfl, rfl⟩

theorem vback (s : ByteArray) (w : World) (hs : s.size ≤ 8) :
    Calls Tryz.prog 172 #[.string s] w fun e w' => e = .returned (.int .u64 (bk s.data.toList : Nat)) ∧ w = w' := by
  by_cases h : s.size = 8
  · exact vback_8 s w h
  · exact vback_7 s w (by omega)

end Go.Proofs.YtojoalmldapboaaGreatDoor.Vm
