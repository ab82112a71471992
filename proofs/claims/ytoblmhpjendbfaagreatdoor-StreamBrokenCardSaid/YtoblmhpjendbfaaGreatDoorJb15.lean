/- Plain mathematics of numbers as bytes, the highest first. Nothing of the program stands here. · The walks of layer 1's small functions: powers of two, room, shortest, sizes. No conditions beyond the stated ranges. · The walks of layer 1: Fixed, the program's: the lowest bytes of a number, the highest first. Widths from 0 to 8. · The walks of layer 1: the document's own Fixed; both readings of bytes as a number (at most eight bytes). · The walks of layer 1: both readings of bytes as a number (at most eight bytes). · The walks of layer 1: Put and Size, both ways. · The walks of layer 1: Put and Size in one word each; Get, both ways. · The walks of layer 1: Get in one word; the small case that must go well. · What the row's condition on the table gives the walks; the frame's words for a law's walk. · The walk of the law VarintBack. -/
import Derived.Test.YtoblmhpjendbfaaGreatDoorRows
import Derived.WalkKit
import Derived.WalkSpells
import Derived.WalkLawsBesides
import Derived.Lib.Hide
import Derived.Laws.BytesArg
import Derived.Laws.IdiomStrings
import Derived.Laws.Bits64
import Derived.Lib.Strings
import Derived.Deep.QuietTactic
import Derived.BigQuiet
import Derived.Lib.IndexBytes
import Derived.LaidMore
import Derived.Lib.LaidTab
import Derived.ProofKit
import Derived.OpenShut
namespace Go.Proofs.YtoblmhpjendbfaaGreatDoor.Vm
set_option maxRecDepth 20000

/-- The lowest k bytes of n, the highest first. -/
def fx (n : Nat) : Nat → List UInt8
  | 0 => []
  | k + 1 => UInt8.ofNat (n / 256 ^ k % 256) :: fx n k
/-- The number of bytes. -/
def bk (l : List UInt8) : Nat := l.foldl (fun a b => a * 256 + b.toNat) 0

theorem fx_length (n k : Nat) : (fx n k).length = k := by
  induction k with
  | zero => rfl
  | succ k ih => simp [fx, ih]
/-- Byte strings of one length compare as their numbers do. -/
def less : List UInt8 → List UInt8 → Bool
  | [], [] => false
  | [], _ :: _ => true
  | _ :: _, [] => false
  | a :: l, b :: m => decide (a.toNat < b.toNat) || (a.toNat == b.toNat && less l m)
/-- The place of the shortest form of n among 1, 2, 4 and 8 bytes; 4: none. -/
def pl (n : Nat) : Nat := if n < 64 then 0 else if n < 16384 then 1 else if n < 1073741824 then 2 else if n < 4611686018427387904 then 3 else 4
/-- How many bytes a place has. -/
def wd (p : Nat) : Nat := 2 ^ p
def sz (n : Nat) : Nat := if pl n = 4 then 0 else wd (pl n)
/-- The bytes of n. -/
def pt (n : Nat) : List UInt8 := fx (pl n * 2 ^ (8 * wd (pl n) - 2) + n) (wd (pl n))
def gn (l : List UInt8) (k : Nat) : Nat := bk (l.take k) % 2 ^ (8 * k - 2)

theorem pl_cases (n : Nat) : (pl n = 0 ∧ n < 64) ∨ (pl n = 1 ∧ 64 ≤ n ∧ n < 16384) ∨ (pl n = 2 ∧ 16384 ≤ n ∧ n < 1073741824) ∨ (pl n = 3 ∧ 1073741824 ≤ n ∧ n < 4611686018427387904) ∨ (pl n = 4 ∧ 4611686018427387904 ≤ n) := by
  unfold pl
  split
  · omega
  · split
    · omega
    · split
      · omega
      · split <;> omega
theorem pl_le (n : Nat) : pl n ≤ 4 := by have := pl_cases n; omega
theorem pt_length (n : Nat) : (pt n).length = wd (pl n) := fx_length _ _
end Go.Proofs.YtoblmhpjendbfaaGreatDoor.Vm
namespace Go.Proofs.YtoblmhpjendbfaaGreatDoor.Vm
set_option maxRecDepth 20000
open Go.RowKit
set_option linter.unusedVariables false

set_option maxHeartbeats 400000 in
theorem room_any (n : Int) (w : World) (h0 : 0 ≤ n) (h1 : n ≤ 8) :
    Calls Tryz.prog 207 #[.int .i64 n] w fun e w' => e = .returned (.int .i64 (8 * n - 2)) ∧ w = w' := by
  go_enter Tryz.func207, Tryz.ntmps207
  go_wp2
  go_ret
  exact ⟨rfl, rfl⟩

/-- What the walks are told of the table 'lengths'. -/
def Tab (w : World) : Prop := w.cell? ⟨0, 0, none⟩ = some (.int .i64 1) ∧ w.cell? ⟨0, 1, none⟩ = some (.int .i64 2) ∧
  w.cell? ⟨0, 2, none⟩ = some (.int .i64 4) ∧ w.cell? ⟨0, 3, none⟩ = some (.int .i64 8)

theorem i0 (w : World) : (Instr.index 257 (.agg #[.int .i64 1, .int .i64 2, .int .i64 4, .int .i64 8]) (.int .i64 0)).run Tryz.prog w = .ok (.int .i64 1) w := by kernel_rfl
theorem i1 (w : World) : (Instr.index 257 (.agg #[.int .i64 1, .int .i64 2, .int .i64 4, .int .i64 8]) (.int .i64 1)).run Tryz.prog w = .ok (.int .i64 2) w := by kernel_rfl
theorem i2 (w : World) : (Instr.index 257 (.agg #[.int .i64 1, .int .i64 2, .int .i64 4, .int .i64 8]) (.int .i64 2)).run Tryz.prog w = .ok (.int .i64 4) w := by kernel_rfl
theorem i3 (w : World) : (Instr.index 257 (.agg #[.int .i64 1, .int .i64 2, .int .i64 4, .int .i64 8]) (.int .i64 3)).run Tryz.prog w = .ok (.int .i64 8) w := by kernel_rfl

set_option maxHeartbeats 400000 in
theorem shortest_0 (m : Nat) (w : World) (hh : m < 64) (ht : Tab w) :
    Calls Tryz.prog 205 #[.int .u64 m] w fun e w' => e = .returned (.tuple #[.int .i64 0, .bool true]) ∧ w = w' := by
  obtain ⟨t0, t1, t2, t3⟩ := ht
  have i0 := i0; have i1 := i1; have i2 := i2; have i3 := i3
  have q0 : ((m : Int) / 64 == 0) = true := by rw [beq_iff_eq]; omega
  go_enter Tryz.func205, Tryz.ntmps205
  go_wp2
  refine wp_loop_rounds 5 ?_
  rw [rounds_succ]
  go_wp2_with (go_at_call 207; refine (room_any _ _ (by omega) (by omega)).mono ?_; rintro e w' ⟨rfl, rfl⟩)
  go_ret2
  exact ⟨rfl, rfl⟩
set_option maxHeartbeats 400000 in
theorem shortest_1 (m : Nat) (w : World) (hl : 64 ≤ m) (hh : m < 16384) (ht : Tab w) :
    Calls Tryz.prog 205 #[.int .u64 m] w fun e w' => e = .returned (.tuple #[.int .i64 1, .bool true]) ∧ w = w' := by
  obtain ⟨t0, t1, t2, t3⟩ := ht
  have i0 := i0; have i1 := i1; have i2 := i2; have i3 := i3
  have q0 : ((m : Int) / 64 == 0) = false := by rw [beq_eq_false_iff_ne]; omega
  have q1 : ((m : Int) / 16384 == 0) = true := by rw [beq_iff_eq]; omega
  go_enter Tryz.func205, Tryz.ntmps205
  go_wp2
  refine wp_loop_rounds 5 ?_
  rw [rounds_succ]
  go_wp2_with (go_at_call 207; refine (room_any _ _ (by omega) (by omega)).mono ?_; rintro e w' ⟨rfl, rfl⟩)
  rw [rounds_succ]
  go_wp2_with (go_at_call 207; refine (room_any _ _ (by omega) (by omega)).mono ?_; rintro e w' ⟨rfl, rfl⟩)
  go_ret2
  exact ⟨rfl, rfl⟩
set_option maxHeartbeats 400000 in
theorem shortest_2 (m : Nat) (w : World) (hl : 16384 ≤ m) (hh : m < 1073741824) (ht : Tab w) :
    Calls Tryz.prog 205 #[.int .u64 m] w fun e w' => e = .returned (.tuple #[.int .i64 2, .bool true]) ∧ w = w' := by
  obtain ⟨t0, t1, t2, t3⟩ := ht
  have i0 := i0; have i1 := i1; have i2 := i2; have i3 := i3
  have q0 : ((m : Int) / 64 == 0) = false := by rw [beq_eq_false_iff_ne]; omega
  have q1 : ((m : Int) / 16384 == 0) = false := by rw [beq_eq_false_iff_ne]; omega
  have q2 : ((m : Int) / 1073741824 == 0) = true := by rw [beq_iff_eq]; omega
  go_enter Tryz.func205, Tryz.ntmps205
  go_wp2
  refine wp_loop_rounds 5 ?_
  rw [rounds_succ]
  go_wp2_with (go_at_call 207; refine (room_any _ _ (by omega) (by omega)).mono ?_; rintro e w' ⟨rfl, rfl⟩)
  rw [rounds_succ]
  go_wp2_with (go_at_call 207; refine (room_any _ _ (by omega) (by omega)).mono ?_; rintro e w' ⟨rfl, rfl⟩)
  rw [rounds_succ]
  go_wp2_with (go_at_call 207; refine (room_any _ _ (by omega) (by omega)).mono ?_; rintro e w' ⟨rfl, rfl⟩)
  go_ret2
  exact ⟨rfl, rfl⟩
set_option maxHeartbeats 400000 in
theorem shortest_3 (m : Nat) (w : World) (hl : 1073741824 ≤ m) (hh : m < 4611686018427387904) (ht : Tab w) :
    Calls Tryz.prog 205 #[.int .u64 m] w fun e w' => e = .returned (.tuple #[.int .i64 3, .bool true]) ∧ w = w' := by
  obtain ⟨t0, t1, t2, t3⟩ := ht
  have i0 := i0; have i1 := i1; have i2 := i2; have i3 := i3
  have q0 : ((m : Int) / 64 == 0) = false := by rw [beq_eq_false_iff_ne]; omega
  have q1 : ((m : Int) / 16384 == 0) = false := by rw [beq_eq_false_iff_ne]; omega
  have q2 : ((m : Int) / 1073741824 == 0) = false := by rw [beq_eq_false_iff_ne]; omega
  have q3 : ((m : Int) / 4611686018427387904 == 0) = true := by rw [beq_iff_eq]; omega
  go_enter Tryz.func205, Tryz.ntmps205
  go_wp2
  refine wp_loop_rounds 5 ?_
  rw [rounds_succ]
  go_wp2_with (go_at_call 207; refine (room_any _ _ (by omega) (by omega)).mono ?_; rintro e w' ⟨rfl, rfl⟩)
  rw [rounds_succ]
  go_wp2_with (go_at_call 207; refine (room_any _ _ (by omega) (by omega)).mono ?_; rintro e w' ⟨rfl, rfl⟩)
  rw [rounds_succ]
  go_wp2_with (go_at_call 207; refine (room_any _ _ (by omega) (by omega)).mono ?_; rintro e w' ⟨rfl, rfl⟩)
  rw [rounds_succ]
  go_wp2_with (go_at_call 207; refine (room_any _ _ (by omega) (by omega)).mono ?_; rintro e w' ⟨rfl, rfl⟩)
  go_ret2
  exact ⟨rfl, rfl⟩
set_option maxHeartbeats 400000 in
theorem shortest_4 (m : Nat) (w : World) (hl : 4611686018427387904 ≤ m) (ht : Tab w) :
    Calls Tryz.prog 205 #[.int .u64 m] w fun e w' => e = .returned (.tuple #[.int .i64 0, .bool false]) ∧ w = w' := by
  obtain ⟨t0, t1, t2, t3⟩ := ht
  have i0 := i0; have i1 := i1; have i2 := i2; have i3 := i3
  have q0 : ((m : Int) / 64 == 0) = false := by rw [beq_eq_false_iff_ne]; omega
  have q1 : ((m : Int) / 16384 == 0) = false := by rw [beq_eq_false_iff_ne]; omega
  have q2 : ((m : Int) / 1073741824 == 0) = false := by rw [beq_eq_false_iff_ne]; omega
  have q3 : ((m : Int) / 4611686018427387904 == 0) = false := by rw [beq_eq_false_iff_ne]; omega
  go_enter Tryz.func205, Tryz.ntmps205
  go_wp2
  refine wp_loop_rounds 5 ?_
  rw [rounds_succ]
  go_wp2_with (go_at_call 207; refine (room_any _ _ (by omega) (by omega)).mono ?_; rintro e w' ⟨rfl, rfl⟩)
  rw [rounds_succ]
  go_wp2_with (go_at_call 207; refine (room_any _ _ (by omega) (by omega)).mono ?_; rintro e w' ⟨rfl, rfl⟩)
  rw [rounds_succ]
  go_wp2_with (go_at_call 207; refine (room_any _ _ (by omega) (by omega)).mono ?_; rintro e w' ⟨rfl, rfl⟩)
  rw [rounds_succ]
  go_wp2_with (go_at_call 207; refine (room_any _ _ (by omega) (by omega)).mono ?_; rintro e w' ⟨rfl, rfl⟩)
  rw [rounds_succ]
  go_wp2_with (go_at_call 207; refine (room_any _ _ (by omega) (by omega)).mono ?_; rintro e w' ⟨rfl, rfl⟩)
  go_ret2
  exact ⟨rfl, rfl⟩
end Go.Proofs.YtoblmhpjendbfaaGreatDoor.Vm
namespace Go.Proofs.YtoblmhpjendbfaaGreatDoor.Vm
set_option maxRecDepth 20000
open Go.RowKit
set_option linter.unusedVariables false

theorem conv8 (w : World) (c0 c1 c2 c3 c4 c5 c6 c7 : Int) (j len : Nat) (hl : len + j = 8) :
    (convert 140 9 (.slice (some ⟨w.heap.size, j, none⟩) len len)).run Tryz.prog (w.alloc (.cells #[.int .u8 c0, .int .u8 c1, .int .u8 c2, .int .u8 c3, .int .u8 c4, .int .u8 c5, .int .u8 c6, .int .u8 c7] 266)) =
      .ok (.string (strOfNums ([c0, c1, c2, c3, c4, c5, c6, c7].drop j))) (w.alloc (.cells #[.int .u8 c0, .int .u8 c1, .int .u8 c2, .int .u8 c3, .int .u8 c4, .int .u8 c5, .int .u8 c6, .int .u8 c7] 266)) := by
  refine run_convert_bytes_arg (P := Tryz.prog) _ 140 5 Tryz.underlying140 Tryz.underlying5 w.heap.size j len len ([c0, c1, c2, c3, c4, c5, c6, c7].drop j) (by simp; omega) ?_ 9 Tryz.underlying9
  intro i hi
  have : j + i < 8 := by omega
  have e : (List.drop j [c0, c1, c2, c3, c4, c5, c6, c7]).getD i 0 = [c0, c1, c2, c3, c4, c5, c6, c7].getD (j + i) 0 := by
    simp [List.getD, List.getElem?_drop]
  rw [e]
  generalize j + i = q at *
  match q, this with
  | 0, _ | 1, _ | 2, _ | 3, _ | 4, _ | 5, _ | 6, _ | 7, _ => simp

theorem byte_eq (n a : Nat) (x : Int) (h : x.toNat % 256 = n / a % 256) : UInt8.ofNat x.toNat = UInt8.ofNat (n / a % 256) := by
  apply UInt8.toNat_inj.1
  rw [UInt8.toNat_ofNat', UInt8.toNat_ofNat']; omega

theorem fx8 (n : Nat) (hn : (n : Int) ≤ 18446744073709551615) (j k : Nat) (h : k + j = 8) : strOfNums ([(n : Int) / 72057594037927936, (n : Int) / 281474976710656 % 256, (n : Int) / 1099511627776 % 256, (n : Int) / 4294967296 % 256, (n : Int) / 16777216 % 256, (n : Int) / 65536 % 256, (n : Int) / 256 % 256, (n : Int) % 256].drop j) = ⟨(fx n k).toArray⟩ := by
  have e : strOfNums ([(n : Int) / 72057594037927936, (n : Int) / 281474976710656 % 256, (n : Int) / 1099511627776 % 256, (n : Int) / 4294967296 % 256, (n : Int) / 16777216 % 256, (n : Int) / 65536 % 256, (n : Int) / 256 % 256, (n : Int) % 256].drop j) = ⟨((fx n 8).drop j).toArray⟩ := by
    unfold strOfNums
    rw [List.map_drop]
    have : List.map (fun n : Int => UInt8.ofNat n.toNat) [(n : Int) / 72057594037927936, (n : Int) / 281474976710656 % 256, (n : Int) / 1099511627776 % 256, (n : Int) / 4294967296 % 256, (n : Int) / 16777216 % 256, (n : Int) / 65536 % 256, (n : Int) / 256 % 256, (n : Int) % 256] = fx n 8 := by
      simp only [List.map_cons, List.map_nil, fx]
      rw [byte_eq n (256 ^ 7) _ (by omega), byte_eq n (256 ^ 6) _ (by omega), byte_eq n (256 ^ 5) _ (by omega), byte_eq n (256 ^ 4) _ (by omega), byte_eq n (256 ^ 3) _ (by omega), byte_eq n (256 ^ 2) _ (by omega), byte_eq n (256 ^ 1) _ (by omega), byte_eq n (256 ^ 0) _ (by omega)]
    rw [this]
  rw [e]
  have : ∀ j k, k + j = 8 → (fx n 8).drop j = fx n k := by
    intro j k h
    match j, k, h with
    | 0, 8, _ | 1, 7, _ | 2, 6, _ | 3, 5, _ | 4, 4, _ | 5, 3, _ | 6, 2, _ | 7, 1, _ | 8, 0, _ => rfl
  rw [this j k h]

theorem slice8 (k b : Nat) (W : World) (h1 : 1 ≤ k) (h8 : k ≤ 8) :
    (Instr.sliceAt 266 (.pointer (some ⟨b, 0, none⟩)) (some (.int .i64 (8 - (k : Int)))) none none).run Tryz.prog W = .ok (.slice (some ⟨b, 8 - k, none⟩) k k) W := by
  have : k = 1 ∨ k = 2 ∨ k = 3 ∨ k = 4 ∨ k = 5 ∨ k = 6 ∨ k = 7 ∨ k = 8 := by omega
  rcases this with rfl | rfl | rfl | rfl | rfl | rfl | rfl | rfl
  all_goals (show _ = _; kernel_rfl)

set_option maxHeartbeats 1000000 in
set_option maxRecDepth 100000 in
theorem vfixed (n k : Nat) (w : World) (hn : (n : Int) ≤ 18446744073709551615) (h1 : 1 ≤ k) (hk : k ≤ 8) :
    Calls Tryz.prog 206 #[.int .u64 n, .int .i64 k] w fun e w' => e = .returned (.string ⟨(fx n k).toArray⟩) ∧ Below w.heap.size w w' := by
  have hs := fun W => slice8 k w.heap.size W h1 hk
  have hc := Lib.hid (conv8 w (n / 72057594037927936) (n / 281474976710656 % 256) (n / 1099511627776 % 256) (n / 4294967296 % 256) (n / 16777216 % 256) (n / 65536 % 256) (n / 256 % 256) (n % 256) (8 - k) k (by omega))
  rw [fx8 n hn (8 - k) k (by omega)] at hc
  go_enter Tryz.func206, Tryz.ntmps206
  go_wp2
  refine wp_loop_rounds 9 ?_
  iterate 9 (rw [rounds_succ]; go_wp2)
  rw [hc.out]
  go_wp2
  go_ret
  exact ⟨rfl, (Below.refl _ _).alloc (Nat.le_refl _) _⟩
end Go.Proofs.YtoblmhpjendbfaaGreatDoor.Vm
namespace Go.Proofs.YtoblmhpjendbfaaGreatDoor.Vm
set_option maxRecDepth 20000
open Go.RowKit
set_option linter.unusedVariables false

end Go.Proofs.YtoblmhpjendbfaaGreatDoor.Vm
namespace Go.Proofs.YtoblmhpjendbfaaGreatDoor.Vm
set_option maxRecDepth 20000
open Go.RowKit
set_option linter.unusedVariables false

theorem bits_or_u64_nat (a b : Nat) (ha : a < 2 ^ 64) (hb : b < 2 ^ 64) : bits .or .u64 (a : Int) (b : Int) = ((a ||| b : Nat) : Int) := by
  have hx : a ||| b < 2 ^ 64 := Nat.or_lt_two_pow ha hb
  have h1 : (BitVec.ofInt 64 (a : Int)).toNat = a := by
    rw [BitVec.ofInt_natCast, BitVec.toNat_ofNat]; exact Nat.mod_eq_of_lt ha
  have h2 : (BitVec.ofInt 64 (b : Int)).toNat = b := by
    rw [BitVec.ofInt_natCast, BitVec.toNat_ofNat]; exact Nat.mod_eq_of_lt hb
  show IntKind.u64.wrap ((BitVec.ofInt 64 (a : Int) ||| BitVec.ofInt 64 (b : Int)).toNat : Int) = _
  rw [BitVec.toNat_or, h1, h2, IntKind.wrap_u64]
  omega
/-- Two numbers that share no bit, laid on one another, are their sum. -/
theorem or_sum (i a b : Nat) (hb : b < 2 ^ i) (h : a * 2 ^ i < 2 ^ 64) (h64 : 2 ^ i ≤ 2 ^ 64) : bits .or .u64 ((a * 2 ^ i : Nat) : Int) (b : Int) = ((a * 2 ^ i + b : Nat) : Int) := by
  rw [bits_or_u64_nat _ _ h (Nat.lt_of_lt_of_le hb h64)]
  have := Nat.shiftLeft_add_eq_or_of_lt hb a
  rw [Nat.shiftLeft_eq] at this
  rw [this]
end Go.Proofs.YtoblmhpjendbfaaGreatDoor.Vm
namespace Go.Proofs.YtoblmhpjendbfaaGreatDoor.Vm
set_option maxRecDepth 20000
open Go.RowKit
set_option linter.unusedVariables false

theorem vfixed' (n k : Int) (w : World) (h0 : 0 ≤ n) (hn : n ≤ 18446744073709551615) (h1 : 1 ≤ k) (hk : k ≤ 8) :
    Calls Tryz.prog 206 #[.int .u64 n, .int .i64 k] w fun e w' => e = .returned (.string ⟨(fx n.toNat k.toNat).toArray⟩) ∧ Below w.heap.size w w' := by
  obtain ⟨n, rfl⟩ := Int.eq_ofNat_of_zero_le h0
  obtain ⟨k, rfl⟩ := Int.eq_ofNat_of_zero_le (show 0 ≤ k by omega)
  exact vfixed n k w hn (by omega) (by omega)
theorem pt_0 (n : Nat) (hh : n < 64) : fx n 1 = pt n := by
  have hp : pl n = 0 := by have := pl_cases n; omega
  unfold pt
  rw [hp, show 0 * 2 ^ (8 * wd 0 - 2) = 0 from by decide, show wd 0 = 1 from rfl, Nat.zero_add]
theorem or_0 (n : Nat) (hh : n < 64) : bits .or .u64 0 (n : Int) = ((0 + n : Nat) : Int) := by
  have h := or_sum 6 0 n (by omega) (by omega) (by omega)
  exact h
set_option maxHeartbeats 400000 in
theorem vput_0 (n : Int) (w : World) (ht : Tab w) (hl : 0 ≤ n) (hh : n < 64) :
    Calls Tryz.prog 180 #[.int .u64 n] w fun e w' => e = .returned (.tuple #[.string ⟨(pt n.toNat).toArray⟩, .int .i64 0]) ∧ Below w.heap.size w w' := by
  obtain ⟨n, rfl⟩ := Int.eq_ofNat_of_zero_le (show 0 ≤ n by omega)
  have ht' := Lib.hid ht
  obtain ⟨t0, t1, t2, t3⟩ := ht
  have HO := Lib.hid (or_0 n (by omega))
  go_enter Tryz.func180, Tryz.ntmps180
  go_wp2_with fail
  refine (shortest_0 _ _ (by omega) ht'.out).mono ?_
  rintro e w' ⟨rfl, rfl⟩
  go_wp2_with fail
  refine (room_any _ _ (by omega) (by omega)).mono ?_
  rintro e w' ⟨rfl, rfl⟩
  go_wp2_with fail
  rw [HO.out]
  refine (vfixed' _ _ _ (by omega) (by omega) (by omega) (by omega)).mono ?_
  rintro e w' ⟨rfl, hb⟩
  go_wp2
  go_ret2
  refine ⟨?_, hb⟩
  rw [Int.toNat_natCast, ← pt_0 n (by omega)]
  rfl
theorem pt_1 (n : Nat) (hl : 64 ≤ n) (hh : n < 16384) : fx (16384 + n) 2 = pt n := by
  have hp : pl n = 1 := by have := pl_cases n; omega
  unfold pt
  rw [hp, show 1 * 2 ^ (8 * wd 1 - 2) = 16384 from by decide, show wd 1 = 2 from rfl]
theorem or_1 (n : Nat) (hh : n < 16384) : bits .or .u64 16384 (n : Int) = ((16384 + n : Nat) : Int) := by
  have h := or_sum 14 1 n (by omega) (by omega) (by omega)
  exact h
set_option maxHeartbeats 400000 in
theorem vput_1 (n : Int) (w : World) (ht : Tab w) (hl : 64 ≤ n) (hh : n < 16384) :
    Calls Tryz.prog 180 #[.int .u64 n] w fun e w' => e = .returned (.tuple #[.string ⟨(pt n.toNat).toArray⟩, .int .i64 0]) ∧ Below w.heap.size w w' := by
  obtain ⟨n, rfl⟩ := Int.eq_ofNat_of_zero_le (show 0 ≤ n by omega)
  have ht' := Lib.hid ht
  obtain ⟨t0, t1, t2, t3⟩ := ht
  have HO := Lib.hid (or_1 n (by omega))
  go_enter Tryz.func180, Tryz.ntmps180
  go_wp2_with fail
  refine (shortest_1 _ _ (by omega) (by omega) ht'.out).mono ?_
  rintro e w' ⟨rfl, rfl⟩
  go_wp2_with fail
  refine (room_any _ _ (by omega) (by omega)).mono ?_
  rintro e w' ⟨rfl, rfl⟩
  go_wp2_with fail
  rw [HO.out]
  refine (vfixed' _ _ _ (by omega) (by omega) (by omega) (by omega)).mono ?_
  rintro e w' ⟨rfl, hb⟩
  go_wp2
  go_ret2
  refine ⟨?_, hb⟩
  rw [Int.toNat_natCast, ← pt_1 n (by omega) (by omega)]
  rfl
theorem pt_2 (n : Nat) (hl : 16384 ≤ n) (hh : n < 1073741824) : fx (2147483648 + n) 4 = pt n := by
  have hp : pl n = 2 := by have := pl_cases n; omega
  unfold pt
  rw [hp, show 2 * 2 ^ (8 * wd 2 - 2) = 2147483648 from by decide, show wd 2 = 4 from rfl]
theorem or_2 (n : Nat) (hh : n < 1073741824) : bits .or .u64 2147483648 (n : Int) = ((2147483648 + n : Nat) : Int) := by
  have h := or_sum 30 2 n (by omega) (by omega) (by omega)
  exact h
set_option maxHeartbeats 400000 in
theorem vput_2 (n : Int) (w : World) (ht : Tab w) (hl : 16384 ≤ n) (hh : n < 1073741824) :
    Calls Tryz.prog 180 #[.int .u64 n] w fun e w' => e = .returned (.tuple #[.string ⟨(pt n.toNat).toArray⟩, .int .i64 0]) ∧ Below w.heap.size w w' := by
  obtain ⟨n, rfl⟩ := Int.eq_ofNat_of_zero_le (show 0 ≤ n by omega)
  have ht' := Lib.hid ht
  obtain ⟨t0, t1, t2, t3⟩ := ht
  have HO := Lib.hid (or_2 n (by omega))
  go_enter Tryz.func180, Tryz.ntmps180
  go_wp2_with fail
  refine (shortest_2 _ _ (by omega) (by omega) ht'.out).mono ?_
  rintro e w' ⟨rfl, rfl⟩
  go_wp2_with fail
  refine (room_any _ _ (by omega) (by omega)).mono ?_
  rintro e w' ⟨rfl, rfl⟩
  go_wp2_with fail
  rw [HO.out]
  refine (vfixed' _ _ _ (by omega) (by omega) (by omega) (by omega)).mono ?_
  rintro e w' ⟨rfl, hb⟩
  go_wp2
  go_ret2
  refine ⟨?_, hb⟩
  rw [Int.toNat_natCast, ← pt_2 n (by omega) (by omega)]
  rfl
theorem pt_3 (n : Nat) (hl : 1073741824 ≤ n) (hh : n < 4611686018427387904) : fx (13835058055282163712 + n) 8 = pt n := by
  have hp : pl n = 3 := by have := pl_cases n; omega
  unfold pt
  rw [hp, show 3 * 2 ^ (8 * wd 3 - 2) = 13835058055282163712 from by decide, show wd 3 = 8 from rfl]
theorem or_3 (n : Nat) (hh : n < 4611686018427387904) : bits .or .u64 13835058055282163712 (n : Int) = ((13835058055282163712 + n : Nat) : Int) := by
  have h := or_sum 62 3 n (by omega) (by omega) (by omega)
  exact h
set_option maxHeartbeats 400000 in
theorem vput_3 (n : Int) (w : World) (ht : Tab w) (hl : 1073741824 ≤ n) (hh : n < 4611686018427387904) :
    Calls Tryz.prog 180 #[.int .u64 n] w fun e w' => e = .returned (.tuple #[.string ⟨(pt n.toNat).toArray⟩, .int .i64 0]) ∧ Below w.heap.size w w' := by
  obtain ⟨n, rfl⟩ := Int.eq_ofNat_of_zero_le (show 0 ≤ n by omega)
  have ht' := Lib.hid ht
  obtain ⟨t0, t1, t2, t3⟩ := ht
  have HO := Lib.hid (or_3 n (by omega))
  go_enter Tryz.func180, Tryz.ntmps180
  go_wp2_with fail
  refine (shortest_3 _ _ (by omega) (by omega) ht'.out).mono ?_
  rintro e w' ⟨rfl, rfl⟩
  go_wp2_with fail
  refine (room_any _ _ (by omega) (by omega)).mono ?_
  rintro e w' ⟨rfl, rfl⟩
  go_wp2_with fail
  rw [HO.out]
  refine (vfixed' _ _ _ (by omega) (by omega) (by omega) (by omega)).mono ?_
  rintro e w' ⟨rfl, hb⟩
  go_wp2
  go_ret2
  refine ⟨?_, hb⟩
  rw [Int.toNat_natCast, ← pt_3 n (by omega) (by omega)]
  rfl
set_option maxHeartbeats 400000 in
theorem vput_4 (n : Int) (w : World) (ht : Tab w) (hl : 4611686018427387904 ≤ n) :
    Calls Tryz.prog 180 #[.int .u64 n] w fun e w' => e = .returned (.tuple #[.string ⟨#[]⟩, .int .i64 1]) ∧ Below w.heap.size w w' := by
  obtain ⟨n, rfl⟩ := Int.eq_ofNat_of_zero_le (show 0 ≤ n by omega)
  have ht' := Lib.hid ht
  obtain ⟨t0, t1, t2, t3⟩ := ht
  go_enter Tryz.func180, Tryz.ntmps180
  go_wp2_with fail
  refine (shortest_4 _ _ (by omega) ht'.out).mono ?_
  rintro e w' ⟨rfl, rfl⟩
  go_wp2
  go_ret2
  exact ⟨rfl, Below.refl _ _⟩
end Go.Proofs.YtoblmhpjendbfaaGreatDoor.Vm
namespace Go.Proofs.YtoblmhpjendbfaaGreatDoor.Vm
set_option maxRecDepth 20000
open Go.RowKit
set_option linter.unusedVariables false

/-- What Put tells: the bytes, and the error's number. -/
def ps (n : Nat) : List UInt8 := if pl n = 4 then [] else pt n
def pe (n : Nat) : Int := if pl n = 4 then 1 else 0
theorem ps_ok {n : Nat} (h : pl n < 4) : ps n = pt n ∧ pe n = 0 := by unfold ps pe; rw [if_neg (by omega), if_neg (by omega)]; exact ⟨rfl, rfl⟩
theorem ps_no {n : Nat} (h : pl n = 4) : ps n = [] ∧ pe n = 1 := by unfold ps pe; rw [if_pos h, if_pos h]; exact ⟨rfl, rfl⟩

theorem vput (n : Int) (w : World) (ht : Tab w) (h0 : 0 ≤ n) :
    Calls Tryz.prog 180 #[.int .u64 n] w fun e w' => e = .returned (.tuple #[.string ⟨(ps n.toNat).toArray⟩, .int .i64 (pe n.toNat)]) ∧ Below w.heap.size w w' := by
  rcases pl_cases n.toNat with ⟨hp, h1⟩ | ⟨hp, h1, h2⟩ | ⟨hp, h1, h2⟩ | ⟨hp, h1, h2⟩ | ⟨hp, h1⟩
  · have := ps_ok (n := n.toNat) (by omega); rw [this.1, this.2]; exact vput_0 n w ht (by omega) (by omega)
  · have := ps_ok (n := n.toNat) (by omega); rw [this.1, this.2]; exact vput_1 n w ht (by omega) (by omega)
  · have := ps_ok (n := n.toNat) (by omega); rw [this.1, this.2]; exact vput_2 n w ht (by omega) (by omega)
  · have := ps_ok (n := n.toNat) (by omega); rw [this.1, this.2]; exact vput_3 n w ht (by omega) (by omega)
  · have := ps_no hp; rw [this.1, this.2]; exact vput_4 n w ht (by omega)
theorem size_len (s : ByteArray) : s.size = s.data.toList.length := by simp
end Go.Proofs.YtoblmhpjendbfaaGreatDoor.Vm
namespace Go.Proofs.YtoblmhpjendbfaaGreatDoor.Vm
set_option maxRecDepth 20000
open Go.RowKit
set_option linter.unusedVariables false

theorem Tab.below {B : Nat} {w w' : World} (h : Tab w) (hb : Below B w w') (hB : 0 < B) : Tab w' :=
  ⟨(hb.cell (p := ⟨0, 0, none⟩) hB).trans h.1, (hb.cell (p := ⟨0, 1, none⟩) hB).trans h.2.1,
   (hb.cell (p := ⟨0, 2, none⟩) hB).trans h.2.2.1, (hb.cell (p := ⟨0, 3, none⟩) hB).trans h.2.2.2⟩
theorem Tab.lt {w : World} (h : Tab w) : 0 < w.heap.size := by
  rcases Nat.lt_or_ge 0 w.heap.size with h1 | h1
  · exact h1
  · have := h.1
    simp [World.cell?, Array.getElem?_eq_none h1] at this
theorem below_drewN {B : Nat} {a w : World} (h : Below B a w) (n : Nat) : Below B a (w.drewN n) := h.trans ⟨rfl, rfl, rfl, Nat.le_refl _, fun _ _ => rfl⟩
theorem Tab.drewN {w : World} (h : Tab w) (n : Nat) : Tab (w.drewN n) := h.below (below_drewN (Below.refl w.heap.size w) n) h.lt

end Go.Proofs.YtoblmhpjendbfaaGreatDoor.Vm
namespace Go.Proofs.YtoblmhpjendbfaaGreatDoor
set_option maxRecDepth 20000
open Go.RowKit
set_option linter.unusedVariables false
/-- What a walk is told of a slice of integers that came in. -/
def IsRow (k : IntKind) (w : World) (a : Option Addr) (len cap : Nat) (zs : List Int) : Prop :=
  (a = none ∧ len = 0 ∧ cap = 0 ∧ zs = []) ∨
  ∃ x, a = some x ∧ len ≤ cap ∧ cap ≤ maxLen ∧ zs.length = cap ∧ (∀ i, i < zs.length → w.cell? (x.add i) = some (.int k (zs.getD i 0))) ∧ ∀ n ∈ zs, (Lit.int k n).wf = true

theorem gLengths : Tryz.prog.globalNamed "domino/varint.lengths" = some 0 := by kernel_rfl
theorem tLengths : (Tryz.prog.globals[0]?).map (·.type) = some 257 := by kernel_rfl
theorem cellsInt : Tryz.prog.cellsOf 3 = 1 := by kernel_rfl
theorem cellsArr : Tryz.prog.cellsOf 257 = 4 := by kernel_rfl
theorem tab_of {W : World} (h : laidMetH Tryz.prog [("domino/varint.lengths", Rows.laid_domino_varint_lengths)] W) : Vm.Tab W := by
  rw [MakeChecks.laidMetH_plain _ _ _ (by kernel_rfl)] at h
  have h1 := Lib.tabIs_of_head (zs := [1, 2, 4, 8]) (k := .i64) gLengths tLengths Tryz.underlying257 Tryz.underlying3 cellsInt cellsArr h
  exact ⟨h1.cell gLengths 0 (by decide), h1.cell gLengths 1 (by decide), h1.cell gLengths 2 (by decide), h1.cell gLengths 3 (by decide)⟩
end Go.Proofs.YtoblmhpjendbfaaGreatDoor
namespace Go.Proofs.YtoblmhpjendbfaaGreatDoor.Vm
set_option maxRecDepth 20000
open Go.RowKit
set_option linter.unusedVariables false

theorem pt_le (n : Nat) (h : pl n < 4) : 1 ≤ (pt n).length ∧ (pt n).length ≤ 8 := by
  rw [pt_length]
  have : pl n = 0 ∨ pl n = 1 ∨ pl n = 2 ∨ pl n = 3 := by omega
  rcases this with h | h | h | h <;> rw [h] <;> decide
end Go.Proofs.YtoblmhpjendbfaaGreatDoor.Vm
