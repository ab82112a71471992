/- The walks of layer 7: the greatest number that fits; squares, cubes; what is below. -/
import Derived.Test.YthjphechdhbenaaDgE
import Derived.Test.YthjphechdhbenaaShelf
import Derived.Deep.QuietTactic
import Derived.BigQuiet
namespace Go.Proofs.Ythjphechdhbenaa.Dg
set_option maxRecDepth 20000
open Go.RowKit
set_option linter.unusedVariables false
set_option linter.unusedSimpArgs false

def bitv : Nat → Nat
  | 0 => 0
  | k + 1 => 2 ^ k
theorem bitv_half (k : Nat) : bitv (k + 1) / 2 = bitv k := by
  cases k with
  | zero => rfl
  | succ k => show 2 ^ (k + 1) / 2 = 2 ^ k; rw [Nat.pow_succ]; omega
theorem bitv_le (k : Nat) (h : k ≤ 35) : bitv k ≤ 17179869184 := by
  cases k with
  | zero => exact Nat.zero_le _
  | succ k => exact Nat.pow_le_pow_right (n := 2) (by decide) (show k ≤ 34 by omega)
theorem bitv_pos (k : Nat) : 1 ≤ bitv (k + 1) := Nat.one_le_two_pow
theorem or35 {n k : Nat} (hn : n < 34359738368) (hk : k ≤ 34) : n ||| 2 ^ k < 34359738368 :=
  Nat.or_lt_two_pow (n := 35) hn (Nat.pow_lt_pow_right (by decide) (by omega))
def GrPost (f : Nat → Bool) (w : World) (e : Ending) (w' : World) : Prop := e = .returned (.int .u64 (grt f 35 0 : Nat)) ∧ ∃ k, w' = w.drewN k
/-- What the loop bears. -/
def GrR (f : Nat → Bool) (w : World) (nv bv : Value) (wr : World) : Prop := ∃ k n m : Nat, k ≤ 35 ∧ nv = .int .u64 n ∧ bv = .int .u64 (bitv k : Nat) ∧ n < 34359738368 ∧ grt f k n = grt f 35 0 ∧ wr = w.drewN m
theorem grt_yes {f : Nat → Bool} {k n : Nat} (h : f (n ||| 2 ^ k) = true) : grt f (k + 1) n = grt f k (n ||| 2 ^ k) := by rw [grt, if_pos h]
theorem grt_no {f : Nat → Bool} {k n : Nat} (h : ¬ f (n ||| 2 ^ k) = true) : grt f (k + 1) n = grt f k n := by rw [grt, if_neg h]
set_option maxHeartbeats 4000000 in
theorem greatest_any (f : Nat → Bool) (p1 p2 : Addr) (w : World)
    (HC : Hid (∀ (m n : Nat), n < 34359738368 → Calls Try.prog 70 #[.int .u64 n, .pointer (some p1), .pointer (some p2)] (w.drewN m) fun e w' => e = .returned (.bool (f n)) ∧ ∃ k, w' = w.drewN k)) :
    Calls Try.prog 71 #[.func (.func 70) #[] #[.pointer (some p1), .pointer (some p2)]] w (GrPost f w) := by
  go_enter Try.func71, Try.ntmps71
  go_wp2
  go_loopw [3, 4] (fun nv bv wr => GrR f w nv bv wr) (fun _ bv _ => (intOf bv).toNat)
  case atStart => exact ⟨35, 0, 0, by omega, rfl, rfl, by decide, rfl, rfl⟩
  case round =>
    obtain ⟨k, n, m, hk, rfl, rfl, hn, hg, rfl⟩ := hrel
    have HG := Lib.hid hg
    clear hg
    cases k with
    | zero =>
      have hb0 : bitv 0 = 0 := rfl
      rw [hb0]
      go_wp2
      go_ret
      exact ⟨by rw [← HG.out]; rfl, m, rfl⟩
    | succ k =>
      have hb1 := bitv_pos k
      have hb2 := bitv_le (k + 1) hk
      have e1 : ((bitv (k + 1) : Nat) : Int) / 2 = (bitv k : Nat) := by rw [← bitv_half k]; omega
      have e2 : bits .or .u64 (n : Int) ((bitv (k + 1) : Nat) : Int) = ((n ||| 2 ^ k : Nat) : Int) := bits_or_u64_nat n (bitv (k + 1)) (by omega) (by omega)
      have ho := or35 hn (show k ≤ 34 by omega)
      have HY : Hid (f (n ||| 2 ^ k) = true → grt f k (n ||| 2 ^ k) = grt f 35 0) := Lib.hid (fun h => by rw [← HG.out]; exact (grt_yes h).symm)
      have HN : Hid (¬ f (n ||| 2 ^ k) = true → grt f k n = grt f 35 0) := Lib.hid (fun h => by rw [← HG.out]; exact (grt_no h).symm)
      have hbb := bitv_half k
      generalize n ||| 2 ^ k = x at *
      have hbb : bitv k < bitv (k + 1) := by omega
      generalize bitv (k + 1) = B at *
      obtain ⟨B2, hB2⟩ : ∃ B2, bitv k = B2 := ⟨_, rfl⟩
      rw [hB2] at e1 hbb
      have HB2 := Lib.hid hB2
      clear hB2
      go_wp2_with fail
      refine (HC.out _ x ho).mono ?_
      rintro e w1 ⟨rfl, m2, rfl⟩
      by_cases hf : f x = true
      · rw [hf]
        have HF := Lib.hid hf
        clear hf
        go_wp2
        go_roundw
        case rel => exact ⟨k, x, _, by omega, rfl, by rw [HB2.out], ho, HY.out HF.out, rfl⟩
        case measure => simp [intOf]; omega
      · have hf2 : f x = false := by simpa using hf
        rw [hf2]
        have HF := Lib.hid hf
        clear hf hf2
        go_wp2
        go_roundw
        case rel => exact ⟨k, n, _, by omega, rfl, by rw [HB2.out], hn, HN.out HF.out, rfl⟩
        case measure => simp [intOf]; omega
set_option maxHeartbeats 1000000 in
theorem sq_any (n : Nat) (w : World) (hn : n < 34359738368) : Calls Try.prog 54 #[.int .u64 n] w fun e w' => e = .returned (.int .u64 (sq n : Nat)) ∧ w' = w := by
  have CM := Lib.hid (fun w => Try.bits_Mul64 n n (by omega) (by omega) w)
  obtain ⟨S, hS⟩ : ∃ S, n * n / 18446744073709551616 = S := ⟨_, rfl⟩
  rw [hS] at CM
  have HS : Hid (sq n = S) := Lib.hid hS
  clear hS
  go_enter Try.func54, Try.ntmps54
  go_wp2_with fail
  refine (CM.out _).mono ?_
  rintro e w1 ⟨rfl, rfl⟩
  go_wp2
  go_ret
  exact ⟨by rw [HS.out]; rfl, rfl⟩
set_option maxHeartbeats 1000000 in
theorem cb_any (n : Nat) (w : World) (hn : n < 34359738368) : Calls Try.prog 56 #[.int .u64 n] w fun e w' => e = .returned (.int .u64 (cb n : Nat)) ∧ w' = w := by
  have CM := Lib.hid (fun w => Try.bits_Mul64 n n (by omega) (by omega) w)
  obtain ⟨S, hS⟩ : ∃ S, n * n / 18446744073709551616 = S := ⟨_, rfl⟩
  obtain ⟨T, hT⟩ : ∃ T, n * n % 18446744073709551616 = T := ⟨_, rfl⟩
  have hT1 : T < 18446744073709551616 := by rw [← hT]; exact Nat.mod_lt _ (by decide)
  have hnn : n * n ≤ 34359738367 * 34359738367 := Nat.mul_le_mul (by omega) (by omega)
  have hS1 : S ≤ 63 := by rw [← hS]; exact Nat.le_trans (Nat.div_le_div_right hnn) (by decide)
  have CN := Lib.hid (fun w => Try.bits_Mul64 T n hT1 (by omega) w)
  obtain ⟨U, hU⟩ : ∃ U, T * n / 18446744073709551616 = U := ⟨_, rfl⟩
  have hU1 : U ≤ 34359738367 := by rw [← hU]; exact Nat.le_trans (Nat.div_le_div_right (Nat.mul_le_mul (show T ≤ 18446744073709551616 by omega) (show n ≤ 34359738367 by omega))) (by decide)
  obtain ⟨X, hX⟩ : ∃ X, S * n = X := ⟨_, rfl⟩
  have hX1 : X ≤ 63 * 34359738367 := by rw [← hX]; exact Nat.mul_le_mul hS1 (by omega)
  have eX : (S : Int) * (n : Int) = (X : Int) := by rw [← hX]; push_cast; rfl
  have HR : Hid (cb n = (X + U) / 4294967296) := Lib.hid (by unfold cb; rw [hS, hT, hU, hX])
  rw [hS, hT] at CM
  rw [hU] at CN
  clear hS hT hU hX hnn
  generalize T * n % 18446744073709551616 = Y at CN
  have eF : Hid ((((X + U) / 4294967296 : Nat) : Int) = ((X : Int) + (U : Int)) / 4294967296) := Lib.hid (by omega)
  have i1 : (S : Int) ≤ 63 := by omega
  have i2 : (U : Int) ≤ 34359738367 := by omega
  have i3 : (X : Int) ≤ 2164663517121 := by omega
  clear hT1 hS1 hU1 hX1 hn
  go_enter Try.func56, Try.ntmps56
  go_wp2_with fail
  refine (CM.out _).mono ?_
  rintro e w1 ⟨rfl, rfl⟩
  go_wp2_with fail
  refine (CN.out _).mono ?_
  rintro e w1 ⟨rfl, rfl⟩
  go_wp2
  go_ret
  exact ⟨by rw [HR.out, eF.out]; rfl, rfl⟩
set_option maxHeartbeats 1000000 in
theorem below_sq (q n : Nat) (p1 p2 : Addr) (w : World) (hn : n < 34359738368) (c1 : w.cell? p1 = some (.func (.func 54) #[] #[])) (c2 : w.cell? p2 = some (.int .u64 q)) :
    Calls Try.prog 70 #[.int .u64 n, .pointer (some p1), .pointer (some p2)] w fun e w' => e = .returned (.bool (decide (sq n < q))) ∧ ∃ k, w' = w.drewN k := by
  have C := Lib.hid (fun w => sq_any n w hn)
  obtain ⟨S, hS⟩ : ∃ S, sq n = S := ⟨_, rfl⟩
  rw [hS] at C ⊢
  have e1 : decide ((S : Int) < (q : Int)) = decide (S < q) := by simp
  clear hS
  go_enter Try.func70, Try.ntmps70
  go_wp2_with fail
  go_quiet ((go_at_call 54; exact Calls.quiet_of_same (C.out _)))
  go_wp2
  go_ret
  exact ⟨rfl, _, rfl⟩
set_option maxHeartbeats 1000000 in
theorem below_cb (q n : Nat) (p1 p2 : Addr) (w : World) (hn : n < 34359738368) (c1 : w.cell? p1 = some (.func (.func 56) #[] #[])) (c2 : w.cell? p2 = some (.int .u64 q)) :
    Calls Try.prog 70 #[.int .u64 n, .pointer (some p1), .pointer (some p2)] w fun e w' => e = .returned (.bool (decide (cb n < q))) ∧ ∃ k, w' = w.drewN k := by
  have C := Lib.hid (fun w => cb_any n w hn)
  obtain ⟨S, hS⟩ : ∃ S, cb n = S := ⟨_, rfl⟩
  rw [hS] at C ⊢
  have e1 : decide ((S : Int) < (q : Int)) = decide (S < q) := by simp
  clear hS
  go_enter Try.func70, Try.ntmps70
  go_wp2_with fail
  go_quiet ((go_at_call 56; exact Calls.quiet_of_same (C.out _)))
  go_wp2
  go_ret
  exact ⟨rfl, _, rfl⟩
end Go.Proofs.Ythjphechdhbenaa.Dg
