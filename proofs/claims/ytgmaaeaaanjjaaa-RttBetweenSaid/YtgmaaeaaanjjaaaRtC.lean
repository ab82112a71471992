/- The laws of layer 11: what they show of two samples; RttHeld, RttSteady. By tools/gen-rtt-2.py. -/
import Derived.Test.YtgmaaeaaanjjaaaRtB
import Derived.Deep.QuietTactic
import Derived.BigQuiet
namespace Go.Proofs.Ytgmaaeaaanjjaaa.Rt
open Go.RowKit
set_option linter.unusedVariables false
set_option linter.unusedSimpArgs false

def stV (a : Bool) (la sm va mn : Int) : Value := .agg #[.bool a, .int .i64 la, .int .i64 sm, .int .i64 va, .int .i64 mn]
set_option maxHeartbeats 4000000 in
theorem shown_any (w : World) : Calls Try.prog 8 #[] w fun e w' => e = .returned (.bool true) ∧ Below w.heap.size w w' := by
  have CN : Hid (∀ W : World, Calls Try.prog 9 #[] W fun e w' => e = .returned (.agg #[.bool false, .int .i64 0, .int .i64 10, .int .i64 5, .int .i64 0]) ∧ Below W.heap.size W w') := Lib.hid new_any
  have C1 : Hid (∀ W : World, Calls Try.prog 15 #[.agg #[.bool false, .int .i64 0, .int .i64 10, .int .i64 5, .int .i64 0], .int .i64 8, .int .i64 0, .int .i64 0] W fun e w' => e = .returned (.agg #[.bool true, .int .i64 8, .int .i64 8, .int .i64 4, .int .i64 8]) ∧ Below W.heap.size W w') := Lib.hid (fun W => sample_any new 8 0 0 W new_ok)
  have C2 : Hid (∀ W : World, Calls Try.prog 15 #[.agg #[.bool true, .int .i64 8, .int .i64 8, .int .i64 4, .int .i64 8], .int .i64 16, .int .i64 0, .int .i64 0] W fun e w' => e = .returned (.agg #[.bool true, .int .i64 16, .int .i64 9, .int .i64 5, .int .i64 8]) ∧ Below W.heap.size W w') := Lib.hid (fun W => sample_any ⟨true, 8, 8, 4, 8⟩ 16 0 0 W (by constructor <;> decide))
  have C3 : Hid (∀ W : World, Calls Try.prog 13 #[.agg #[.bool true, .int .i64 16, .int .i64 9, .int .i64 5, .int .i64 8]] W fun e w' => e = .returned (.int .i64 18) ∧ Below W.heap.size W w') := Lib.hid (fun W => threshold_any ⟨true, 16, 9, 5, 8⟩ W (by constructor <;> decide))
  have C4 : Hid (∀ W : World, Calls Try.prog 11 #[.agg #[.bool true, .int .i64 16, .int .i64 9, .int .i64 5, .int .i64 8], .int .i64 1, .int .i64 1] W fun e w' => e = .returned (.int .i64 60) ∧ Below W.heap.size W w') := Lib.hid (fun W => pto_any ⟨true, 16, 9, 5, 8⟩ 1 1 W (by constructor <;> decide))
  go_enter Try.func8, Try.ntmps8
  go_wp2_with fail
  with_reducible refine (CN.out _).mono ?_
  rintro e w1 ⟨rfl, hb⟩
  have HB1 := Lib.hid hb
  clear hb
  go_wp2_with fail
  with_reducible refine (C1.out _).mono ?_
  rintro e w2 ⟨rfl, hb⟩
  have HB2 := Lib.hid (HB1.out.trans (hb.mono HB1.out.size))
  clear hb
  go_wp2_with fail
  with_reducible refine (C2.out _).mono ?_
  rintro e w3 ⟨rfl, hb⟩
  have HB3 := Lib.hid (HB2.out.trans (hb.mono HB2.out.size))
  clear hb
  go_wp2_with fail
  with_reducible refine (C3.out _).mono ?_
  rintro e w4 ⟨rfl, hb⟩
  have HX4 := Lib.hid ((Bx.made w3 25 true 16 9 5 8).keep hb (by simp))
  have HB4 := Lib.hid ((HB3.out.alloc HB3.out.size _).trans (hb.mono (by have := HB3.out.size; simp; omega)))
  obtain ⟨q0, q1, q2, q3, q4⟩ := HX4.out.cells
  clear hb
  go_wp2_with fail
  with_reducible refine (C4.out _).mono ?_
  rintro e w5 ⟨rfl, hb⟩
  have HB5 := Lib.hid (HB4.out.trans (hb.mono HB4.out.size))
  clear hb
  go_wp2_with fail
  go_ret
  exact ⟨rfl, HB5.out⟩
theorem min_run16 (x y z : Int) (h : min x y = z) (ts : Array TypeId) (t : TypeId) (w : World) : (Builtin.min_ ts t #[.int .u16 x, .int .u16 y]).run Try.prog w = .ok (.int .u16 z) w := by
  rw [run_min_int2, ← h]
  by_cases h : y < x
  · rw [if_pos h, show min x y = y by omega]
  · rw [if_neg h, show min x y = x by omega]
theorem max_run16 (x y z : Int) (h : max x y = z) (ts : Array TypeId) (t : TypeId) (w : World) : (Builtin.max_ ts t #[.int .u16 x, .int .u16 y]).run Try.prog w = .ok (.int .u16 z) w := by
  rw [run_max_int2, ← h]
  by_cases h : y > x
  · rw [if_pos h, show max x y = y by omega]
  · rw [if_neg h, show max x y = x by omega]
set_option maxHeartbeats 4000000 in
theorem held_ge (a b d m LO HI D X Y : Int) (w : World) (ha0 : 0 ≤ a) (ha1 : a ≤ 65535) (hb0 : 0 ≤ b) (hb1 : b ≤ 65535) (hd0 : 0 ≤ d) (hd1 : d ≤ 255) (hm0 : 0 ≤ m) (hm1 : m ≤ 255) (hLO : min a b = LO) (hHI : max a b = HI) (hD : min d m = D) (hw : HI - D ≥ LO) (hX : (7 * LO + (HI - D)) / 8 = X) (hY : (3 * (LO / 2) + (HI - D) - LO) / 4 = Y) :
    Calls Try.prog 7 #[.int .u16 a, .int .u16 b, .int .u8 d, .int .u8 m] w fun e w' => e = .returned (.bool true) ∧ Below w.heap.size w w' := by
  have l0 : 0 ≤ LO ∧ LO ≤ HI ∧ HI ≤ 65535 ∧ 0 ≤ D ∧ D ≤ 255 := by omega
  obtain ⟨l0, l1, l2, l3, l4⟩ := l0
  have t0 : tk LO = LO := tk_of (by omega) (by omega)
  have t1 : tk HI = HI := tk_of (by omega) (by omega)
  have t2 : tk d = d := tk_of (by omega) (by omega)
  have t3 : tk m = m := tk_of (by omega) (by omega)
  have CN : Hid (∀ W : World, Calls Try.prog 9 #[] W fun e w' => e = .returned (.agg #[.bool false, .int .i64 0, .int .i64 10, .int .i64 5, .int .i64 0]) ∧ Below W.heap.size W w') := Lib.hid new_any
  have C1 : Hid (∀ W : World, Calls Try.prog 15 #[.agg #[.bool false, .int .i64 0, .int .i64 10, .int .i64 5, .int .i64 0], .int .i64 LO, .int .i64 0, .int .i64 0] W fun e w' => e = .returned (.agg #[.bool true, .int .i64 LO, .int .i64 LO, .int .i64 (LO / 2), .int .i64 LO]) ∧ Below W.heap.size W w') := Lib.hid (fun W => by
    have h := sample_any new LO 0 0 W new_ok
    have e : (samp new LO 0 0).val = .agg #[.bool true, .int .i64 LO, .int .i64 LO, .int .i64 (LO / 2), .int .i64 LO] := by
      simp [samp, new, St.val, t0]
    rwa [e] at h)
  have C2 : Hid (∀ W : World, Calls Try.prog 15 #[.agg #[.bool true, .int .i64 LO, .int .i64 LO, .int .i64 (LO / 2), .int .i64 LO], .int .i64 HI, .int .i64 d, .int .i64 m] W fun e w' => e = .returned (.agg #[.bool true, .int .i64 HI, .int .i64 X, .int .i64 Y, .int .i64 LO]) ∧ Below W.heap.size W w') := Lib.hid (fun W => by
    have h := sample_any ⟨true, LO, LO, LO / 2, LO⟩ HI d m W (by constructor <;> simp only <;> omega)
    have hk : took HI D LO = (HI - D) := by unfold took; rw [if_neg (by omega)]
    have hl : min LO HI = LO := by omega
    have hap : 3 * (LO / 2) + apartN LO (HI - D) = 3 * (LO / 2) + (HI - D) - LO := by unfold apartN; omega
    have e : (samp ⟨true, LO, LO, LO / 2, LO⟩ HI d m).val = .agg #[.bool true, .int .i64 HI, .int .i64 X, .int .i64 Y, .int .i64 LO] := by
      simp only [samp, St.val, t1, t2, t3, hD, hl, hk, if_true, hap, hX, hY]
    rwa [e] at h)
  have CS := Lib.hid shown_any
  have m1 := min_run16 a b LO hLO
  have m2 := max_run16 a b HI hHI
  have m3 := min_run d m D hD
  clear t0 t1 t2 t3
  have HXX := Lib.hid hX
  have HYY := Lib.hid hY
  clear hLO hHI hD
  go_enter Try.func7, Try.ntmps7
  go_wp2_with fail
  with_reducible refine (CN.out _).mono ?_
  rintro e w1 ⟨rfl, hb⟩
  have HB1 := Lib.hid hb
  clear hb
  go_wp2_with fail
  with_reducible refine (C1.out _).mono ?_
  rintro e w2 ⟨rfl, hb⟩
  have HB2 := Lib.hid (HB1.out.trans (hb.mono HB1.out.size))
  clear hb
  go_wp2_with fail
  with_reducible refine (C2.out _).mono ?_
  rintro e w3 ⟨rfl, hb⟩
  have HB3 := Lib.hid ((HB2.out.alloc HB2.out.size _).trans (hb.mono (by have := HB2.out.size; simp; omega)))
  clear hb
  go_wp2_with fail
  with_reducible refine (CS.out _).mono ?_
  rintro e w4 ⟨rfl, hb⟩
  have HB4 := Lib.hid ((HB3.out.alloc HB3.out.size _).trans (hb.mono (by have := HB3.out.size; simp; omega)))
  clear hb
  go_wp2_with fail
  go_ret
  exact ⟨rfl, HB4.out⟩
set_option maxHeartbeats 4000000 in
theorem held_lt (a b d m LO HI D X Y : Int) (w : World) (ha0 : 0 ≤ a) (ha1 : a ≤ 65535) (hb0 : 0 ≤ b) (hb1 : b ≤ 65535) (hd0 : 0 ≤ d) (hd1 : d ≤ 255) (hm0 : 0 ≤ m) (hm1 : m ≤ 255) (hLO : min a b = LO) (hHI : max a b = HI) (hD : min d m = D) (hw : ¬ (HI - D ≥ LO)) (hX : (7 * LO + HI) / 8 = X) (hY : (3 * (LO / 2) + HI - LO) / 4 = Y) :
    Calls Try.prog 7 #[.int .u16 a, .int .u16 b, .int .u8 d, .int .u8 m] w fun e w' => e = .returned (.bool true) ∧ Below w.heap.size w w' := by
  have l0 : 0 ≤ LO ∧ LO ≤ HI ∧ HI ≤ 65535 ∧ 0 ≤ D ∧ D ≤ 255 := by omega
  obtain ⟨l0, l1, l2, l3, l4⟩ := l0
  have t0 : tk LO = LO := tk_of (by omega) (by omega)
  have t1 : tk HI = HI := tk_of (by omega) (by omega)
  have t2 : tk d = d := tk_of (by omega) (by omega)
  have t3 : tk m = m := tk_of (by omega) (by omega)
  have CN : Hid (∀ W : World, Calls Try.prog 9 #[] W fun e w' => e = .returned (.agg #[.bool false, .int .i64 0, .int .i64 10, .int .i64 5, .int .i64 0]) ∧ Below W.heap.size W w') := Lib.hid new_any
  have C1 : Hid (∀ W : World, Calls Try.prog 15 #[.agg #[.bool false, .int .i64 0, .int .i64 10, .int .i64 5, .int .i64 0], .int .i64 LO, .int .i64 0, .int .i64 0] W fun e w' => e = .returned (.agg #[.bool true, .int .i64 LO, .int .i64 LO, .int .i64 (LO / 2), .int .i64 LO]) ∧ Below W.heap.size W w') := Lib.hid (fun W => by
    have h := sample_any new LO 0 0 W new_ok
    have e : (samp new LO 0 0).val = .agg #[.bool true, .int .i64 LO, .int .i64 LO, .int .i64 (LO / 2), .int .i64 LO] := by
      simp [samp, new, St.val, t0]
    rwa [e] at h)
  have C2 : Hid (∀ W : World, Calls Try.prog 15 #[.agg #[.bool true, .int .i64 LO, .int .i64 LO, .int .i64 (LO / 2), .int .i64 LO], .int .i64 HI, .int .i64 d, .int .i64 m] W fun e w' => e = .returned (.agg #[.bool true, .int .i64 HI, .int .i64 X, .int .i64 Y, .int .i64 LO]) ∧ Below W.heap.size W w') := Lib.hid (fun W => by
    have h := sample_any ⟨true, LO, LO, LO / 2, LO⟩ HI d m W (by constructor <;> simp only <;> omega)
    have hk : took HI D LO = HI := by unfold took; rw [if_pos (by omega)]
    have hl : min LO HI = LO := by omega
    have hap : 3 * (LO / 2) + apartN LO HI = 3 * (LO / 2) + HI - LO := by unfold apartN; omega
    have e : (samp ⟨true, LO, LO, LO / 2, LO⟩ HI d m).val = .agg #[.bool true, .int .i64 HI, .int .i64 X, .int .i64 Y, .int .i64 LO] := by
      simp only [samp, St.val, t1, t2, t3, hD, hl, hk, if_true, hap, hX, hY]
    rwa [e] at h)
  have CS := Lib.hid shown_any
  have m1 := min_run16 a b LO hLO
  have m2 := max_run16 a b HI hHI
  have m3 := min_run d m D hD
  clear t0 t1 t2 t3
  have HXX := Lib.hid hX
  have HYY := Lib.hid hY
  clear hLO hHI hD
  go_enter Try.func7, Try.ntmps7
  go_wp2_with fail
  with_reducible refine (CN.out _).mono ?_
  rintro e w1 ⟨rfl, hb⟩
  have HB1 := Lib.hid hb
  clear hb
  go_wp2_with fail
  with_reducible refine (C1.out _).mono ?_
  rintro e w2 ⟨rfl, hb⟩
  have HB2 := Lib.hid (HB1.out.trans (hb.mono HB1.out.size))
  clear hb
  go_wp2_with fail
  with_reducible refine (C2.out _).mono ?_
  rintro e w3 ⟨rfl, hb⟩
  have HB3 := Lib.hid ((HB2.out.alloc HB2.out.size _).trans (hb.mono (by have := HB2.out.size; simp; omega)))
  clear hb
  go_wp2_with fail
  with_reducible refine (CS.out _).mono ?_
  rintro e w4 ⟨rfl, hb⟩
  have HB4 := Lib.hid ((HB3.out.alloc HB3.out.size _).trans (hb.mono (by have := HB3.out.size; simp; omega)))
  clear hb
  go_wp2_with fail
  go_ret
  exact ⟨rfl, HB4.out⟩
theorem law_held (a b d m : Int) (w : World) (w0 : (Lit.int .u16 a).wf = true) (w1 : (Lit.int .u16 b).wf = true) (w2 : (Lit.int .u8 d).wf = true) (w3 : (Lit.int .u8 m).wf = true) :
    Calls Try.prog 7 #[.int .u16 a, .int .u16 b, .int .u8 d, .int .u8 m] w fun e w' => e = .returned (.bool true) ∧ Below w.heap.size w w' := by
  simp only [Lit.wf, Bool.and_eq_true, decide_eq_true_eq] at w0 w1 w2 w3
  by_cases h : max a b - min d m ≥ min a b
  · exact held_ge a b d m _ _ _ _ _ w w0.1 w0.2 w1.1 w1.2 w2.1 w2.2 w3.1 w3.2 rfl rfl rfl h rfl rfl
  · exact held_lt a b d m _ _ _ _ _ w w0.1 w0.2 w1.1 w1.2 w2.1 w2.2 w3.1 w3.2 rfl rfl rfl h rfl rfl
set_option maxHeartbeats 4000000 in
theorem steady_walk (n many M : Int) (w : World) (hn0 : 0 ≤ n) (hn1 : n ≤ 65535) (hm0 : 0 ≤ many) (hm1 : many ≤ 255) (hM : many % 80 = M) :
    Calls Try.prog 5 #[.int .u16 n, .int .u8 many] w fun e w' => e = .returned (.bool true) ∧ Below w.heap.size w w' := by
  have t0 : tk n = n := tk_of (by omega) (by omega)
  have t1 : tk 0 = 0 := by decide
  have CN : Hid (∀ W : World, Calls Try.prog 9 #[] W fun e w' => e = .returned (.agg #[.bool false, .int .i64 0, .int .i64 10, .int .i64 5, .int .i64 0]) ∧ Below W.heap.size W w') := Lib.hid new_any
  have C1 : Hid (∀ W : World, Calls Try.prog 15 #[.agg #[.bool false, .int .i64 0, .int .i64 10, .int .i64 5, .int .i64 0], .int .i64 n, .int .i64 0, .int .i64 0] W fun e w' => e = .returned (.agg #[.bool true, .int .i64 n, .int .i64 n, .int .i64 (n / 2), .int .i64 n]) ∧ Below W.heap.size W w') := Lib.hid (fun W => by
    have h := sample_any new n 0 0 W new_ok
    have e : (samp new n 0 0).val = .agg #[.bool true, .int .i64 n, .int .i64 n, .int .i64 (n / 2), .int .i64 n] := by
      simp [samp, new, St.val, t0]
    rwa [e] at h)
  have C2 : Hid (∀ (v v2 : Int) (W : World), 0 ≤ v → v ≤ 1099511627776 → 3 * v / 4 = v2 → Calls Try.prog 15 #[.agg #[.bool true, .int .i64 n, .int .i64 n, .int .i64 v, .int .i64 n], .int .i64 n, .int .i64 0, .int .i64 0] W fun e w' => e = .returned (.agg #[.bool true, .int .i64 n, .int .i64 n, .int .i64 v2, .int .i64 n]) ∧ Below W.heap.size W w') := Lib.hid (fun v v2 W h0 h1 h2 => by
    have h := sample_any ⟨true, n, n, v, n⟩ n 0 0 W (by constructor <;> simp only <;> omega)
    have hk : took n 0 n = n := by unfold took; rw [if_neg (by omega)]; omega
    have hm : min n n = n := by omega
    have h00 : min (0 : Int) 0 = 0 := by decide
    have h8 : (7 * n + n) / 8 = n := by omega
    have hap : (3 * v + apartN n n) / 4 = v2 := by unfold apartN; omega
    have e : (samp ⟨true, n, n, v, n⟩ n 0 0).val = .agg #[.bool true, .int .i64 n, .int .i64 n, .int .i64 v2, .int .i64 n] := by
      simp only [samp, St.val, t0, t1, h00, hm, hk, if_true, hap, h8]
    rwa [e] at h)
  have CS := Lib.hid shown_any
  have u1 : IntKind.i64.wrap (many.tmod 80) = M := by rw [Int.tmod_eq_emod_of_nonneg hm0, hM]; exact IntWalk.i64_in _ (by omega)
  have u2 : many.tmod 80 = M := by rw [Int.tmod_eq_emod_of_nonneg hm0, hM]
  have hM0 : 0 ≤ M ∧ M ≤ 79 := by omega
  obtain ⟨hM0, hM1⟩ := hM0
  obtain ⟨MN, hMN⟩ : ∃ k : Nat, M = (k : Int) := ⟨M.toNat, by omega⟩
  subst hMN
  have HM := Lib.hid hM
  clear t0 t1
  go_enter Try.func5, Try.ntmps5
  go_wp2_with fail
  with_reducible refine (CN.out _).mono ?_
  rintro e w1 ⟨rfl, hb⟩
  have HB1 := Lib.hid hb
  clear hb
  go_wp2_with fail
  with_reducible refine (C1.out _).mono ?_
  rintro e w2 ⟨rfl, hb⟩
  have HB2 := Lib.hid (HB1.out.trans (hb.mono HB1.out.size))
  clear hb
  go_wp2_with fail
  have H0 := Lib.hid (Bx.made w2 25 true n n (n / 2) n)
  have HB0 := Lib.hid (HB2.out.alloc HB2.out.size (.cells #[.bool true, .int .i64 n, .int .i64 n, .int .i64 (n / 2), .int .i64 n] 25))
  have hsz := HB2.out.size
  generalize w2.heap.size = b at H0 hsz
  generalize w2.alloc (.cells #[.bool true, .int .i64 n, .int .i64 n, .int .i64 (n / 2), .int .i64 n] 25) = W0 at H0 HB0
  go_loopw [6] (fun iv wr => ∃ (j : Nat) (v : Int), j ≤ MN ∧ iv = .int .i64 j ∧ 0 ≤ v ∧ v ≤ 65535 ∧ Bx wr b 25 true n n v n ∧ Below w.heap.size w wr) (fun iv _ => MN - (intOf iv).toNat)
  case atStart => exact ⟨0, n / 2, Nat.zero_le _, rfl, by omega, by omega, H0.out, HB0.out⟩
  case round =>
    obtain ⟨j, v, hj, rfl, hv0, hv1, hx, hbb⟩ := hrel
    obtain ⟨q0, q1, q2, q3, q4⟩ := hx.cells
    obtain ⟨f0, f1, f2, f3, f4⟩ := hx.fz
    have HX := Lib.hid hx
    have HBB := Lib.hid hbb
    have hblt := hx.lt
    clear hx hbb H0 HB0
    by_cases hlt : (j : Int) < (MN : Int)
    · obtain ⟨v2, hv2⟩ : ∃ x, 3 * v / 4 = x := ⟨_, rfl⟩
      have C3 := Lib.hid (fun W => C2.out v v2 W hv0 (by omega) hv2)
      have hle : v2 ≤ v ∧ 0 ≤ v2 := by omega
      obtain ⟨hle, hv20⟩ := hle
      have hgt : decide (v2 > v) = false := decide_eq_false (by omega)
      clear hv2
      go_wp2_with fail
      with_reducible refine (C3.out _).mono ?_
      rintro e w3 ⟨rfl, hb⟩
      have HX3 := Lib.hid (HX.out.keep hb hblt)
      have HB3 := Lib.hid (HBB.out.trans (hb.mono HBB.out.size))
      have hl3 := HX3.out.lt
      obtain ⟨p0, p1, p2, p3, p4⟩ := HX3.out.cells
      obtain ⟨g0, g1, g2, g3, g4⟩ := HX3.out.fz
      clear hb
      go_wp2_with fail
      have hs3 := HB3.out.size
      refine ⟨⟨j + 1, v2, by omega, by push_cast; rfl, hv20, by omega, (HX3.out.put true n n v2 n).keep ((Below.refl _ _).alloc (Nat.le_refl _) _) (by simp; omega), (below_put HB3.out hsz _ _ _ _ _).alloc (by simp; omega) _⟩, ?_⟩
      simp only [intOf]
      omega
    · go_wp2_with fail
      with_reducible refine (CS.out _).mono ?_
      rintro e w3 ⟨rfl, hb⟩
      have HB3 := Lib.hid (HBB.out.trans (hb.mono HBB.out.size))
      clear hb
      go_wp2_with fail
      go_ret
      exact ⟨rfl, HB3.out⟩
theorem law_steady (n many : Int) (w : World) (w0 : (Lit.int .u16 n).wf = true) (w1 : (Lit.int .u8 many).wf = true) :
    Calls Try.prog 5 #[.int .u16 n, .int .u8 many] w fun e w' => e = .returned (.bool true) ∧ Below w.heap.size w w' := by
  simp only [Lit.wf, Bool.and_eq_true, decide_eq_true_eq] at w0 w1
  exact steady_walk n many _ w w0.1 w0.2 w1.1 w1.2 rfl
end Go.Proofs.Ytgmaaeaaanjjaaa.Rt
