/- The walk of the law PnumBack. -/
import Derived.Test.YtpjcpkolmjoneaaPnM
import Derived.Deep.RegionWith
import Derived.Test.YtpjcpkolmjoneaaPnTells
namespace Go.Proofs.Ytpjcpkolmjoneaa.Pn
open Go.RowKit
set_option linter.unusedVariables false

set_option maxHeartbeats 2000000 in
theorem back_none1_true (acked by0 between : Int) (w : World) (n0 : 0 ≤ acked) (n1 : 0 ≤ by0) (n2 : 0 ≤ between) (n3 : between ≤ 18446744073709551615) (h : 4611686018427387904 ≤ acked) :
    Calls Try.prog 4 #[.int .u64 acked, .int .u64 by0, .int .u64 between, .bool true] w fun e w' => e = .returned (.bool true) ∧ Below w.heap.size w w' := by
  go_enter Try.func4, Try.ntmps4
  go_wp2_with fail
  refine (good_no _ _ h).mono ?_
  rintro e w1 ⟨rfl, rfl⟩
  go_wp2_with fail
  refine (shown_any _).mono ?_
  rintro e a0 ⟨rfl, hb0⟩
  have zhb0 := hb0.size
  go_wp2
  go_ret
  exact ⟨rfl, hb0⟩
set_option maxHeartbeats 2000000 in
theorem back_none1_false (acked by0 between : Int) (w : World) (n0 : 0 ≤ acked) (n1 : 0 ≤ by0) (n2 : 0 ≤ between) (n3 : between ≤ 18446744073709551615) (h : 4611686018427387904 ≤ acked) :
    Calls Try.prog 4 #[.int .u64 acked, .int .u64 by0, .int .u64 between, .bool false] w fun e w' => e = .returned (.bool true) ∧ Below w.heap.size w w' := by
  go_enter Try.func4, Try.ntmps4
  go_wp2_with fail
  refine (good_no _ _ h).mono ?_
  rintro e w1 ⟨rfl, rfl⟩
  go_wp2_with fail
  refine (shown_any _).mono ?_
  rintro e a0 ⟨rfl, hb0⟩
  have zhb0 := hb0.size
  go_wp2
  go_ret
  exact ⟨rfl, hb0⟩
set_option maxHeartbeats 2000000 in
theorem back_none2 (acked by0 between : Int) (w : World) (n0 : 0 ≤ acked) (n1 : 0 ≤ by0) (n2 : 0 ≤ between) (n3 : between ≤ 18446744073709551615) (h : acked < 4611686018427387904) (g : 4611686018427387904 ≤ acked + by0 % 2000000000 + 1) :
    Calls Try.prog 4 #[.int .u64 acked, .int .u64 by0, .int .u64 between, .bool true] w fun e w' => e = .returned (.bool true) ∧ Below w.heap.size w w' := by
  go_enter Try.func4, Try.ntmps4
  go_wp2_with fail
  refine (good_yes _ _ h).mono ?_
  rintro e w1 ⟨rfl, rfl⟩
  go_wp2_with fail
  refine (good_no _ _ g).mono ?_
  rintro e w1 ⟨rfl, rfl⟩
  go_wp2_with fail
  refine (shown_any _).mono ?_
  rintro e a0 ⟨rfl, hb0⟩
  have zhb0 := hb0.size
  go_wp2
  go_ret
  exact ⟨rfl, hb0⟩
set_option maxHeartbeats 2000000 in
theorem back_first (acked by0 between : Int) (w : World) (n0 : 0 ≤ acked) (n1 : 0 ≤ by0) (n2 : 0 ≤ between) (n3 : between ≤ 18446744073709551615) (h : acked < 4611686018427387904) :
    Calls Try.prog 4 #[.int .u64 acked, .int .u64 by0, .int .u64 between, .bool false] w fun e w' => e = .returned (.bool true) ∧ Below w.heap.size w w' := by
  have m1 : 0 ≤ by0 % 2000000000 ∧ by0 % 2000000000 < 2000000000 := by omega
  have r1 := by_range ((by0 % 2000000000) + 1)
  have sp := by_spans (d := (by0 % 2000000000) + 1) (by omega)
  have hw := isWin (by' ((by0 % 2000000000) + 1))
  rw [cl_by] at hw
  have hr := wn_range r1.1 r1.2
  have em : (by0 % 2000000000) % wn (by' ((by0 % 2000000000) + 1)) = (by0 % 2000000000) := Int.emod_eq_of_lt (by omega) (by omega)
  have B1 := Lib.hid (fun w => bytes_any (by0 % 2000000000) acked false w (by omega) (by omega) (by omega))
  have B2 := Lib.hid (fun w => cut_any (by0 % 2000000000) (by' ((by0 % 2000000000) + 1)) w (by omega) (by omega) (by omega) (by omega))
  have B3 := Lib.hid (fun w => expand_any 0 (by0 % 2000000000) (by' ((by0 % 2000000000) + 1)) false w (by omega) (by omega) (by omega) (by omega) (by omega) (by omega))
  rw [ds_none] at B1
  rw [cl_by, em] at B2
  rw [ex_none (by rw [cl_by]; omega) (by omega), cl_by, em] at B3
  clear em hw sp hr
  generalize by' ((by0 % 2000000000) + 1) = k at *
  go_enter Try.func4, Try.ntmps4
  go_wp2_with fail
  refine (good_yes _ _ h).mono ?_
  rintro e w1 ⟨rfl, rfl⟩
  go_wp2_with fail
  refine (good_yes _ _ (by omega)).mono ?_
  rintro e w1 ⟨rfl, rfl⟩
  go_wp2_with fail
  refine (shown_any _).mono ?_
  rintro e a0 ⟨rfl, hb0⟩
  have zhb0 := hb0.size
  go_wp2_with fail
  refine (B1.out _).mono ?_
  rintro e a1 ⟨rfl, hb1⟩
  have zhb1 := hb1.size
  go_wp2_with fail
  refine (B2.out _).mono ?_
  rintro e a2 ⟨rfl, hb2⟩
  have zhb2 := hb2.size
  go_wp2_with fail
  refine (B3.out _).mono ?_
  rintro e a3 ⟨rfl, hb3⟩
  have zhb3 := hb3.size
  go_wp2
  go_ret
  exact ⟨rfl, (hb0.trans ((hb1.mono (by omega)).trans ((hb2.mono (by omega)).trans (hb3.mono (by omega)))))⟩
set_option maxHeartbeats 2000000 in
theorem back_some (acked by0 between : Int) (w : World) (n0 : 0 ≤ acked) (n1 : 0 ≤ by0) (n2 : 0 ≤ between) (n3 : between ≤ 18446744073709551615) (h : acked < 4611686018427387904) (g : acked + by0 % 2000000000 + 1 < 4611686018427387904) :
    Calls Try.prog 4 #[.int .u64 acked, .int .u64 by0, .int .u64 between, .bool true] w fun e w' => e = .returned (.bool true) ∧ Below w.heap.size w w' := by
  have m1 : 0 ≤ by0 % 2000000000 ∧ by0 % 2000000000 < 2000000000 := by omega
  have m2 := mod_bd (n := between) (W := (acked + by0 % 2000000000 + 1 - acked)) (by omega) n2
  have r1 := by_range (acked + by0 % 2000000000 + 1 - acked)
  have sp := by_spans (d := (acked + by0 % 2000000000 + 1 - acked)) (by omega)
  have hw := isWin (by' (acked + by0 % 2000000000 + 1 - acked))
  rw [cl_by] at hw
  have hr := wn_range r1.1 r1.2
  have mm := mod_bd (n := (acked + by0 % 2000000000 + 1)) (W := wn (by' (acked + by0 % 2000000000 + 1 - acked))) (by omega) (by omega)
  have eb : ex (acked + between % (acked + by0 % 2000000000 + 1 - acked)) true ((acked + by0 % 2000000000 + 1) % wn (by' (acked + by0 % 2000000000 + 1 - acked))) (wn (by' (acked + by0 % 2000000000 + 1 - acked))) = (acked + by0 % 2000000000 + 1) := ex_back hw (by omega) (by omega) g (by omega) (by omega)
  have B1 := Lib.hid (fun w => bytes_any (acked + by0 % 2000000000 + 1) acked true w (by omega) g (by omega))
  have B2 := Lib.hid (fun w => cut_any (acked + by0 % 2000000000 + 1) (by' (acked + by0 % 2000000000 + 1 - acked)) w (by omega) (by omega) (by omega) (by omega))
  have B3 := Lib.hid (fun w => expand_any (acked + between % (acked + by0 % 2000000000 + 1 - acked)) ((acked + by0 % 2000000000 + 1) % wn (by' (acked + by0 % 2000000000 + 1 - acked))) (by' (acked + by0 % 2000000000 + 1 - acked)) true w (by omega) (by omega) (by omega) (by omega) (by omega) (by omega))
  rw [ds_far (by omega)] at B1
  rw [cl_by] at B2
  rw [cl_by, eb] at B3
  clear eb hw sp hr
  generalize (acked + by0 % 2000000000 + 1) % wn (by' (acked + by0 % 2000000000 + 1 - acked)) = c at *
  generalize by' (acked + by0 % 2000000000 + 1 - acked) = k at *
  have q0 : acked + by0 % 2000000000 + 1 - acked = by0 % 2000000000 + 1 := by omega
  have e1 : IntKind.u64.wrap (acked + by0 % 2000000000 + 1 - acked) = acked + by0 % 2000000000 + 1 - acked := wr (by omega) (by omega)
  have e2 : IntKind.u64.wrap (acked + between % (acked + by0 % 2000000000 + 1 - acked)) = acked + between % (acked + by0 % 2000000000 + 1 - acked) := wr (by omega) (by omega)
  have q1 : (acked + by0 % 2000000000 + 1 - acked == 0) = false := by rw [beq_eq_false_iff_ne]; omega
  have q3 : between.tmod (acked + by0 % 2000000000 + 1 - acked) = between % (acked + by0 % 2000000000 + 1 - acked) := Int.tmod_eq_emod_of_nonneg n2
  have q2 : ¬ (acked + by0 % 2000000000 + 1 - acked = 0) := by omega
  clear q0
  go_enter Try.func4, Try.ntmps4
  go_wp2_with fail
  refine (good_yes _ _ h).mono ?_
  rintro e w1 ⟨rfl, rfl⟩
  go_wp2_with fail
  refine (good_yes _ _ g).mono ?_
  rintro e w1 ⟨rfl, rfl⟩
  go_wp2_with fail
  refine (shown_any _).mono ?_
  rintro e a0 ⟨rfl, hb0⟩
  have zhb0 := hb0.size
  go_wp2_with fail
  refine (B1.out _).mono ?_
  rintro e a1 ⟨rfl, hb1⟩
  have zhb1 := hb1.size
  go_wp2_with fail
  go_region_with (first | (go_at_call 14; (with_reducible refine (B2.out _).mono ?_); rintro e a2 ⟨rfl, hb2⟩) | (go_at_call 16; (with_reducible refine (B3.out _).mono ?_); rintro e a3 ⟨rfl, hb3⟩))
  have y0 : w.heap.size ≤ a1.drew.heap.size := Nat.le_trans zhb0 zhb1
  have y1 := hb2.size
  go_wp2
  go_ret
  exact ⟨rfl, ((below_drew (hb0.trans (hb1.mono zhb0))).trans (hb2.mono y0)).trans (hb3.mono (Nat.le_trans y0 y1))⟩
theorem back (acked by0 between : Int) (known : Bool) (w : World) (w0 : (Lit.int .u64 acked).wf = true) (w1 : (Lit.int .u64 by0).wf = true) (w2 : (Lit.int .u64 between).wf = true) :
    Calls Try.prog 4 #[.int .u64 acked, .int .u64 by0, .int .u64 between, .bool known] w fun e w' => e = .returned (.bool true) ∧ Below w.heap.size w w' := by
  have ha := bounds_u64 w0
  have hb := bounds_u64 w1
  have hc := bounds_u64 w2
  by_cases g : acked < 4611686018427387904
  · cases known
    · exact back_first acked by0 between w ha.1 hb.1 hc.1 (by omega) g
    · by_cases g2 : acked + by0 % 2000000000 + 1 < 4611686018427387904
      · exact back_some acked by0 between w ha.1 hb.1 hc.1 (by omega) g g2
      · exact back_none2 acked by0 between w ha.1 hb.1 hc.1 (by omega) g (by omega)
  · cases known
    · exact back_none1_false acked by0 between w ha.1 hb.1 hc.1 (by omega) (by omega)
    · exact back_none1_true acked by0 between w ha.1 hb.1 hc.1 (by omega) (by omega)
end Go.Proofs.Ytpjcpkolmjoneaa.Pn
