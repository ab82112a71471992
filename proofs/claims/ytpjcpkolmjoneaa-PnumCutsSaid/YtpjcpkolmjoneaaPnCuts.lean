/- The walk of the law PnumCuts. -/
import Derived.Test.YtpjcpkolmjoneaaPnM
import Derived.Deep.RegionWith
import Derived.Test.YtpjcpkolmjoneaaPnTells
namespace Go.Proofs.Ytpjcpkolmjoneaa.Pn
open Go.RowKit
set_option linter.unusedVariables false

set_option maxHeartbeats 2000000 in
theorem cuts_none1 (l k : Int) (w : World) (h : 4611686018427387904 ≤ l) :
    Calls Try.prog 7 #[.int .u64 l, .int .i64 k] w fun e w' => e = .returned (.bool true) ∧ Below w.heap.size w w' := by
  go_enter Try.func7, Try.ntmps7
  go_wp2_with fail
  refine (good_no _ _ h).mono ?_
  rintro e w1 ⟨rfl, rfl⟩
  go_wp2_with fail
  refine (shown_any _).mono ?_
  rintro e a0 ⟨rfl, hb0⟩
  have zhb0 := hb0.size
  go_wp2
  go_ret
  exact ⟨rfl, hb0⟩
set_option maxHeartbeats 2000000 in
theorem cuts_none2 (k : Int) (w : World)  :
    Calls Try.prog 7 #[.int .u64 4611686018427387903, .int .i64 k] w fun e w' => e = .returned (.bool true) ∧ Below w.heap.size w w' := by
  go_enter Try.func7, Try.ntmps7
  go_wp2_with fail
  refine (good_yes _ _ (by omega)).mono ?_
  rintro e w1 ⟨rfl, rfl⟩
  go_wp2_with fail
  refine (shown_any _).mono ?_
  rintro e a0 ⟨rfl, hb0⟩
  have zhb0 := hb0.size
  go_wp2
  go_ret
  exact ⟨rfl, hb0⟩
set_option maxHeartbeats 2000000 in
theorem cuts_far_low (l : Int) (k : Int) (w : World) (n0 : 0 ≤ l) (h : l < 4611686018427387903) (k0 : k < 1) (k1 : -9223372036854775808 ≤ k) (g : 4611686018427387903 < l + 1 + 256) :
    Calls Try.prog 7 #[.int .u64 l, .int .i64 k] w fun e w' => e = .returned (.bool true) ∧ Below w.heap.size w w' := by
  have ew : wn (cl k) = 256 := by rw [cl_low k0, wn_1]
  have hw := isWin k
  rw [ew] at hw
  have eq : (l == 4611686018427387903) = false := by rw [beq_eq_false_iff_ne]; omega
  have C1 := Lib.hid (fun w => cut_any (l + 1) k w (by omega) (by omega) (by omega) (by omega))
  have C2 := Lib.hid (fun w => cut_any (l + 1 + 256) k w (by omega) (by omega) (by omega) (by omega))
  have E1 := Lib.hid (fun w => expand_any l ((l + 1) % 256) k true w n0 (by omega) (by omega) (by omega) (by omega) (by omega))
  have E2 := Lib.hid (fun w => expand_any 0 0 k false w (by omega) (by omega) (by omega) (by omega) (by omega) (by omega))
  rw [ew] at C1 C2 E1 E2
  rw [ex_back hw n0 (by omega) (by omega) (by omega) (by omega)] at E1
  rw [ex_none (by omega) (by omega), Int.zero_emod] at E2
  rw [show (l + 1 + 256) % 256 = (l + 1) % 256 by omega] at C2
  have f1 : 0 ≤ (l + 1) % 256 := by omega
  have f2 : (l + 1) % 256 < 256 := by omega
  clear ew hw
  generalize (l + 1) % 256 = c at *
  go_enter Try.func7, Try.ntmps7
  go_wp2_with fail
  refine (good_yes _ _ (by omega)).mono ?_
  rintro e w1 ⟨rfl, rfl⟩
  go_wp2_with fail
  refine (shown_any _).mono ?_
  rintro e a0 ⟨rfl, hb0⟩
  have zhb0 := hb0.size
  go_wp2_with fail
  refine (C1.out _).mono ?_
  rintro e a1 ⟨rfl, hb1⟩
  have zhb1 := hb1.size
  go_wp2_with fail
  refine (C1.out _).mono ?_
  rintro e a2 ⟨rfl, hb2⟩
  have zhb2 := hb2.size
  go_wp2_with fail
  refine (E1.out _).mono ?_
  rintro e a3 ⟨rfl, hb3⟩
  have zhb3 := hb3.size
  go_wp2_with fail
  refine (E2.out _).mono ?_
  rintro e a6 ⟨rfl, hb6⟩
  have zhb6 := hb6.size
  go_wp2
  go_ret
  exact ⟨rfl, (hb0.trans ((hb1.mono (by omega)).trans ((hb2.mono (by omega)).trans ((hb3.mono (by omega)).trans (hb6.mono (by omega))))))⟩
set_option maxHeartbeats 2000000 in
theorem cuts_near_low (l : Int) (k : Int) (w : World) (n0 : 0 ≤ l) (h : l < 4611686018427387903) (k0 : k < 1) (k1 : -9223372036854775808 ≤ k) (g : l + 1 + 256 ≤ 4611686018427387903) :
    Calls Try.prog 7 #[.int .u64 l, .int .i64 k] w fun e w' => e = .returned (.bool true) ∧ Below w.heap.size w w' := by
  have ew : wn (cl k) = 256 := by rw [cl_low k0, wn_1]
  have hw := isWin k
  rw [ew] at hw
  have eq : (l == 4611686018427387903) = false := by rw [beq_eq_false_iff_ne]; omega
  have C1 := Lib.hid (fun w => cut_any (l + 1) k w (by omega) (by omega) (by omega) (by omega))
  have C2 := Lib.hid (fun w => cut_any (l + 1 + 256) k w (by omega) (by omega) (by omega) (by omega))
  have E1 := Lib.hid (fun w => expand_any l ((l + 1) % 256) k true w n0 (by omega) (by omega) (by omega) (by omega) (by omega))
  have E2 := Lib.hid (fun w => expand_any 0 0 k false w (by omega) (by omega) (by omega) (by omega) (by omega) (by omega))
  rw [ew] at C1 C2 E1 E2
  rw [ex_back hw n0 (by omega) (by omega) (by omega) (by omega)] at E1
  rw [ex_none (by omega) (by omega), Int.zero_emod] at E2
  rw [show (l + 1 + 256) % 256 = (l + 1) % 256 by omega] at C2
  have f1 : 0 ≤ (l + 1) % 256 := by omega
  have f2 : (l + 1) % 256 < 256 := by omega
  clear ew hw
  generalize (l + 1) % 256 = c at *
  go_enter Try.func7, Try.ntmps7
  go_wp2_with fail
  refine (good_yes _ _ (by omega)).mono ?_
  rintro e w1 ⟨rfl, rfl⟩
  go_wp2_with fail
  refine (shown_any _).mono ?_
  rintro e a0 ⟨rfl, hb0⟩
  have zhb0 := hb0.size
  go_wp2_with fail
  refine (C1.out _).mono ?_
  rintro e a1 ⟨rfl, hb1⟩
  have zhb1 := hb1.size
  go_wp2_with fail
  refine (C1.out _).mono ?_
  rintro e a2 ⟨rfl, hb2⟩
  have zhb2 := hb2.size
  go_wp2_with fail
  refine (E1.out _).mono ?_
  rintro e a3 ⟨rfl, hb3⟩
  have zhb3 := hb3.size
  go_wp2_with fail
  refine (C2.out _).mono ?_
  rintro e a4 ⟨rfl, hb4⟩
  have zhb4 := hb4.size
  go_wp2_with fail
  refine (C1.out _).mono ?_
  rintro e a5 ⟨rfl, hb5⟩
  have zhb5 := hb5.size
  go_wp2_with fail
  refine (E2.out _).mono ?_
  rintro e a6 ⟨rfl, hb6⟩
  have zhb6 := hb6.size
  go_wp2
  go_ret
  exact ⟨rfl, (hb0.trans ((hb1.mono (by omega)).trans ((hb2.mono (by omega)).trans ((hb3.mono (by omega)).trans ((hb4.mono (by omega)).trans ((hb5.mono (by omega)).trans (hb6.mono (by omega))))))))⟩
set_option maxHeartbeats 2000000 in
theorem cuts_far_one (l : Int)  (w : World) (n0 : 0 ≤ l) (h : l < 4611686018427387903)  (g : 4611686018427387903 < l + 1 + 256) :
    Calls Try.prog 7 #[.int .u64 l, .int .i64 1] w fun e w' => e = .returned (.bool true) ∧ Below w.heap.size w w' := by
  have ew : wn (cl 1) = 256 := by rw [cl_mid (by omega) (by omega), wn_1]
  have hw := isWin 1
  rw [ew] at hw
  have eq : (l == 4611686018427387903) = false := by rw [beq_eq_false_iff_ne]; omega
  have C1 := Lib.hid (fun w => cut_any (l + 1) 1 w (by omega) (by omega) (by omega) (by omega))
  have C2 := Lib.hid (fun w => cut_any (l + 1 + 256) 1 w (by omega) (by omega) (by omega) (by omega))
  have E1 := Lib.hid (fun w => expand_any l ((l + 1) % 256) 1 true w n0 (by omega) (by omega) (by omega) (by omega) (by omega))
  have E2 := Lib.hid (fun w => expand_any 0 0 1 false w (by omega) (by omega) (by omega) (by omega) (by omega) (by omega))
  rw [ew] at C1 C2 E1 E2
  rw [ex_back hw n0 (by omega) (by omega) (by omega) (by omega)] at E1
  rw [ex_none (by omega) (by omega), Int.zero_emod] at E2
  rw [show (l + 1 + 256) % 256 = (l + 1) % 256 by omega] at C2
  have f1 : 0 ≤ (l + 1) % 256 := by omega
  have f2 : (l + 1) % 256 < 256 := by omega
  clear ew hw
  generalize (l + 1) % 256 = c at *
  go_enter Try.func7, Try.ntmps7
  go_wp2_with fail
  refine (good_yes _ _ (by omega)).mono ?_
  rintro e w1 ⟨rfl, rfl⟩
  go_wp2_with fail
  refine (shown_any _).mono ?_
  rintro e a0 ⟨rfl, hb0⟩
  have zhb0 := hb0.size
  go_wp2_with fail
  refine (C1.out _).mono ?_
  rintro e a1 ⟨rfl, hb1⟩
  have zhb1 := hb1.size
  go_wp2_with fail
  refine (C1.out _).mono ?_
  rintro e a2 ⟨rfl, hb2⟩
  have zhb2 := hb2.size
  go_wp2_with fail
  refine (E1.out _).mono ?_
  rintro e a3 ⟨rfl, hb3⟩
  have zhb3 := hb3.size
  go_wp2_with fail
  refine (E2.out _).mono ?_
  rintro e a6 ⟨rfl, hb6⟩
  have zhb6 := hb6.size
  go_wp2
  go_ret
  exact ⟨rfl, (hb0.trans ((hb1.mono (by omega)).trans ((hb2.mono (by omega)).trans ((hb3.mono (by omega)).trans (hb6.mono (by omega))))))⟩
set_option maxHeartbeats 2000000 in
theorem cuts_near_one (l : Int)  (w : World) (n0 : 0 ≤ l) (h : l < 4611686018427387903)  (g : l + 1 + 256 ≤ 4611686018427387903) :
    Calls Try.prog 7 #[.int .u64 l, .int .i64 1] w fun e w' => e = .returned (.bool true) ∧ Below w.heap.size w w' := by
  have ew : wn (cl 1) = 256 := by rw [cl_mid (by omega) (by omega), wn_1]
  have hw := isWin 1
  rw [ew] at hw
  have eq : (l == 4611686018427387903) = false := by rw [beq_eq_false_iff_ne]; omega
  have C1 := Lib.hid (fun w => cut_any (l + 1) 1 w (by omega) (by omega) (by omega) (by omega))
  have C2 := Lib.hid (fun w => cut_any (l + 1 + 256) 1 w (by omega) (by omega) (by omega) (by omega))
  have E1 := Lib.hid (fun w => expand_any l ((l + 1) % 256) 1 true w n0 (by omega) (by omega) (by omega) (by omega) (by omega))
  have E2 := Lib.hid (fun w => expand_any 0 0 1 false w (by omega) (by omega) (by omega) (by omega) (by omega) (by omega))
  rw [ew] at C1 C2 E1 E2
  rw [ex_back hw n0 (by omega) (by omega) (by omega) (by omega)] at E1
  rw [ex_none (by omega) (by omega), Int.zero_emod] at E2
  rw [show (l + 1 + 256) % 256 = (l + 1) % 256 by omega] at C2
  have f1 : 0 ≤ (l + 1) % 256 := by omega
  have f2 : (l + 1) % 256 < 256 := by omega
  clear ew hw
  generalize (l + 1) % 256 = c at *
  go_enter Try.func7, Try.ntmps7
  go_wp2_with fail
  refine (good_yes _ _ (by omega)).mono ?_
  rintro e w1 ⟨rfl, rfl⟩
  go_wp2_with fail
  refine (shown_any _).mono ?_
  rintro e a0 ⟨rfl, hb0⟩
  have zhb0 := hb0.size
  go_wp2_with fail
  refine (C1.out _).mono ?_
  rintro e a1 ⟨rfl, hb1⟩
  have zhb1 := hb1.size
  go_wp2_with fail
  refine (C1.out _).mono ?_
  rintro e a2 ⟨rfl, hb2⟩
  have zhb2 := hb2.size
  go_wp2_with fail
  refine (E1.out _).mono ?_
  rintro e a3 ⟨rfl, hb3⟩
  have zhb3 := hb3.size
  go_wp2_with fail
  refine (C2.out _).mono ?_
  rintro e a4 ⟨rfl, hb4⟩
  have zhb4 := hb4.size
  go_wp2_with fail
  refine (C1.out _).mono ?_
  rintro e a5 ⟨rfl, hb5⟩
  have zhb5 := hb5.size
  go_wp2_with fail
  refine (E2.out _).mono ?_
  rintro e a6 ⟨rfl, hb6⟩
  have zhb6 := hb6.size
  go_wp2
  go_ret
  exact ⟨rfl, (hb0.trans ((hb1.mono (by omega)).trans ((hb2.mono (by omega)).trans ((hb3.mono (by omega)).trans ((hb4.mono (by omega)).trans ((hb5.mono (by omega)).trans (hb6.mono (by omega))))))))⟩
set_option maxHeartbeats 2000000 in
theorem cuts_far_two (l : Int)  (w : World) (n0 : 0 ≤ l) (h : l < 4611686018427387903)  (g : 4611686018427387903 < l + 1 + 65536) :
    Calls Try.prog 7 #[.int .u64 l, .int .i64 2] w fun e w' => e = .returned (.bool true) ∧ Below w.heap.size w w' := by
  have ew : wn (cl 2) = 65536 := by rw [cl_mid (by omega) (by omega), wn_2]
  have hw := isWin 2
  rw [ew] at hw
  have eq : (l == 4611686018427387903) = false := by rw [beq_eq_false_iff_ne]; omega
  have C1 := Lib.hid (fun w => cut_any (l + 1) 2 w (by omega) (by omega) (by omega) (by omega))
  have C2 := Lib.hid (fun w => cut_any (l + 1 + 65536) 2 w (by omega) (by omega) (by omega) (by omega))
  have E1 := Lib.hid (fun w => expand_any l ((l + 1) % 65536) 2 true w n0 (by omega) (by omega) (by omega) (by omega) (by omega))
  have E2 := Lib.hid (fun w => expand_any 0 0 2 false w (by omega) (by omega) (by omega) (by omega) (by omega) (by omega))
  rw [ew] at C1 C2 E1 E2
  rw [ex_back hw n0 (by omega) (by omega) (by omega) (by omega)] at E1
  rw [ex_none (by omega) (by omega), Int.zero_emod] at E2
  rw [show (l + 1 + 65536) % 65536 = (l + 1) % 65536 by omega] at C2
  have f1 : 0 ≤ (l + 1) % 65536 := by omega
  have f2 : (l + 1) % 65536 < 65536 := by omega
  clear ew hw
  generalize (l + 1) % 65536 = c at *
  go_enter Try.func7, Try.ntmps7
  go_wp2_with fail
  refine (good_yes _ _ (by omega)).mono ?_
  rintro e w1 ⟨rfl, rfl⟩
  go_wp2_with fail
  refine (shown_any _).mono ?_
  rintro e a0 ⟨rfl, hb0⟩
  have zhb0 := hb0.size
  go_wp2_with fail
  refine (C1.out _).mono ?_
  rintro e a1 ⟨rfl, hb1⟩
  have zhb1 := hb1.size
  go_wp2_with fail
  refine (C1.out _).mono ?_
  rintro e a2 ⟨rfl, hb2⟩
  have zhb2 := hb2.size
  go_wp2_with fail
  refine (E1.out _).mono ?_
  rintro e a3 ⟨rfl, hb3⟩
  have zhb3 := hb3.size
  go_wp2_with fail
  refine (E2.out _).mono ?_
  rintro e a6 ⟨rfl, hb6⟩
  have zhb6 := hb6.size
  go_wp2
  go_ret
  exact ⟨rfl, (hb0.trans ((hb1.mono (by omega)).trans ((hb2.mono (by omega)).trans ((hb3.mono (by omega)).trans (hb6.mono (by omega))))))⟩
set_option maxHeartbeats 2000000 in
theorem cuts_near_two (l : Int)  (w : World) (n0 : 0 ≤ l) (h : l < 4611686018427387903)  (g : l + 1 + 65536 ≤ 4611686018427387903) :
    Calls Try.prog 7 #[.int .u64 l, .int .i64 2] w fun e w' => e = .returned (.bool true) ∧ Below w.heap.size w w' := by
  have ew : wn (cl 2) = 65536 := by rw [cl_mid (by omega) (by omega), wn_2]
  have hw := isWin 2
  rw [ew] at hw
  have eq : (l == 4611686018427387903) = false := by rw [beq_eq_false_iff_ne]; omega
  have C1 := Lib.hid (fun w => cut_any (l + 1) 2 w (by omega) (by omega) (by omega) (by omega))
  have C2 := Lib.hid (fun w => cut_any (l + 1 + 65536) 2 w (by omega) (by omega) (by omega) (by omega))
  have E1 := Lib.hid (fun w => expand_any l ((l + 1) % 65536) 2 true w n0 (by omega) (by omega) (by omega) (by omega) (by omega))
  have E2 := Lib.hid (fun w => expand_any 0 0 2 false w (by omega) (by omega) (by omega) (by omega) (by omega) (by omega))
  rw [ew] at C1 C2 E1 E2
  rw [ex_back hw n0 (by omega) (by omega) (by omega) (by omega)] at E1
  rw [ex_none (by omega) (by omega), Int.zero_emod] at E2
  rw [show (l + 1 + 65536) % 65536 = (l + 1) % 65536 by omega] at C2
  have f1 : 0 ≤ (l + 1) % 65536 := by omega
  have f2 : (l + 1) % 65536 < 65536 := by omega
  clear ew hw
  generalize (l + 1) % 65536 = c at *
  go_enter Try.func7, Try.ntmps7
  go_wp2_with fail
  refine (good_yes _ _ (by omega)).mono ?_
  rintro e w1 ⟨rfl, rfl⟩
  go_wp2_with fail
  refine (shown_any _).mono ?_
  rintro e a0 ⟨rfl, hb0⟩
  have zhb0 := hb0.size
  go_wp2_with fail
  refine (C1.out _).mono ?_
  rintro e a1 ⟨rfl, hb1⟩
  have zhb1 := hb1.size
  go_wp2_with fail
  refine (C1.out _).mono ?_
  rintro e a2 ⟨rfl, hb2⟩
  have zhb2 := hb2.size
  go_wp2_with fail
  refine (E1.out _).mono ?_
  rintro e a3 ⟨rfl, hb3⟩
  have zhb3 := hb3.size
  go_wp2_with fail
  refine (C2.out _).mono ?_
  rintro e a4 ⟨rfl, hb4⟩
  have zhb4 := hb4.size
  go_wp2_with fail
  refine (C1.out _).mono ?_
  rintro e a5 ⟨rfl, hb5⟩
  have zhb5 := hb5.size
  go_wp2_with fail
  refine (E2.out _).mono ?_
  rintro e a6 ⟨rfl, hb6⟩
  have zhb6 := hb6.size
  go_wp2
  go_ret
  exact ⟨rfl, (hb0.trans ((hb1.mono (by omega)).trans ((hb2.mono (by omega)).trans ((hb3.mono (by omega)).trans ((hb4.mono (by omega)).trans ((hb5.mono (by omega)).trans (hb6.mono (by omega))))))))⟩
set_option maxHeartbeats 2000000 in
theorem cuts_far_three (l : Int)  (w : World) (n0 : 0 ≤ l) (h : l < 4611686018427387903)  (g : 4611686018427387903 < l + 1 + 16777216) :
    Calls Try.prog 7 #[.int .u64 l, .int .i64 3] w fun e w' => e = .returned (.bool true) ∧ Below w.heap.size w w' := by
  have ew : wn (cl 3) = 16777216 := by rw [cl_mid (by omega) (by omega), wn_3]
  have hw := isWin 3
  rw [ew] at hw
  have eq : (l == 4611686018427387903) = false := by rw [beq_eq_false_iff_ne]; omega
  have C1 := Lib.hid (fun w => cut_any (l + 1) 3 w (by omega) (by omega) (by omega) (by omega))
  have C2 := Lib.hid (fun w => cut_any (l + 1 + 16777216) 3 w (by omega) (by omega) (by omega) (by omega))
  have E1 := Lib.hid (fun w => expand_any l ((l + 1) % 16777216) 3 true w n0 (by omega) (by omega) (by omega) (by omega) (by omega))
  have E2 := Lib.hid (fun w => expand_any 0 0 3 false w (by omega) (by omega) (by omega) (by omega) (by omega) (by omega))
  rw [ew] at C1 C2 E1 E2
  rw [ex_back hw n0 (by omega) (by omega) (by omega) (by omega)] at E1
  rw [ex_none (by omega) (by omega), Int.zero_emod] at E2
  rw [show (l + 1 + 16777216) % 16777216 = (l + 1) % 16777216 by omega] at C2
  have f1 : 0 ≤ (l + 1) % 16777216 := by omega
  have f2 : (l + 1) % 16777216 < 16777216 := by omega
  clear ew hw
  generalize (l + 1) % 16777216 = c at *
  go_enter Try.func7, Try.ntmps7
  go_wp2_with fail
  refine (good_yes _ _ (by omega)).mono ?_
  rintro e w1 ⟨rfl, rfl⟩
  go_wp2_with fail
  refine (shown_any _).mono ?_
  rintro e a0 ⟨rfl, hb0⟩
  have zhb0 := hb0.size
  go_wp2_with fail
  refine (C1.out _).mono ?_
  rintro e a1 ⟨rfl, hb1⟩
  have zhb1 := hb1.size
  go_wp2_with fail
  refine (C1.out _).mono ?_
  rintro e a2 ⟨rfl, hb2⟩
  have zhb2 := hb2.size
  go_wp2_with fail
  refine (E1.out _).mono ?_
  rintro e a3 ⟨rfl, hb3⟩
  have zhb3 := hb3.size
  go_wp2_with fail
  refine (E2.out _).mono ?_
  rintro e a6 ⟨rfl, hb6⟩
  have zhb6 := hb6.size
  go_wp2
  go_ret
  exact ⟨rfl, (hb0.trans ((hb1.mono (by omega)).trans ((hb2.mono (by omega)).trans ((hb3.mono (by omega)).trans (hb6.mono (by omega))))))⟩
set_option maxHeartbeats 2000000 in
theorem cuts_near_three (l : Int)  (w : World) (n0 : 0 ≤ l) (h : l < 4611686018427387903)  (g : l + 1 + 16777216 ≤ 4611686018427387903) :
    Calls Try.prog 7 #[.int .u64 l, .int .i64 3] w fun e w' => e = .returned (.bool true) ∧ Below w.heap.size w w' := by
  have ew : wn (cl 3) = 16777216 := by rw [cl_mid (by omega) (by omega), wn_3]
  have hw := isWin 3
  rw [ew] at hw
  have eq : (l == 4611686018427387903) = false := by rw [beq_eq_false_iff_ne]; omega
  have C1 := Lib.hid (fun w => cut_any (l + 1) 3 w (by omega) (by omega) (by omega) (by omega))
  have C2 := Lib.hid (fun w => cut_any (l + 1 + 16777216) 3 w (by omega) (by omega) (by omega) (by omega))
  have E1 := Lib.hid (fun w => expand_any l ((l + 1) % 16777216) 3 true w n0 (by omega) (by omega) (by omega) (by omega) (by omega))
  have E2 := Lib.hid (fun w => expand_any 0 0 3 false w (by omega) (by omega) (by omega) (by omega) (by omega) (by omega))
  rw [ew] at C1 C2 E1 E2
  rw [ex_back hw n0 (by omega) (by omega) (by omega) (by omega)] at E1
  rw [ex_none (by omega) (by omega), Int.zero_emod] at E2
  rw [show (l + 1 + 16777216) % 16777216 = (l + 1) % 16777216 by omega] at C2
  have f1 : 0 ≤ (l + 1) % 16777216 := by omega
  have f2 : (l + 1) % 16777216 < 16777216 := by omega
  clear ew hw
  generalize (l + 1) % 16777216 = c at *
  go_enter Try.func7, Try.ntmps7
  go_wp2_with fail
  refine (good_yes _ _ (by omega)).mono ?_
  rintro e w1 ⟨rfl, rfl⟩
  go_wp2_with fail
  refine (shown_any _).mono ?_
  rintro e a0 ⟨rfl, hb0⟩
  have zhb0 := hb0.size
  go_wp2_with fail
  refine (C1.out _).mono ?_
  rintro e a1 ⟨rfl, hb1⟩
  have zhb1 := hb1.size
  go_wp2_with fail
  refine (C1.out _).mono ?_
  rintro e a2 ⟨rfl, hb2⟩
  have zhb2 := hb2.size
  go_wp2_with fail
  refine (E1.out _).mono ?_
  rintro e a3 ⟨rfl, hb3⟩
  have zhb3 := hb3.size
  go_wp2_with fail
  refine (C2.out _).mono ?_
  rintro e a4 ⟨rfl, hb4⟩
  have zhb4 := hb4.size
  go_wp2_with fail
  refine (C1.out _).mono ?_
  rintro e a5 ⟨rfl, hb5⟩
  have zhb5 := hb5.size
  go_wp2_with fail
  refine (E2.out _).mono ?_
  rintro e a6 ⟨rfl, hb6⟩
  have zhb6 := hb6.size
  go_wp2
  go_ret
  exact ⟨rfl, (hb0.trans ((hb1.mono (by omega)).trans ((hb2.mono (by omega)).trans ((hb3.mono (by omega)).trans ((hb4.mono (by omega)).trans ((hb5.mono (by omega)).trans (hb6.mono (by omega))))))))⟩
set_option maxHeartbeats 2000000 in
theorem cuts_far_four (l : Int)  (w : World) (n0 : 0 ≤ l) (h : l < 4611686018427387903)  (g : 4611686018427387903 < l + 1 + 4294967296) :
    Calls Try.prog 7 #[.int .u64 l, .int .i64 4] w fun e w' => e = .returned (.bool true) ∧ Below w.heap.size w w' := by
  have ew : wn (cl 4) = 4294967296 := by rw [cl_mid (by omega) (by omega), wn_4]
  have hw := isWin 4
  rw [ew] at hw
  have eq : (l == 4611686018427387903) = false := by rw [beq_eq_false_iff_ne]; omega
  have C1 := Lib.hid (fun w => cut_any (l + 1) 4 w (by omega) (by omega) (by omega) (by omega))
  have C2 := Lib.hid (fun w => cut_any (l + 1 + 4294967296) 4 w (by omega) (by omega) (by omega) (by omega))
  have E1 := Lib.hid (fun w => expand_any l ((l + 1) % 4294967296) 4 true w n0 (by omega) (by omega) (by omega) (by omega) (by omega))
  have E2 := Lib.hid (fun w => expand_any 0 0 4 false w (by omega) (by omega) (by omega) (by omega) (by omega) (by omega))
  rw [ew] at C1 C2 E1 E2
  rw [ex_back hw n0 (by omega) (by omega) (by omega) (by omega)] at E1
  rw [ex_none (by omega) (by omega), Int.zero_emod] at E2
  rw [show (l + 1 + 4294967296) % 4294967296 = (l + 1) % 4294967296 by omega] at C2
  have f1 : 0 ≤ (l + 1) % 4294967296 := by omega
  have f2 : (l + 1) % 4294967296 < 4294967296 := by omega
  clear ew hw
  generalize (l + 1) % 4294967296 = c at *
  go_enter Try.func7, Try.ntmps7
  go_wp2_with fail
  refine (good_yes _ _ (by omega)).mono ?_
  rintro e w1 ⟨rfl, rfl⟩
  go_wp2_with fail
  refine (shown_any _).mono ?_
  rintro e a0 ⟨rfl, hb0⟩
  have zhb0 := hb0.size
  go_wp2_with fail
  refine (C1.out _).mono ?_
  rintro e a1 ⟨rfl, hb1⟩
  have zhb1 := hb1.size
  go_wp2_with fail
  refine (C1.out _).mono ?_
  rintro e a2 ⟨rfl, hb2⟩
  have zhb2 := hb2.size
  go_wp2_with fail
  refine (E1.out _).mono ?_
  rintro e a3 ⟨rfl, hb3⟩
  have zhb3 := hb3.size
  go_wp2_with fail
  refine (E2.out _).mono ?_
  rintro e a6 ⟨rfl, hb6⟩
  have zhb6 := hb6.size
  go_wp2
  go_ret
  exact ⟨rfl, (hb0.trans ((hb1.mono (by omega)).trans ((hb2.mono (by omega)).trans ((hb3.mono (by omega)).trans (hb6.mono (by omega))))))⟩
set_option maxHeartbeats 2000000 in
theorem cuts_near_four (l : Int)  (w : World) (n0 : 0 ≤ l) (h : l < 4611686018427387903)  (g : l + 1 + 4294967296 ≤ 4611686018427387903) :
    Calls Try.prog 7 #[.int .u64 l, .int .i64 4] w fun e w' => e = .returned (.bool true) ∧ Below w.heap.size w w' := by
  have ew : wn (cl 4) = 4294967296 := by rw [cl_mid (by omega) (by omega), wn_4]
  have hw := isWin 4
  rw [ew] at hw
  have eq : (l == 4611686018427387903) = false := by rw [beq_eq_false_iff_ne]; omega
  have C1 := Lib.hid (fun w => cut_any (l + 1) 4 w (by omega) (by omega) (by omega) (by omega))
  have C2 := Lib.hid (fun w => cut_any (l + 1 + 4294967296) 4 w (by omega) (by omega) (by omega) (by omega))
  have E1 := Lib.hid (fun w => expand_any l ((l + 1) % 4294967296) 4 true w n0 (by omega) (by omega) (by omega) (by omega) (by omega))
  have E2 := Lib.hid (fun w => expand_any 0 0 4 false w (by omega) (by omega) (by omega) (by omega) (by omega) (by omega))
  rw [ew] at C1 C2 E1 E2
  rw [ex_back hw n0 (by omega) (by omega) (by omega) (by omega)] at E1
  rw [ex_none (by omega) (by omega), Int.zero_emod] at E2
  rw [show (l + 1 + 4294967296) % 4294967296 = (l + 1) % 4294967296 by omega] at C2
  have f1 : 0 ≤ (l + 1) % 4294967296 := by omega
  have f2 : (l + 1) % 4294967296 < 4294967296 := by omega
  clear ew hw
  generalize (l + 1) % 4294967296 = c at *
  go_enter Try.func7, Try.ntmps7
  go_wp2_with fail
  refine (good_yes _ _ (by omega)).mono ?_
  rintro e w1 ⟨rfl, rfl⟩
  go_wp2_with fail
  refine (shown_any _).mono ?_
  rintro e a0 ⟨rfl, hb0⟩
  have zhb0 := hb0.size
  go_wp2_with fail
  refine (C1.out _).mono ?_
  rintro e a1 ⟨rfl, hb1⟩
  have zhb1 := hb1.size
  go_wp2_with fail
  refine (C1.out _).mono ?_
  rintro e a2 ⟨rfl, hb2⟩
  have zhb2 := hb2.size
  go_wp2_with fail
  refine (E1.out _).mono ?_
  rintro e a3 ⟨rfl, hb3⟩
  have zhb3 := hb3.size
  go_wp2_with fail
  refine (C2.out _).mono ?_
  rintro e a4 ⟨rfl, hb4⟩
  have zhb4 := hb4.size
  go_wp2_with fail
  refine (C1.out _).mono ?_
  rintro e a5 ⟨rfl, hb5⟩
  have zhb5 := hb5.size
  go_wp2_with fail
  refine (E2.out _).mono ?_
  rintro e a6 ⟨rfl, hb6⟩
  have zhb6 := hb6.size
  go_wp2
  go_ret
  exact ⟨rfl, (hb0.trans ((hb1.mono (by omega)).trans ((hb2.mono (by omega)).trans ((hb3.mono (by omega)).trans ((hb4.mono (by omega)).trans ((hb5.mono (by omega)).trans (hb6.mono (by omega))))))))⟩
set_option maxHeartbeats 2000000 in
theorem cuts_far_high (l : Int) (k : Int) (w : World) (n0 : 0 ≤ l) (h : l < 4611686018427387903) (k0 : 4 < k) (k1 : k ≤ 9223372036854775807) (g : 4611686018427387903 < l + 1 + 4294967296) :
    Calls Try.prog 7 #[.int .u64 l, .int .i64 k] w fun e w' => e = .returned (.bool true) ∧ Below w.heap.size w w' := by
  have ew : wn (cl k) = 4294967296 := by rw [cl_high k0, wn_4]
  have hw := isWin k
  rw [ew] at hw
  have eq : (l == 4611686018427387903) = false := by rw [beq_eq_false_iff_ne]; omega
  have C1 := Lib.hid (fun w => cut_any (l + 1) k w (by omega) (by omega) (by omega) (by omega))
  have C2 := Lib.hid (fun w => cut_any (l + 1 + 4294967296) k w (by omega) (by omega) (by omega) (by omega))
  have E1 := Lib.hid (fun w => expand_any l ((l + 1) % 4294967296) k true w n0 (by omega) (by omega) (by omega) (by omega) (by omega))
  have E2 := Lib.hid (fun w => expand_any 0 0 k false w (by omega) (by omega) (by omega) (by omega) (by omega) (by omega))
  rw [ew] at C1 C2 E1 E2
  rw [ex_back hw n0 (by omega) (by omega) (by omega) (by omega)] at E1
  rw [ex_none (by omega) (by omega), Int.zero_emod] at E2
  rw [show (l + 1 + 4294967296) % 4294967296 = (l + 1) % 4294967296 by omega] at C2
  have f1 : 0 ≤ (l + 1) % 4294967296 := by omega
  have f2 : (l + 1) % 4294967296 < 4294967296 := by omega
  clear ew hw
  generalize (l + 1) % 4294967296 = c at *
  go_enter Try.func7, Try.ntmps7
  go_wp2_with fail
  refine (good_yes _ _ (by omega)).mono ?_
  rintro e w1 ⟨rfl, rfl⟩
  go_wp2_with fail
  refine (shown_any _).mono ?_
  rintro e a0 ⟨rfl, hb0⟩
  have zhb0 := hb0.size
  go_wp2_with fail
  refine (C1.out _).mono ?_
  rintro e a1 ⟨rfl, hb1⟩
  have zhb1 := hb1.size
  go_wp2_with fail
  refine (C1.out _).mono ?_
  rintro e a2 ⟨rfl, hb2⟩
  have zhb2 := hb2.size
  go_wp2_with fail
  refine (E1.out _).mono ?_
  rintro e a3 ⟨rfl, hb3⟩
  have zhb3 := hb3.size
  go_wp2_with fail
  refine (E2.out _).mono ?_
  rintro e a6 ⟨rfl, hb6⟩
  have zhb6 := hb6.size
  go_wp2
  go_ret
  exact ⟨rfl, (hb0.trans ((hb1.mono (by omega)).trans ((hb2.mono (by omega)).trans ((hb3.mono (by omega)).trans (hb6.mono (by omega))))))⟩
set_option maxHeartbeats 2000000 in
theorem cuts_near_high (l : Int) (k : Int) (w : World) (n0 : 0 ≤ l) (h : l < 4611686018427387903) (k0 : 4 < k) (k1 : k ≤ 9223372036854775807) (g : l + 1 + 4294967296 ≤ 4611686018427387903) :
    Calls Try.prog 7 #[.int .u64 l, .int .i64 k] w fun e w' => e = .returned (.bool true) ∧ Below w.heap.size w w' := by
  have ew : wn (cl k) = 4294967296 := by rw [cl_high k0, wn_4]
  have hw := isWin k
  rw [ew] at hw
  have eq : (l == 4611686018427387903) = false := by rw [beq_eq_false_iff_ne]; omega
  have C1 := Lib.hid (fun w => cut_any (l + 1) k w (by omega) (by omega) (by omega) (by omega))
  have C2 := Lib.hid (fun w => cut_any (l + 1 + 4294967296) k w (by omega) (by omega) (by omega) (by omega))
  have E1 := Lib.hid (fun w => expand_any l ((l + 1) % 4294967296) k true w n0 (by omega) (by omega) (by omega) (by omega) (by omega))
  have E2 := Lib.hid (fun w => expand_any 0 0 k false w (by omega) (by omega) (by omega) (by omega) (by omega) (by omega))
  rw [ew] at C1 C2 E1 E2
  rw [ex_back hw n0 (by omega) (by omega) (by omega) (by omega)] at E1
  rw [ex_none (by omega) (by omega), Int.zero_emod] at E2
  rw [show (l + 1 + 4294967296) % 4294967296 = (l + 1) % 4294967296 by omega] at C2
  have f1 : 0 ≤ (l + 1) % 4294967296 := by omega
  have f2 : (l + 1) % 4294967296 < 4294967296 := by omega
  clear ew hw
  generalize (l + 1) % 4294967296 = c at *
  go_enter Try.func7, Try.ntmps7
  go_wp2_with fail
  refine (good_yes _ _ (by omega)).mono ?_
  rintro e w1 ⟨rfl, rfl⟩
  go_wp2_with fail
  refine (shown_any _).mono ?_
  rintro e a0 ⟨rfl, hb0⟩
  have zhb0 := hb0.size
  go_wp2_with fail
  refine (C1.out _).mono ?_
  rintro e a1 ⟨rfl, hb1⟩
  have zhb1 := hb1.size
  go_wp2_with fail
  refine (C1.out _).mono ?_
  rintro e a2 ⟨rfl, hb2⟩
  have zhb2 := hb2.size
  go_wp2_with fail
  refine (E1.out _).mono ?_
  rintro e a3 ⟨rfl, hb3⟩
  have zhb3 := hb3.size
  go_wp2_with fail
  refine (C2.out _).mono ?_
  rintro e a4 ⟨rfl, hb4⟩
  have zhb4 := hb4.size
  go_wp2_with fail
  refine (C1.out _).mono ?_
  rintro e a5 ⟨rfl, hb5⟩
  have zhb5 := hb5.size
  go_wp2_with fail
  refine (E2.out _).mono ?_
  rintro e a6 ⟨rfl, hb6⟩
  have zhb6 := hb6.size
  go_wp2
  go_ret
  exact ⟨rfl, (hb0.trans ((hb1.mono (by omega)).trans ((hb2.mono (by omega)).trans ((hb3.mono (by omega)).trans ((hb4.mono (by omega)).trans ((hb5.mono (by omega)).trans (hb6.mono (by omega))))))))⟩
theorem cuts (l k : Int) (w : World) (w0 : (Lit.int .u64 l).wf = true) (w1 : (Lit.int .i64 k).wf = true) :
    Calls Try.prog 7 #[.int .u64 l, .int .i64 k] w fun e w' => e = .returned (.bool true) ∧ Below w.heap.size w w' := by
  have ha := bounds_u64 w0
  have hc := bounds_i64 w1
  by_cases g : l < 4611686018427387904
  · by_cases g1 : l < 4611686018427387903
    · by_cases k0 : k < 1
      · by_cases g2 : 4611686018427387903 < l + 1 + 256
        · exact cuts_far_low l k w ha.1 g1 k0 (by omega) g2
        · exact cuts_near_low l k w ha.1 g1 k0 (by omega) (by omega)
      · by_cases k4 : 4 < k
        · by_cases g2 : 4611686018427387903 < l + 1 + 4294967296
          · exact cuts_far_high l k w ha.1 g1 k4 (by omega) g2
          · exact cuts_near_high l k w ha.1 g1 k4 (by omega) (by omega)
        · rcases four (c := k) (by omega) (by omega) with rfl | rfl | rfl | rfl
          · by_cases g2 : 4611686018427387903 < l + 1 + 256
            · exact cuts_far_one l w ha.1 g1 g2
            · exact cuts_near_one l w ha.1 g1 (by omega)
          · by_cases g2 : 4611686018427387903 < l + 1 + 65536
            · exact cuts_far_two l w ha.1 g1 g2
            · exact cuts_near_two l w ha.1 g1 (by omega)
          · by_cases g2 : 4611686018427387903 < l + 1 + 16777216
            · exact cuts_far_three l w ha.1 g1 g2
            · exact cuts_near_three l w ha.1 g1 (by omega)
          · by_cases g2 : 4611686018427387903 < l + 1 + 4294967296
            · exact cuts_far_four l w ha.1 g1 g2
            · exact cuts_near_four l w ha.1 g1 (by omega)
    · obtain rfl : l = 4611686018427387903 := by omega
      exact cuts_none2 k w
  · exact cuts_none1 l k w (by omega)
end Go.Proofs.Ytpjcpkolmjoneaa.Pn
