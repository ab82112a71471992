/- The walk of the law PnumNear. -/
import Derived.Test.YtpjcpkolmjoneaaPnM
import Derived.Deep.RegionWith
import Derived.Test.YtpjcpkolmjoneaaPnTells
namespace Go.Proofs.Ytpjcpkolmjoneaa.Pn
open Go.RowKit
set_option linter.unusedVariables false

set_option maxHeartbeats 2000000 in
theorem near_none (l x k : Int) (w : World) (h : 4611686018427387904 ≤ l) :
    Calls Try.prog 5 #[.int .u64 l, .int .u64 x, .int .i64 k] w fun e w' => e = .returned (.bool true) ∧ Below w.heap.size w w' := by
  go_enter Try.func5, Try.ntmps5
  go_wp2_with fail
  refine (good_no _ _ h).mono ?_
  rintro e w1 ⟨rfl, rfl⟩
  go_wp2_with fail
  refine (shown_any _).mono ?_
  rintro e a0 ⟨rfl, hb0⟩
  have zhb0 := hb0.size
  go_wp2
  go_ret
  exact ⟨rfl, hb0⟩
set_option maxHeartbeats 2000000 in
theorem near_low (l x : Int) (k : Int) (w : World) (n0 : 0 ≤ l) (h : l < 4611686018427387904) (n1 : 0 ≤ x) (n2 : x ≤ 18446744073709551615) (k0 : k < 1) (k1 : -9223372036854775808 ≤ k) :
    Calls Try.prog 5 #[.int .u64 l, .int .u64 x, .int .i64 k] w fun e w' => e = .returned (.bool true) ∧ Below w.heap.size w w' := by
  have ew : wn (cl k) = 256 := by rw [cl_low k0, wn_1]
  have hw := isWin k
  rw [ew] at hw
  have B1 := Lib.hid (fun w => expand_any l x k true w n0 h n1 n2 (by omega) (by omega))
  rw [ew] at B1
  have hn := ex_near (x := x) hw n0 h n1
  clear ew hw
  generalize ex l true x 256 = n at *
  have f1 : (n % 256 == x % 256) = true := by rw [beq_iff_eq]; exact hn.1
  have f2 := hn.2.1
  have f3 := hn.2.2.1
  have f4 := hn.2.2.2
  clear hn
  have e1 : IntKind.u64.wrap (n + 256) = n + 256 := wr (by omega) (by omega)
  have e2 : IntKind.u64.wrap (l + 1) = l + 1 := wr (by omega) (by omega)
  have e3 : IntKind.u64.wrap (l + 1 + 256) = l + 1 + 256 := wr (by omega) (by omega)
  have d1 : decide (l + 1 < n + 256) = true := decide_eq_true f2
  have d2 : decide (n < l + 1 + 256) = true := decide_eq_true f3
  go_enter Try.func5, Try.ntmps5
  go_wp2_with fail
  refine (good_yes _ _ h).mono ?_
  rintro e w1 ⟨rfl, rfl⟩
  go_wp2_with fail
  refine (shown_any _).mono ?_
  rintro e a0 ⟨rfl, hb0⟩
  have zhb0 := hb0.size
  go_wp2_with fail
  refine (B1.out _).mono ?_
  rintro e a1 ⟨rfl, hb1⟩
  have zhb1 := hb1.size
  go_wp2_with fail
  go_region
  go_wp2
  go_ret
  exact ⟨rfl, below_drew (hb0.trans (hb1.mono (by omega)))⟩
set_option maxHeartbeats 2000000 in
theorem near_one (l x : Int)  (w : World) (n0 : 0 ≤ l) (h : l < 4611686018427387904) (n1 : 0 ≤ x) (n2 : x ≤ 18446744073709551615)  :
    Calls Try.prog 5 #[.int .u64 l, .int .u64 x, .int .i64 1] w fun e w' => e = .returned (.bool true) ∧ Below w.heap.size w w' := by
  have ew : wn (cl 1) = 256 := by rw [cl_mid (by omega) (by omega), wn_1]
  have hw := isWin 1
  rw [ew] at hw
  have B1 := Lib.hid (fun w => expand_any l x 1 true w n0 h n1 n2 (by omega) (by omega))
  rw [ew] at B1
  have hn := ex_near (x := x) hw n0 h n1
  clear ew hw
  generalize ex l true x 256 = n at *
  have f1 : (n % 256 == x % 256) = true := by rw [beq_iff_eq]; exact hn.1
  have f2 := hn.2.1
  have f3 := hn.2.2.1
  have f4 := hn.2.2.2
  clear hn
  have e1 : IntKind.u64.wrap (n + 256) = n + 256 := wr (by omega) (by omega)
  have e2 : IntKind.u64.wrap (l + 1) = l + 1 := wr (by omega) (by omega)
  have e3 : IntKind.u64.wrap (l + 1 + 256) = l + 1 + 256 := wr (by omega) (by omega)
  have d1 : decide (l + 1 < n + 256) = true := decide_eq_true f2
  have d2 : decide (n < l + 1 + 256) = true := decide_eq_true f3
  go_enter Try.func5, Try.ntmps5
  go_wp2_with fail
  refine (good_yes _ _ h).mono ?_
  rintro e w1 ⟨rfl, rfl⟩
  go_wp2_with fail
  refine (shown_any _).mono ?_
  rintro e a0 ⟨rfl, hb0⟩
  have zhb0 := hb0.size
  go_wp2_with fail
  refine (B1.out _).mono ?_
  rintro e a1 ⟨rfl, hb1⟩
  have zhb1 := hb1.size
  go_wp2_with fail
  go_region
  go_wp2
  go_ret
  exact ⟨rfl, below_drew (hb0.trans (hb1.mono (by omega)))⟩
set_option maxHeartbeats 2000000 in
theorem near_two (l x : Int)  (w : World) (n0 : 0 ≤ l) (h : l < 4611686018427387904) (n1 : 0 ≤ x) (n2 : x ≤ 18446744073709551615)  :
    Calls Try.prog 5 #[.int .u64 l, .int .u64 x, .int .i64 2] w fun e w' => e = .returned (.bool true) ∧ Below w.heap.size w w' := by
  have ew : wn (cl 2) = 65536 := by rw [cl_mid (by omega) (by omega), wn_2]
  have hw := isWin 2
  rw [ew] at hw
  have B1 := Lib.hid (fun w => expand_any l x 2 true w n0 h n1 n2 (by omega) (by omega))
  rw [ew] at B1
  have hn := ex_near (x := x) hw n0 h n1
  clear ew hw
  generalize ex l true x 65536 = n at *
  have f1 : (n % 65536 == x % 65536) = true := by rw [beq_iff_eq]; exact hn.1
  have f2 := hn.2.1
  have f3 := hn.2.2.1
  have f4 := hn.2.2.2
  clear hn
  have e1 : IntKind.u64.wrap (n + 65536) = n + 65536 := wr (by omega) (by omega)
  have e2 : IntKind.u64.wrap (l + 1) = l + 1 := wr (by omega) (by omega)
  have e3 : IntKind.u64.wrap (l + 1 + 65536) = l + 1 + 65536 := wr (by omega) (by omega)
  have d1 : decide (l + 1 < n + 65536) = true := decide_eq_true f2
  have d2 : decide (n < l + 1 + 65536) = true := decide_eq_true f3
  go_enter Try.func5, Try.ntmps5
  go_wp2_with fail
  refine (good_yes _ _ h).mono ?_
  rintro e w1 ⟨rfl, rfl⟩
  go_wp2_with fail
  refine (shown_any _).mono ?_
  rintro e a0 ⟨rfl, hb0⟩
  have zhb0 := hb0.size
  go_wp2_with fail
  refine (B1.out _).mono ?_
  rintro e a1 ⟨rfl, hb1⟩
  have zhb1 := hb1.size
  go_wp2_with fail
  go_region
  go_wp2
  go_ret
  exact ⟨rfl, below_drew (hb0.trans (hb1.mono (by omega)))⟩
set_option maxHeartbeats 2000000 in
theorem near_three (l x : Int)  (w : World) (n0 : 0 ≤ l) (h : l < 4611686018427387904) (n1 : 0 ≤ x) (n2 : x ≤ 18446744073709551615)  :
    Calls Try.prog 5 #[.int .u64 l, .int .u64 x, .int .i64 3] w fun e w' => e = .returned (.bool true) ∧ Below w.heap.size w w' := by
  have ew : wn (cl 3) = 16777216 := by rw [cl_mid (by omega) (by omega), wn_3]
  have hw := isWin 3
  rw [ew] at hw
  have B1 := Lib.hid (fun w => expand_any l x 3 true w n0 h n1 n2 (by omega) (by omega))
  rw [ew] at B1
  have hn := ex_near (x := x) hw n0 h n1
  clear ew hw
  generalize ex l true x 16777216 = n at *
  have f1 : (n % 16777216 == x % 16777216) = true := by rw [beq_iff_eq]; exact hn.1
  have f2 := hn.2.1
  have f3 := hn.2.2.1
  have f4 := hn.2.2.2
  clear hn
  have e1 : IntKind.u64.wrap (n + 16777216) = n + 16777216 := wr (by omega) (by omega)
  have e2 : IntKind.u64.wrap (l + 1) = l + 1 := wr (by omega) (by omega)
  have e3 : IntKind.u64.wrap (l + 1 + 16777216) = l + 1 + 16777216 := wr (by omega) (by omega)
  have d1 : decide (l + 1 < n + 16777216) = true := decide_eq_true f2
  have d2 : decide (n < l + 1 + 16777216) = true := decide_eq_true f3
  go_enter Try.func5, Try.ntmps5
  go_wp2_with fail
  refine (good_yes _ _ h).mono ?_
  rintro e w1 ⟨rfl, rfl⟩
  go_wp2_with fail
  refine (shown_any _).mono ?_
  rintro e a0 ⟨rfl, hb0⟩
  have zhb0 := hb0.size
  go_wp2_with fail
  refine (B1.out _).mono ?_
  rintro e a1 ⟨rfl, hb1⟩
  have zhb1 := hb1.size
  go_wp2_with fail
  go_region
  go_wp2
  go_ret
  exact ⟨rfl, below_drew (hb0.trans (hb1.mono (by omega)))⟩
set_option maxHeartbeats 2000000 in
theorem near_four (l x : Int)  (w : World) (n0 : 0 ≤ l) (h : l < 4611686018427387904) (n1 : 0 ≤ x) (n2 : x ≤ 18446744073709551615)  :
    Calls Try.prog 5 #[.int .u64 l, .int .u64 x, .int .i64 4] w fun e w' => e = .returned (.bool true) ∧ Below w.heap.size w w' := by
  have ew : wn (cl 4) = 4294967296 := by rw [cl_mid (by omega) (by omega), wn_4]
  have hw := isWin 4
  rw [ew] at hw
  have B1 := Lib.hid (fun w => expand_any l x 4 true w n0 h n1 n2 (by omega) (by omega))
  rw [ew] at B1
  have hn := ex_near (x := x) hw n0 h n1
  clear ew hw
  generalize ex l true x 4294967296 = n at *
  have f1 : (n % 4294967296 == x % 4294967296) = true := by rw [beq_iff_eq]; exact hn.1
  have f2 := hn.2.1
  have f3 := hn.2.2.1
  have f4 := hn.2.2.2
  clear hn
  have e1 : IntKind.u64.wrap (n + 4294967296) = n + 4294967296 := wr (by omega) (by omega)
  have e2 : IntKind.u64.wrap (l + 1) = l + 1 := wr (by omega) (by omega)
  have e3 : IntKind.u64.wrap (l + 1 + 4294967296) = l + 1 + 4294967296 := wr (by omega) (by omega)
  have d1 : decide (l + 1 < n + 4294967296) = true := decide_eq_true f2
  have d2 : decide (n < l + 1 + 4294967296) = true := decide_eq_true f3
  go_enter Try.func5, Try.ntmps5
  go_wp2_with fail
  refine (good_yes _ _ h).mono ?_
  rintro e w1 ⟨rfl, rfl⟩
  go_wp2_with fail
  refine (shown_any _).mono ?_
  rintro e a0 ⟨rfl, hb0⟩
  have zhb0 := hb0.size
  go_wp2_with fail
  refine (B1.out _).mono ?_
  rintro e a1 ⟨rfl, hb1⟩
  have zhb1 := hb1.size
  go_wp2_with fail
  go_region
  go_wp2
  go_ret
  exact ⟨rfl, below_drew (hb0.trans (hb1.mono (by omega)))⟩
set_option maxHeartbeats 2000000 in
theorem near_high (l x : Int) (k : Int) (w : World) (n0 : 0 ≤ l) (h : l < 4611686018427387904) (n1 : 0 ≤ x) (n2 : x ≤ 18446744073709551615) (k0 : 4 < k) (k1 : k ≤ 9223372036854775807) :
    Calls Try.prog 5 #[.int .u64 l, .int .u64 x, .int .i64 k] w fun e w' => e = .returned (.bool true) ∧ Below w.heap.size w w' := by
  have ew : wn (cl k) = 4294967296 := by rw [cl_high k0, wn_4]
  have hw := isWin k
  rw [ew] at hw
  have B1 := Lib.hid (fun w => expand_any l x k true w n0 h n1 n2 (by omega) (by omega))
  rw [ew] at B1
  have hn := ex_near (x := x) hw n0 h n1
  clear ew hw
  generalize ex l true x 4294967296 = n at *
  have f1 : (n % 4294967296 == x % 4294967296) = true := by rw [beq_iff_eq]; exact hn.1
  have f2 := hn.2.1
  have f3 := hn.2.2.1
  have f4 := hn.2.2.2
  clear hn
  have e1 : IntKind.u64.wrap (n + 4294967296) = n + 4294967296 := wr (by omega) (by omega)
  have e2 : IntKind.u64.wrap (l + 1) = l + 1 := wr (by omega) (by omega)
  have e3 : IntKind.u64.wrap (l + 1 + 4294967296) = l + 1 + 4294967296 := wr (by omega) (by omega)
  have d1 : decide (l + 1 < n + 4294967296) = true := decide_eq_true f2
  have d2 : decide (n < l + 1 + 4294967296) = true := decide_eq_true f3
  go_enter Try.func5, Try.ntmps5
  go_wp2_with fail
  refine (good_yes _ _ h).mono ?_
  rintro e w1 ⟨rfl, rfl⟩
  go_wp2_with fail
  refine (shown_any _).mono ?_
  rintro e a0 ⟨rfl, hb0⟩
  have zhb0 := hb0.size
  go_wp2_with fail
  refine (B1.out _).mono ?_
  rintro e a1 ⟨rfl, hb1⟩
  have zhb1 := hb1.size
  go_wp2_with fail
  go_region
  go_wp2
  go_ret
  exact ⟨rfl, below_drew (hb0.trans (hb1.mono (by omega)))⟩
theorem near (l x k : Int) (w : World) (w0 : (Lit.int .u64 l).wf = true) (w1 : (Lit.int .u64 x).wf = true) (w2 : (Lit.int .i64 k).wf = true) :
    Calls Try.prog 5 #[.int .u64 l, .int .u64 x, .int .i64 k] w fun e w' => e = .returned (.bool true) ∧ Below w.heap.size w w' := by
  have ha := bounds_u64 w0
  have hb := bounds_u64 w1
  have hc := bounds_i64 w2
  by_cases g : l < 4611686018427387904
  · by_cases k0 : k < 1
    · exact near_low l x k w ha.1 g hb.1 (by omega) k0 (by omega)
    · by_cases k4 : 4 < k
      · exact near_high l x k w ha.1 g hb.1 (by omega) k4 (by omega)
      · rcases four (c := k) (by omega) (by omega) with rfl | rfl | rfl | rfl
        · exact near_one l x w ha.1 g hb.1 (by omega)
        · exact near_two l x w ha.1 g hb.1 (by omega)
        · exact near_three l x w ha.1 g hb.1 (by omega)
        · exact near_four l x w ha.1 g hb.1 (by omega)
  · exact near_none l x k w (by omega)
end Go.Proofs.Ytpjcpkolmjoneaa.Pn
