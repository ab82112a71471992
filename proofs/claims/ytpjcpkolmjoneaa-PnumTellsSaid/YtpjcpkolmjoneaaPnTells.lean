/- The walk of the law PnumTells. -/
import Derived.Test.YtpjcpkolmjoneaaPnE
import Derived.OpenShut
namespace Go.Proofs.Ytpjcpkolmjoneaa.Pn
open Go.RowKit
set_option linter.unusedVariables false

set_option maxHeartbeats 400000 in
theorem good_yes (n : Int) (w : World) (h : n < 4611686018427387904) : Calls Try.prog 10 #[.int .u64 n] w fun e w' => e = .returned (.bool true) ∧ w = w' := by
  go_enter Try.func10, Try.ntmps10
  go_wp2
  go_ret
  exact ⟨by simp, rfl⟩
set_option maxHeartbeats 400000 in
theorem good_no (n : Int) (w : World) (h : 4611686018427387904 ≤ n) : Calls Try.prog 10 #[.int .u64 n] w fun e w' => e = .returned (.bool false) ∧ w = w' := by
  go_enter Try.func10, Try.ntmps10
  go_wp2
  go_ret
  exact ⟨by simp; omega, rfl⟩

set_option maxHeartbeats 1000000 in
theorem tells_none1 (full other cut : Int) (known : Bool) (wide : Int) (w : World) (h : 4611686018427387904 ≤ full) :
    Calls Try.prog 3 #[.int .u64 full, .int .u64 other, .int .u64 cut, .bool known, .int .i64 wide] w fun e w' => e = .returned (.bool true) ∧ Below w.heap.size w w' := by
  go_enter Try.func3, Try.ntmps3
  go_wp2_with fail
  refine (good_no _ _ h).mono ?_
  rintro e w1 ⟨rfl, rfl⟩
  go_wp2_with fail
  refine (shown_any _).mono ?_
  rintro e w1 ⟨rfl, hb⟩
  go_wp2
  go_ret
  exact ⟨rfl, hb⟩
set_option maxHeartbeats 1000000 in
theorem tells_none2 (full other cut : Int) (known : Bool) (wide : Int) (w : World) (h0 : full < 4611686018427387904) (h : 4611686018427387904 ≤ other) :
    Calls Try.prog 3 #[.int .u64 full, .int .u64 other, .int .u64 cut, .bool known, .int .i64 wide] w fun e w' => e = .returned (.bool true) ∧ Below w.heap.size w w' := by
  go_enter Try.func3, Try.ntmps3
  go_wp2_with fail
  refine (good_yes _ _ h0).mono ?_
  rintro e w1 ⟨rfl, rfl⟩
  go_wp2_with fail
  refine (good_no _ _ h).mono ?_
  rintro e w1 ⟨rfl, rfl⟩
  go_wp2_with fail
  refine (shown_any _).mono ?_
  rintro e w1 ⟨rfl, hb⟩
  go_wp2
  go_ret
  exact ⟨rfl, hb⟩
set_option maxHeartbeats 1000000 in
theorem tells_some (full other cut : Int) (known : Bool) (wide : Int) (w : World) (h0 : 0 ≤ full) (h1 : full < 4611686018427387904) (h2 : 0 ≤ other) (h3 : other < 4611686018427387904)
    (h4 : 0 ≤ cut) (h5 : cut ≤ 18446744073709551615) (h6 : -9223372036854775808 ≤ wide) (h7 : wide ≤ 9223372036854775807) :
    Calls Try.prog 3 #[.int .u64 full, .int .u64 other, .int .u64 cut, .bool known, .int .i64 wide] w fun e w' => e = .returned (.bool true) ∧ Below w.heap.size w w' := by
  go_enter Try.func3, Try.ntmps3
  go_wp2_with fail
  refine (good_yes _ _ h1).mono ?_
  rintro e w1 ⟨rfl, rfl⟩
  go_wp2_with fail
  refine (good_yes _ _ h3).mono ?_
  rintro e w1 ⟨rfl, rfl⟩
  go_wp2_with fail
  refine (shown_any _).mono ?_
  rintro e w1 ⟨rfl, hb1⟩
  have z1 := hb1.size
  go_wp2_with fail
  refine (bytes_any _ _ _ _ h0 h1 h2).mono ?_
  rintro e w2 ⟨rfl, hb2⟩
  have z2 := hb2.size
  go_wp2_with fail
  refine (rbytes_any _ _ _ _ h0 h1 h2).mono ?_
  rintro e w2 ⟨rfl, rfl⟩
  go_wp2_with fail
  refine (cut_any _ _ _ h0 (by omega) h6 h7).mono ?_
  rintro e w3 ⟨rfl, hb3⟩
  have z3 := hb3.size
  go_wp2_with fail
  refine (rcut_any _ _ _ h0 (by omega) h6 h7).mono ?_
  rintro e w3 ⟨rfl, rfl⟩
  go_wp2_with fail
  refine (expand_any _ _ _ _ _ h2 h3 h4 h5 h6 h7).mono ?_
  rintro e w4 ⟨rfl, hb4⟩
  have z4 := hb4.size
  go_wp2_with fail
  refine (rexpand_any _ _ _ _ _ h2 h3 h4 h5 h6 h7).mono ?_
  rintro e w5 ⟨rfl, hb5⟩
  go_wp2
  go_ret
  exact ⟨rfl, hb1.trans ((hb2.mono (by omega)).trans ((hb3.mono (by omega)).trans ((hb4.mono (by omega)).trans (hb5.mono (by omega)))))⟩

theorem tells (full other cut : Int) (known : Bool) (wide : Int) (w : World) (w0 : (Lit.int .u64 full).wf = true) (w1 : (Lit.int .u64 other).wf = true) (w2 : (Lit.int .u64 cut).wf = true) (w4 : (Lit.int .i64 wide).wf = true) :
    Calls Try.prog 3 #[.int .u64 full, .int .u64 other, .int .u64 cut, .bool known, .int .i64 wide] w fun e w' => e = .returned (.bool true) ∧ Below w.heap.size w w' := by
  have ha := bounds_u64 w0
  have hb := bounds_u64 w1
  have hc := bounds_u64 w2
  have hd := bounds_i64 w4
  by_cases g : full < 4611686018427387904
  · by_cases g2 : other < 4611686018427387904
    · exact tells_some full other cut known wide w ha.1 g hb.1 g2 hc.1 (by omega) (by omega) (by omega)
    · exact tells_none2 full other cut known wide w g (by omega)
  · exact tells_none1 full other cut known wide w (by omega)
end Go.Proofs.Ytpjcpkolmjoneaa.Pn
