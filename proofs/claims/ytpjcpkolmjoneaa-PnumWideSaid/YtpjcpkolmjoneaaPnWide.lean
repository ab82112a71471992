/- The walk of the law PnumWide. -/
import Derived.Test.YtpjcpkolmjoneaaPnM
import Derived.Deep.RegionWith
import Derived.Test.YtpjcpkolmjoneaaPnTells
namespace Go.Proofs.Ytpjcpkolmjoneaa.Pn
open Go.RowKit
set_option linter.unusedVariables false

set_option maxHeartbeats 2000000 in
theorem wide_none1 (acked a b : Int) (w : World) (n0 : 0 ≤ acked) (n1 : 0 ≤ a) (n2 : 0 ≤ b) (h : 4611686018427387904 ≤ acked) :
    Calls Try.prog 6 #[.int .u64 acked, .int .u64 a, .int .u64 b] w fun e w' => e = .returned (.bool true) ∧ Below w.heap.size w w' := by
  go_enter Try.func6, Try.ntmps6
  go_wp2_with fail
  refine (good_no _ _ h).mono ?_
  rintro e w1 ⟨rfl, rfl⟩
  go_wp2_with fail
  refine (shown_any _).mono ?_
  rintro e a0 ⟨rfl, hb0⟩
  have zhb0 := hb0.size
  go_wp2
  go_ret
  exact ⟨rfl, hb0⟩
set_option maxHeartbeats 2000000 in
theorem wide_none2 (acked a b : Int) (w : World) (n0 : 0 ≤ acked) (n1 : 0 ≤ a) (n2 : 0 ≤ b) (h : acked < 4611686018427387904) (g : 4611686018427387904 ≤ acked + a % 4000000000 + b % 4000000000) :
    Calls Try.prog 6 #[.int .u64 acked, .int .u64 a, .int .u64 b] w fun e w' => e = .returned (.bool true) ∧ Below w.heap.size w w' := by
  go_enter Try.func6, Try.ntmps6
  go_wp2_with fail
  refine (good_yes _ _ h).mono ?_
  rintro e w1 ⟨rfl, rfl⟩
  go_wp2_with fail
  refine (good_no _ _ g).mono ?_
  rintro e w1 ⟨rfl, rfl⟩
  go_wp2_with fail
  refine (shown_any _).mono ?_
  rintro e a0 ⟨rfl, hb0⟩
  have zhb0 := hb0.size
  go_wp2
  go_ret
  exact ⟨rfl, hb0⟩
set_option maxHeartbeats 2000000 in
theorem wide_some (acked a b : Int) (w : World) (n0 : 0 ≤ acked) (n1 : 0 ≤ a) (n2 : 0 ≤ b) (h : acked < 4611686018427387904) (g : acked + a % 4000000000 + b % 4000000000 < 4611686018427387904) :
    Calls Try.prog 6 #[.int .u64 acked, .int .u64 a, .int .u64 b] w fun e w' => e = .returned (.bool true) ∧ Below w.heap.size w w' := by
  have m1 : 0 ≤ a % 4000000000 := by omega
  have m2 : 0 ≤ b % 4000000000 := by omega
  have B1 := Lib.hid (fun w => bytes_any (acked + a % 4000000000) acked true w (by omega) (by omega) (by omega))
  have B2 := Lib.hid (fun w => bytes_any (acked + a % 4000000000 + b % 4000000000) acked true w (by omega) (by omega) (by omega))
  have r1 := by_range (ds (acked + a % 4000000000) acked true)
  have r2 := by_range (ds (acked + a % 4000000000 + b % 4000000000) acked true)
  have r3 : by' (ds (acked + a % 4000000000) acked true) ≤ by' (ds (acked + a % 4000000000 + b % 4000000000) acked true) := by
    apply by_mono
    unfold ds
    simp only [if_true]
    split <;> split <;> omega
  generalize by' (ds (acked + a % 4000000000) acked true) = p at *
  generalize by' (ds (acked + a % 4000000000 + b % 4000000000) acked true) = q at *
  go_enter Try.func6, Try.ntmps6
  go_wp2_with fail
  refine (good_yes _ _ h).mono ?_
  rintro e w1 ⟨rfl, rfl⟩
  go_wp2_with fail
  refine (good_yes _ _ g).mono ?_
  rintro e w1 ⟨rfl, rfl⟩
  go_wp2_with fail
  refine (shown_any _).mono ?_
  rintro e a0 ⟨rfl, hb0⟩
  have zhb0 := hb0.size
  go_wp2_with fail
  refine (B1.out _).mono ?_
  rintro e a1 ⟨rfl, hb1⟩
  have zhb1 := hb1.size
  go_wp2_with fail
  refine (B2.out _).mono ?_
  rintro e a2 ⟨rfl, hb2⟩
  have zhb2 := hb2.size
  go_wp2
  go_ret
  exact ⟨rfl, (hb0.trans ((hb1.mono (by omega)).trans (hb2.mono (by omega))))⟩
theorem wide (acked a b : Int) (w : World) (w0 : (Lit.int .u64 acked).wf = true) (w1 : (Lit.int .u64 a).wf = true) (w2 : (Lit.int .u64 b).wf = true) :
    Calls Try.prog 6 #[.int .u64 acked, .int .u64 a, .int .u64 b] w fun e w' => e = .returned (.bool true) ∧ Below w.heap.size w w' := by
  have ha := bounds_u64 w0
  have hb := bounds_u64 w1
  have hc := bounds_u64 w2
  by_cases g : acked < 4611686018427387904
  · by_cases g2 : acked + a % 4000000000 + b % 4000000000 < 4611686018427387904
    · exact wide_some acked a b w ha.1 hb.1 hc.1 g g2
    · exact wide_none2 acked a b w ha.1 hb.1 hc.1 g (by omega)
  · exact wide_none1 acked a b w ha.1 hb.1 hc.1 (by omega)
end Go.Proofs.Ytpjcpkolmjoneaa.Pn
