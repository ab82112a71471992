/- The walk of the law PnumFirst. -/
import Derived.Test.YtpjcpkolmjoneaaPnM
import Derived.Deep.RegionWith
import Derived.Test.YtpjcpkolmjoneaaPnTells
namespace Go.Proofs.Ytpjcpkolmjoneaa.Pn
open Go.RowKit
set_option linter.unusedVariables false

set_option maxHeartbeats 2000000 in
theorem first_none (n : Int) (w : World) (h : 4611686018427387903 ≤ n) :
    Calls Try.prog 8 #[.int .u64 n] w fun e w' => e = .returned (.bool true) ∧ Below w.heap.size w w' := by
  go_enter Try.func8, Try.ntmps8
  go_wp2_with fail
  refine (shown_any _).mono ?_
  rintro e a0 ⟨rfl, hb0⟩
  have zhb0 := hb0.size
  go_wp2
  go_ret
  exact ⟨rfl, hb0⟩
set_option maxHeartbeats 2000000 in
theorem first_some (n : Int) (w : World) (h0 : 0 ≤ n) (h : n < 4611686018427387903) :
    Calls Try.prog 8 #[.int .u64 n] w fun e w' => e = .returned (.bool true) ∧ Below w.heap.size w w' := by
  have B1 := Lib.hid (fun w => bytes_any n 0 false w h0 (by omega) (by omega))
  have B2 := Lib.hid (fun w => bytes_any (n + 1) 0 true w (by omega) (by omega) (by omega))
  have B3 := Lib.hid (fun w => bytes_any n n true w h0 (by omega) h0)
  have B4 := Lib.hid (fun w => bytes_any n (n + 1) true w h0 (by omega) (by omega))
  rw [ds_none] at B1
  rw [ds_far (by omega), show n + 1 - 0 = n + 1 by omega] at B2
  rw [ds_near (by omega), by_1 (by omega)] at B3
  rw [ds_near (by omega), by_1 (by omega)] at B4
  go_enter Try.func8, Try.ntmps8
  go_wp2_with fail
  refine (shown_any _).mono ?_
  rintro e a0 ⟨rfl, hb0⟩
  have zhb0 := hb0.size
  go_wp2_with fail
  refine (B1.out _).mono ?_
  rintro e a1 ⟨rfl, hb1⟩
  have zhb1 := hb1.size
  go_wp2_with fail
  refine (B2.out _).mono ?_
  rintro e a2 ⟨rfl, hb2⟩
  have zhb2 := hb2.size
  go_wp2_with fail
  refine (B3.out _).mono ?_
  rintro e a3 ⟨rfl, hb3⟩
  have zhb3 := hb3.size
  go_wp2_with fail
  refine (B4.out _).mono ?_
  rintro e a4 ⟨rfl, hb4⟩
  have zhb4 := hb4.size
  go_wp2
  go_ret
  exact ⟨rfl, (hb0.trans ((hb1.mono (by omega)).trans ((hb2.mono (by omega)).trans ((hb3.mono (by omega)).trans (hb4.mono (by omega))))))⟩
theorem first (n : Int) (w : World) (w0 : (Lit.int .u64 n).wf = true) :
    Calls Try.prog 8 #[.int .u64 n] w fun e w' => e = .returned (.bool true) ∧ Below w.heap.size w w' := by
  have ha := bounds_u64 w0
  by_cases g : n < 4611686018427387903
  · exact first_some n w ha.1 g
  · exact first_none n w (by omega)
end Go.Proofs.Ytpjcpkolmjoneaa.Pn
