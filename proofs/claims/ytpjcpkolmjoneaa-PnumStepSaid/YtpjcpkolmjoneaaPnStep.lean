/- The walk of the law PnumStep. -/
import Derived.Test.YtpjcpkolmjoneaaPnM
import Derived.Deep.RegionWith
import Derived.Test.YtpjcpkolmjoneaaPnTells
namespace Go.Proofs.Ytpjcpkolmjoneaa.Pn
open Go.RowKit
set_option linter.unusedVariables false

set_option maxHeartbeats 2000000 in
theorem step_none_1 (n wd bk : Int) (w : World) (n0 : 0 ≤ n) (n1 : 0 ≤ wd) (n2 : wd ≤ 255) (n3 : 0 ≤ bk) (n4 : bk ≤ 4294967295) (hr : wd % 4 = 0) (h : 4611686000000000000 < n) :
    Calls Try.prog 9 #[.int .u64 n, .int .u8 wd, .int .u32 bk] w fun e w' => e = .returned (.bool true) ∧ Below w.heap.size w w' := by
  go_enter Try.func9, Try.ntmps9
  go_wp2_with fail
  refine (shown_any _).mono ?_
  rintro e a0 ⟨rfl, hb0⟩
  have zhb0 := hb0.size
  go_wp2
  go_ret
  exact ⟨rfl, hb0⟩
set_option maxHeartbeats 2000000 in
theorem step_some_1 (n wd bk : Int) (w : World) (n0 : 0 ≤ n) (n1 : 0 ≤ wd) (n2 : wd ≤ 255) (n3 : 0 ≤ bk) (n4 : bk ≤ 4294967295) (hr : wd % 4 = 0) (h : n ≤ 4611686000000000000) :
    Calls Try.prog 9 #[.int .u64 n, .int .u8 wd, .int .u32 bk] w fun e w' => e = .returned (.bool true) ∧ Below w.heap.size w w' := by
  have ew : wn (cl 1) = 256 := by rw [cl_mid (by omega) (by omega), wn_1]
  have hw := isWin 1
  rw [ew] at hw
  have hb : 0 ≤ bk % 64 ∧ bk % 64 < 64 := by omega
  have C1 := Lib.hid (fun w => cut_any (n + bk % 64) 1 w (by omega) (by omega) (by omega) (by omega))
  have C2 := Lib.hid (fun w => cut_any n 1 w (by omega) (by omega) (by omega) (by omega))
  have E1 := Lib.hid (fun w => expand_any n ((n + bk % 64) % 256) 1 true w n0 (by omega) (by omega) (by omega) (by omega) (by omega))
  have E2 := Lib.hid (fun w => expand_any (n + bk % 64) (n % 256) 1 true w (by omega) (by omega) (by omega) (by omega) (by omega) (by omega))
  rw [ew] at C1 C2 E1 E2
  rw [ex_back hw n0 (by omega) (by omega) (by omega) (by omega)] at E1
  rw [ex_back hw (by omega) (by omega) (by omega) (by omega) (by omega)] at E2
  clear ew hw
  generalize n % 256 = c2 at *
  generalize (n + bk % 64) % 256 = c1 at *
  go_enter Try.func9, Try.ntmps9
  go_wp2_with fail
  refine (shown_any _).mono ?_
  rintro e a0 ⟨rfl, hb0⟩
  have zhb0 := hb0.size
  go_wp2_with fail
  refine (C1.out _).mono ?_
  rintro e a1 ⟨rfl, hb1⟩
  have zhb1 := hb1.size
  go_wp2_with fail
  refine (E1.out _).mono ?_
  rintro e a2 ⟨rfl, hb2⟩
  have zhb2 := hb2.size
  go_wp2_with fail
  refine (C2.out _).mono ?_
  rintro e a3 ⟨rfl, hb3⟩
  have zhb3 := hb3.size
  go_wp2_with fail
  refine (E2.out _).mono ?_
  rintro e a4 ⟨rfl, hb4⟩
  have zhb4 := hb4.size
  go_wp2
  go_ret
  exact ⟨rfl, (hb0.trans ((hb1.mono (by omega)).trans ((hb2.mono (by omega)).trans ((hb3.mono (by omega)).trans (hb4.mono (by omega))))))⟩
set_option maxHeartbeats 2000000 in
theorem step_none_2 (n wd bk : Int) (w : World) (n0 : 0 ≤ n) (n1 : 0 ≤ wd) (n2 : wd ≤ 255) (n3 : 0 ≤ bk) (n4 : bk ≤ 4294967295) (hr : wd % 4 = 1) (h : 4611686000000000000 < n) :
    Calls Try.prog 9 #[.int .u64 n, .int .u8 wd, .int .u32 bk] w fun e w' => e = .returned (.bool true) ∧ Below w.heap.size w w' := by
  go_enter Try.func9, Try.ntmps9
  go_wp2_with fail
  refine (shown_any _).mono ?_
  rintro e a0 ⟨rfl, hb0⟩
  have zhb0 := hb0.size
  go_wp2
  go_ret
  exact ⟨rfl, hb0⟩
set_option maxHeartbeats 2000000 in
theorem step_some_2 (n wd bk : Int) (w : World) (n0 : 0 ≤ n) (n1 : 0 ≤ wd) (n2 : wd ≤ 255) (n3 : 0 ≤ bk) (n4 : bk ≤ 4294967295) (hr : wd % 4 = 1) (h : n ≤ 4611686000000000000) :
    Calls Try.prog 9 #[.int .u64 n, .int .u8 wd, .int .u32 bk] w fun e w' => e = .returned (.bool true) ∧ Below w.heap.size w w' := by
  have ew : wn (cl 2) = 65536 := by rw [cl_mid (by omega) (by omega), wn_2]
  have hw := isWin 2
  rw [ew] at hw
  have hb : 0 ≤ bk % 16384 ∧ bk % 16384 < 16384 := by omega
  have C1 := Lib.hid (fun w => cut_any (n + bk % 16384) 2 w (by omega) (by omega) (by omega) (by omega))
  have C2 := Lib.hid (fun w => cut_any n 2 w (by omega) (by omega) (by omega) (by omega))
  have E1 := Lib.hid (fun w => expand_any n ((n + bk % 16384) % 65536) 2 true w n0 (by omega) (by omega) (by omega) (by omega) (by omega))
  have E2 := Lib.hid (fun w => expand_any (n + bk % 16384) (n % 65536) 2 true w (by omega) (by omega) (by omega) (by omega) (by omega) (by omega))
  rw [ew] at C1 C2 E1 E2
  rw [ex_back hw n0 (by omega) (by omega) (by omega) (by omega)] at E1
  rw [ex_back hw (by omega) (by omega) (by omega) (by omega) (by omega)] at E2
  clear ew hw
  generalize n % 65536 = c2 at *
  generalize (n + bk % 16384) % 65536 = c1 at *
  go_enter Try.func9, Try.ntmps9
  go_wp2_with fail
  refine (shown_any _).mono ?_
  rintro e a0 ⟨rfl, hb0⟩
  have zhb0 := hb0.size
  go_wp2_with fail
  refine (C1.out _).mono ?_
  rintro e a1 ⟨rfl, hb1⟩
  have zhb1 := hb1.size
  go_wp2_with fail
  refine (E1.out _).mono ?_
  rintro e a2 ⟨rfl, hb2⟩
  have zhb2 := hb2.size
  go_wp2_with fail
  refine (C2.out _).mono ?_
  rintro e a3 ⟨rfl, hb3⟩
  have zhb3 := hb3.size
  go_wp2_with fail
  refine (E2.out _).mono ?_
  rintro e a4 ⟨rfl, hb4⟩
  have zhb4 := hb4.size
  go_wp2
  go_ret
  exact ⟨rfl, (hb0.trans ((hb1.mono (by omega)).trans ((hb2.mono (by omega)).trans ((hb3.mono (by omega)).trans (hb4.mono (by omega))))))⟩
set_option maxHeartbeats 2000000 in
theorem step_none_3 (n wd bk : Int) (w : World) (n0 : 0 ≤ n) (n1 : 0 ≤ wd) (n2 : wd ≤ 255) (n3 : 0 ≤ bk) (n4 : bk ≤ 4294967295) (hr : wd % 4 = 2) (h : 4611686000000000000 < n) :
    Calls Try.prog 9 #[.int .u64 n, .int .u8 wd, .int .u32 bk] w fun e w' => e = .returned (.bool true) ∧ Below w.heap.size w w' := by
  go_enter Try.func9, Try.ntmps9
  go_wp2_with fail
  refine (shown_any _).mono ?_
  rintro e a0 ⟨rfl, hb0⟩
  have zhb0 := hb0.size
  go_wp2
  go_ret
  exact ⟨rfl, hb0⟩
set_option maxHeartbeats 2000000 in
theorem step_some_3 (n wd bk : Int) (w : World) (n0 : 0 ≤ n) (n1 : 0 ≤ wd) (n2 : wd ≤ 255) (n3 : 0 ≤ bk) (n4 : bk ≤ 4294967295) (hr : wd % 4 = 2) (h : n ≤ 4611686000000000000) :
    Calls Try.prog 9 #[.int .u64 n, .int .u8 wd, .int .u32 bk] w fun e w' => e = .returned (.bool true) ∧ Below w.heap.size w w' := by
  have ew : wn (cl 3) = 16777216 := by rw [cl_mid (by omega) (by omega), wn_3]
  have hw := isWin 3
  rw [ew] at hw
  have hb : 0 ≤ bk % 4194304 ∧ bk % 4194304 < 4194304 := by omega
  have C1 := Lib.hid (fun w => cut_any (n + bk % 4194304) 3 w (by omega) (by omega) (by omega) (by omega))
  have C2 := Lib.hid (fun w => cut_any n 3 w (by omega) (by omega) (by omega) (by omega))
  have E1 := Lib.hid (fun w => expand_any n ((n + bk % 4194304) % 16777216) 3 true w n0 (by omega) (by omega) (by omega) (by omega) (by omega))
  have E2 := Lib.hid (fun w => expand_any (n + bk % 4194304) (n % 16777216) 3 true w (by omega) (by omega) (by omega) (by omega) (by omega) (by omega))
  rw [ew] at C1 C2 E1 E2
  rw [ex_back hw n0 (by omega) (by omega) (by omega) (by omega)] at E1
  rw [ex_back hw (by omega) (by omega) (by omega) (by omega) (by omega)] at E2
  clear ew hw
  generalize n % 16777216 = c2 at *
  generalize (n + bk % 4194304) % 16777216 = c1 at *
  go_enter Try.func9, Try.ntmps9
  go_wp2_with fail
  refine (shown_any _).mono ?_
  rintro e a0 ⟨rfl, hb0⟩
  have zhb0 := hb0.size
  go_wp2_with fail
  refine (C1.out _).mono ?_
  rintro e a1 ⟨rfl, hb1⟩
  have zhb1 := hb1.size
  go_wp2_with fail
  refine (E1.out _).mono ?_
  rintro e a2 ⟨rfl, hb2⟩
  have zhb2 := hb2.size
  go_wp2_with fail
  refine (C2.out _).mono ?_
  rintro e a3 ⟨rfl, hb3⟩
  have zhb3 := hb3.size
  go_wp2_with fail
  refine (E2.out _).mono ?_
  rintro e a4 ⟨rfl, hb4⟩
  have zhb4 := hb4.size
  go_wp2
  go_ret
  exact ⟨rfl, (hb0.trans ((hb1.mono (by omega)).trans ((hb2.mono (by omega)).trans ((hb3.mono (by omega)).trans (hb4.mono (by omega))))))⟩
set_option maxHeartbeats 2000000 in
theorem step_none_4 (n wd bk : Int) (w : World) (n0 : 0 ≤ n) (n1 : 0 ≤ wd) (n2 : wd ≤ 255) (n3 : 0 ≤ bk) (n4 : bk ≤ 4294967295) (hr : wd % 4 = 3) (h : 4611686000000000000 < n) :
    Calls Try.prog 9 #[.int .u64 n, .int .u8 wd, .int .u32 bk] w fun e w' => e = .returned (.bool true) ∧ Below w.heap.size w w' := by
  go_enter Try.func9, Try.ntmps9
  go_wp2_with fail
  refine (shown_any _).mono ?_
  rintro e a0 ⟨rfl, hb0⟩
  have zhb0 := hb0.size
  go_wp2
  go_ret
  exact ⟨rfl, hb0⟩
set_option maxHeartbeats 2000000 in
theorem step_some_4 (n wd bk : Int) (w : World) (n0 : 0 ≤ n) (n1 : 0 ≤ wd) (n2 : wd ≤ 255) (n3 : 0 ≤ bk) (n4 : bk ≤ 4294967295) (hr : wd % 4 = 3) (h : n ≤ 4611686000000000000) :
    Calls Try.prog 9 #[.int .u64 n, .int .u8 wd, .int .u32 bk] w fun e w' => e = .returned (.bool true) ∧ Below w.heap.size w w' := by
  have ew : wn (cl 4) = 4294967296 := by rw [cl_mid (by omega) (by omega), wn_4]
  have hw := isWin 4
  rw [ew] at hw
  have hb : 0 ≤ bk % 1073741824 ∧ bk % 1073741824 < 1073741824 := by omega
  have C1 := Lib.hid (fun w => cut_any (n + bk % 1073741824) 4 w (by omega) (by omega) (by omega) (by omega))
  have C2 := Lib.hid (fun w => cut_any n 4 w (by omega) (by omega) (by omega) (by omega))
  have E1 := Lib.hid (fun w => expand_any n ((n + bk % 1073741824) % 4294967296) 4 true w n0 (by omega) (by omega) (by omega) (by omega) (by omega))
  have E2 := Lib.hid (fun w => expand_any (n + bk % 1073741824) (n % 4294967296) 4 true w (by omega) (by omega) (by omega) (by omega) (by omega) (by omega))
  rw [ew] at C1 C2 E1 E2
  rw [ex_back hw n0 (by omega) (by omega) (by omega) (by omega)] at E1
  rw [ex_back hw (by omega) (by omega) (by omega) (by omega) (by omega)] at E2
  clear ew hw
  generalize n % 4294967296 = c2 at *
  generalize (n + bk % 1073741824) % 4294967296 = c1 at *
  go_enter Try.func9, Try.ntmps9
  go_wp2_with fail
  refine (shown_any _).mono ?_
  rintro e a0 ⟨rfl, hb0⟩
  have zhb0 := hb0.size
  go_wp2_with fail
  refine (C1.out _).mono ?_
  rintro e a1 ⟨rfl, hb1⟩
  have zhb1 := hb1.size
  go_wp2_with fail
  refine (E1.out _).mono ?_
  rintro e a2 ⟨rfl, hb2⟩
  have zhb2 := hb2.size
  go_wp2_with fail
  refine (C2.out _).mono ?_
  rintro e a3 ⟨rfl, hb3⟩
  have zhb3 := hb3.size
  go_wp2_with fail
  refine (E2.out _).mono ?_
  rintro e a4 ⟨rfl, hb4⟩
  have zhb4 := hb4.size
  go_wp2
  go_ret
  exact ⟨rfl, (hb0.trans ((hb1.mono (by omega)).trans ((hb2.mono (by omega)).trans ((hb3.mono (by omega)).trans (hb4.mono (by omega))))))⟩
theorem step (n wd bk : Int) (w : World) (w0 : (Lit.int .u64 n).wf = true) (w1 : (Lit.int .u8 wd).wf = true) (w2 : (Lit.int .u32 bk).wf = true) :
    Calls Try.prog 9 #[.int .u64 n, .int .u8 wd, .int .u32 bk] w fun e w' => e = .returned (.bool true) ∧ Below w.heap.size w w' := by
  have ha := bounds_u64 w0
  have hb := bounds_u8 w1
  have hc := bounds_u32 w2
  have hr : wd % 4 = 0 ∨ wd % 4 = 1 ∨ wd % 4 = 2 ∨ wd % 4 = 3 := by omega
  by_cases g : n ≤ 4611686000000000000
  · rcases hr with hr | hr | hr | hr
    · exact step_some_1 n wd bk w ha.1 hb.1 (by omega) hc.1 (by omega) hr g
    · exact step_some_2 n wd bk w ha.1 hb.1 (by omega) hc.1 (by omega) hr g
    · exact step_some_3 n wd bk w ha.1 hb.1 (by omega) hc.1 (by omega) hr g
    · exact step_some_4 n wd bk w ha.1 hb.1 (by omega) hc.1 (by omega) hr g
  · rcases hr with hr | hr | hr | hr
    · exact step_none_1 n wd bk w ha.1 hb.1 (by omega) hc.1 (by omega) hr (by omega)
    · exact step_none_2 n wd bk w ha.1 hb.1 (by omega) hc.1 (by omega) hr (by omega)
    · exact step_none_3 n wd bk w ha.1 hb.1 (by omega) hc.1 (by omega) hr (by omega)
    · exact step_none_4 n wd bk w ha.1 hb.1 (by omega) hc.1 (by omega) hr (by omega)
end Go.Proofs.Ytpjcpkolmjoneaa.Pn
