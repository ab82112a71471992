/- The walks of layer 2: the document's own window, Cut, Bytes, Expand; the small case that must go well. -/
import Derived.Test.YtpjcpkolmjoneaaPnD
import Derived.RegionTactic
namespace Go.Proofs.Ytpjcpkolmjoneaa.Pn
open Go.RowKit
set_option linter.unusedVariables false

set_option maxHeartbeats 1000000 in
theorem rwindow_low (w : World) (k : Int) (h0 : k < 1) (h1 : -9223372036854775808 ≤ k) :
    Calls Try.prog 21 #[.int .i64 k] w fun e w' => e = .returned (.int .u64 256) ∧ w = w' := by
  go_enter Try.func21, Try.ntmps21
  go_wp2_with fail
  refine wp_loop_rounds 6 ?_
  rw [rounds_succ]
  go_wp2
  rw [rounds_succ]
  go_wp2
  go_ret
  exact ⟨rfl, rfl⟩
set_option maxHeartbeats 1000000 in
theorem rwindow_1 (w : World) :
    Calls Try.prog 21 #[.int .i64 1] w fun e w' => e = .returned (.int .u64 256) ∧ w = w' := by
  go_enter Try.func21, Try.ntmps21
  go_wp2_with fail
  refine wp_loop_rounds 6 ?_
  rw [rounds_succ]
  go_wp2
  rw [rounds_succ]
  go_wp2
  go_ret
  exact ⟨rfl, rfl⟩
set_option maxHeartbeats 1000000 in
theorem rwindow_2 (w : World) :
    Calls Try.prog 21 #[.int .i64 2] w fun e w' => e = .returned (.int .u64 65536) ∧ w = w' := by
  go_enter Try.func21, Try.ntmps21
  go_wp2_with fail
  refine wp_loop_rounds 6 ?_
  rw [rounds_succ]
  go_wp2
  rw [rounds_succ]
  go_wp2
  rw [rounds_succ]
  go_wp2
  go_ret
  exact ⟨rfl, rfl⟩
set_option maxHeartbeats 1000000 in
theorem rwindow_3 (w : World) :
    Calls Try.prog 21 #[.int .i64 3] w fun e w' => e = .returned (.int .u64 16777216) ∧ w = w' := by
  go_enter Try.func21, Try.ntmps21
  go_wp2_with fail
  refine wp_loop_rounds 6 ?_
  rw [rounds_succ]
  go_wp2
  rw [rounds_succ]
  go_wp2
  rw [rounds_succ]
  go_wp2
  rw [rounds_succ]
  go_wp2
  go_ret
  exact ⟨rfl, rfl⟩
set_option maxHeartbeats 1000000 in
theorem rwindow_4 (w : World) :
    Calls Try.prog 21 #[.int .i64 4] w fun e w' => e = .returned (.int .u64 4294967296) ∧ w = w' := by
  go_enter Try.func21, Try.ntmps21
  go_wp2_with fail
  refine wp_loop_rounds 6 ?_
  rw [rounds_succ]
  go_wp2
  rw [rounds_succ]
  go_wp2
  rw [rounds_succ]
  go_wp2
  rw [rounds_succ]
  go_wp2
  rw [rounds_succ]
  go_wp2
  go_ret
  exact ⟨rfl, rfl⟩
set_option maxHeartbeats 1000000 in
theorem rwindow_high (w : World) (k : Int) (h0 : 4 < k) (h1 : k ≤ 9223372036854775807) :
    Calls Try.prog 21 #[.int .i64 k] w fun e w' => e = .returned (.int .u64 4294967296) ∧ w = w' := by
  go_enter Try.func21, Try.ntmps21
  go_wp2_with fail
  refine wp_loop_rounds 6 ?_
  rw [rounds_succ]
  go_wp2
  rw [rounds_succ]
  go_wp2
  rw [rounds_succ]
  go_wp2
  rw [rounds_succ]
  go_wp2
  rw [rounds_succ]
  go_wp2
  go_ret
  exact ⟨rfl, rfl⟩

theorem rwindow_any (k : Int) (w : World) (h0 : -9223372036854775808 ≤ k) (h1 : k ≤ 9223372036854775807) :
    Calls Try.prog 21 #[.int .i64 k] w fun e w' => e = .returned (.int .u64 (wn (cl k))) ∧ w = w' := by
  by_cases h : k < 1
  · rw [cl_low h, wn_1]; exact rwindow_low w k h h0
  · by_cases h4 : 4 < k
    · rw [cl_high h4, wn_4]; exact rwindow_high w k h4 h1
    · rw [cl_mid (by omega) (by omega)]
      rcases four (c := k) (by omega) (by omega) with rfl | rfl | rfl | rfl
      · rw [wn_1]; exact rwindow_1 w
      · rw [wn_2]; exact rwindow_2 w
      · rw [wn_3]; exact rwindow_3 w
      · rw [wn_4]; exact rwindow_4 w

set_option maxHeartbeats 400000 in
theorem rcut_any (n k : Int) (w : World) (hn : 0 ≤ n) (hn1 : n ≤ 18446744073709551615) (h0 : -9223372036854775808 ≤ k) (h1 : k ≤ 9223372036854775807) :
    Calls Try.prog 15 #[.int .u64 n, .int .i64 k] w fun e w' => e = .returned (.int .u64 (n % wn (cl k))) ∧ w = w' := by
  have hc := cl_range k
  have hr := wn_range hc.1 hc.2
  go_enter Try.func15, Try.ntmps15
  go_wp2_with fail
  refine (rwindow_any _ _ h0 h1).mono ?_
  rintro e w1 ⟨rfl, rfl⟩
  go_wp2
  go_ret
  exact ⟨rfl, rfl⟩
set_option maxHeartbeats 1000000 in
theorem rbytes_none_1 (full acked : Int) (w : World) (h0 : 0 ≤ full) (h1 : full < 4611686018427387904) (h2 : 0 ≤ acked) (g1 : 2 * (full + 1) < 256) :
    Calls Try.prog 13 #[.int .u64 full, .int .u64 acked, .bool false] w fun e w' => e = .returned (.int .i64 1) ∧ w = w' := by
  go_enter Try.func13, Try.ntmps13
  go_wp2_with fail
  refine wp_loop_rounds 6 ?_
  rw [rounds_succ]
  go_wp2_with fail
  refine (rwindow_1 _).mono ?_
  rintro e w1 ⟨rfl, rfl⟩
  go_wp2_with fail
  go_ret
  exact ⟨rfl, rfl⟩
set_option maxHeartbeats 1000000 in
theorem rbytes_none_2 (full acked : Int) (w : World) (h0 : 0 ≤ full) (h1 : full < 4611686018427387904) (h2 : 0 ≤ acked) (g1 : 256 ≤ 2 * (full + 1)) (g2 : 2 * (full + 1) < 65536) :
    Calls Try.prog 13 #[.int .u64 full, .int .u64 acked, .bool false] w fun e w' => e = .returned (.int .i64 2) ∧ w = w' := by
  go_enter Try.func13, Try.ntmps13
  go_wp2_with fail
  refine wp_loop_rounds 6 ?_
  rw [rounds_succ]
  go_wp2_with fail
  refine (rwindow_1 _).mono ?_
  rintro e w1 ⟨rfl, rfl⟩
  go_wp2_with fail
  rw [rounds_succ]
  go_wp2_with fail
  refine (rwindow_2 _).mono ?_
  rintro e w1 ⟨rfl, rfl⟩
  go_wp2_with fail
  go_ret
  exact ⟨rfl, rfl⟩
set_option maxHeartbeats 1000000 in
theorem rbytes_none_3 (full acked : Int) (w : World) (h0 : 0 ≤ full) (h1 : full < 4611686018427387904) (h2 : 0 ≤ acked) (g1 : 256 ≤ 2 * (full + 1)) (g2 : 65536 ≤ 2 * (full + 1)) (g3 : 2 * (full + 1) < 16777216) :
    Calls Try.prog 13 #[.int .u64 full, .int .u64 acked, .bool false] w fun e w' => e = .returned (.int .i64 3) ∧ w = w' := by
  go_enter Try.func13, Try.ntmps13
  go_wp2_with fail
  refine wp_loop_rounds 6 ?_
  rw [rounds_succ]
  go_wp2_with fail
  refine (rwindow_1 _).mono ?_
  rintro e w1 ⟨rfl, rfl⟩
  go_wp2_with fail
  rw [rounds_succ]
  go_wp2_with fail
  refine (rwindow_2 _).mono ?_
  rintro e w1 ⟨rfl, rfl⟩
  go_wp2_with fail
  rw [rounds_succ]
  go_wp2_with fail
  refine (rwindow_3 _).mono ?_
  rintro e w1 ⟨rfl, rfl⟩
  go_wp2_with fail
  go_ret
  exact ⟨rfl, rfl⟩
set_option maxHeartbeats 1000000 in
theorem rbytes_none_4 (full acked : Int) (w : World) (h0 : 0 ≤ full) (h1 : full < 4611686018427387904) (h2 : 0 ≤ acked) (g1 : 256 ≤ 2 * (full + 1)) (g2 : 65536 ≤ 2 * (full + 1)) (g3 : 16777216 ≤ 2 * (full + 1)) :
    Calls Try.prog 13 #[.int .u64 full, .int .u64 acked, .bool false] w fun e w' => e = .returned (.int .i64 4) ∧ w = w' := by
  go_enter Try.func13, Try.ntmps13
  go_wp2_with fail
  refine wp_loop_rounds 6 ?_
  rw [rounds_succ]
  go_wp2_with fail
  refine (rwindow_1 _).mono ?_
  rintro e w1 ⟨rfl, rfl⟩
  go_wp2_with fail
  rw [rounds_succ]
  go_wp2_with fail
  refine (rwindow_2 _).mono ?_
  rintro e w1 ⟨rfl, rfl⟩
  go_wp2_with fail
  rw [rounds_succ]
  go_wp2_with fail
  refine (rwindow_3 _).mono ?_
  rintro e w1 ⟨rfl, rfl⟩
  go_wp2_with fail
  rw [rounds_succ]
  go_wp2
  go_ret
  exact ⟨rfl, rfl⟩
set_option maxHeartbeats 1000000 in
theorem rbytes_far_1 (full acked : Int) (w : World) (h0 : 0 ≤ full) (h1 : full < 4611686018427387904) (h2 : 0 ≤ acked) (ha : acked < full) (g1 : 2 * (full - acked) < 256) :
    Calls Try.prog 13 #[.int .u64 full, .int .u64 acked, .bool true] w fun e w' => e = .returned (.int .i64 1) ∧ w = w' := by
  go_enter Try.func13, Try.ntmps13
  go_wp2_with fail
  refine wp_loop_rounds 6 ?_
  rw [rounds_succ]
  go_wp2_with fail
  refine (rwindow_1 _).mono ?_
  rintro e w1 ⟨rfl, rfl⟩
  go_wp2_with fail
  go_ret
  exact ⟨rfl, rfl⟩
set_option maxHeartbeats 1000000 in
theorem rbytes_far_2 (full acked : Int) (w : World) (h0 : 0 ≤ full) (h1 : full < 4611686018427387904) (h2 : 0 ≤ acked) (ha : acked < full) (g1 : 256 ≤ 2 * (full - acked)) (g2 : 2 * (full - acked) < 65536) :
    Calls Try.prog 13 #[.int .u64 full, .int .u64 acked, .bool true] w fun e w' => e = .returned (.int .i64 2) ∧ w = w' := by
  go_enter Try.func13, Try.ntmps13
  go_wp2_with fail
  refine wp_loop_rounds 6 ?_
  rw [rounds_succ]
  go_wp2_with fail
  refine (rwindow_1 _).mono ?_
  rintro e w1 ⟨rfl, rfl⟩
  go_wp2_with fail
  rw [rounds_succ]
  go_wp2_with fail
  refine (rwindow_2 _).mono ?_
  rintro e w1 ⟨rfl, rfl⟩
  go_wp2_with fail
  go_ret
  exact ⟨rfl, rfl⟩
set_option maxHeartbeats 1000000 in
theorem rbytes_far_3 (full acked : Int) (w : World) (h0 : 0 ≤ full) (h1 : full < 4611686018427387904) (h2 : 0 ≤ acked) (ha : acked < full) (g1 : 256 ≤ 2 * (full - acked)) (g2 : 65536 ≤ 2 * (full - acked)) (g3 : 2 * (full - acked) < 16777216) :
    Calls Try.prog 13 #[.int .u64 full, .int .u64 acked, .bool true] w fun e w' => e = .returned (.int .i64 3) ∧ w = w' := by
  go_enter Try.func13, Try.ntmps13
  go_wp2_with fail
  refine wp_loop_rounds 6 ?_
  rw [rounds_succ]
  go_wp2_with fail
  refine (rwindow_1 _).mono ?_
  rintro e w1 ⟨rfl, rfl⟩
  go_wp2_with fail
  rw [rounds_succ]
  go_wp2_with fail
  refine (rwindow_2 _).mono ?_
  rintro e w1 ⟨rfl, rfl⟩
  go_wp2_with fail
  rw [rounds_succ]
  go_wp2_with fail
  refine (rwindow_3 _).mono ?_
  rintro e w1 ⟨rfl, rfl⟩
  go_wp2_with fail
  go_ret
  exact ⟨rfl, rfl⟩
set_option maxHeartbeats 1000000 in
theorem rbytes_far_4 (full acked : Int) (w : World) (h0 : 0 ≤ full) (h1 : full < 4611686018427387904) (h2 : 0 ≤ acked) (ha : acked < full) (g1 : 256 ≤ 2 * (full - acked)) (g2 : 65536 ≤ 2 * (full - acked)) (g3 : 16777216 ≤ 2 * (full - acked)) :
    Calls Try.prog 13 #[.int .u64 full, .int .u64 acked, .bool true] w fun e w' => e = .returned (.int .i64 4) ∧ w = w' := by
  go_enter Try.func13, Try.ntmps13
  go_wp2_with fail
  refine wp_loop_rounds 6 ?_
  rw [rounds_succ]
  go_wp2_with fail
  refine (rwindow_1 _).mono ?_
  rintro e w1 ⟨rfl, rfl⟩
  go_wp2_with fail
  rw [rounds_succ]
  go_wp2_with fail
  refine (rwindow_2 _).mono ?_
  rintro e w1 ⟨rfl, rfl⟩
  go_wp2_with fail
  rw [rounds_succ]
  go_wp2_with fail
  refine (rwindow_3 _).mono ?_
  rintro e w1 ⟨rfl, rfl⟩
  go_wp2_with fail
  rw [rounds_succ]
  go_wp2
  go_ret
  exact ⟨rfl, rfl⟩
set_option maxHeartbeats 1000000 in
theorem rbytes_near_1 (full acked : Int) (w : World) (h0 : 0 ≤ full) (h1 : full < 4611686018427387904) (h2 : 0 ≤ acked) (ha : full ≤ acked) :
    Calls Try.prog 13 #[.int .u64 full, .int .u64 acked, .bool true] w fun e w' => e = .returned (.int .i64 1) ∧ w = w' := by
  go_enter Try.func13, Try.ntmps13
  go_wp2_with fail
  refine wp_loop_rounds 6 ?_
  rw [rounds_succ]
  go_wp2_with fail
  refine (rwindow_1 _).mono ?_
  rintro e w1 ⟨rfl, rfl⟩
  go_wp2_with fail
  go_ret
  exact ⟨rfl, rfl⟩

theorem by_1 {d : Int} (g1 : 2 * d < 256) : by' d = 1 := by unfold by'; rw [if_pos g1]
theorem by_2 {d : Int} (g1 : 256 ≤ 2 * d) (g2 : 2 * d < 65536) : by' d = 2 := by unfold by'; rw [if_neg (by omega), if_pos g2]
theorem by_3 {d : Int} (g1 : 256 ≤ 2 * d) (g2 : 65536 ≤ 2 * d) (g3 : 2 * d < 16777216) : by' d = 3 := by unfold by'; rw [if_neg (by omega), if_neg (by omega), if_pos g3]
theorem by_4 {d : Int} (g1 : 256 ≤ 2 * d) (g2 : 65536 ≤ 2 * d) (g3 : 16777216 ≤ 2 * d) : by' d = 4 := by unfold by'; rw [if_neg (by omega), if_neg (by omega), if_neg (by omega)]
theorem by_range (d : Int) : 1 ≤ by' d ∧ by' d ≤ 4 := by unfold by'; split <;> (try split) <;> (try split) <;> omega
theorem ds_none (full acked : Int) : ds full acked false = full + 1 := by simp [ds]
theorem ds_far {full acked : Int} (h : acked < full) : ds full acked true = full - acked := by simp [ds, h]
theorem ds_near {full acked : Int} (h : full ≤ acked) : ds full acked true = 1 := by simp [ds]; omega

theorem rbytes_any (full acked : Int) (any : Bool) (w : World) (h0 : 0 ≤ full) (h1 : full < 4611686018427387904) (h2 : 0 ≤ acked) :
    Calls Try.prog 13 #[.int .u64 full, .int .u64 acked, .bool any] w fun e w' => e = .returned (.int .i64 (by' (ds full acked any))) ∧ w = w' := by
  cases any
  · rw [ds_none]
    by_cases g1 : 2 * (full + 1) < 256
    · rw [by_1 g1]; exact rbytes_none_1 full acked w h0 h1 h2 g1
    · by_cases g2 : 2 * (full + 1) < 65536
      · rw [by_2 (by omega) g2]; exact rbytes_none_2 full acked w h0 h1 h2 (by omega) g2
      · by_cases g3 : 2 * (full + 1) < 16777216
        · rw [by_3 (by omega) (by omega) g3]; exact rbytes_none_3 full acked w h0 h1 h2 (by omega) (by omega) g3
        · rw [by_4 (by omega) (by omega) (by omega)]; exact rbytes_none_4 full acked w h0 h1 h2 (by omega) (by omega) (by omega)
  · by_cases ha : acked < full
    · rw [ds_far ha]
      by_cases g1 : 2 * (full - acked) < 256
      · rw [by_1 g1]; exact rbytes_far_1 full acked w h0 h1 h2 ha g1
      · by_cases g2 : 2 * (full - acked) < 65536
        · rw [by_2 (by omega) g2]; exact rbytes_far_2 full acked w h0 h1 h2 ha (by omega) g2
        · by_cases g3 : 2 * (full - acked) < 16777216
          · rw [by_3 (by omega) (by omega) g3]; exact rbytes_far_3 full acked w h0 h1 h2 ha (by omega) (by omega) g3
          · rw [by_4 (by omega) (by omega) (by omega)]; exact rbytes_far_4 full acked w h0 h1 h2 ha (by omega) (by omega) (by omega)
    · rw [ds_near (by omega), by_1 (by omega)]; exact rbytes_near_1 full acked w h0 h1 h2 (by omega)
set_option maxHeartbeats 1000000 in
theorem rexpand_n_zero (l x k : Int) (w : World) (hl : 0 ≤ l) (hl1 : l < 4611686018427387904) (hx : 0 ≤ x) (hx1 : x ≤ 18446744073709551615) (h0 : -9223372036854775808 ≤ k) (h1 : k ≤ 9223372036854775807)
    (g2 : wn (cl k) / 2 < x % wn (cl k)) :
    Calls Try.prog 17 #[.int .u64 l, .bool false, .int .u64 x, .int .i64 k] w fun y w' => y = .returned (.int .u64 (x % wn (cl k))) ∧ Below w.heap.size w w' := by
  have hc := cl_range k
  have hr := wn_range hc.1 hc.2
  have m2 := mod_bd (n := x) (W := wn (cl k)) (by omega) hx
  go_enter Try.func17, Try.ntmps17
  go_wp2_with fail
  refine (rwindow_any _ _ h0 h1).mono ?_
  rintro e w1 ⟨rfl, rfl⟩
  go_wp2_with fail
  go_region
  go_wp2
  go_ret
  exact ⟨rfl, below_drew (Below.refl _ _)⟩
set_option maxHeartbeats 1000000 in
theorem rexpand_n_here (l x k : Int) (w : World) (hl : 0 ≤ l) (hl1 : l < 4611686018427387904) (hx : 0 ≤ x) (hx1 : x ≤ 18446744073709551615) (h0 : -9223372036854775808 ≤ k) (h1 : k ≤ 9223372036854775807)
    (g2 : x % wn (cl k) ≤ wn (cl k) / 2) :
    Calls Try.prog 17 #[.int .u64 l, .bool false, .int .u64 x, .int .i64 k] w fun y w' => y = .returned (.int .u64 (x % wn (cl k))) ∧ Below w.heap.size w w' := by
  have hc := cl_range k
  have hr := wn_range hc.1 hc.2
  have m2 := mod_bd (n := x) (W := wn (cl k)) (by omega) hx
  go_enter Try.func17, Try.ntmps17
  go_wp2_with fail
  refine (rwindow_any _ _ h0 h1).mono ?_
  rintro e w1 ⟨rfl, rfl⟩
  go_wp2_with fail
  go_region
  go_wp2
  go_ret
  exact ⟨rfl, below_drew (Below.refl _ _)⟩
set_option maxHeartbeats 1000000 in
theorem rexpand_s_up (l x k : Int) (w : World) (hl : 0 ≤ l) (hl1 : l < 4611686018427387904) (hx : 0 ≤ x) (hx1 : x ≤ 18446744073709551615) (h0 : -9223372036854775808 ≤ k) (h1 : k ≤ 9223372036854775807)
    (g1 : l + 1 - (l + 1) % wn (cl k) + x % wn (cl k) + wn (cl k) / 2 ≤ l + 1) (g2 : l + 1 - (l + 1) % wn (cl k) + x % wn (cl k) < 4611686018427387904 - wn (cl k)) :
    Calls Try.prog 17 #[.int .u64 l, .bool true, .int .u64 x, .int .i64 k] w fun y w' => y = .returned (.int .u64 (l + 1 - (l + 1) % wn (cl k) + x % wn (cl k) + wn (cl k))) ∧ Below w.heap.size w w' := by
  have hc := cl_range k
  have hr := wn_range hc.1 hc.2
  have m2 := mod_bd (n := x) (W := wn (cl k)) (by omega) hx
  have m1 := mod_bd (n := l + 1) (W := wn (cl k)) (by omega) (by omega)
  have e1 : IntKind.u64.wrap (l + 1 - (l + 1) % wn (cl k)) = l + 1 - (l + 1) % wn (cl k) := wr (by omega) (by omega)
  have e2 : IntKind.u64.wrap (l + 1 - (l + 1) % wn (cl k) + x % wn (cl k)) = l + 1 - (l + 1) % wn (cl k) + x % wn (cl k) := wr (by omega) (by omega)
  go_enter Try.func17, Try.ntmps17
  go_wp2_with fail
  refine (rwindow_any _ _ h0 h1).mono ?_
  rintro e w1 ⟨rfl, rfl⟩
  go_wp2_with fail
  go_region
  go_wp2
  go_ret
  exact ⟨rfl, below_drew (Below.refl _ _)⟩
set_option maxHeartbeats 1000000 in
theorem rexpand_s_end (l x k : Int) (w : World) (hl : 0 ≤ l) (hl1 : l < 4611686018427387904) (hx : 0 ≤ x) (hx1 : x ≤ 18446744073709551615) (h0 : -9223372036854775808 ≤ k) (h1 : k ≤ 9223372036854775807)
    (g1 : l + 1 - (l + 1) % wn (cl k) + x % wn (cl k) + wn (cl k) / 2 ≤ l + 1) (g2 : 4611686018427387904 - wn (cl k) ≤ l + 1 - (l + 1) % wn (cl k) + x % wn (cl k)) :
    Calls Try.prog 17 #[.int .u64 l, .bool true, .int .u64 x, .int .i64 k] w fun y w' => y = .returned (.int .u64 (l + 1 - (l + 1) % wn (cl k) + x % wn (cl k))) ∧ Below w.heap.size w w' := by
  have hc := cl_range k
  have hr := wn_range hc.1 hc.2
  have m2 := mod_bd (n := x) (W := wn (cl k)) (by omega) hx
  have m1 := mod_bd (n := l + 1) (W := wn (cl k)) (by omega) (by omega)
  have e1 : IntKind.u64.wrap (l + 1 - (l + 1) % wn (cl k)) = l + 1 - (l + 1) % wn (cl k) := wr (by omega) (by omega)
  have e2 : IntKind.u64.wrap (l + 1 - (l + 1) % wn (cl k) + x % wn (cl k)) = l + 1 - (l + 1) % wn (cl k) + x % wn (cl k) := wr (by omega) (by omega)
  go_enter Try.func17, Try.ntmps17
  go_wp2_with fail
  refine (rwindow_any _ _ h0 h1).mono ?_
  rintro e w1 ⟨rfl, rfl⟩
  go_wp2_with fail
  go_region
  go_wp2
  go_ret
  exact ⟨rfl, below_drew (Below.refl _ _)⟩
set_option maxHeartbeats 1000000 in
theorem rexpand_s_down (l x k : Int) (w : World) (hl : 0 ≤ l) (hl1 : l < 4611686018427387904) (hx : 0 ≤ x) (hx1 : x ≤ 18446744073709551615) (h0 : -9223372036854775808 ≤ k) (h1 : k ≤ 9223372036854775807)
    (g1 : l + 1 < l + 1 - (l + 1) % wn (cl k) + x % wn (cl k) + wn (cl k) / 2) (g2 : l + 1 + wn (cl k) / 2 < l + 1 - (l + 1) % wn (cl k) + x % wn (cl k)) (g3 : wn (cl k) ≤ l + 1 - (l + 1) % wn (cl k) + x % wn (cl k)) :
    Calls Try.prog 17 #[.int .u64 l, .bool true, .int .u64 x, .int .i64 k] w fun y w' => y = .returned (.int .u64 (l + 1 - (l + 1) % wn (cl k) + x % wn (cl k) - wn (cl k))) ∧ Below w.heap.size w w' := by
  have hc := cl_range k
  have hr := wn_range hc.1 hc.2
  have m2 := mod_bd (n := x) (W := wn (cl k)) (by omega) hx
  have m1 := mod_bd (n := l + 1) (W := wn (cl k)) (by omega) (by omega)
  have e1 : IntKind.u64.wrap (l + 1 - (l + 1) % wn (cl k)) = l + 1 - (l + 1) % wn (cl k) := wr (by omega) (by omega)
  have e2 : IntKind.u64.wrap (l + 1 - (l + 1) % wn (cl k) + x % wn (cl k)) = l + 1 - (l + 1) % wn (cl k) + x % wn (cl k) := wr (by omega) (by omega)
  go_enter Try.func17, Try.ntmps17
  go_wp2_with fail
  refine (rwindow_any _ _ h0 h1).mono ?_
  rintro e w1 ⟨rfl, rfl⟩
  go_wp2_with fail
  go_region
  go_wp2
  go_ret
  exact ⟨rfl, below_drew (Below.refl _ _)⟩
set_option maxHeartbeats 1000000 in
theorem rexpand_s_zero (l x k : Int) (w : World) (hl : 0 ≤ l) (hl1 : l < 4611686018427387904) (hx : 0 ≤ x) (hx1 : x ≤ 18446744073709551615) (h0 : -9223372036854775808 ≤ k) (h1 : k ≤ 9223372036854775807)
    (g1 : l + 1 < l + 1 - (l + 1) % wn (cl k) + x % wn (cl k) + wn (cl k) / 2) (g2 : l + 1 + wn (cl k) / 2 < l + 1 - (l + 1) % wn (cl k) + x % wn (cl k)) (g3 : l + 1 - (l + 1) % wn (cl k) + x % wn (cl k) < wn (cl k)) :
    Calls Try.prog 17 #[.int .u64 l, .bool true, .int .u64 x, .int .i64 k] w fun y w' => y = .returned (.int .u64 (l + 1 - (l + 1) % wn (cl k) + x % wn (cl k))) ∧ Below w.heap.size w w' := by
  have hc := cl_range k
  have hr := wn_range hc.1 hc.2
  have m2 := mod_bd (n := x) (W := wn (cl k)) (by omega) hx
  have m1 := mod_bd (n := l + 1) (W := wn (cl k)) (by omega) (by omega)
  have e1 : IntKind.u64.wrap (l + 1 - (l + 1) % wn (cl k)) = l + 1 - (l + 1) % wn (cl k) := wr (by omega) (by omega)
  have e2 : IntKind.u64.wrap (l + 1 - (l + 1) % wn (cl k) + x % wn (cl k)) = l + 1 - (l + 1) % wn (cl k) + x % wn (cl k) := wr (by omega) (by omega)
  go_enter Try.func17, Try.ntmps17
  go_wp2_with fail
  refine (rwindow_any _ _ h0 h1).mono ?_
  rintro e w1 ⟨rfl, rfl⟩
  go_wp2_with fail
  go_region
  go_wp2
  go_ret
  exact ⟨rfl, below_drew (Below.refl _ _)⟩
set_option maxHeartbeats 1000000 in
theorem rexpand_s_here (l x k : Int) (w : World) (hl : 0 ≤ l) (hl1 : l < 4611686018427387904) (hx : 0 ≤ x) (hx1 : x ≤ 18446744073709551615) (h0 : -9223372036854775808 ≤ k) (h1 : k ≤ 9223372036854775807)
    (g1 : l + 1 < l + 1 - (l + 1) % wn (cl k) + x % wn (cl k) + wn (cl k) / 2) (g2 : l + 1 - (l + 1) % wn (cl k) + x % wn (cl k) ≤ l + 1 + wn (cl k) / 2) :
    Calls Try.prog 17 #[.int .u64 l, .bool true, .int .u64 x, .int .i64 k] w fun y w' => y = .returned (.int .u64 (l + 1 - (l + 1) % wn (cl k) + x % wn (cl k))) ∧ Below w.heap.size w w' := by
  have hc := cl_range k
  have hr := wn_range hc.1 hc.2
  have m2 := mod_bd (n := x) (W := wn (cl k)) (by omega) hx
  have m1 := mod_bd (n := l + 1) (W := wn (cl k)) (by omega) (by omega)
  have e1 : IntKind.u64.wrap (l + 1 - (l + 1) % wn (cl k)) = l + 1 - (l + 1) % wn (cl k) := wr (by omega) (by omega)
  have e2 : IntKind.u64.wrap (l + 1 - (l + 1) % wn (cl k) + x % wn (cl k)) = l + 1 - (l + 1) % wn (cl k) + x % wn (cl k) := wr (by omega) (by omega)
  go_enter Try.func17, Try.ntmps17
  go_wp2_with fail
  refine (rwindow_any _ _ h0 h1).mono ?_
  rintro e w1 ⟨rfl, rfl⟩
  go_wp2_with fail
  go_region
  go_wp2
  go_ret
  exact ⟨rfl, below_drew (Below.refl _ _)⟩

theorem cd_zero (x W : Int) : cd 0 x W = x % W := by unfold cd; rw [Int.zero_emod]; omega
theorem ex_none {l x W : Int} (hW : 256 ≤ W) (hx : 0 ≤ x) : ex l false x W = x % W := by
  have m2 := mod_bd (n := x) (W := W) (by omega) hx
  rw [show ex l false x W = nr 0 (cd 0 x W) W from rfl, cd_zero]
  unfold nr
  rw [if_neg (by omega), if_neg (by omega)]

theorem rexpand_any (l x k : Int) (any : Bool) (w : World) (hl : 0 ≤ l) (hl1 : l < 4611686018427387904) (hx : 0 ≤ x) (hx1 : x ≤ 18446744073709551615) (h0 : -9223372036854775808 ≤ k) (h1 : k ≤ 9223372036854775807) :
    Calls Try.prog 17 #[.int .u64 l, .bool any, .int .u64 x, .int .i64 k] w fun y w' => y = .returned (.int .u64 (ex l any x (wn (cl k)))) ∧ Below w.heap.size w w' := by
  have hc := cl_range k
  have hr := wn_range hc.1 hc.2
  cases any
  · rw [ex_none hr.1 hx]
    by_cases g2 : wn (cl k) / 2 < x % wn (cl k)
    · exact rexpand_n_zero l x k w hl hl1 hx hx1 h0 h1 g2
    · exact rexpand_n_here l x k w hl hl1 hx hx1 h0 h1 (by omega)
  · rw [show ex l true x (wn (cl k)) = nr (l + 1) (cd (l + 1) x (wn (cl k))) (wn (cl k)) from rfl, show cd (l + 1) x (wn (cl k)) = l + 1 - (l + 1) % wn (cl k) + x % wn (cl k) from rfl]
    unfold nr
    by_cases g1 : l + 1 - (l + 1) % wn (cl k) + x % wn (cl k) + wn (cl k) / 2 ≤ l + 1
    · by_cases g2 : l + 1 - (l + 1) % wn (cl k) + x % wn (cl k) < 4611686018427387904 - wn (cl k)
      · rw [if_pos ⟨g1, g2⟩]; exact rexpand_s_up l x k w hl hl1 hx hx1 h0 h1 g1 g2
      · rw [if_neg (by omega), if_neg (by omega)]; exact rexpand_s_end l x k w hl hl1 hx hx1 h0 h1 g1 (by omega)
    · rw [if_neg (by omega)]
      by_cases g2 : l + 1 + wn (cl k) / 2 < l + 1 - (l + 1) % wn (cl k) + x % wn (cl k)
      · by_cases g3 : wn (cl k) ≤ l + 1 - (l + 1) % wn (cl k) + x % wn (cl k)
        · rw [if_pos ⟨g2, g3⟩]; exact rexpand_s_down l x k w hl hl1 hx hx1 h0 h1 (by omega) g2 g3
        · rw [if_neg (by omega)]; exact rexpand_s_zero l x k w hl hl1 hx hx1 h0 h1 (by omega) g2 (by omega)
      · rw [if_neg (by omega)]; exact rexpand_s_here l x k w hl hl1 hx hx1 h0 h1 (by omega) (by omega)

set_option maxHeartbeats 1000000 in
theorem shown_any (w : World) : Calls Try.prog 11 #[] w fun e w' => e = .returned (.bool true) ∧ Below w.heap.size w w' := by
  have E1 : ex 2821665002 true 39730 (wn (cl 2)) = 2821692210 := by rw [cl_mid (by omega) (by omega), wn_2]; decide
  have E2 : (2821692210 : Int) % wn (cl 2) = 39730 := by rw [cl_mid (by omega) (by omega), wn_2]; decide
  have E3 : by' (ds 11295746 11266227 true) = 2 := by decide
  have C1 := Lib.hid (fun w => expand_any 2821665002 39730 2 true w (by omega) (by omega) (by omega) (by omega) (by omega) (by omega))
  have C2 := Lib.hid (fun w => cut_any 2821692210 2 w (by omega) (by omega) (by omega) (by omega))
  have C3 := Lib.hid (fun w => bytes_any 11295746 11266227 true w (by omega) (by omega) (by omega))
  rw [E1] at C1
  rw [E2] at C2
  rw [E3] at C3
  clear E1 E2 E3
  go_enter Try.func11, Try.ntmps11
  go_wp2_with fail
  refine (C1.out _).mono ?_
  rintro e w1 ⟨rfl, hb1⟩
  have z1 := hb1.size
  go_wp2_with fail
  refine (C2.out _).mono ?_
  rintro e w2 ⟨rfl, hb2⟩
  have z2 := hb2.size
  go_wp2_with fail
  refine (C3.out _).mono ?_
  rintro e w3 ⟨rfl, hb3⟩
  go_wp2
  go_ret
  exact ⟨rfl, hb1.trans ((hb2.mono (by omega)).trans (hb3.mono (by omega)))⟩
end Go.Proofs.Ytpjcpkolmjoneaa.Pn
