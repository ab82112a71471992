/- The walks of layer 2: Cut, distance, Bytes, candidate, nearest, Expand of the program. -/
import Derived.Test.YtagbkmoahflfdaaGreatDoorJa27
import Derived.Deep.RegionHeld3
namespace Go.Proofs.YtagbkmoahflfdaaGreatDoor.Pn
set_option maxRecDepth 20000
open Go.RowKit
set_option linter.unusedVariables false

/-- How far a number is. -/
def ds (full acked : Int) (any : Bool) : Int := if any then (if acked < full then full - acked else 1) else full + 1
/-- How many bytes a distance needs. -/
def by' (d : Int) : Int := if 2 * d < 256 then 1 else if 2 * d < 65536 then 2 else if 2 * d < 16777216 then 3 else 4
/-- What is expected. -/
def ep (largest : Int) (any : Bool) : Int := if any then largest + 1 else 0
/-- What a candidate is put right to. -/
def nr (e c W : Int) : Int :=
  if c + W / 2 ≤ e ∧ c < 4611686018427387904 - W then c + W else if e + W / 2 < c ∧ W ≤ c then c - W else c
/-- The candidate. -/
def cd (e x W : Int) : Int := e - e % W + x % W
/-- What a cut number is expanded to. -/
def ex (largest : Int) (any : Bool) (x W : Int) : Int := nr (ep largest any) (cd (ep largest any) x W) W

theorem ds_range (full acked : Int) (any : Bool) (h0 : 0 ≤ full) (h1 : full < 4611686018427387904) (h2 : 0 ≤ acked) : 1 ≤ ds full acked any ∧ ds full acked any ≤ 4611686018427387904 := by
  unfold ds; split
  · split <;> omega
  · omega

set_option maxHeartbeats 400000 in
theorem cut_any (n k : Int) (w : World) (hn : 0 ≤ n) (hn1 : n ≤ 18446744073709551615) (h0 : -9223372036854775808 ≤ k) (h1 : k ≤ 9223372036854775807) :
    Calls Tryz.prog 55 #[.int .u64 n, .int .i64 k] w fun e w' => e = .returned (.int .u64 (n % wn (cl k))) ∧ Below w.heap.size w w' := by
  have hc := cl_range k
  go_enter Tryz.func55, Tryz.ntmps55
  go_wp2_with fail
  refine (windowOf_any _ _ h0 h1).mono ?_
  rintro e w1 ⟨rfl, hb⟩
  have hz := hb.size
  go_wp2_with fail
  refine (low_any _ _ _ hc.1 hc.2 hn hn1).mono ?_
  rintro e w2 ⟨rfl, hb2⟩
  go_wp2
  go_ret
  exact ⟨rfl, hb.trans (hb2.mono hz)⟩

set_option maxHeartbeats 400000 in
theorem distance_any (full acked : Int) (any : Bool) (w : World) (h0 : 0 ≤ full) (h1 : full < 4611686018427387904) (h2 : 0 ≤ acked) :
    Calls Tryz.prog 82 #[.int .u64 full, .int .u64 acked, .bool any] w fun e w' => e = .returned (.int .u64 (ds full acked any)) ∧ w = w' := by
  cases any
  · go_enter Tryz.func82, Tryz.ntmps82
    go_wp2
    go_ret
    exact ⟨by simp [ds], rfl⟩
  · by_cases h : acked < full
    · go_enter Tryz.func82, Tryz.ntmps82
      go_wp2
      go_ret
      exact ⟨by simp [ds, h], rfl⟩
    · go_enter Tryz.func82, Tryz.ntmps82
      go_wp2
      go_ret
      exact ⟨by simp [ds]; omega, rfl⟩

theorem windowOf_one (w : World) : Calls Tryz.prog 83 #[.int .i64 1] w fun e w' => e = .returned (.agg #[.int .i64 1]) ∧ Below w.heap.size w w' := windowOf_mid 1 w (by omega) (by omega)
theorem windowOf_two (w : World) : Calls Tryz.prog 83 #[.int .i64 2] w fun e w' => e = .returned (.agg #[.int .i64 2]) ∧ Below w.heap.size w w' := windowOf_mid 2 w (by omega) (by omega)
theorem windowOf_three (w : World) : Calls Tryz.prog 83 #[.int .i64 3] w fun e w' => e = .returned (.agg #[.int .i64 3]) ∧ Below w.heap.size w w' := windowOf_mid 3 w (by omega) (by omega)

theorem spans_true (c W n : Int) (w : World) (h0 : 1 ≤ c) (h1 : c ≤ 4) (hn : 0 ≤ n) (hn1 : n ≤ 4611686018427387904) (hW : wn c = W) (h : 2 * n < W) :
    Calls Tryz.prog 84 #[.agg #[.int .i64 c], .int .u64 n] w fun e w' => e = .returned (.bool true) ∧ Below w.heap.size w w' :=
  (spans_any c n w h0 h1 hn hn1).mono fun e w' hh => by rw [hW, decide_eq_true h] at hh; exact hh
theorem spans_false (c W n : Int) (w : World) (h0 : 1 ≤ c) (h1 : c ≤ 4) (hn : 0 ≤ n) (hn1 : n ≤ 4611686018427387904) (hW : wn c = W) (h : W ≤ 2 * n) :
    Calls Tryz.prog 84 #[.agg #[.int .i64 c], .int .u64 n] w fun e w' => e = .returned (.bool false) ∧ Below w.heap.size w w' :=
  (spans_any c n w h0 h1 hn hn1).mono fun e w' hh => by rw [hW, decide_eq_false (by omega)] at hh; exact hh

set_option maxHeartbeats 1000000 in
theorem bytes_1 (full acked : Int) (any : Bool) (w : World) (h0 : 0 ≤ full) (h1 : full < 4611686018427387904) (h2 : 0 ≤ acked) (g1 : 2 * ds full acked any < 256) :
    Calls Tryz.prog 53 #[.int .u64 full, .int .u64 acked, .bool any] w fun e w' => e = .returned (.int .i64 1) ∧ Below w.heap.size w w' := by
  have hd := ds_range full acked any h0 h1 h2
  go_enter Tryz.func53, Tryz.ntmps53
  go_wp2_with fail
  refine (distance_any _ _ _ _ h0 h1 h2).mono ?_
  rintro e w1 ⟨rfl, rfl⟩
  go_wp2_with fail
  refine wp_loop_rounds 5 ?_
  rw [rounds_succ]
  go_wp2_with fail
  refine (windowOf_one _).mono ?_
  rintro e a1 ⟨rfl, ha1⟩
  have za1 := ha1.size
  go_wp2_with fail
  refine (spans_true 1 256 _ _ (by omega) (by omega) (by omega) hd.2 wn_1 (by omega)).mono ?_
  rintro e b1 ⟨rfl, hb1⟩
  have zb1 := hb1.size
  go_wp2_with fail
  go_ret
  exact ⟨rfl, (ha1.trans (hb1.mono (by omega)))⟩
set_option maxHeartbeats 1000000 in
theorem bytes_2 (full acked : Int) (any : Bool) (w : World) (h0 : 0 ≤ full) (h1 : full < 4611686018427387904) (h2 : 0 ≤ acked) (g1 : 256 ≤ 2 * ds full acked any) (g2 : 2 * ds full acked any < 65536) :
    Calls Tryz.prog 53 #[.int .u64 full, .int .u64 acked, .bool any] w fun e w' => e = .returned (.int .i64 2) ∧ Below w.heap.size w w' := by
  have hd := ds_range full acked any h0 h1 h2
  go_enter Tryz.func53, Tryz.ntmps53
  go_wp2_with fail
  refine (distance_any _ _ _ _ h0 h1 h2).mono ?_
  rintro e w1 ⟨rfl, rfl⟩
  go_wp2_with fail
  refine wp_loop_rounds 5 ?_
  rw [rounds_succ]
  go_wp2_with fail
  refine (windowOf_one _).mono ?_
  rintro e a1 ⟨rfl, ha1⟩
  have za1 := ha1.size
  go_wp2_with fail
  refine (spans_false 1 256 _ _ (by omega) (by omega) (by omega) hd.2 wn_1 (by omega)).mono ?_
  rintro e b1 ⟨rfl, hb1⟩
  have zb1 := hb1.size
  go_wp2_with fail
  rw [rounds_succ]
  go_wp2_with fail
  refine (windowOf_two _).mono ?_
  rintro e a2 ⟨rfl, ha2⟩
  have za2 := ha2.size
  go_wp2_with fail
  refine (spans_true 2 65536 _ _ (by omega) (by omega) (by omega) hd.2 wn_2 (by omega)).mono ?_
  rintro e b2 ⟨rfl, hb2⟩
  have zb2 := hb2.size
  go_wp2_with fail
  go_ret
  exact ⟨rfl, (ha1.trans ((hb1.mono (by omega)).trans ((ha2.mono (by omega)).trans (hb2.mono (by omega)))))⟩
set_option maxHeartbeats 1000000 in
theorem bytes_3 (full acked : Int) (any : Bool) (w : World) (h0 : 0 ≤ full) (h1 : full < 4611686018427387904) (h2 : 0 ≤ acked) (g1 : 256 ≤ 2 * ds full acked any) (g2 : 65536 ≤ 2 * ds full acked any) (g3 : 2 * ds full acked any < 16777216) :
    Calls Tryz.prog 53 #[.int .u64 full, .int .u64 acked, .bool any] w fun e w' => e = .returned (.int .i64 3) ∧ Below w.heap.size w w' := by
  have hd := ds_range full acked any h0 h1 h2
  go_enter Tryz.func53, Tryz.ntmps53
  go_wp2_with fail
  refine (distance_any _ _ _ _ h0 h1 h2).mono ?_
  rintro e w1 ⟨rfl, rfl⟩
  go_wp2_with fail
  refine wp_loop_rounds 5 ?_
  rw [rounds_succ]
  go_wp2_with fail
  refine (windowOf_one _).mono ?_
  rintro e a1 ⟨rfl, ha1⟩
  have za1 := ha1.size
  go_wp2_with fail
  refine (spans_false 1 256 _ _ (by omega) (by omega) (by omega) hd.2 wn_1 (by omega)).mono ?_
  rintro e b1 ⟨rfl, hb1⟩
  have zb1 := hb1.size
  go_wp2_with fail
  rw [rounds_succ]
  go_wp2_with fail
  refine (windowOf_two _).mono ?_
  rintro e a2 ⟨rfl, ha2⟩
  have za2 := ha2.size
  go_wp2_with fail
  refine (spans_false 2 65536 _ _ (by omega) (by omega) (by omega) hd.2 wn_2 (by omega)).mono ?_
  rintro e b2 ⟨rfl, hb2⟩
  have zb2 := hb2.size
  go_wp2_with fail
  rw [rounds_succ]
  go_wp2_with fail
  refine (windowOf_three _).mono ?_
  rintro e a3 ⟨rfl, ha3⟩
  have za3 := ha3.size
  go_wp2_with fail
  refine (spans_true 3 16777216 _ _ (by omega) (by omega) (by omega) hd.2 wn_3 (by omega)).mono ?_
  rintro e b3 ⟨rfl, hb3⟩
  have zb3 := hb3.size
  go_wp2_with fail
  go_ret
  exact ⟨rfl, (ha1.trans ((hb1.mono (by omega)).trans ((ha2.mono (by omega)).trans ((hb2.mono (by omega)).trans ((ha3.mono (by omega)).trans (hb3.mono (by omega)))))))⟩
set_option maxHeartbeats 1000000 in
theorem bytes_4 (full acked : Int) (any : Bool) (w : World) (h0 : 0 ≤ full) (h1 : full < 4611686018427387904) (h2 : 0 ≤ acked) (g1 : 256 ≤ 2 * ds full acked any) (g2 : 65536 ≤ 2 * ds full acked any) (g3 : 16777216 ≤ 2 * ds full acked any) :
    Calls Tryz.prog 53 #[.int .u64 full, .int .u64 acked, .bool any] w fun e w' => e = .returned (.int .i64 4) ∧ Below w.heap.size w w' := by
  have hd := ds_range full acked any h0 h1 h2
  go_enter Tryz.func53, Tryz.ntmps53
  go_wp2_with fail
  refine (distance_any _ _ _ _ h0 h1 h2).mono ?_
  rintro e w1 ⟨rfl, rfl⟩
  go_wp2_with fail
  refine wp_loop_rounds 5 ?_
  rw [rounds_succ]
  go_wp2_with fail
  refine (windowOf_one _).mono ?_
  rintro e a1 ⟨rfl, ha1⟩
  have za1 := ha1.size
  go_wp2_with fail
  refine (spans_false 1 256 _ _ (by omega) (by omega) (by omega) hd.2 wn_1 (by omega)).mono ?_
  rintro e b1 ⟨rfl, hb1⟩
  have zb1 := hb1.size
  go_wp2_with fail
  rw [rounds_succ]
  go_wp2_with fail
  refine (windowOf_two _).mono ?_
  rintro e a2 ⟨rfl, ha2⟩
  have za2 := ha2.size
  go_wp2_with fail
  refine (spans_false 2 65536 _ _ (by omega) (by omega) (by omega) hd.2 wn_2 (by omega)).mono ?_
  rintro e b2 ⟨rfl, hb2⟩
  have zb2 := hb2.size
  go_wp2_with fail
  rw [rounds_succ]
  go_wp2_with fail
  refine (windowOf_three _).mono ?_
  rintro e a3 ⟨rfl, ha3⟩
  have za3 := ha3.size
  go_wp2_with fail
  refine (spans_false 3 16777216 _ _ (by omega) (by omega) (by omega) hd.2 wn_3 (by omega)).mono ?_
  rintro e b3 ⟨rfl, hb3⟩
  have zb3 := hb3.size
  go_wp2_with fail
  rw [rounds_succ]
  go_wp2
  go_ret
  exact ⟨rfl, (ha1.trans ((hb1.mono (by omega)).trans ((ha2.mono (by omega)).trans ((hb2.mono (by omega)).trans ((ha3.mono (by omega)).trans (hb3.mono (by omega)))))))⟩

theorem bytes_any (full acked : Int) (any : Bool) (w : World) (h0 : 0 ≤ full) (h1 : full < 4611686018427387904) (h2 : 0 ≤ acked) :
    Calls Tryz.prog 53 #[.int .u64 full, .int .u64 acked, .bool any] w fun e w' => e = .returned (.int .i64 (by' (ds full acked any))) ∧ Below w.heap.size w w' := by
  by_cases g1 : 2 * ds full acked any < 256
  · rw [show by' (ds full acked any) = 1 by unfold by'; rw [if_pos g1]]; exact bytes_1 full acked any w h0 h1 h2 g1
  · by_cases g2 : 2 * ds full acked any < 65536
    · rw [show by' (ds full acked any) = 2 by unfold by'; rw [if_neg g1, if_pos g2]]; exact bytes_2 full acked any w h0 h1 h2 (by omega) g2
    · by_cases g3 : 2 * ds full acked any < 16777216
      · rw [show by' (ds full acked any) = 3 by unfold by'; rw [if_neg g1, if_neg g2, if_pos g3]]; exact bytes_3 full acked any w h0 h1 h2 (by omega) (by omega) g3
      · rw [show by' (ds full acked any) = 4 by unfold by'; rw [if_neg g1, if_neg g2, if_neg g3]]; exact bytes_4 full acked any w h0 h1 h2 (by omega) (by omega) (by omega)

theorem mod_bd {n W : Int} (h : 0 < W) (hn : 0 ≤ n) : 0 ≤ n % W ∧ n % W < W ∧ n % W ≤ n := by
  refine ⟨Int.emod_nonneg _ (by omega), Int.emod_lt_of_pos _ h, ?_⟩
  obtain ⟨m, rfl⟩ := Int.eq_ofNat_of_zero_le hn
  obtain ⟨k, rfl⟩ := Int.eq_ofNat_of_zero_le (show 0 ≤ W by omega)
  exact Int.ofNat_le.2 (Nat.mod_le m k)

theorem wr {x : Int} (h : 0 ≤ x) (h1 : x ≤ 18446744073709551615) : IntKind.u64.wrap x = x := by rw [IntKind.wrap_u64]; omega

/-- A box of two cells stays, whatever is laid above it. -/
theorem box_keep {B : Nat} {v0 v1 : Value} {w0 w w1 : World} (hb : Below w.heap.size w w1)
    (h : w.cell? ⟨B, 0, none⟩ = some v0 ∧ w.cell? ⟨B, 1, none⟩ = some v1 ∧ Below B w0 w ∧ B < w.heap.size) :
    w1.cell? ⟨B, 0, none⟩ = some v0 ∧ w1.cell? ⟨B, 1, none⟩ = some v1 ∧ Below B w0 w1 ∧ B < w1.heap.size :=
  ⟨((bcell hb).1 B 0 h.2.2.2).trans h.1, ((bcell hb).1 B 1 h.2.2.2).trans h.2.1, h.2.2.1.trans (hb.mono (by omega)), by have := hb.size; omega⟩
theorem below_drew {B : Nat} {a w : World} (h : Below B a w) : Below B a w.drew := h.trans ⟨rfl, rfl, rfl, Nat.le_refl _, fun _ _ => rfl⟩

set_option maxHeartbeats 1000000 in
theorem candidate_any (c e x : Int) (w : World) (h0 : 1 ≤ c) (h1 : c ≤ 4) (he : 0 ≤ e) (he1 : e ≤ 4611686018427387904) (hx : 0 ≤ x) (hx1 : x ≤ 18446744073709551615) :
    Calls Tryz.prog 102 #[.agg #[.int .i64 c, .int .u64 e], .int .u64 x] w fun y w' => y = .returned (.int .u64 (cd e x (wn c))) ∧ Below w.heap.size w w' := by
  have hr := wn_range h0 h1
  have m1 := mod_bd (n := e) (W := wn c) (by omega) he
  have m2 := mod_bd (n := x) (W := wn c) (by omega) hx
  have L1 := Lib.hid (fun w => low_any c e w h0 h1 he (by omega))
  have L2 := Lib.hid (fun w => low_any c x w h0 h1 hx hx1)
  go_enter Tryz.func102, Tryz.ntmps102
  go_wp2_with fail
  go_region_held3 (fun w' => w'.cell? ⟨w.heap.size, 0, none⟩ = some (.int .i64 c) ∧ w'.cell? ⟨w.heap.size, 1, none⟩ = some (.int .u64 e) ∧ Below w.heap.size w w' ∧ w.heap.size < w'.heap.size)
    (first | exact box_keep hb (by assumption) | (refine ⟨by simp [go_sem], by simp [go_sem], below_drew ((Below.refl _ _).alloc (Nat.le_refl _) _), by simp⟩) | go_keep)
    (first | (go_at_call 89; (first | (with_reducible refine (L1.out _).mono ?_) | (with_reducible refine (L2.out _).mono ?_)); rintro y w1 ⟨rfl, hb⟩))
  rename_i hH
  go_wp2
  go_ret
  exact ⟨by unfold cd; rw [wr (x := e - e % wn c) (by omega) (by omega), wr (by omega) (by omega)]; rfl, hH.2.2.1⟩
end Go.Proofs.YtagbkmoahflfdaaGreatDoor.Pn
