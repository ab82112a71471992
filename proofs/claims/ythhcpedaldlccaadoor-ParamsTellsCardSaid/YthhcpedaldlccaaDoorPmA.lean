/- The walks of layer 5: the usual parameters, their places, the limits. By tools/gen-params-1.py. -/
import Derived.Test.YthhcpedaldlccaaDoorVmA
import Derived.Test.YthhcpedaldlccaaDoorPmM
import Derived.BigRegion
import Derived.OpenShut
import Derived.ChangeKeysEq
import Derived.Lib.SmallJoins
import Derived.Deep.RegionHeld3
namespace Go.Proofs.YthhcpedaldlccaaDoor.Pm
open Go.RowKit Vm
set_option linter.unusedVariables false
set_option linter.unusedSimpArgs false

/-- An array by value, at an index that fits: its cell. -/
theorem run_index_ptr (cs : Array Value) (i : Nat) (v : Value) (w : World) (hn : i < 15) (hv : cs[i]? = some v) : (Instr.index 70 (.agg cs) (.int .u64 (i : Nat))).run Tryd.prog w = .ok v w := by
  have h : ((i : Nat) : Int) < 15 := by omega
  have hsz : (Tryd.prog.info? 69).isSome = true := by kernel_rfl
  obtain ⟨inf, hinf⟩ := Option.isSome_iff_exists.1 hsz
  have hc : Tryd.prog.cellsOf 69 = 1 := by kernel_rfl
  simp [Instr.index, run_underlying Tryd.underlying70, asIntOf, h, run_sizeOf (w := w) hinf, hc, part, isAgg, run_underlying Tryd.underlying69, hv, go_sem]
  intro h2
  omega
theorem run_index_ptri (cs : Array Value) (i : Nat) (v : Value) (w : World) (hn : i < 15) (hv : cs[i]? = some v) : (Instr.index 70 (.agg cs) (.int .i64 (i : Nat))).run Tryd.prog w = .ok v w := by
  have h : ((i : Nat) : Int) < 15 := by omega
  have hsz : (Tryd.prog.info? 69).isSome = true := by kernel_rfl
  obtain ⟨inf, hinf⟩ := Option.isSome_iff_exists.1 hsz
  have hc : Tryd.prog.cellsOf 69 = 1 := by kernel_rfl
  simp [Instr.index, run_underlying Tryd.underlying70, asIntOf, h, run_sizeOf (w := w) hinf, hc, part, isAgg, run_underlying Tryd.underlying69, hv, go_sem]
  intro h2
  omega
set_option maxHeartbeats 1000000 in
theorem default_any (w : World) : Calls Tryd.prog 15 #[] w fun e w' => e = .returned (.agg #[.int .u64 0, .int .u64 65527, .int .u64 0, .int .u64 0, .int .u64 0, .int .u64 0, .int .u64 0, .int .u64 0, .int .u64 3, .int .u64 25, .int .u64 2, .string ⟨#[]⟩]) ∧ Below w.heap.size w w' := by
  go_enter Tryd.func15, Tryd.ntmps15
  go_wp2
  refine bodyPost_ret (v := .agg #[.int .u64 0, .int .u64 65527, .int .u64 0, .int .u64 0, .int .u64 0, .int .u64 0, .int .u64 0, .int .u64 0, .int .u64 3, .int .u64 25, .int .u64 2, .string ⟨#[]⟩]) (by simp [results, Tryd.results15, go_sem, *]) rfl ⟨rfl, ?_⟩
  exact (Below.refl _ _).alloc (Nat.le_refl _) _
set_option maxHeartbeats 4000000 in
theorem places_any (b : Nat) (w : World) (hb : b < w.heap.size) : Calls Tryd.prog 28 #[.pointer (some ⟨b, 0, none⟩)] w fun e w' => e = .returned (.agg #[.pointer none, .pointer (some ⟨b, 0, none⟩), .pointer none, .pointer (some ⟨b, 1, none⟩), .pointer (some ⟨b, 2, none⟩), .pointer (some ⟨b, 3, none⟩), .pointer (some ⟨b, 4, none⟩), .pointer (some ⟨b, 5, none⟩), .pointer (some ⟨b, 6, none⟩), .pointer (some ⟨b, 7, none⟩), .pointer (some ⟨b, 8, none⟩), .pointer (some ⟨b, 9, none⟩), .pointer none, .pointer none, .pointer (some ⟨b, 10, none⟩)]) ∧ Below w.heap.size w w' := by
  go_enter Tryd.func28, Tryd.ntmps28
  go_wp2
  go_region
  go_wp2
  refine bodyPost_ret (v := .agg #[.pointer none, .pointer (some ⟨b, 0, none⟩), .pointer none, .pointer (some ⟨b, 1, none⟩), .pointer (some ⟨b, 2, none⟩), .pointer (some ⟨b, 3, none⟩), .pointer (some ⟨b, 4, none⟩), .pointer (some ⟨b, 5, none⟩), .pointer (some ⟨b, 6, none⟩), .pointer (some ⟨b, 7, none⟩), .pointer (some ⟨b, 8, none⟩), .pointer (some ⟨b, 9, none⟩), .pointer none, .pointer none, .pointer (some ⟨b, 10, none⟩)]) (by simp [results, Tryd.results28, go_sem, *]) rfl ⟨rfl, ?_⟩
  exact (Below.refl _ _).trans (((Below.refl _ _).alloc (Nat.le_refl _) _).trans ((Below.refl _ _).trans ⟨rfl, rfl, rfl, Nat.le_refl _, fun _ _ => rfl⟩))
theorem takes_y (lo hi n : Int) (w : World) (g1 : 0 ≤ lo) (g2 : 0 ≤ hi) (g3 : 0 ≤ n) (h1 : lo ≤ n) (h2 : n ≤ hi) : Calls Tryd.prog 29 #[.agg #[.int .u64 lo, .int .u64 hi], .int .u64 n] w fun e w' => e = .returned (.bool true) ∧ Below w.heap.size w w' := by
  go_enter Tryd.func29, Tryd.ntmps29
  go_wp2
  go_ret
  exact ⟨rfl, (Below.refl _ _).alloc (Nat.le_refl _) _⟩
theorem takes_l (lo hi n : Int) (w : World) (g1 : 0 ≤ lo) (g2 : 0 ≤ hi) (g3 : 0 ≤ n) (h1 : ¬ lo ≤ n) : Calls Tryd.prog 29 #[.agg #[.int .u64 lo, .int .u64 hi], .int .u64 n] w fun e w' => e = .returned (.bool false) ∧ Below w.heap.size w w' := by
  go_enter Tryd.func29, Tryd.ntmps29
  go_wp2
  go_ret
  exact ⟨rfl, (Below.refl _ _).alloc (Nat.le_refl _) _⟩
theorem takes_h (lo hi n : Int) (w : World) (g1 : 0 ≤ lo) (g2 : 0 ≤ hi) (g3 : 0 ≤ n) (h1 : lo ≤ n) (h2 : ¬ n ≤ hi) : Calls Tryd.prog 29 #[.agg #[.int .u64 lo, .int .u64 hi], .int .u64 n] w fun e w' => e = .returned (.bool false) ∧ Below w.heap.size w w' := by
  go_enter Tryd.func29, Tryd.ntmps29
  go_wp2
  go_ret
  exact ⟨rfl, (Below.refl _ _).alloc (Nat.le_refl _) _⟩
theorem takes_any (lo hi n : Int) (w : World) (g1 : 0 ≤ lo) (g2 : 0 ≤ hi) (g3 : 0 ≤ n) : Calls Tryd.prog 29 #[.agg #[.int .u64 lo, .int .u64 hi], .int .u64 n] w fun e w' => e = .returned (.bool (decide (lo ≤ n ∧ n ≤ hi))) ∧ Below w.heap.size w w' := by
  by_cases h : lo ≤ n
  · by_cases h4 : n ≤ hi
    · rw [decide_eq_true ⟨h, h4⟩]; exact takes_y lo hi n w g1 g2 g3 h h4
    · rw [decide_eq_false (fun x => h4 x.2)]; exact takes_h lo hi n w g1 g2 g3 h h4
  · rw [decide_eq_false (fun x => h x.1)]; exact takes_l lo hi n w g1 g2 g3 h
/-- Where in a block of parameters the value of a number stands. -/
def plA (b : Nat) : Nat → Option Addr
  | 1 => some ⟨b, 0, none⟩
  | 3 => some ⟨b, 1, none⟩
  | 4 => some ⟨b, 2, none⟩
  | 5 => some ⟨b, 3, none⟩
  | 6 => some ⟨b, 4, none⟩
  | 7 => some ⟨b, 5, none⟩
  | 8 => some ⟨b, 6, none⟩
  | 9 => some ⟨b, 7, none⟩
  | 10 => some ⟨b, 8, none⟩
  | 11 => some ⟨b, 9, none⟩
  | 14 => some ⟨b, 10, none⟩
  | _ => none
set_option maxHeartbeats 1000000 in
theorem place_great (b : Nat) (n : Int) (w : World) (h : 15 ≤ n) : Calls Tryd.prog 30 #[.pointer (some ⟨b, 0, none⟩), .int .u64 n] w fun e w' => e = .returned (.pointer none) ∧ Below w.heap.size w w' := by
  go_enter Tryd.func30, Tryd.ntmps30
  go_wp2
  go_ret
  exact ⟨rfl, Below.refl _ _⟩
theorem place_0 (b : Nat) (w : World) (hb : b < w.heap.size) : Calls Tryd.prog 30 #[.pointer (some ⟨b, 0, none⟩), .int .u64 0] w fun e w' => e = .returned (.pointer none) ∧ Below w.heap.size w w' := by
  go_enter Tryd.func30, Tryd.ntmps30
  go_wp2_with fail
  refine (places_any b _ hb).mono ?_
  rintro e w1 ⟨rfl, hb1⟩
  have HI := run_index_ptr #[.pointer none, .pointer (some ⟨b, 0, none⟩), .pointer none, .pointer (some ⟨b, 1, none⟩), .pointer (some ⟨b, 2, none⟩), .pointer (some ⟨b, 3, none⟩), .pointer (some ⟨b, 4, none⟩), .pointer (some ⟨b, 5, none⟩), .pointer (some ⟨b, 6, none⟩), .pointer (some ⟨b, 7, none⟩), .pointer (some ⟨b, 8, none⟩), .pointer (some ⟨b, 9, none⟩), .pointer none, .pointer none, .pointer (some ⟨b, 10, none⟩)] 0 (.pointer none) w1 (by decide) rfl
  go_wp2_with fail
  erw [HI]
  go_wp2
  go_ret
  exact ⟨rfl, hb1⟩
theorem place_1 (b : Nat) (w : World) (hb : b < w.heap.size) : Calls Tryd.prog 30 #[.pointer (some ⟨b, 0, none⟩), .int .u64 1] w fun e w' => e = .returned (.pointer (some ⟨b, 0, none⟩)) ∧ Below w.heap.size w w' := by
  go_enter Tryd.func30, Tryd.ntmps30
  go_wp2_with fail
  refine (places_any b _ hb).mono ?_
  rintro e w1 ⟨rfl, hb1⟩
  have HI := run_index_ptr #[.pointer none, .pointer (some ⟨b, 0, none⟩), .pointer none, .pointer (some ⟨b, 1, none⟩), .pointer (some ⟨b, 2, none⟩), .pointer (some ⟨b, 3, none⟩), .pointer (some ⟨b, 4, none⟩), .pointer (some ⟨b, 5, none⟩), .pointer (some ⟨b, 6, none⟩), .pointer (some ⟨b, 7, none⟩), .pointer (some ⟨b, 8, none⟩), .pointer (some ⟨b, 9, none⟩), .pointer none, .pointer none, .pointer (some ⟨b, 10, none⟩)] 1 (.pointer (some ⟨b, 0, none⟩)) w1 (by decide) rfl
  go_wp2_with fail
  erw [HI]
  go_wp2
  go_ret
  exact ⟨rfl, hb1⟩
theorem place_2 (b : Nat) (w : World) (hb : b < w.heap.size) : Calls Tryd.prog 30 #[.pointer (some ⟨b, 0, none⟩), .int .u64 2] w fun e w' => e = .returned (.pointer none) ∧ Below w.heap.size w w' := by
  go_enter Tryd.func30, Tryd.ntmps30
  go_wp2_with fail
  refine (places_any b _ hb).mono ?_
  rintro e w1 ⟨rfl, hb1⟩
  have HI := run_index_ptr #[.pointer none, .pointer (some ⟨b, 0, none⟩), .pointer none, .pointer (some ⟨b, 1, none⟩), .pointer (some ⟨b, 2, none⟩), .pointer (some ⟨b, 3, none⟩), .pointer (some ⟨b, 4, none⟩), .pointer (some ⟨b, 5, none⟩), .pointer (some ⟨b, 6, none⟩), .pointer (some ⟨b, 7, none⟩), .pointer (some ⟨b, 8, none⟩), .pointer (some ⟨b, 9, none⟩), .pointer none, .pointer none, .pointer (some ⟨b, 10, none⟩)] 2 (.pointer none) w1 (by decide) rfl
  go_wp2_with fail
  erw [HI]
  go_wp2
  go_ret
  exact ⟨rfl, hb1⟩
theorem place_3 (b : Nat) (w : World) (hb : b < w.heap.size) : Calls Tryd.prog 30 #[.pointer (some ⟨b, 0, none⟩), .int .u64 3] w fun e w' => e = .returned (.pointer (some ⟨b, 1, none⟩)) ∧ Below w.heap.size w w' := by
  go_enter Tryd.func30, Tryd.ntmps30
  go_wp2_with fail
  refine (places_any b _ hb).mono ?_
  rintro e w1 ⟨rfl, hb1⟩
  have HI := run_index_ptr #[.pointer none, .pointer (some ⟨b, 0, none⟩), .pointer none, .pointer (some ⟨b, 1, none⟩), .pointer (some ⟨b, 2, none⟩), .pointer (some ⟨b, 3, none⟩), .pointer (some ⟨b, 4, none⟩), .pointer (some ⟨b, 5, none⟩), .pointer (some ⟨b, 6, none⟩), .pointer (some ⟨b, 7, none⟩), .pointer (some ⟨b, 8, none⟩), .pointer (some ⟨b, 9, none⟩), .pointer none, .pointer none, .pointer (some ⟨b, 10, none⟩)] 3 (.pointer (some ⟨b, 1, none⟩)) w1 (by decide) rfl
  go_wp2_with fail
  erw [HI]
  go_wp2
  go_ret
  exact ⟨rfl, hb1⟩
theorem place_4 (b : Nat) (w : World) (hb : b < w.heap.size) : Calls Tryd.prog 30 #[.pointer (some ⟨b, 0, none⟩), .int .u64 4] w fun e w' => e = .returned (.pointer (some ⟨b, 2, none⟩)) ∧ Below w.heap.size w w' := by
  go_enter Tryd.func30, Tryd.ntmps30
  go_wp2_with fail
  refine (places_any b _ hb).mono ?_
  rintro e w1 ⟨rfl, hb1⟩
  have HI := run_index_ptr #[.pointer none, .pointer (some ⟨b, 0, none⟩), .pointer none, .pointer (some ⟨b, 1, none⟩), .pointer (some ⟨b, 2, none⟩), .pointer (some ⟨b, 3, none⟩), .pointer (some ⟨b, 4, none⟩), .pointer (some ⟨b, 5, none⟩), .pointer (some ⟨b, 6, none⟩), .pointer (some ⟨b, 7, none⟩), .pointer (some ⟨b, 8, none⟩), .pointer (some ⟨b, 9, none⟩), .pointer none, .pointer none, .pointer (some ⟨b, 10, none⟩)] 4 (.pointer (some ⟨b, 2, none⟩)) w1 (by decide) rfl
  go_wp2_with fail
  erw [HI]
  go_wp2
  go_ret
  exact ⟨rfl, hb1⟩
theorem place_5 (b : Nat) (w : World) (hb : b < w.heap.size) : Calls Tryd.prog 30 #[.pointer (some ⟨b, 0, none⟩), .int .u64 5] w fun e w' => e = .returned (.pointer (some ⟨b, 3, none⟩)) ∧ Below w.heap.size w w' := by
  go_enter Tryd.func30, Tryd.ntmps30
  go_wp2_with fail
  refine (places_any b _ hb).mono ?_
  rintro e w1 ⟨rfl, hb1⟩
  have HI := run_index_ptr #[.pointer none, .pointer (some ⟨b, 0, none⟩), .pointer none, .pointer (some ⟨b, 1, none⟩), .pointer (some ⟨b, 2, none⟩), .pointer (some ⟨b, 3, none⟩), .pointer (some ⟨b, 4, none⟩), .pointer (some ⟨b, 5, none⟩), .pointer (some ⟨b, 6, none⟩), .pointer (some ⟨b, 7, none⟩), .pointer (some ⟨b, 8, none⟩), .pointer (some ⟨b, 9, none⟩), .pointer none, .pointer none, .pointer (some ⟨b, 10, none⟩)] 5 (.pointer (some ⟨b, 3, none⟩)) w1 (by decide) rfl
  go_wp2_with fail
  erw [HI]
  go_wp2
  go_ret
  exact ⟨rfl, hb1⟩
theorem place_6 (b : Nat) (w : World) (hb : b < w.heap.size) : Calls Tryd.prog 30 #[.pointer (some ⟨b, 0, none⟩), .int .u64 6] w fun e w' => e = .returned (.pointer (some ⟨b, 4, none⟩)) ∧ Below w.heap.size w w' := by
  go_enter Tryd.func30, Tryd.ntmps30
  go_wp2_with fail
  refine (places_any b _ hb).mono ?_
  rintro e w1 ⟨rfl, hb1⟩
  have HI := run_index_ptr #[.pointer none, .pointer (some ⟨b, 0, none⟩), .pointer none, .pointer (some ⟨b, 1, none⟩), .pointer (some ⟨b, 2, none⟩), .pointer (some ⟨b, 3, none⟩), .pointer (some ⟨b, 4, none⟩), .pointer (some ⟨b, 5, none⟩), .pointer (some ⟨b, 6, none⟩), .pointer (some ⟨b, 7, none⟩), .pointer (some ⟨b, 8, none⟩), .pointer (some ⟨b, 9, none⟩), .pointer none, .pointer none, .pointer (some ⟨b, 10, none⟩)] 6 (.pointer (some ⟨b, 4, none⟩)) w1 (by decide) rfl
  go_wp2_with fail
  erw [HI]
  go_wp2
  go_ret
  exact ⟨rfl, hb1⟩
theorem place_7 (b : Nat) (w : World) (hb : b < w.heap.size) : Calls Tryd.prog 30 #[.pointer (some ⟨b, 0, none⟩), .int .u64 7] w fun e w' => e = .returned (.pointer (some ⟨b, 5, none⟩)) ∧ Below w.heap.size w w' := by
  go_enter Tryd.func30, Tryd.ntmps30
  go_wp2_with fail
  refine (places_any b _ hb).mono ?_
  rintro e w1 ⟨rfl, hb1⟩
  have HI := run_index_ptr #[.pointer none, .pointer (some ⟨b, 0, none⟩), .pointer none, .pointer (some ⟨b, 1, none⟩), .pointer (some ⟨b, 2, none⟩), .pointer (some ⟨b, 3, none⟩), .pointer (some ⟨b, 4, none⟩), .pointer (some ⟨b, 5, none⟩), .pointer (some ⟨b, 6, none⟩), .pointer (some ⟨b, 7, none⟩), .pointer (some ⟨b, 8, none⟩), .pointer (some ⟨b, 9, none⟩), .pointer none, .pointer none, .pointer (some ⟨b, 10, none⟩)] 7 (.pointer (some ⟨b, 5, none⟩)) w1 (by decide) rfl
  go_wp2_with fail
  erw [HI]
  go_wp2
  go_ret
  exact ⟨rfl, hb1⟩
theorem place_8 (b : Nat) (w : World) (hb : b < w.heap.size) : Calls Tryd.prog 30 #[.pointer (some ⟨b, 0, none⟩), .int .u64 8] w fun e w' => e = .returned (.pointer (some ⟨b, 6, none⟩)) ∧ Below w.heap.size w w' := by
  go_enter Tryd.func30, Tryd.ntmps30
  go_wp2_with fail
  refine (places_any b _ hb).mono ?_
  rintro e w1 ⟨rfl, hb1⟩
  have HI := run_index_ptr #[.pointer none, .pointer (some ⟨b, 0, none⟩), .pointer none, .pointer (some ⟨b, 1, none⟩), .pointer (some ⟨b, 2, none⟩), .pointer (some ⟨b, 3, none⟩), .pointer (some ⟨b, 4, none⟩), .pointer (some ⟨b, 5, none⟩), .pointer (some ⟨b, 6, none⟩), .pointer (some ⟨b, 7, none⟩), .pointer (some ⟨b, 8, none⟩), .pointer (some ⟨b, 9, none⟩), .pointer none, .pointer none, .pointer (some ⟨b, 10, none⟩)] 8 (.pointer (some ⟨b, 6, none⟩)) w1 (by decide) rfl
  go_wp2_with fail
  erw [HI]
  go_wp2
  go_ret
  exact ⟨rfl, hb1⟩
theorem place_9 (b : Nat) (w : World) (hb : b < w.heap.size) : Calls Tryd.prog 30 #[.pointer (some ⟨b, 0, none⟩), .int .u64 9] w fun e w' => e = .returned (.pointer (some ⟨b, 7, none⟩)) ∧ Below w.heap.size w w' := by
  go_enter Tryd.func30, Tryd.ntmps30
  go_wp2_with fail
  refine (places_any b _ hb).mono ?_
  rintro e w1 ⟨rfl, hb1⟩
  have HI := run_index_ptr #[.pointer none, .pointer (some ⟨b, 0, none⟩), .pointer none, .pointer (some ⟨b, 1, none⟩), .pointer (some ⟨b, 2, none⟩), .pointer (some ⟨b, 3, none⟩), .pointer (some ⟨b, 4, none⟩), .pointer (some ⟨b, 5, none⟩), .pointer (some ⟨b, 6, none⟩), .pointer (some ⟨b, 7, none⟩), .pointer (some ⟨b, 8, none⟩), .pointer (some ⟨b, 9, none⟩), .pointer none, .pointer none, .pointer (some ⟨b, 10, none⟩)] 9 (.pointer (some ⟨b, 7, none⟩)) w1 (by decide) rfl
  go_wp2_with fail
  erw [HI]
  go_wp2
  go_ret
  exact ⟨rfl, hb1⟩
theorem place_10 (b : Nat) (w : World) (hb : b < w.heap.size) : Calls Tryd.prog 30 #[.pointer (some ⟨b, 0, none⟩), .int .u64 10] w fun e w' => e = .returned (.pointer (some ⟨b, 8, none⟩)) ∧ Below w.heap.size w w' := by
  go_enter Tryd.func30, Tryd.ntmps30
  go_wp2_with fail
  refine (places_any b _ hb).mono ?_
  rintro e w1 ⟨rfl, hb1⟩
  have HI := run_index_ptr #[.pointer none, .pointer (some ⟨b, 0, none⟩), .pointer none, .pointer (some ⟨b, 1, none⟩), .pointer (some ⟨b, 2, none⟩), .pointer (some ⟨b, 3, none⟩), .pointer (some ⟨b, 4, none⟩), .pointer (some ⟨b, 5, none⟩), .pointer (some ⟨b, 6, none⟩), .pointer (some ⟨b, 7, none⟩), .pointer (some ⟨b, 8, none⟩), .pointer (some ⟨b, 9, none⟩), .pointer none, .pointer none, .pointer (some ⟨b, 10, none⟩)] 10 (.pointer (some ⟨b, 8, none⟩)) w1 (by decide) rfl
  go_wp2_with fail
  erw [HI]
  go_wp2
  go_ret
  exact ⟨rfl, hb1⟩
theorem place_11 (b : Nat) (w : World) (hb : b < w.heap.size) : Calls Tryd.prog 30 #[.pointer (some ⟨b, 0, none⟩), .int .u64 11] w fun e w' => e = .returned (.pointer (some ⟨b, 9, none⟩)) ∧ Below w.heap.size w w' := by
  go_enter Tryd.func30, Tryd.ntmps30
  go_wp2_with fail
  refine (places_any b _ hb).mono ?_
  rintro e w1 ⟨rfl, hb1⟩
  have HI := run_index_ptr #[.pointer none, .pointer (some ⟨b, 0, none⟩), .pointer none, .pointer (some ⟨b, 1, none⟩), .pointer (some ⟨b, 2, none⟩), .pointer (some ⟨b, 3, none⟩), .pointer (some ⟨b, 4, none⟩), .pointer (some ⟨b, 5, none⟩), .pointer (some ⟨b, 6, none⟩), .pointer (some ⟨b, 7, none⟩), .pointer (some ⟨b, 8, none⟩), .pointer (some ⟨b, 9, none⟩), .pointer none, .pointer none, .pointer (some ⟨b, 10, none⟩)] 11 (.pointer (some ⟨b, 9, none⟩)) w1 (by decide) rfl
  go_wp2_with fail
  erw [HI]
  go_wp2
  go_ret
  exact ⟨rfl, hb1⟩
theorem place_12 (b : Nat) (w : World) (hb : b < w.heap.size) : Calls Tryd.prog 30 #[.pointer (some ⟨b, 0, none⟩), .int .u64 12] w fun e w' => e = .returned (.pointer none) ∧ Below w.heap.size w w' := by
  go_enter Tryd.func30, Tryd.ntmps30
  go_wp2_with fail
  refine (places_any b _ hb).mono ?_
  rintro e w1 ⟨rfl, hb1⟩
  have HI := run_index_ptr #[.pointer none, .pointer (some ⟨b, 0, none⟩), .pointer none, .pointer (some ⟨b, 1, none⟩), .pointer (some ⟨b, 2, none⟩), .pointer (some ⟨b, 3, none⟩), .pointer (some ⟨b, 4, none⟩), .pointer (some ⟨b, 5, none⟩), .pointer (some ⟨b, 6, none⟩), .pointer (some ⟨b, 7, none⟩), .pointer (some ⟨b, 8, none⟩), .pointer (some ⟨b, 9, none⟩), .pointer none, .pointer none, .pointer (some ⟨b, 10, none⟩)] 12 (.pointer none) w1 (by decide) rfl
  go_wp2_with fail
  erw [HI]
  go_wp2
  go_ret
  exact ⟨rfl, hb1⟩
theorem place_13 (b : Nat) (w : World) (hb : b < w.heap.size) : Calls Tryd.prog 30 #[.pointer (some ⟨b, 0, none⟩), .int .u64 13] w fun e w' => e = .returned (.pointer none) ∧ Below w.heap.size w w' := by
  go_enter Tryd.func30, Tryd.ntmps30
  go_wp2_with fail
  refine (places_any b _ hb).mono ?_
  rintro e w1 ⟨rfl, hb1⟩
  have HI := run_index_ptr #[.pointer none, .pointer (some ⟨b, 0, none⟩), .pointer none, .pointer (some ⟨b, 1, none⟩), .pointer (some ⟨b, 2, none⟩), .pointer (some ⟨b, 3, none⟩), .pointer (some ⟨b, 4, none⟩), .pointer (some ⟨b, 5, none⟩), .pointer (some ⟨b, 6, none⟩), .pointer (some ⟨b, 7, none⟩), .pointer (some ⟨b, 8, none⟩), .pointer (some ⟨b, 9, none⟩), .pointer none, .pointer none, .pointer (some ⟨b, 10, none⟩)] 13 (.pointer none) w1 (by decide) rfl
  go_wp2_with fail
  erw [HI]
  go_wp2
  go_ret
  exact ⟨rfl, hb1⟩
theorem place_14 (b : Nat) (w : World) (hb : b < w.heap.size) : Calls Tryd.prog 30 #[.pointer (some ⟨b, 0, none⟩), .int .u64 14] w fun e w' => e = .returned (.pointer (some ⟨b, 10, none⟩)) ∧ Below w.heap.size w w' := by
  go_enter Tryd.func30, Tryd.ntmps30
  go_wp2_with fail
  refine (places_any b _ hb).mono ?_
  rintro e w1 ⟨rfl, hb1⟩
  have HI := run_index_ptr #[.pointer none, .pointer (some ⟨b, 0, none⟩), .pointer none, .pointer (some ⟨b, 1, none⟩), .pointer (some ⟨b, 2, none⟩), .pointer (some ⟨b, 3, none⟩), .pointer (some ⟨b, 4, none⟩), .pointer (some ⟨b, 5, none⟩), .pointer (some ⟨b, 6, none⟩), .pointer (some ⟨b, 7, none⟩), .pointer (some ⟨b, 8, none⟩), .pointer (some ⟨b, 9, none⟩), .pointer none, .pointer none, .pointer (some ⟨b, 10, none⟩)] 14 (.pointer (some ⟨b, 10, none⟩)) w1 (by decide) rfl
  go_wp2_with fail
  erw [HI]
  go_wp2
  go_ret
  exact ⟨rfl, hb1⟩
theorem place_any (b : Nat) (n : Nat) (w : World) (hb : b < w.heap.size) : Calls Tryd.prog 30 #[.pointer (some ⟨b, 0, none⟩), .int .u64 (n : Nat)] w fun e w' => e = .returned (.pointer (plA b n)) ∧ Below w.heap.size w w' := by
  match n with
  | 0 => exact place_0 b w hb
  | 1 => exact place_1 b w hb
  | 2 => exact place_2 b w hb
  | 3 => exact place_3 b w hb
  | 4 => exact place_4 b w hb
  | 5 => exact place_5 b w hb
  | 6 => exact place_6 b w hb
  | 7 => exact place_7 b w hb
  | 8 => exact place_8 b w hb
  | 9 => exact place_9 b w hb
  | 10 => exact place_10 b w hb
  | 11 => exact place_11 b w hb
  | 12 => exact place_12 b w hb
  | 13 => exact place_13 b w hb
  | 14 => exact place_14 b w hb
  | k + 15 => exact place_great b _ w (by omega)
end Go.Proofs.YthhcpedaldlccaaDoor.Pm
