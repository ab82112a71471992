/- The walks of layer 2's small functions: windows. -/
import Derived.Test.YtpjcpkolmjoneaaRows
import Derived.WalkKit
import Derived.WalkSpells
import Derived.WalkLawsBesides
import Derived.Lib.Hide
import Derived.Below
namespace Go.Proofs.Ytpjcpkolmjoneaa.Pn
open Go.RowKit
set_option linter.unusedVariables false

/-- A width, brought into 1 to 4. -/
def cl (k : Int) : Int := if k < 1 then 1 else if 4 < k then 4 else k
/-- The window of a width. -/
def wn (c : Int) : Int := ((256 ^ c.toNat : Nat) : Int)
theorem cl_low {k : Int} (h : k < 1) : cl k = 1 := by unfold cl; rw [if_pos h]
theorem cl_high {k : Int} (h : 4 < k) : cl k = 4 := by unfold cl; rw [if_neg (by omega), if_pos h]
theorem cl_mid {k : Int} (h : 1 ≤ k) (h4 : k ≤ 4) : cl k = k := by unfold cl; rw [if_neg (by omega), if_neg (by omega)]
theorem cl_range (k : Int) : 1 ≤ cl k ∧ cl k ≤ 4 := by unfold cl; split <;> (try split) <;> omega
theorem wn_1 : wn 1 = 256 := by decide
theorem wn_2 : wn 2 = 65536 := by decide
theorem wn_3 : wn 3 = 16777216 := by decide
theorem wn_4 : wn 4 = 4294967296 := by decide
theorem four {c : Int} (h : 1 ≤ c) (h4 : c ≤ 4) : c = 1 ∨ c = 2 ∨ c = 3 ∨ c = 4 := by omega
theorem wn_cases {c : Int} (h : 1 ≤ c) (h4 : c ≤ 4) : wn c = 256 ∨ wn c = 65536 ∨ wn c = 16777216 ∨ wn c = 4294967296 := by
  rcases four h h4 with rfl | rfl | rfl | rfl
  · exact .inl wn_1
  · exact .inr (.inl wn_2)
  · exact .inr (.inr (.inl wn_3))
  · exact .inr (.inr (.inr wn_4))
theorem wn_range {c : Int} (h : 1 ≤ c) (h4 : c ≤ 4) : 256 ≤ wn c ∧ wn c ≤ 4294967296 := by
  have := wn_cases h h4; omega

theorem bcell {W w1 : World} (hb : Below W.heap.size W w1) : (∀ b o, b < W.heap.size → w1.cell? ⟨b, o, none⟩ = W.cell? ⟨b, o, none⟩) ∧ (∀ b o, b < W.heap.size → w1.frozen? ⟨b, o, none⟩ = W.frozen? ⟨b, o, none⟩) :=
  ⟨fun b o h => hb.cell (p := ⟨b, o, none⟩) h, fun b o h => hb.frozen (p := ⟨b, o, none⟩) h⟩

set_option maxHeartbeats 400000 in
theorem windowOf_low (k : Int) (w : World) (h0 : k < 1) (h1 : -9223372036854775808 ≤ k) :
    Calls Try.prog 19 #[.int .i64 k] w fun e w' => e = .returned (.agg #[.int .i64 1]) ∧ Below w.heap.size w w' := by
  go_enter Try.func19, Try.ntmps19
  go_wp2
  exact bodyPost_ret (v := .agg #[.int .i64 1]) (by simp [results, Try.results19, go_sem]) rfl ⟨rfl, (Below.refl _ _).alloc (Nat.le_refl _) _⟩
set_option maxHeartbeats 400000 in
theorem windowOf_mid (k : Int) (w : World) (h0 : 1 ≤ k) (h1 : k ≤ 4) :
    Calls Try.prog 19 #[.int .i64 k] w fun e w' => e = .returned (.agg #[.int .i64 k]) ∧ Below w.heap.size w w' := by
  go_enter Try.func19, Try.ntmps19
  go_wp2
  all_goals exact bodyPost_ret (v := .agg #[.int .i64 _]) (by simp [results, Try.results19, go_sem]; try omega) rfl ⟨rfl, (Below.refl _ _).alloc (Nat.le_refl _) _⟩
set_option maxHeartbeats 400000 in
theorem windowOf_high (k : Int) (w : World) (h0 : 4 < k) (h1 : k ≤ 9223372036854775807) :
    Calls Try.prog 19 #[.int .i64 k] w fun e w' => e = .returned (.agg #[.int .i64 4]) ∧ Below w.heap.size w w' := by
  go_enter Try.func19, Try.ntmps19
  go_wp2
  exact bodyPost_ret (v := .agg #[.int .i64 4]) (by simp [results, Try.results19, go_sem]) rfl ⟨rfl, (Below.refl _ _).alloc (Nat.le_refl _) _⟩
theorem windowOf_any (k : Int) (w : World) (h0 : -9223372036854775808 ≤ k) (h1 : k ≤ 9223372036854775807) :
    Calls Try.prog 19 #[.int .i64 k] w fun e w' => e = .returned (.agg #[.int .i64 (cl k)]) ∧ Below w.heap.size w w' := by
  by_cases h : k < 1
  · rw [cl_low h]; exact windowOf_low k w h h0
  · by_cases h4 : 4 < k
    · rw [cl_high h4]; exact windowOf_high k w h4 h1
    · rw [cl_mid (by omega) (by omega)]; exact windowOf_mid k w (by omega) (by omega)

set_option maxHeartbeats 400000 in
theorem size_any (c : Int) (w : World) (h0 : 1 ≤ c) (h1 : c ≤ 4) :
    Calls Try.prog 25 #[.agg #[.int .i64 c]] w fun e w' => e = .returned (.int .u64 (wn c)) ∧ Below w.heap.size w w' := by
  rcases four h0 h1 with rfl | rfl | rfl | rfl
  all_goals
    first | rw [wn_1] | rw [wn_2] | rw [wn_3] | rw [wn_4]
    go_enter Try.func25, Try.ntmps25
    go_wp2
    go_ret
    exact ⟨rfl, (Below.refl _ _).alloc (Nat.le_refl _) _⟩

set_option maxHeartbeats 400000 in
theorem half_any (c : Int) (w : World) (h0 : 1 ≤ c) (h1 : c ≤ 4) :
    Calls Try.prog 26 #[.agg #[.int .i64 c]] w fun e w' => e = .returned (.int .u64 (wn c / 2)) ∧ Below w.heap.size w w' := by
  have hr := wn_range h0 h1
  go_enter Try.func26, Try.ntmps26
  go_wp2_with fail
  refine (size_any _ _ h0 h1).mono ?_
  rintro e w1 ⟨rfl, hb⟩
  go_wp2
  go_ret
  exact ⟨rfl, ((Below.refl _ _).alloc (Nat.le_refl _) _).trans (hb.mono (by simp))⟩

set_option maxHeartbeats 400000 in
theorem low_any (c n : Int) (w : World) (h0 : 1 ≤ c) (h1 : c ≤ 4) (hn : 0 ≤ n) (hn1 : n ≤ 18446744073709551615) :
    Calls Try.prog 22 #[.agg #[.int .i64 c], .int .u64 n] w fun e w' => e = .returned (.int .u64 (n % wn c)) ∧ Below w.heap.size w w' := by
  have hr := wn_range h0 h1
  go_enter Try.func22, Try.ntmps22
  go_wp2_with fail
  refine (size_any _ _ h0 h1).mono ?_
  rintro e w1 ⟨rfl, hb⟩
  go_wp2
  go_ret
  exact ⟨rfl, ((Below.refl _ _).alloc (Nat.le_refl _) _).trans (hb.mono (by simp))⟩

set_option maxHeartbeats 400000 in
theorem spans_any (c n : Int) (w : World) (h0 : 1 ≤ c) (h1 : c ≤ 4) (hn : 0 ≤ n) (hn1 : n ≤ 4611686018427387904) :
    Calls Try.prog 20 #[.agg #[.int .i64 c], .int .u64 n] w fun e w' => e = .returned (.bool (decide (2 * n < wn c))) ∧ Below w.heap.size w w' := by
  have hr := wn_range h0 h1
  go_enter Try.func20, Try.ntmps20
  go_wp2_with fail
  refine (size_any _ _ h0 h1).mono ?_
  rintro e w1 ⟨rfl, hb⟩
  go_wp2
  go_ret
  exact ⟨rfl, ((Below.refl _ _).alloc (Nat.le_refl _) _).trans (hb.mono (by simp))⟩
end Go.Proofs.Ytpjcpkolmjoneaa.Pn
