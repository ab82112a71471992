/- The walks of layer 3: comparing, and the search. -/
import Derived.Test.YtedijfcagkedaaaRgA
import Derived.WalkSpells
import Derived.WalkLawsBesides
namespace Go.Proofs.Ytedijfcagkedaaa.Rg
set_option maxRecDepth 20000
open Go.RowKit
set_option linter.unusedVariables false

/-- How two numbers compare. -/
def cv (x y : Int) : Int := if x < y then -1 else if y < x then 1 else 0
theorem cv_lt {x y : Int} (h : x < y) : cv x y = -1 := by unfold cv; rw [if_pos h]
theorem cv_gt {x y : Int} (h : y < x) : cv x y = 1 := by unfold cv; rw [if_neg (by omega), if_pos h]
theorem cv_eq {x y : Int} (h : x = y) : cv x y = 0 := by unfold cv; rw [if_neg (by omega), if_neg (by omega)]
theorem cv_neg {x y : Int} : cv x y < 0 ↔ x < y := by unfold cv; split <;> (try split) <;> omega

set_option maxHeartbeats 400000 in
theorem nan_any (x : Int) (w : World) : Calls Try.prog 71 #[.int .u64 x] w fun e w' => e = .returned (.bool false) ∧ w = w' := by
  go_enter Try.func71, Try.ntmps71
  go_wp2
  go_ret
  exact ⟨rfl, rfl⟩

set_option maxHeartbeats 1000000 in
theorem compare_any (x y : Int) (w : World) : Calls Try.prog 61 #[.int .u64 x, .int .u64 y] w fun e w' => e = .returned (.int .i64 (cv x y)) ∧ w = w' := by
  rcases Int.lt_trichotomy x y with h | h | h
  · rw [cv_lt h]
    go_enter Try.func61, Try.ntmps61
    go_wp2_with (go_at_call 71; refine (nan_any _ _).mono ?_; rintro e w1 ⟨rfl, rfl⟩)
    go_ret
    exact ⟨rfl, rfl⟩
  · rw [cv_eq h]
    subst h
    go_enter Try.func61, Try.ntmps61
    go_wp2_with (go_at_call 71; refine (nan_any _ _).mono ?_; rintro e w1 ⟨rfl, rfl⟩)
    go_ret
    exact ⟨rfl, rfl⟩
  · rw [cv_gt h]
    go_enter Try.func61, Try.ntmps61
    go_wp2_with (go_at_call 71; refine (nan_any _ _).mono ?_; rintro e w1 ⟨rfl, rfl⟩)
    go_ret
    exact ⟨rfl, rfl⟩

set_option maxHeartbeats 400000 in
theorem cmpHi_any (lo hi y : Int) (w : World) : Calls Try.prog 74 #[.agg #[.int .u64 lo, .int .u64 hi], .int .u64 y] w fun e w' => e = .returned (.int .i64 (cv hi y)) ∧ Below w.heap.size w w' := by
  go_enter Try.func74, Try.ntmps74
  go_wp2_with (go_at_call 61; refine (compare_any _ _ _).mono ?_; rintro e w1 ⟨rfl, rfl⟩)
  go_ret
  exact ⟨rfl, (Below.refl _ _).alloc (Nat.le_refl _) _⟩

set_option maxHeartbeats 400000 in
theorem cmpLo_any (lo hi lo2 hi2 : Int) (w : World) : Calls Try.prog 60 #[.agg #[.int .u64 lo, .int .u64 hi], .agg #[.int .u64 lo2, .int .u64 hi2]] w fun e w' => e = .returned (.int .i64 (cv lo lo2)) ∧ w' = (w.alloc (.cells #[.int .u64 lo, .int .u64 hi] 68)).alloc (.cells #[.int .u64 lo2, .int .u64 hi2] 68) := by
  go_enter Try.func60, Try.ntmps60
  go_wp2_with (go_at_call 61; refine (compare_any _ _ _).mono ?_; rintro e w1 ⟨rfl, rfl⟩)
  go_ret
  exact ⟨rfl, rfl⟩

set_option maxHeartbeats 1000000 in
theorem search_row (b off cap n : Nat) (l : List Ran) (y : Int) (w : World) (hl : l.length = n) (hn : n ≤ 1000) (hb : b < w.heap.size)
    (hc : ∀ i, i < n → w.cell? ⟨b, off + i * 2, none⟩ = some (.int .u64 (l.getD i (0, 0)).1) ∧ w.cell? ⟨b, off + i * 2 + 1, none⟩ = some (.int .u64 (l.getD i (0, 0)).2))
    (hm : ∀ i j, i ≤ j → j < n → (l.getD i (0, 0)).2 ≤ (l.getD j (0, 0)).2) :
    Calls Try.prog 73 #[.slice (some ⟨b, off, none⟩) n cap, .int .u64 y, .func (.func 74) #[] #[]] w fun e w' =>
      (∃ (k : Nat) (t : Bool), e = .returned (.tuple #[.int .i64 k, .bool t]) ∧ k ≤ n ∧ (∀ i, i < k → (l.getD i (0, 0)).2 < y) ∧ (∀ i, k ≤ i → i < n → y ≤ (l.getD i (0, 0)).2)) ∧ Below w.heap.size w w' := by
  have HC := Lib.hid hc
  have HM := Lib.hid hm
  clear hc hm
  go_enter Try.func73, Try.ntmps73
  go_wp2
  go_loopw [9, 10, 11] (fun iv jv _ wr => ∃ i j : Nat, i ≤ j ∧ j ≤ n ∧ iv = .int .i64 i ∧ jv = .int .i64 j ∧ Hid ((∀ q, q < i → (l.getD q (0, 0)).2 < y) ∧ (∀ q, j ≤ q → q < n → y ≤ (l.getD q (0, 0)).2)) ∧ Below w.heap.size w wr) (fun iv jv _ _ => (intOf jv - intOf iv).toNat)
  case atStart => exact ⟨0, n, Nat.zero_le _, Nat.le_refl _, rfl, rfl, Lib.hid ⟨fun q h => by omega, fun q h h' => by omega⟩, Below.refl _ _⟩
  case round =>
    obtain ⟨i, j, hij, hjn, rfl, rfl, HR, hbl⟩ := hrel
    have hsz := hbl.size
    by_cases hlt : i < j
    · have hcx := HC.out ((i + j) / 2) (by omega)
      have hc1 := cell_below hbl hcx.1 hb
      have hc2 := cell_below hbl hcx.2 hb
      have hlo : Hid (∀ q, q ≤ (i + j) / 2 → (l.getD q (0, 0)).2 ≤ (l.getD ((i + j) / 2) (0, 0)).2) := Lib.hid (fun q hq => HM.out q _ hq (by omega))
      have hup : Hid (∀ q, (i + j) / 2 ≤ q → q < n → (l.getD ((i + j) / 2) (0, 0)).2 ≤ (l.getD q (0, 0)).2) := Lib.hid (fun q hq hq' => HM.out _ q hq hq')
      clear hcx
      generalize l.getD ((i + j) / 2) (0, 0) = x at hc1 hc2 hlo hup
      obtain ⟨lo, hi⟩ := x
      go_wp2_with fail
      refine (cmpHi_any lo hi y _).mono ?_
      rintro e w1 ⟨rfl, hb1⟩
      have hb2 := Lib.hid (hbl.trans (hb1.mono hsz))
      clear hc1 hc2 hb1
      by_cases hh : hi < y
      · rw [cv_lt hh]
        have hh := Lib.hid hh
        go_wp2
        go_roundw
        case rel => exact ⟨(i + j) / 2 + 1, j, by omega, by omega, by go_num, rfl, Lib.hid ⟨fun q hq => Int.lt_of_le_of_lt (hlo.out q (by omega)) hh.out, HR.out.2⟩, hb2.out⟩
        case measure => simp [intOf]; omega
      · have hge : Hid (y ≤ hi) := Lib.hid (by omega)
        by_cases hq : y < hi
        · rw [cv_gt hq]
          clear hh hq
          go_wp2
          go_roundw
          case rel => exact ⟨i, (i + j) / 2, by omega, by omega, rfl, by go_num, Lib.hid ⟨HR.out.1, fun q hq hq' => Int.le_trans hge.out (hup.out q hq hq')⟩, hb2.out⟩
          case measure => simp [intOf]; omega
        · rw [cv_eq (by omega)]
          clear hh hq
          go_wp2
          go_roundw
          case rel => exact ⟨i, (i + j) / 2, by omega, by omega, rfl, by go_num, Lib.hid ⟨HR.out.1, fun q hq hq' => Int.le_trans hge.out (hup.out q hq hq')⟩, hb2.out⟩
          case measure => simp [intOf]; omega
    · obtain rfl : i = j := by omega
      by_cases hin : i < n
      · have hcx := HC.out i hin
        have hc1 := cell_below hbl hcx.1 hb
        have hc2 := cell_below hbl hcx.2 hb
        clear hcx
        generalize l.getD i (0, 0) = x at hc1 hc2
        obtain ⟨lo, hi⟩ := x
        go_wp2_with fail
        refine (cmpHi_any lo hi y _).mono ?_
        rintro e w1 ⟨rfl, hb1⟩
        have hb2 := Lib.hid (hbl.trans (hb1.mono hsz))
        clear hc1 hc2 hb1
        go_wp2
        go_ret2
        exact ⟨⟨i, _, rfl, hjn, HR.out⟩, hb2.out⟩
      · go_wp2
        go_ret2
        exact ⟨⟨i, _, rfl, hjn, HR.out⟩, hbl⟩
end Go.Proofs.Ytedijfcagkedaaa.Rg
