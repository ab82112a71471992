/- The walks of layer 3's laws: low, shown. -/
import Derived.Test.YtgmagaphbidobaaRgE
namespace Go.Proofs.Ytgmagaphbidobaa.Rg
open Go.RowKit Go.Shelf
set_option linter.unusedVariables false

theorem next {w w1 w2 : World} (h : Below w.heap.size w w1) (h2 : Below w1.heap.size w1 w2) : Below w.heap.size w w2 := h.trans (h2.mono h.size)

def LowTo (l : List Ran) (k : Nat) : Prop := ∀ i, i < k → (l.getD i (0, 0)).1 < 9223372036854775808 ∧ (l.getD i (0, 0)).2 < 9223372036854775808
/-- Are all numbers below 2^63, and no more than 40 ranges? -/
def LowP (l : List Ran) : Prop := LowTo l l.length ∧ l.length ≤ 40
instance (l : List Ran) : Decidable (LowP l) := by unfold LowP LowTo; exact inferInstance
def lowB (l : List Ran) : Bool := decide (LowP l)
theorem lowB_no {l : List Ran} (h : ¬ LowP l) : lowB l = false := decide_eq_false h
theorem lowB_yes {l : List Ran} (h : LowP l) : lowB l = true := decide_eq_true h
theorem lowTo_succ {l : List Ran} {k : Nat} (h : LowTo l k) {x : Ran} (hx : l.getD k (0, 0) = x) (h1 : x.1 < 9223372036854775808) (h2 : x.2 < 9223372036854775808) : LowTo l (k + 1) := by
  intro i hi
  rcases Nat.lt_or_ge i k with h' | h'
  · exact h i h'
  · obtain rfl : i = k := by omega
    rw [hx]
    exact ⟨h1, h2⟩

set_option maxHeartbeats 1000000 in
theorem low_nil (a : Option Addr) (cap : Nat) (w : World) : Calls Try.prog 4 #[.slice a 0 cap] w fun e w' => e = .returned (.bool true) ∧ Below w.heap.size w w' := by
  go_enter Try.func4, Try.ntmps4
  go_wp2
  refine wp_loop_rounds 1 ?_
  rw [rounds_succ]
  go_wp2
  go_ret
  exact ⟨rfl, Below.refl _ _⟩

set_option maxHeartbeats 2000000 in
theorem low_row (b off n cap : Nat) (l : List Ran) (hln : l.length = n) (hl : n ≤ maxLen) (w : World)
    (hc : ∀ i, i < n → w.cell? ⟨b, off + i * 2, none⟩ = some (.int .u64 (l.getD i (0, 0)).1) ∧ w.cell? ⟨b, off + i * 2 + 1, none⟩ = some (.int .u64 (l.getD i (0, 0)).2)) :
    Calls Try.prog 4 #[.slice (some ⟨b, off, none⟩) n cap] w fun e w' => e = .returned (.bool (lowB l)) ∧ Below w.heap.size w w' := by
  have HC := Lib.hid hc
  clear hc
  unfold maxLen at hl
  go_enter Try.func4, Try.ntmps4
  go_wp2
  go_loopw [3] (fun iv wr => ∃ k m : Nat, k ≤ n ∧ iv = .int .i64 k ∧ Hid (LowTo l k) ∧ wr = w.drewN m) (fun iv _ => n - (intOf iv).toNat)
  case atStart => exact ⟨0, 0, Nat.zero_le _, rfl, Lib.hid (fun i hi => by omega), rfl⟩
  case round =>
    obtain ⟨k, m, hk, rfl, HM, rfl⟩ := hrel
    by_cases hlt : k < n
    · obtain ⟨hc1, hc2⟩ := HC.out k hlt
      obtain ⟨x, hx⟩ : ∃ x, l.getD k (0, 0) = x := ⟨_, rfl⟩
      rw [hx] at hc1 hc2
      have HX := Lib.hid hx
      obtain ⟨lo, hi⟩ := x
      simp only at hc1 hc2
      have HNO : Hid (¬ (lo < 9223372036854775808 ∧ hi < 9223372036854775808) → lowB l = false) := Lib.hid (fun h => lowB_no (fun hm => h (by have := hm.1 k (by omega); rw [HX.out] at this; exact this)))
      have HYES : Hid (lo < 9223372036854775808 → hi < 9223372036854775808 → LowTo l (k + 1)) := Lib.hid (fun h1 h2 => lowTo_succ HM.out HX.out h1 h2)
      have hi0 : (0 : Int) ≤ (k : Int) := by omega
      have hi1 : (k : Int) < (n : Int) := by omega
      clear hx
      by_cases h1 : 9223372036854775808 ≤ lo
      · have d1 : decide (9223372036854775808 ≤ lo) = true := decide_eq_true h1
        have hn := Lib.hid (HNO.out (fun h => by omega))
        go_wp2
        go_ret
        exact ⟨by rw [hn.out]; rfl, below_drewN (Below.refl _ _) _⟩
      · have d1 : decide (9223372036854775808 ≤ lo) = false := decide_eq_false h1
        by_cases h2 : 9223372036854775808 ≤ hi
        · have d2 : decide (9223372036854775808 ≤ hi) = true := decide_eq_true h2
          have hn := Lib.hid (HNO.out (fun h => by omega))
          go_wp2
          go_ret
          exact ⟨by rw [hn.out]; rfl, below_drewN (Below.refl _ _) _⟩
        · have d2 : decide (9223372036854775808 ≤ hi) = false := decide_eq_false h2
          have hy := Lib.hid (HYES.out (by omega) (by omega))
          go_wp2
          go_roundw
          case rel => exact ⟨k + 1, _, by omega, by go_num, hy, rfl⟩
          case measure => simp [intOf]; omega
    · obtain rfl : k = n := by omega
      have HB : Hid (lowB l = decide (k ≤ 40)) := Lib.hid (by
        unfold lowB
        exact decide_eq_decide.2 ⟨fun h => hln ▸ h.2, fun h => ⟨hln ▸ HM.out, hln ▸ h⟩⟩)
      by_cases h40 : k ≤ 40
      · have hy : Hid (lowB l = true) := Lib.hid (by rw [HB.out]; exact decide_eq_true h40)
        go_wp2
        go_ret
        exact ⟨by rw [hy.out]; simp; omega, below_drewN (Below.refl _ _) _⟩
      · have hy : Hid (lowB l = false) := Lib.hid (by rw [HB.out]; exact decide_eq_false h40)
        go_wp2
        go_ret
        exact ⟨by rw [hy.out]; simp; omega, below_drewN (Below.refl _ _) _⟩
theorem low_any (v : Value) (l : List Ran) (w : World) (hl : l.length ≤ maxLen) (hrd : Rd w v l) :
    Calls Try.prog 4 #[v] w fun e w' => e = .returned (.bool (lowB l)) ∧ Below w.heap.size w w' := by
  obtain ⟨a, cap, rfl, hcap, hrow⟩ := hrd
  by_cases hnil : l = []
  · subst hnil
    refine (low_nil a cap w).mono ?_
    rintro e w' ⟨rfl, hb⟩
    exact ⟨by rw [lowB_yes ⟨fun i hi => by simp at hi, by simp⟩], hb⟩
  · obtain ⟨b, off, rfl, hc⟩ := hrow hnil
    exact low_row b off l.length cap l rfl hl w hc

theorem shown_can : Can [((1 : Int), (4 : Int))] := Can.single ⟨by decide, by decide, by decide⟩
theorem shown_mem (n : Int) : mem [((3 : Int), (4 : Int)), (1, 2), (7, 6)] n ↔ mem [((1 : Int), (4 : Int))] n := by
  simp only [mem_cons, inn]
  constructor
  · rintro (h | h | h | h)
    · exact .inl (by omega)
    · exact .inl (by omega)
    · omega
    · exact absurd h (mem_nil n)
  · rintro (h | h)
    · by_cases h3 : 3 ≤ n
      · exact .inl (by omega)
      · exact .inr (.inl (by omega))
    · exact absurd h (mem_nil n)
set_option maxHeartbeats 2000000 in
theorem shown_any (w : World) : Calls Try.prog 5 #[] w fun e w' => e = .returned (.bool true) ∧ Below w.heap.size w w' := by
  go_enter Try.func5, Try.ntmps5
  go_wp2_with fail
  refine (of_loop _ 3 _ [(3, 4), (1, 2), (7, 6)] (by decide) (by decide) _ ⟨_, _, rfl, by simp, fun _ => ⟨_, _, rfl, fun i hi => ?_⟩⟩).mono ?_
  · have h3 : i < 3 := hi
    rcases (by omega : i = 0 ∨ i = 1 ∨ i = 2) with rfl | rfl | rfl <;> exact ⟨by simp [go_sem], by simp [go_sem]⟩
  rintro e w1 ⟨v, l', rfl, hcan, hmem, -, hrd, hbl⟩
  obtain rfl : l' = [(1, 4)] := can_ext hcan shown_can (fun n => (hmem n).trans (shown_mem n))
  obtain ⟨a, cap, rfl, hcap, hrow⟩ := hrd
  have HRD : Hid (Rd w1 (.slice a 1 cap) [(1, 4)]) := Lib.hid ⟨a, cap, rfl, hcap, hrow⟩
  obtain ⟨b, off, rfl, hc⟩ := hrow (by simp)
  obtain ⟨hc1, hc2⟩ := hc 0 (by simp)
  simp only [Nat.zero_mul, Nat.add_zero, List.getD_cons_zero] at hc1 hc2
  have HB := Lib.hid (next ((Below.refl w.heap.size w).alloc (Nat.le_refl _) _) hbl)
  clear hbl hc hcan hmem hrow
  go_wp2_with fail
  refine (may_any _ [(1, 4)] _ (by decide) HRD.out (by decide)).mono ?_
  rintro e w2 ⟨rfl, hb2⟩
  have HR2 := Lib.hid (HRD.out.below hb2 (Nat.le_refl _))
  have HB2 := Lib.hid (next HB.out hb2)
  clear hb2
  rw [mayB_yes (Can.may shown_can)]
  go_wp2_with fail
  refine (has_any _ 1 _ [(1, 4)] 3 _ (by decide) shown_can HR2.out).mono ?_
  rintro e w3 ⟨rfl, hb3⟩
  have HR3 := Lib.hid (HR2.out.below hb3 (Nat.le_refl _))
  have HB3 := Lib.hid (next HB2.out hb3)
  clear hb3
  rw [show hasB [((1 : Int), (4 : Int))] 3 = true by decide]
  go_wp2_with fail
  refine (count_any _ 1 _ [(1, 4)] _ (by decide) shown_can HR3.out).mono ?_
  rintro e w4 ⟨rfl, hb4⟩
  have HB4 := Lib.hid (next HB3.out hb4)
  clear hb4
  rw [show size [((1 : Int), (4 : Int))] = 4 by decide]
  go_wp2
  go_ret
  exact ⟨rfl, HB4.out⟩

/-- What is below and goes on beneath its own size. -/
theorem lowB_or (l : List Ran) : lowB l = true ∨ lowB l = false := by cases lowB l <;> simp

end Go.Proofs.Ytgmagaphbidobaa.Rg
