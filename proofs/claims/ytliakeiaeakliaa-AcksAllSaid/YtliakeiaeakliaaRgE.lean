/- The walks of layer 3's document functions: May. -/
import Derived.Test.YtliakeiaeakliaaRgD
namespace Go.Proofs.Ytliakeiaeakliaa.Rg
set_option maxRecDepth 20000
open Go.RowKit Go.Shelf
set_option linter.unusedVariables false

set_option maxHeartbeats 1000000 in
theorem rmay_nil (a : Option Addr) (cap : Nat) (w : World) : Calls Try.prog 33 #[.slice a 0 cap] w fun e w' => e = .returned (.bool true) ∧ Below w.heap.size w w' := by
  go_enter Try.func33, Try.ntmps33
  go_wp2
  refine wp_loop_rounds 1 ?_
  rw [rounds_succ]
  go_wp2
  go_ret
  exact ⟨rfl, Below.refl _ _⟩

set_option maxHeartbeats 4000000 in
theorem rmay_row (b off n cap : Nat) (l : List Ran) (hln : l.length = n) (hl : n ≤ 1000) (w : World)
    (hc : ∀ i, i < n → w.cell? ⟨b, off + i * 2, none⟩ = some (.int .u64 (l.getD i (0, 0)).1) ∧ w.cell? ⟨b, off + i * 2 + 1, none⟩ = some (.int .u64 (l.getD i (0, 0)).2))
    (hu : ∀ x ∈ l, 0 ≤ x.1 ∧ 0 ≤ x.2) :
    Calls Try.prog 33 #[.slice (some ⟨b, off, none⟩) n cap] w fun e w' => e = .returned (.bool (mayB l)) ∧ Below w.heap.size w w' := by
  have HC := Lib.hid hc
  have HU := Lib.hid hu
  clear hc hu
  go_enter Try.func33, Try.ntmps33
  go_wp2
  go_loopw [3] (fun iv wr => ∃ k m : Nat, k ≤ n ∧ iv = .int .i64 k ∧ Hid (MayTo l k) ∧ wr = w.drewN m) (fun iv _ => n - (intOf iv).toNat)
  case atStart => exact ⟨0, 0, Nat.zero_le _, rfl, Lib.hid (fun i hi => by omega), rfl⟩
  case round =>
    obtain ⟨k, m, hk, rfl, HM, rfl⟩ := hrel
    by_cases hlt : k < n
    · obtain ⟨hc1, hc2⟩ := HC.out k hlt
      have hux := HU.out (l.getD k (0, 0)) (by rw [getD_get (by omega)]; exact List.getElem_mem _)
      have hux1 := hux.1
      have hux2 := hux.2
      obtain ⟨x, hx⟩ : ∃ x, l.getD k (0, 0) = x := ⟨_, rfl⟩
      rw [hx] at hc1 hc2 hux1 hux2
      have HX := Lib.hid hx
      have hcp : 0 < k → w.cell? ⟨b, off + (k - 1) * 2 + 1, none⟩ = some (.int .u64 (l.getD (k - 1) (0, 0)).2) := fun h => (HC.out (k - 1) (by omega)).2
      have hpp : 0 < k → 0 ≤ (l.getD (k - 1) (0, 0)).2 ∧ (l.getD (k - 1) (0, 0)).2 < 9223372036854775808 := fun h => ⟨(HU.out (l.getD (k - 1) (0, 0)) (by rw [getD_get (by omega)]; exact List.getElem_mem _)).2, (HM.out (k - 1) (by omega)).2.1⟩
      obtain ⟨lo, hi⟩ := x
      simp only at hc1 hc2 hux1 hux2
      have HNO : Hid (¬ (lo ≤ hi ∧ hi < 9223372036854775808 ∧ (0 < k → (l.getD (k - 1) (0, 0)).2 + 2 ≤ lo)) → mayB l = false) := Lib.hid (fun h => mayB_no (fun hm => h (by have := hm k (by omega); rw [HX.out] at this; exact this)))
      have HYES : Hid (lo ≤ hi → hi < 9223372036854775808 → (0 < k → (l.getD (k - 1) (0, 0)).2 + 2 ≤ lo) → MayTo l (k + 1)) := Lib.hid (fun h1 h2 h3 => mayTo_succ HM.out HX.out h1 h2 h3)
      have hi0 : (0 : Int) ≤ (k : Int) := by omega
      have hi1 : (k : Int) < (n : Int) := by omega
      clear hx hux
      by_cases hok : hi < lo
      · have d1 : decide (hi < lo) = true := decide_eq_true hok
        have hn := Lib.hid (HNO.out (fun h => by omega))
        clear hcp hpp
        go_wp2_with fail
        go_quiet (fail)
        go_wp2
        go_ret
        exact ⟨by rw [hn.out]; rfl, below_drewN (below_drewN (Below.refl _ _) _) _⟩
      · have d1 : decide (hi < lo) = false := decide_eq_false hok
        by_cases hbig : 9223372036854775808 ≤ hi
        · have hn := Lib.hid (HNO.out (fun h => by omega))
          have d2 : decide (9223372036854775808 ≤ hi) = true := decide_eq_true hbig
          clear hcp hpp
          go_wp2_with fail
          go_quiet (fail)
          go_wp2
          go_ret
          exact ⟨by rw [hn.out]; rfl, below_drewN (below_drewN (Below.refl _ _) _) _⟩
        · have d2 : decide (9223372036854775808 ≤ hi) = false := decide_eq_false hbig
          rcases Nat.eq_zero_or_pos k with hk0 | hk0
          · have hy := Lib.hid (HYES.out (by omega) (by omega) (fun h => by omega))
            have d4 : decide (0 < k) = false := decide_eq_false (by omega)
            have HK0 := Lib.hid hk0
            clear hcp hpp hk0
            go_wp2_with fail
            go_quiet (fail)
            go_wp2
            go_roundw
            case rel => exact ⟨k + 1, _, by omega, by go_num, hy, rfl⟩
            case measure => simp [intOf]; omega
          · obtain ⟨j, rfl⟩ : ∃ j, k = j + 1 := ⟨k - 1, by omega⟩
            have hcr := hcp hk0
            have hpr := hpp hk0
            clear hcp hpp
            rw [show j + 1 - 1 = j by omega] at *
            generalize (l.getD j (0, 0)).2 = p at *
            by_cases hgap : lo < p + 2
            · have d3 : decide (lo < p + 2) = true := decide_eq_true hgap
              have hn := Lib.hid (HNO.out (fun h => by have := h.2.2 (by omega); omega))
              go_wp2_with fail
              go_quiet (fail)
              go_wp2
              go_ret
              exact ⟨by rw [hn.out]; rfl, below_drewN (below_drewN (Below.refl _ _) _) _⟩
            · have d3 : decide (lo < p + 2) = false := decide_eq_false hgap
              have hy := Lib.hid (HYES.out (by omega) (by omega) (fun h => by omega))
              go_wp2_with fail
              go_quiet (fail)
              go_wp2
              go_roundw
              case rel => exact ⟨j + 1 + 1, _, by omega, by go_num, hy, rfl⟩
              case measure => simp [intOf]; omega
    · obtain rfl : k = n := by omega
      have hy := Lib.hid (mayB_yes (l := l) (fun i hi => HM.out i (by omega)))
      go_wp2
      go_ret
      exact ⟨by rw [hy.out]; rfl, below_drewN (Below.refl _ _) _⟩
theorem rmay_any (v : Value) (l : List Ran) (w : World) (hl : l.length ≤ 1000) (hrd : Rd w v l) (hu : ∀ x ∈ l, 0 ≤ x.1 ∧ 0 ≤ x.2) :
    Calls Try.prog 33 #[v] w fun e w' => e = .returned (.bool (mayB l)) ∧ Below w.heap.size w w' := by
  obtain ⟨a, cap, rfl, hcap, hrow⟩ := hrd
  by_cases hnil : l = []
  · subst hnil
    refine (rmay_nil a cap w).mono ?_
    rintro e w' ⟨rfl, hb⟩
    exact ⟨by rw [mayB_yes (fun i hi => by simp at hi)], hb⟩
  · obtain ⟨b, off, rfl, hc⟩ := hrow hnil
    exact rmay_row b off l.length cap l rfl hl w hc hu
end Go.Proofs.Ytliakeiaeakliaa.Rg
