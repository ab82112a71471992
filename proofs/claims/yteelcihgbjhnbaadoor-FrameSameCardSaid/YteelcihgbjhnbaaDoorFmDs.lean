/- The document's functions of layer 6: Same of two sets, of two frames. By hand. -/
import Derived.Test.YteelcihgbjhnbaaDoorFmIts
import Derived.Deep.QuietTactic
import Derived.BigQuiet
namespace Go.Proofs.YteelcihgbjhnbaaDoor.Fm
set_option maxRecDepth 20000
open Go.RowKit Vm
set_option linter.unusedVariables false
set_option linter.unusedSimpArgs false

set_option maxHeartbeats 4000000 in
theorem rsame_any (v1 v2 : Value) (l1 l2 : List Ran) (w : World) (h1 : Rd w v1 l1) (h2 : Rd w v2 l2) (hl1 : l1.length ≤ 1000) (hl2 : l2.length ≤ 1000) :
    Calls Tryd.prog 44 #[v1, v2] w fun e w' => e = .returned (.bool (decide (l1 = l2))) ∧ Below w.heap.size w w' := by
  obtain ⟨a1, cap1, rfl, hcap1, hrow1⟩ := h1
  obtain ⟨a2, cap2, rfl, hcap2, hrow2⟩ := h2
  obtain ⟨n, hn⟩ : ∃ n, l1.length = n := ⟨_, rfl⟩
  obtain ⟨m, hm⟩ : ∃ m, l2.length = m := ⟨_, rfl⟩
  have hni : (n : Int) ≤ 1000 := by omega
  rw [hn, hm]
  by_cases hnm : n = m
  · subst hnm
    have HR1 : Hid (∀ k, k < n → ∃ b off, a1 = some ⟨b, off, none⟩ ∧ b < w.heap.size ∧ w.cell? ⟨b, off + k * 2, none⟩ = some (.int .u64 (l1.getD k (0, 0)).1) ∧ w.cell? ⟨b, off + k * 2 + 1, none⟩ = some (.int .u64 (l1.getD k (0, 0)).2)) := Lib.hid (fun k hk => by
      obtain ⟨b, off, ha, hc⟩ := hrow1 (by intro e; rw [e] at hn; simp at hn; omega)
      obtain ⟨c1, c2⟩ := hc k (by omega)
      exact ⟨b, off, ha, World.block_lt_of_cell? _ _ c1, c1, c2⟩)
    have HR2 : Hid (∀ k, k < n → ∃ b off, a2 = some ⟨b, off, none⟩ ∧ b < w.heap.size ∧ w.cell? ⟨b, off + k * 2, none⟩ = some (.int .u64 (l2.getD k (0, 0)).1) ∧ w.cell? ⟨b, off + k * 2 + 1, none⟩ = some (.int .u64 (l2.getD k (0, 0)).2)) := Lib.hid (fun k hk => by
      obtain ⟨b, off, ha, hc⟩ := hrow2 (by intro e; rw [e] at hm; simp at hm; omega)
      obtain ⟨c1, c2⟩ := hc k (by omega)
      exact ⟨b, off, ha, World.block_lt_of_cell? _ _ c1, c1, c2⟩)
    have HN1 := Lib.hid hn
    have HN2 := Lib.hid hm
    have HD : Hid (∀ k, k < n → l1.getD k (0, 0) ≠ l2.getD k (0, 0) → decide (l1 = l2) = false) := Lib.hid (fun k _ h => decide_eq_false (fun e => h (by rw [e])))
    have HE : Hid (l1.take n = l2.take n → decide (l1 = l2) = true) := Lib.hid (fun h => decide_eq_true (by rwa [List.take_of_length_le (by omega), List.take_of_length_le (by omega)] at h))
    have HS : Hid (∀ k, k < n → l1.take k = l2.take k → l1.getD k (0, 0) = l2.getD k (0, 0) → l1.take (k + 1) = l2.take (k + 1)) := Lib.hid (fun k hk h he => take_eq_succ h (by omega) (by omega) he)
    clear hrow1 hrow2 hn hm hcap1 hcap2 hl1 hl2
    generalize decide (l1 = l2) = R at *
    go_enter Tryd.func44, Tryd.ntmps44
    go_wp2
    go_loopw [5] (fun iv wr => ∃ k : Nat, k ≤ n ∧ iv = .int .i64 (k : Nat) ∧ l1.take k = l2.take k ∧ Below w.heap.size w wr) (fun iv _ => n - (intOf iv).toNat)
    case atStart => exact ⟨0, Nat.zero_le _, rfl, rfl, Below.refl _ _⟩
    case round =>
      obtain ⟨k, hk, rfl, hpre, hb⟩ := hrel
      have HP := Lib.hid hpre
      have HB := Lib.hid hb
      have hk1 : (k : Int) ≤ (n : Int) := by omega
      have hk0 : (0 : Int) ≤ (k : Int) := by omega
      by_cases hkn : (k : Int) < (n : Int)
      · have hkn2 : k < n := by omega
        obtain ⟨b1, o1, rfl, g1, c1, c2⟩ := HR1.out k hkn2
        obtain ⟨b2, o2, rfl, g2, c3, c4⟩ := HR2.out k hkn2
        have c1 := cell_below hb c1 g1
        have c2 := cell_below hb c2 g1
        have c3 := cell_below hb c3 g2
        have c4 := cell_below hb c4 g2
        have HD2 := Lib.hid (HD.out k hkn2)
        have HS2 := Lib.hid (HS.out k hkn2 hpre)
        clear hpre hb HR1 HR2 HE HD HS
        obtain ⟨⟨x1, x2⟩, hx⟩ : ∃ x, l1.getD k (0, 0) = x := ⟨_, rfl⟩
        obtain ⟨⟨y1, y2⟩, hy⟩ : ∃ x, l2.getD k (0, 0) = x := ⟨_, rfl⟩
        rw [hx] at c1 c2
        rw [hy] at c3 c4
        rw [hx, hy] at HD2 HS2
        clear hx hy
        simp only at c1 c2 c3 c4
        have hmeas : k ≤ 1000 := by omega
        cases e1 : (x1 == y1) with
        | true =>
          cases e2 : (x2 == y2) with
          | true =>
            go_wp2_with fail
            go_quiet (fail)
            go_wp2
            go_roundw
            case rel => exact ⟨k + 1, by omega, rfl, HS2.out (by rw [eq_of_beq e1, eq_of_beq e2]), drewN_below HB.out _⟩
            case measure => simp [intOf]; omega
          | false =>
            go_wp2_with fail
            go_quiet (fail)
            go_wp2
            go_ret
            exact ⟨by rw [HD2.out (by intro h; injection h with h1 h2; rw [h2] at e2; simp at e2)]; rfl, drewN_below HB.out _⟩
        | false =>
          go_wp2_with fail
          go_quiet (fail)
          go_wp2
          go_ret
          exact ⟨by rw [HD2.out (by intro h; injection h with h1 h2; rw [h1] at e1; simp at e1)]; rfl, drewN_below HB.out _⟩
      · have hkn3 : k = n := by omega
        subst hkn3
        have HE2 := Lib.hid (HE.out hpre)
        clear hpre hb
        go_wp2
        go_ret
        exact ⟨by rw [HE2.out]; rfl, HB.out⟩
  · have hnm1 : ((n : Int) == (m : Int)) = false := by simp; omega
    have HD : Hid (decide (l1 = l2) = false) := Lib.hid (decide_eq_false (fun e => hnm (by rw [← hn, ← hm, e])))
    generalize decide (l1 = l2) = R at *
    clear hrow1 hrow2 hn hm hnm
    go_enter Tryd.func44, Tryd.ntmps44
    go_wp2
    go_ret
    exact ⟨by rw [HD.out]; rfl, Below.refl _ _⟩


end Go.Proofs.YteelcihgbjhnbaaDoor.Fm
