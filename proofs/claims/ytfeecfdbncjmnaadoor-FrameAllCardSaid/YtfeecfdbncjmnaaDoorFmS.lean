/- The walks of layer 6: ranges.May (of layer 3's texts XRgA, XRgW, without what they import); acknowledges. -/
import Derived.Test.YtfeecfdbncjmnaaDoorFmR
namespace Go.Proofs.YtfeecfdbncjmnaaDoor.Fm
set_option maxRecDepth 20000
open Go.RowKit Vm
set_option linter.unusedVariables false
set_option linter.unusedSimpArgs false

abbrev Ran := Int × Int
def Rd (w : World) (v : Value) (l : List Ran) : Prop :=
  ∃ a cap, v = .slice a l.length cap ∧ l.length ≤ cap ∧ (l ≠ [] → ∃ b off, a = some ⟨b, off, none⟩ ∧
    ∀ i, i < l.length → w.cell? ⟨b, off + i * 2, none⟩ = some (.int .u64 (l.getD i (0, 0)).1) ∧ w.cell? ⟨b, off + i * 2 + 1, none⟩ = some (.int .u64 (l.getD i (0, 0)).2))
theorem cell_below {A B : World} {n : Nat} (h : Below n A B) {b o : Nat} {v : Value} (hv : A.cell? ⟨b, o, none⟩ = some v) (hb : b < n) : B.cell? ⟨b, o, none⟩ = some v := (h.cell (p := ⟨b, o, none⟩) hb).trans hv

attribute [local go_sem] Oper.semAt_some
theorem getD_get {l : List Ran} {i : Nat} (h : i < l.length) : l.getD i (0, 0) = l[i] := by simp [List.getD, List.getElem?_eq_getElem h]

set_option maxHeartbeats 400000 in
theorem none_any (lo hi : Int) (w : World) : Calls Tryd.prog 72 #[.agg #[.int .u64 lo, .int .u64 hi]] w fun e w' => e = .returned (.bool (decide (hi < lo))) ∧ Below w.heap.size w w' := by
  go_enter Tryd.func72, Tryd.ntmps72
  go_wp2
  go_ret
  exact ⟨rfl, (Below.refl _ _).alloc (Nat.le_refl _) _⟩

def MayP (l : List Ran) : Prop := ∀ i, i < l.length → (l.getD i (0, 0)).1 ≤ (l.getD i (0, 0)).2 ∧ (l.getD i (0, 0)).2 < 9223372036854775808 ∧ (0 < i → (l.getD (i - 1) (0, 0)).2 + 2 ≤ (l.getD i (0, 0)).1)
instance (l : List Ran) : Decidable (MayP l) := inferInstanceAs (Decidable (∀ i, i < l.length → _))
def MayTo (l : List Ran) (k : Nat) : Prop := ∀ i, i < k → (l.getD i (0, 0)).1 ≤ (l.getD i (0, 0)).2 ∧ (l.getD i (0, 0)).2 < 9223372036854775808 ∧ (0 < i → (l.getD (i - 1) (0, 0)).2 + 2 ≤ (l.getD i (0, 0)).1)
def mayB (l : List Ran) : Bool := decide (MayP l)
theorem mayB_no {l : List Ran} (h : ¬ MayP l) : mayB l = false := decide_eq_false h
theorem mayB_yes {l : List Ran} (h : MayP l) : mayB l = true := decide_eq_true h
theorem mayTo_succ {l : List Ran} {k : Nat} (h : MayTo l k) {x : Ran} (hx : l.getD k (0, 0) = x) (h1 : x.1 ≤ x.2) (h2 : x.2 < 9223372036854775808) (h3 : 0 < k → (l.getD (k - 1) (0, 0)).2 + 2 ≤ x.1) : MayTo l (k + 1) := by
  intro i hi
  rcases Nat.lt_or_ge i k with h' | h'
  · exact h i h'
  · obtain rfl : i = k := by omega
    rw [hx]
    exact ⟨h1, h2, h3⟩

set_option maxHeartbeats 1000000 in
theorem may_nil (a : Option Addr) (cap : Nat) (w : World) : Calls Tryd.prog 68 #[.slice a 0 cap] w fun e w' => e = .returned (.bool true) ∧ Below w.heap.size w w' := by
  go_enter Tryd.func68, Tryd.ntmps68
  go_wp2
  refine wp_loop_rounds 1 ?_
  rw [rounds_succ]
  go_wp2
  go_ret
  exact ⟨rfl, Below.refl _ _⟩

set_option maxHeartbeats 2000000 in
theorem may_row (b off n cap : Nat) (l : List Ran) (hln : l.length = n) (hl : n ≤ 1000) (w : World) (hb : b < w.heap.size)
    (hc : ∀ i, i < n → w.cell? ⟨b, off + i * 2, none⟩ = some (.int .u64 (l.getD i (0, 0)).1) ∧ w.cell? ⟨b, off + i * 2 + 1, none⟩ = some (.int .u64 (l.getD i (0, 0)).2))
    (hu : ∀ x ∈ l, 0 ≤ x.1 ∧ 0 ≤ x.2) :
    Calls Tryd.prog 68 #[.slice (some ⟨b, off, none⟩) n cap] w fun e w' => e = .returned (.bool (mayB l)) ∧ Below w.heap.size w w' := by
  have HC := Lib.hid hc
  have HU := Lib.hid hu
  clear hc hu
  go_enter Tryd.func68, Tryd.ntmps68
  go_wp2
  go_loopw [3, 4, 7] (fun _ _ iv wr => ∃ k : Nat, k ≤ n ∧ iv = .int .i64 k ∧ Hid (MayTo l k) ∧ Below w.heap.size w wr) (fun _ _ iv _ => n - (intOf iv).toNat)
  case atStart => exact ⟨0, Nat.zero_le _, rfl, Lib.hid (fun i hi => by omega), Below.refl _ _⟩
  case round =>
    obtain ⟨k, hk, rfl, HM, hbl⟩ := hrel
    have hsz := hbl.size
    by_cases hlt : k < n
    · have hcx := HC.out k hlt
      have hc1 := cell_below hbl hcx.1 hb
      have hc2 := cell_below hbl hcx.2 hb
      have hux := HU.out (l.getD k (0, 0)) (by rw [getD_get (by omega)]; exact List.getElem_mem _)
      have hux1 := hux.1
      have hux2 := hux.2
      obtain ⟨x, hx⟩ : ∃ x, l.getD k (0, 0) = x := ⟨_, rfl⟩
      rw [hx] at hc1 hc2 hux1 hux2
      have HX := Lib.hid hx
      have hcp : 0 < k → wr.cell? ⟨b, off + (k - 1) * 2 + 1, none⟩ = some (.int .u64 (l.getD (k - 1) (0, 0)).2) := fun h => cell_below hbl (HC.out (k - 1) (by omega)).2 hb
      have hpp : 0 < k → 0 ≤ (l.getD (k - 1) (0, 0)).2 ∧ (l.getD (k - 1) (0, 0)).2 < 9223372036854775808 := fun h => ⟨(HU.out (l.getD (k - 1) (0, 0)) (by rw [getD_get (by omega)]; exact List.getElem_mem _)).2, (HM.out (k - 1) (by omega)).2.1⟩
      obtain ⟨lo, hi⟩ := x
      simp only at hc1 hc2 hux1 hux2
      have HNO : Hid (¬ (lo ≤ hi ∧ hi < 9223372036854775808 ∧ (0 < k → (l.getD (k - 1) (0, 0)).2 + 2 ≤ lo)) → mayB l = false) := Lib.hid (fun h => mayB_no (fun hm => h (by have := hm k (by omega); rw [HX.out] at this; exact this)))
      have HYES : Hid (lo ≤ hi → hi < 9223372036854775808 → (0 < k → (l.getD (k - 1) (0, 0)).2 + 2 ≤ lo) → MayTo l (k + 1)) := Lib.hid (fun h1 h2 h3 => mayTo_succ HM.out HX.out h1 h2 h3)
      have hblt : b < wr.heap.size := by omega
      have hbla : Hid (Below w.heap.size w wr) := Lib.hid hbl
      clear hcx hx hux hbl
      go_wp2_with fail
      refine (none_any lo hi _).mono ?_
      rintro e w1 ⟨rfl, hb1⟩
      have hz1 := hb1.size
      rw [World.size_alloc] at hz1 hb1
      have k1 : w1.cell? ⟨wr.heap.size, 0, none⟩ = some (.int .u64 lo) := cell_below hb1 (by simp [go_sem]) (by omega)
      have k2 : w1.cell? ⟨wr.heap.size, 1, none⟩ = some (.int .u64 hi) := cell_below hb1 (by simp [go_sem]) (by omega)
      have hcq : 0 < k → w1.cell? ⟨b, off + (k - 1) * 2 + 1, none⟩ = some (.int .u64 (l.getD (k - 1) (0, 0)).2) := fun h => cell_below hb1 ((World.cell?_alloc_past _ _ _ hblt).trans (hcp h)) (by omega)
      have HB1 : Hid (Below w.heap.size w w1) := Lib.hid ((hbla.out.alloc hsz _).trans (hb1.mono (by omega)))
      clear hb1 hcp hc1 hc2
      by_cases hok : hi < lo
      · have d1 : decide (hi < lo) = true := decide_eq_true hok
        have hn := Lib.hid (HNO.out (fun h => by omega))
        clear hcq hpp
        go_wp2
        go_ret
        exact ⟨by rw [hn.out]; rfl, HB1.out⟩
      · have d1 : decide (hi < lo) = false := decide_eq_false hok
        by_cases hbig : 9223372036854775808 ≤ hi
        · have hn := Lib.hid (HNO.out (fun h => by omega))
          clear hcq hpp
          go_wp2
          go_ret
          exact ⟨by rw [hn.out]; rfl, HB1.out⟩
        · rcases Nat.eq_zero_or_pos k with rfl | hk0
          · have hy := Lib.hid (HYES.out (by omega) (by omega) (fun h => by omega))
            clear hcq hpp
            go_wp2_with fail
            go_quiet (fail)
            go_wp2
            go_roundw
            case rel => exact ⟨0 + 1, by omega, by simp, hy, below_drewN HB1.out _⟩
            case measure => simp [intOf]; omega
          · obtain ⟨j, rfl⟩ : ∃ j, k = j + 1 := ⟨k - 1, by omega⟩
            have hcr := hcq hk0
            have hpr := hpp hk0
            clear hcq hpp
            rw [show j + 1 - 1 = j by omega] at *
            generalize (l.getD j (0, 0)).2 = p at *
            by_cases hgap : lo < p + 2
            · have d2 : decide (lo < p + 2) = true := decide_eq_true hgap
              have hn := Lib.hid (HNO.out (fun h => by have := h.2.2 (by omega); omega))
              go_wp2_with fail
              go_quiet (fail)
              go_wp2
              go_ret
              exact ⟨by rw [hn.out]; rfl, below_drewN HB1.out _⟩
            · have d2 : decide (lo < p + 2) = false := decide_eq_false hgap
              have hy := Lib.hid (HYES.out (by omega) (by omega) (fun h => by omega))
              go_wp2_with fail
              go_quiet (fail)
              go_wp2
              go_roundw
              case rel => exact ⟨j + 1 + 1, by omega, by go_num, hy, below_drewN HB1.out _⟩
              case measure => simp [intOf]; omega
    · obtain rfl : k = n := by omega
      go_wp2
      go_ret
      refine ⟨?_, hbl⟩
      rw [mayB_yes (fun i hi => HM.out i (by omega))]
      rfl
theorem may_any (v : Value) (l : List Ran) (w : World) (hl : l.length ≤ 1000) (hrd : Rd w v l) (hu : ∀ x ∈ l, 0 ≤ x.1 ∧ 0 ≤ x.2) :
    Calls Tryd.prog 68 #[v] w fun e w' => e = .returned (.bool (mayB l)) ∧ Below w.heap.size w w' := by
  obtain ⟨a, cap, rfl, hcap, hrow⟩ := hrd
  by_cases hnil : l = []
  · subst hnil
    refine (may_nil a cap w).mono ?_
    rintro e w' ⟨rfl, hb⟩
    exact ⟨by rw [mayB_yes (fun i hi => by simp at hi)], hb⟩
  · obtain ⟨b, off, rfl, hc⟩ := hrow hnil
    exact may_row b off l.length cap l rfl hl w (World.block_lt_of_cell? w ⟨b, off + 0 * 2, none⟩ (hc 0 (List.length_pos_iff.2 hnil)).1) hc hu
end Go.Proofs.YtfeecfdbncjmnaaDoor.Fm
