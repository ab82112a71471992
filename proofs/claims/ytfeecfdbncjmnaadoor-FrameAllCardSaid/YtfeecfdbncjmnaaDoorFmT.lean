/- The walks of layer 6: acknowledges. -/
import Derived.Test.YtfeecfdbncjmnaaDoorFmS
namespace Go.Proofs.YtfeecfdbncjmnaaDoor.Fm
set_option maxRecDepth 20000
open Go.RowKit Vm
set_option linter.unusedVariables false
set_option linter.unusedSimpArgs false

/-- Whether a set may be that of an Ack. -/
def ackB (l : List Ran) : Bool := decide (1 ≤ l.length ∧ l.length ≤ 32) && (mayB l && decide ((l.getD (l.length - 1) (0, 0)).2 ≤ 4611686018427387903))
set_option maxHeartbeats 4000000 in
theorem acknowledges_any (v : Value) (l : List Ran) (w : World) (hrd : Rd w v l) (hu : ∀ x ∈ l, 0 ≤ x.1 ∧ 0 ≤ x.2) :
    Calls Tryd.prog 57 #[v] w fun e w' => e = .returned (.bool (ackB l)) ∧ Below w.heap.size w w' := by
  have CM0 := Lib.hid (fun hl => may_any v l w hl hrd hu)
  obtain ⟨a, cap, rfl, hcap, hrow⟩ := hrd
  obtain ⟨n, hn⟩ : ∃ n, l.length = n := ⟨_, rfl⟩
  by_cases h1 : 1 ≤ n
  · by_cases h32 : n ≤ 32
    · have CM := Lib.hid (CM0.out (by omega))
      clear CM0
      obtain ⟨b, off, rfl, hc⟩ := hrow (fun h => by rw [h] at hn; simp at hn; omega)
      have hcn := (hc (n - 1) (by omega)).2
      have hb := World.block_lt_of_cell? _ _ hcn
      obtain ⟨j, hj⟩ : ∃ j, n - 1 = j := ⟨_, rfl⟩
      have hji : (n : Int) - 1 = (j : Int) := by omega
      have HA : Hid (ackB l = (mayB l && decide ((l.getD j (0, 0)).2 ≤ 4611686018427387903))) := Lib.hid (by
        unfold ackB
        rw [hn, hj, decide_eq_true ⟨h1, h32⟩, Bool.true_and])
      rw [hj] at hcn
      rw [hn] at CM ⊢
      have h1i : (1 : Int) ≤ (n : Int) := by omega
      have h32i : (n : Int) ≤ 32 := by omega
      have j0 : (0 : Int) ≤ (j : Int) := by omega
      have j1 : (j : Int) < (n : Int) := by omega
      generalize (l.getD j (0, 0)).2 = hi at *
      generalize ackB l = R at *
      generalize mayB l = mb at *
      clear hc hrow hu hn hj
      cases mb with
      | false =>
        rw [Bool.false_and] at HA
        go_enter Tryd.func57, Tryd.ntmps57
        go_wp2_with fail
        refine CM.out.mono ?_
        rintro e w1 ⟨rfl, hb1⟩
        have HB1 := Lib.hid hb1
        clear hb1
        go_wp2
        go_ret
        exact ⟨by rw [HA.out]; rfl, HB1.out⟩
      | true =>
        rw [Bool.true_and] at HA
        go_enter Tryd.func57, Tryd.ntmps57
        go_wp2_with fail
        refine CM.out.mono ?_
        rintro e w1 ⟨rfl, hb1⟩
        have HB1 := Lib.hid hb1
        have c1 := cell_below hb1 hcn hb
        clear hb1
        go_wp2
        go_ret
        exact ⟨by rw [HA.out]; rfl, HB1.out⟩
    · have h1i : (1 : Int) ≤ (n : Int) := by omega
      have h32i : ¬ (n : Int) ≤ 32 := by omega
      have HA : Hid (ackB l = false) := Lib.hid (by
        unfold ackB
        rw [hn, decide_eq_false (fun h => h32 h.2), Bool.false_and])
      rw [hn]
      clear hrow CM0
      go_enter Tryd.func57, Tryd.ntmps57
      go_wp2
      go_ret
      exact ⟨by rw [HA.out]; rfl, Below.refl _ _⟩
  · have h1i : ¬ (1 : Int) ≤ (n : Int) := by omega
    have HA : Hid (ackB l = false) := Lib.hid (by
      unfold ackB
      rw [hn, decide_eq_false (fun h => h1 h.1), Bool.false_and])
    rw [hn]
    clear hrow CM0
    go_enter Tryd.func57, Tryd.ntmps57
    go_wp2
    go_ret
    exact ⟨by rw [HA.out]; rfl, Below.refl _ _⟩
/-- An own slice of ranges can be read. -/
theorem OwnP.rd {w : World} {B g c : Nat} {l : List (Nat × Nat)} (h : OwnP w B g c l) : Rd w (.slice (some ⟨g, 0, none⟩) l.length c) (l.map fun p => ((p.1 : Int), (p.2 : Int))) := by
  have hc : l.length ≤ c := by
    rcases h.2 with ⟨hv, _⟩ | ⟨g', cap, cur, hv, _, _, hnc, _⟩
    · cases hv
    · simp only [Value.slice.injEq, Option.some.injEq, Addr.mk.injEq, and_true, true_and] at hv
      obtain ⟨rfl, rfl⟩ := hv
      exact hnc
  refine ⟨some ⟨g, 0, none⟩, c, by rw [List.length_map], by rw [List.length_map]; exact hc, fun _ => ⟨g, 0, rfl, fun i hi => ?_⟩⟩
  rw [List.length_map] at hi
  obtain ⟨h1, h2⟩ := h.cell i hi
  have e : (l.map fun p => ((p.1 : Int), (p.2 : Int))).getD i (0, 0) = (((l.getD i (0, 0)).1 : Int), ((l.getD i (0, 0)).2 : Int)) := by
    simp [List.getD, hi]
  rw [e, Nat.zero_add]
  exact ⟨h1, h2⟩
end Go.Proofs.YtfeecfdbncjmnaaDoor.Fm
