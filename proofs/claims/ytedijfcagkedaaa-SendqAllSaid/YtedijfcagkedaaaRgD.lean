/- The walks of layer 3's document functions: its, Same, Has, Count, May. -/
import Derived.Test.YtedijfcagkedaaaRgW
namespace Go.Proofs.Ytedijfcagkedaaa.Rg
set_option maxRecDepth 20000
open Go.RowKit Go.Shelf
set_option linter.unusedVariables false

theorem infoD : (Try.prog.info? 69).map (fun i => (i.zero, i.size, i.bytes)) = some (some (.agg #[.int .u64 0, .int .u64 0]), 2, 16) := by kernel_rfl

def ItsRel (l : List Ran) (w : World) (n : Nat) (sv iv : Value) (wr : World) : Prop :=
  ∃ k : Nat, k ≤ n ∧ iv = .int .i64 k ∧ Ow wr w.heap.size 69 sv (l.take k) ∧ Below w.heap.size w wr
theorem ow_made (w : World) (e : TypeId) : Ow (w.alloc (.cells #[] e)) w.heap.size e (.slice (some ⟨w.heap.size, 0, none⟩) 0 0) [] := World.ownsRow_made w #[] 0 (Nat.le_refl _) (by unfold maxLen; omega) rfl

set_option maxHeartbeats 1000000 in
theorem same_nil (a1 a2 : Option Addr) (c1 c2 : Nat) (w : World) :
    Calls Try.prog 46 #[.slice a1 0 c1, .slice a2 0 c2] w fun e w' => e = .returned (.bool true) ∧ Below w.heap.size w w' := by
  go_enter Try.func46, Try.ntmps46
  go_wp2
  refine wp_loop_rounds 1 ?_
  rw [rounds_succ]
  go_wp2
  go_ret
  exact ⟨rfl, Below.refl _ _⟩
set_option maxHeartbeats 2000000 in
theorem same_row (b1 o1 b2 o2 c1 c2 n : Nat) (l : List Ran) (w : World) (hn : l.length = n) (hl : n ≤ 1000)
    (h1 : ∀ i, i < n → w.cell? ⟨b1, o1 + i * 2, none⟩ = some (.int .u64 (l.getD i (0, 0)).1) ∧ w.cell? ⟨b1, o1 + i * 2 + 1, none⟩ = some (.int .u64 (l.getD i (0, 0)).2))
    (h2 : ∀ i, i < n → w.cell? ⟨b2, o2 + i * 2, none⟩ = some (.int .u64 (l.getD i (0, 0)).1) ∧ w.cell? ⟨b2, o2 + i * 2 + 1, none⟩ = some (.int .u64 (l.getD i (0, 0)).2)) :
    Calls Try.prog 46 #[.slice (some ⟨b1, o1, none⟩) n c1, .slice (some ⟨b2, o2, none⟩) n c2] w fun e w' => e = .returned (.bool true) ∧ Below w.heap.size w w' := by
  have H1 := Lib.hid h1
  have H2 := Lib.hid h2
  clear h1 h2 hn
  go_enter Try.func46, Try.ntmps46
  go_wp2
  go_loopw [5] (fun i wr => ∃ k m : Nat, k ≤ n ∧ i = .int .i64 k ∧ wr = w.drewN m) (fun i _ => n - (intOf i).toNat)
  case atStart => exact ⟨0, 0, Nat.zero_le _, rfl, rfl⟩
  case round =>
    obtain ⟨k, m, hk, rfl, rfl⟩ := hrel
    by_cases hlt : k < n
    · obtain ⟨q1, q2⟩ := H1.out k hlt
      obtain ⟨q3, q4⟩ := H2.out k hlt
      generalize l.getD k (0, 0) = x at *
      obtain ⟨lo, hi⟩ := x
      have hi0 : (0 : Int) ≤ (k : Int) := by omega
      have hi1 : (k : Int) < (n : Int) := by omega
      go_wp2_with fail
      go_quiet (fail)
      go_wp2
      go_roundw
      case rel => exact ⟨k + 1, _, by omega, by go_num, rfl⟩
      case measure => simp [intOf]; omega
    · go_wp2
      go_ret
      exact ⟨rfl, below_drewN (Below.refl _ _) m⟩
theorem same_any (v u : Value) (l : List Ran) (w : World) (hl : l.length ≤ 1000) (h1 : Rd w v l) (h2 : Rd w u l) :
    Calls Try.prog 46 #[v, u] w fun e w' => e = .returned (.bool true) ∧ Below w.heap.size w w' := by
  obtain ⟨a1, c1, rfl, _, r1⟩ := h1
  obtain ⟨a2, c2, rfl, _, r2⟩ := h2
  by_cases hnil : l = []
  · subst hnil
    exact same_nil a1 a2 c1 c2 w
  · obtain ⟨b1, o1, rfl, q1⟩ := r1 hnil
    obtain ⟨b2, o2, rfl, q2⟩ := r2 hnil
    exact same_row b1 o1 b2 o2 c1 c2 l.length l w rfl hl q1 q2

theorem hasB_no {l : List Ran} {y : Int} (h : ∀ i, i < l.length → ¬ inn (l.getD i (0, 0)) y) : hasB l y = false := by
  rw [← Bool.not_eq_true, hasB_iff]
  rintro ⟨x, hx, hn⟩
  obtain ⟨i, hi, rfl⟩ := List.getElem_of_mem hx
  exact h i hi (by rw [getD_get hi]; exact hn)
theorem hasB_at {l : List Ran} {y : Int} {i : Nat} (hi : i < l.length) (h : inn (l.getD i (0, 0)) y) : hasB l y = true := by
  rw [hasB_iff]
  rw [getD_get hi] at h
  exact ⟨l[i], List.getElem_mem _, h⟩
end Go.Proofs.Ytedijfcagkedaaa.Rg
