/- The walks of layer 3's document functions: its, Same, Has, Count, May. -/
import Derived.Test.YtliakeiaeakliaaRgW
namespace Go.Proofs.Ytliakeiaeakliaa.Rg
set_option maxRecDepth 20000
open Go.RowKit Go.Shelf
set_option linter.unusedVariables false

theorem infoD : (Try.prog.info? 71).map (fun i => (i.zero, i.size, i.bytes)) = some (some (.agg #[.int .u64 0, .int .u64 0]), 2, 16) := by kernel_rfl

def ItsRel (l : List Ran) (w : World) (n : Nat) (sv iv : Value) (wr : World) : Prop :=
  ∃ k : Nat, k ≤ n ∧ iv = .int .i64 k ∧ Ow wr w.heap.size 71 sv (l.take k) ∧ Below w.heap.size w wr
theorem ow_made (w : World) (e : TypeId) : Ow (w.alloc (.cells #[] e)) w.heap.size e (.slice (some ⟨w.heap.size, 0, none⟩) 0 0) [] := World.ownsRow_made w #[] 0 (Nat.le_refl _) (by unfold maxLen; omega) rfl

theorem hasB_no {l : List Ran} {y : Int} (h : ∀ i, i < l.length → ¬ inn (l.getD i (0, 0)) y) : hasB l y = false := by
  rw [← Bool.not_eq_true, hasB_iff]
  rintro ⟨x, hx, hn⟩
  obtain ⟨i, hi, rfl⟩ := List.getElem_of_mem hx
  exact h i hi (by rw [getD_get hi]; exact hn)
theorem hasB_at {l : List Ran} {y : Int} {i : Nat} (hi : i < l.length) (h : inn (l.getD i (0, 0)) y) : hasB l y = true := by
  rw [hasB_iff]
  rw [getD_get hi] at h
  exact ⟨l[i], List.getElem_mem _, h⟩
end Go.Proofs.Ytliakeiaeakliaa.Rg
