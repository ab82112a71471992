/- What the row's condition on the table gives the walks; the frame's words for a law's walk. -/
import Derived.Test.YtfeecfdbncjmnaaDoorVmG
import Derived.LaidMore
import Derived.Lib.LaidTab
import Derived.ProofKit
namespace Go.Proofs.YtfeecfdbncjmnaaDoor
set_option maxRecDepth 20000
open Go.RowKit
set_option linter.unusedVariables false
/-- What a walk is told of a slice of integers that came in. -/
def IsRow (k : IntKind) (w : World) (a : Option Addr) (len cap : Nat) (zs : List Int) : Prop :=
  (a = none ∧ len = 0 ∧ cap = 0 ∧ zs = []) ∨
  ∃ x, a = some x ∧ len ≤ cap ∧ cap ≤ maxLen ∧ zs.length = cap ∧ (∀ i, i < zs.length → w.cell? (x.add i) = some (.int k (zs.getD i 0))) ∧ ∀ n ∈ zs, (Lit.int k n).wf = true

theorem gLengths : Tryd.prog.globalNamed "domino/varint.lengths" = some 0 := by kernel_rfl
theorem tLengths : (Tryd.prog.globals[0]?).map (·.type) = some 133 := by kernel_rfl
theorem cellsInt : Tryd.prog.cellsOf 3 = 1 := by kernel_rfl
theorem cellsArr : Tryd.prog.cellsOf 133 = 4 := by kernel_rfl
theorem tab_of {W : World} (h : laidMetH Tryd.prog [("domino/varint.lengths", Rows.laid_domino_varint_lengths)] W) : Vm.Tab W := by
  rw [MakeChecks.laidMetH_plain _ _ _ (by kernel_rfl)] at h
  have h1 := Lib.tabIs_of_head (zs := [1, 2, 4, 8]) (k := .i64) gLengths tLengths Tryd.underlying133 Tryd.underlying3 cellsInt cellsArr h
  exact ⟨h1.cell gLengths 0 (by decide), h1.cell gLengths 1 (by decide), h1.cell gLengths 2 (by decide), h1.cell gLengths 3 (by decide)⟩
end Go.Proofs.YtfeecfdbncjmnaaDoor
