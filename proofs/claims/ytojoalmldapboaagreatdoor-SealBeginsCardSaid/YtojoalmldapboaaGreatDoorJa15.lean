/- What the row's condition on the table gives the walks; the frame's words for a law's walk. · The walk of the law VarintBack. · Plain mathematics of many numbers as bytes; what a row or a builder of the call's own keeps while other memory is made. -/
import Derived.Test.YtojoalmldapboaaGreatDoorJa14
import Derived.LaidMore
import Derived.Lib.LaidTab
import Derived.ProofKit
import Derived.OpenShut
import Derived.Test.YtojoalmldapboaaGreatDoorJa09
namespace Go.Proofs.YtojoalmldapboaaGreatDoor
set_option maxRecDepth 20000
open Go.RowKit
set_option linter.unusedVariables false
/-- What a walk is told of a slice of integers that came in. -/
def IsRow (k : IntKind) (w : World) (a : Option Addr) (len cap : Nat) (zs : List Int) : Prop :=
  (a = none ∧ len = 0 ∧ cap = 0 ∧ zs = []) ∨
  ∃ x, a = some x ∧ len ≤ cap ∧ cap ≤ maxLen ∧ zs.length = cap ∧ (∀ i, i < zs.length → w.cell? (x.add i) = some (.int k (zs.getD i 0))) ∧ ∀ n ∈ zs, (Lit.int k n).wf = true

theorem gLengths : Tryz.prog.globalNamed "domino/varint.lengths" = some 0 := by kernel_rfl
theorem tLengths : (Tryz.prog.globals[0]?).map (·.type) = some 215 := by kernel_rfl
theorem cellsInt : Tryz.prog.cellsOf 3 = 1 := by kernel_rfl
theorem cellsArr : Tryz.prog.cellsOf 215 = 4 := by kernel_rfl
theorem tab_of {W : World} (h : laidMetH Tryz.prog [("domino/varint.lengths", Rows.laid_domino_varint_lengths)] W) : Vm.Tab W := by
  rw [MakeChecks.laidMetH_plain _ _ _ (by kernel_rfl)] at h
  have h1 := Lib.tabIs_of_head (zs := [1, 2, 4, 8]) (k := .i64) gLengths tLengths Tryz.underlying215 Tryz.underlying3 cellsInt cellsArr h
  exact ⟨h1.cell gLengths 0 (by decide), h1.cell gLengths 1 (by decide), h1.cell gLengths 2 (by decide), h1.cell gLengths 3 (by decide)⟩
end Go.Proofs.YtojoalmldapboaaGreatDoor
namespace Go.Proofs.YtojoalmldapboaaGreatDoor.Vm
set_option maxRecDepth 20000
open Go.RowKit
set_option linter.unusedVariables false

theorem pt_le (n : Nat) (h : pl n < 4) : 1 ≤ (pt n).length ∧ (pt n).length ≤ 8 := by
  rw [pt_length]
  have : pl n = 0 ∨ pl n = 1 ∨ pl n = 2 ∨ pl n = 3 := by omega
  rcases this with h | h | h | h <;> rw [h] <;> decide
theorem back_get (n : Nat) (h : pl n < 4) (l : List UInt8) : gN (pt n ++ l) = n ∧ gR (pt n ++ l) = l ∧ gE (pt n ++ l) = 0 := by
  obtain ⟨b, r, e, h1, h2⟩ := pt_head n h
  have hk : gk (pt n ++ l) = wd (pl n) := by rw [e]; exact h1
  have hl := pt_length n
  have := g_ok (l := pt n ++ l) (by rw [hk, List.length_append, hl]; omega)
  rw [this.1, this.2.1, this.2.2, hk]
  refine ⟨pt_back n h l, ?_, rfl⟩
  rw [← hl]; simp
theorem pl_lt (n : Nat) (h : (n : Int) < 4611686018427387904) : pl n < 4 := by have := pl_cases n; omega
end Go.Proofs.YtojoalmldapboaaGreatDoor.Vm
namespace Go.Proofs.YtojoalmldapboaaGreatDoor.Vm
set_option maxRecDepth 20000
open Go.RowKit
set_option linter.unusedVariables false

/-- A row of the call's own stays one while what lies below the heap's size stands. -/
theorem owns_below {w w' : World} {B : Nat} {e : TypeId} {size : Nat} {v : Value} {n : Nat} {xs : List Value} (h : w.ownsRow B e size v n xs) (hb : Below w.heap.size w w') : w'.ownsRow B e size v n xs := by
  refine ⟨h.1, ?_⟩
  rcases h.2 with hn | ⟨g, cap, cur, rfl, hg, hgg, rest⟩
  · exact .inl hn
  · refine .inr ⟨g, cap, cur, rfl, hg, ?_, rest⟩
    have hlt : g < w.heap.size := by
      rcases Nat.lt_or_ge g w.heap.size with h1 | h1
      · exact h1
      · rw [Array.getElem?_eq_none h1] at hgg; cases hgg
    rw [hb.block g hlt]; exact hgg
theorem builder_below {w w' : World} {T e : TypeId} {B b : Nat} {bs : List Value} (h : Lib.IsBuilder T e B b bs w) (hb : Below w.heap.size w w') : Lib.IsBuilder T e B b bs w' := by
  have one : ∀ p, Lib.BuilderAt T e B b p bs w → Lib.BuilderAt T e B b p bs w' := by
    intro p h
    have hlt := h.lt
    obtain ⟨hB, v, hbk, hown, hne⟩ := h
    exact ⟨hB, v, by rw [hb.block b hlt]; exact hbk, owns_below hown hb, hne⟩
  rcases h with h | h
  · exact .inl (one _ h)
  · exact .inr (one _ h)
end Go.Proofs.YtojoalmldapboaaGreatDoor.Vm
