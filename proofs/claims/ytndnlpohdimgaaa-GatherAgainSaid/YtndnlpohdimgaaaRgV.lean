/- The walks of layer 3: Cut, Meet. -/
import Derived.Test.YtndnlpohdimgaaaRgU
namespace Go.Proofs.Ytndnlpohdimgaaa.Rg
set_option maxRecDepth 20000
open Go.RowKit Go.Shelf
set_option linter.unusedVariables false

theorem flat_len {f : Ran → List Ran} (c : Nat) (h : ∀ x, (f x).length ≤ c) : ∀ l : List Ran, (l.flatMap f).length ≤ c * l.length
  | [] => by simp
  | x :: l => by
    have h1 := flat_len c h l
    have h2 := h x
    rw [List.flatMap_cons, List.length_append, List.length_cons, Nat.mul_add]
    omega
/-- Between two rounds of a loop that appends to a variable: the variable lies at B, and holds what has come of f; all else lies as it lay when the loop began. -/
def FlatI (W : World) (B : Nat) (f : Ran → List Ran) (R : Nat → Prop) (pre : List Ran) (O : Nat → Prop) (A : World) : Prop :=
  ∃ v, A.heap[B]? = some (.cells #[v] 68 (0, 0)) ∧ Ow A W.heap.size 72 v (pre.flatMap f) ∧ (∀ k, v.ownBlock = some k → ¬ O k) ∧ (∀ q, O q → W.heap.size ≤ q) ∧ W.heap.size ≤ A.heap.size ∧ Only (fun k => k = B ∨ W.heap.size ≤ k) W A
theorem flatI_stable (W : World) (B : Nat) (f : Ran → List Ran) (R : Nat → Prop) (hB : B < W.heap.size) : Stable (FlatI W B f R) := by
  rintro pre O O' A B' ⟨v, h1, h2, h3, h4, h5, h6⟩ ho g2
  refine ⟨v, ho.heap h1 (fun h => by have := h4 _ h; omega), h2.only ho (fun k hk => h3 k hk), fun k hk => fun h => ?_, grow_ge h4 h5 g2, Nat.le_trans h5 ho.size, h6.trans' ho (fun i hi h => by have := h4 i h; omega)⟩
  rcases g2 k h with h' | h'
  · exact h3 k hk h'
  · have := (h2.lt hk).2; omega

attribute [local go_sem] Oper.semAt_some
end Go.Proofs.Ytndnlpohdimgaaa.Rg
