/- The walks of layer 3's laws: low, shown. -/
import Derived.Test.YtedijfcagkedaaaRgE
namespace Go.Proofs.Ytedijfcagkedaaa.Rg
set_option maxRecDepth 20000
open Go.RowKit Go.Shelf
set_option linter.unusedVariables false

theorem next {w w1 w2 : World} (h : Below w.heap.size w w1) (h2 : Below w1.heap.size w1 w2) : Below w.heap.size w w2 := h.trans (h2.mono h.size)

def LowTo (l : List Ran) (k : Nat) : Prop := ∀ i, i < k → (l.getD i (0, 0)).1 < 9223372036854775808 ∧ (l.getD i (0, 0)).2 < 9223372036854775808
/-- Are all numbers below 2^63, and no more than 40 ranges? -/
def LowP (l : List Ran) : Prop := LowTo l l.length ∧ l.length ≤ 40
instance (l : List Ran) : Decidable (LowP l) := by unfold LowP LowTo; exact inferInstance
def lowB (l : List Ran) : Bool := decide (LowP l)
theorem lowB_no {l : List Ran} (h : ¬ LowP l) : lowB l = false := decide_eq_false h
theorem lowB_yes {l : List Ran} (h : LowP l) : lowB l = true := decide_eq_true h
theorem lowTo_succ {l : List Ran} {k : Nat} (h : LowTo l k) {x : Ran} (hx : l.getD k (0, 0) = x) (h1 : x.1 < 9223372036854775808) (h2 : x.2 < 9223372036854775808) : LowTo l (k + 1) := by
  intro i hi
  rcases Nat.lt_or_ge i k with h' | h'
  · exact h i h'
  · obtain rfl : i = k := by omega
    rw [hx]
    exact ⟨h1, h2⟩

theorem shown_can : Can [((1 : Int), (4 : Int))] := Can.single ⟨by decide, by decide, by decide⟩
theorem shown_mem (n : Int) : mem [((3 : Int), (4 : Int)), (1, 2), (7, 6)] n ↔ mem [((1 : Int), (4 : Int))] n := by
  simp only [mem_cons, inn]
  constructor
  · rintro (h | h | h | h)
    · exact .inl (by omega)
    · exact .inl (by omega)
    · omega
    · exact absurd h (mem_nil n)
  · rintro (h | h)
    · by_cases h3 : 3 ≤ n
      · exact .inl (by omega)
      · exact .inr (.inl (by omega))
    · exact absurd h (mem_nil n)
/-- What is below and goes on beneath its own size. -/
theorem lowB_or (l : List Ran) : lowB l = true ∨ lowB l = false := by cases lowB l <;> simp

end Go.Proofs.Ytedijfcagkedaaa.Rg
