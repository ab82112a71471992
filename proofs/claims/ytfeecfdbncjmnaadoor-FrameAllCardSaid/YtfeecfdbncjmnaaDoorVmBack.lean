/- The walk of the law VarintBack. -/
import Derived.Test.YtfeecfdbncjmnaaDoorVmLaid
import Derived.OpenShut
namespace Go.Proofs.YtfeecfdbncjmnaaDoor.Vm
set_option maxRecDepth 20000
open Go.RowKit
set_option linter.unusedVariables false

theorem pt_le (n : Nat) (h : pl n < 4) : 1 ≤ (pt n).length ∧ (pt n).length ≤ 8 := by
  rw [pt_length]
  have : pl n = 0 ∨ pl n = 1 ∨ pl n = 2 ∨ pl n = 3 := by omega
  rcases this with h | h | h | h <;> rw [h] <;> decide
theorem back_get (n : Nat) (h : pl n < 4) (l : List UInt8) : gN (pt n ++ l) = n ∧ gR (pt n ++ l) = l ∧ gE (pt n ++ l) = 0 := by
  obtain ⟨b, r, e, h1, h2⟩ := pt_head n h
  have hk : gk (pt n ++ l) = wd (pl n) := by rw [e]; exact h1
  have hl := pt_length n
  have := g_ok (l := pt n ++ l) (by rw [hk, List.length_append, hl]; omega)
  rw [this.1, this.2.1, this.2.2, hk]
  refine ⟨pt_back n h l, ?_, rfl⟩
  rw [← hl]; simp
theorem sz_pt (n : Nat) (h : pl n < 4) : sz n = (pt n).length := by
  rw [pt_length]; unfold sz; rw [if_neg (by omega)]
theorem pl_lt (n : Nat) (h : (n : Int) < 4611686018427387904) : pl n < 4 := by have := pl_cases n; omega
theorem app_data (l : List UInt8) (s : ByteArray) : ((⟨l.toArray⟩ : ByteArray) ++ s).data.toList = l ++ s.data.toList := by simp

end Go.Proofs.YtfeecfdbncjmnaaDoor.Vm
