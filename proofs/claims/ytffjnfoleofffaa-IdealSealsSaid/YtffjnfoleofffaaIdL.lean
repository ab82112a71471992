/- What the laws of layer 10 share. By tools/gen-ideal-3.py. -/
import Derived.Test.YtffjnfoleofffaaIdJ
namespace Go.Proofs.Ytffjnfoleofffaa.Id
open Go.RowKit Vm
set_option linter.unusedVariables false
set_option linter.unusedSimpArgs false

theorem nat_u64 {a : Int} (h : (Lit.int .u64 a).wf = true) : ∃ n : Nat, a = (n : Int) := by
  have := bounds_u64 h
  exact ⟨a.toNat, by omega⟩
theorem lt_u64 {n : Nat} (h : (Lit.int .u64 (n : Int)).wf = true) : n < 18446744073709551616 := by
  have := bounds_u64 h
  omega
theorem idN_len (s i : Nat) : (idN s i).length = 8 := fx_length _ _
theorem str_eq (l m : List UInt8) : ((⟨l.toArray⟩ : ByteArray).toList == (⟨m.toArray⟩ : ByteArray).toList) = decide (l = m) := by
  rw [ByteArray.toList_eq, ByteArray.toList_eq]
  by_cases h : l = m
  · subst h; simp
  · rw [decide_eq_false h, beq_eq_false_iff_ne]; exact h
end Go.Proofs.Ytffjnfoleofffaa.Id
