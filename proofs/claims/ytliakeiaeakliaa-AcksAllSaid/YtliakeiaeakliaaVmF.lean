/- The walks of layer 1: Put and Size in one word each; Get, both ways. -/
import Derived.Test.YtliakeiaeakliaaVmE
import Derived.Lib.Strings
import Derived.Deep.QuietTactic
import Derived.BigQuiet
import Derived.Lib.IndexBytes
namespace Go.Proofs.Ytliakeiaeakliaa.Vm
set_option maxRecDepth 20000
open Go.RowKit
set_option linter.unusedVariables false

/-- What Put tells: the bytes, and the error's number. -/
def ps (n : Nat) : List UInt8 := if pl n = 4 then [] else pt n
def pe (n : Nat) : Int := if pl n = 4 then 1 else 0
theorem ps_ok {n : Nat} (h : pl n < 4) : ps n = pt n ∧ pe n = 0 := by unfold ps pe; rw [if_neg (by omega), if_neg (by omega)]; exact ⟨rfl, rfl⟩
theorem ps_no {n : Nat} (h : pl n = 4) : ps n = [] ∧ pe n = 1 := by unfold ps pe; rw [if_pos h, if_pos h]; exact ⟨rfl, rfl⟩

theorem rput (n : Int) (w : World) (h0 : 0 ≤ n) :
    Calls Try.prog 34 #[.int .u64 n] w fun e w' => e = .returned (.tuple #[.string ⟨(ps n.toNat).toArray⟩, .int .i64 (pe n.toNat)]) ∧ Below w.heap.size w w' := by
  rcases pl_cases n.toNat with ⟨hp, h1⟩ | ⟨hp, h1, h2⟩ | ⟨hp, h1, h2⟩ | ⟨hp, h1, h2⟩ | ⟨hp, h1⟩
  · have := ps_ok (n := n.toNat) (by omega); rw [this.1, this.2]; exact rput_0 n w (by omega) (by omega)
  · have := ps_ok (n := n.toNat) (by omega); rw [this.1, this.2]; exact rput_1 n w (by omega) (by omega)
  · have := ps_ok (n := n.toNat) (by omega); rw [this.1, this.2]; exact rput_2 n w (by omega) (by omega)
  · have := ps_ok (n := n.toNat) (by omega); rw [this.1, this.2]; exact rput_3 n w (by omega) (by omega)
  · have := ps_no hp; rw [this.1, this.2]; exact rput_4 n w (by omega)
theorem rsize (n : Int) (w : World) (h0 : 0 ≤ n) :
    Calls Try.prog 38 #[.int .u64 n] w fun e w' => e = .returned (.int .i64 (sz n.toNat : Nat)) ∧ w = w' := by
  rcases pl_cases n.toNat with ⟨hp, h1⟩ | ⟨hp, h1, h2⟩ | ⟨hp, h1, h2⟩ | ⟨hp, h1, h2⟩ | ⟨hp, h1⟩
  · rw [show sz n.toNat = 1 by unfold sz; rw [hp]; rfl]; exact rsize_0 n w (by omega) (by omega)
  · rw [show sz n.toNat = 2 by unfold sz; rw [hp]; rfl]; exact rsize_1 n w (by omega) (by omega)
  · rw [show sz n.toNat = 4 by unfold sz; rw [hp]; rfl]; exact rsize_2 n w (by omega) (by omega)
  · rw [show sz n.toNat = 8 by unfold sz; rw [hp]; rfl]; exact rsize_3 n w (by omega) (by omega)
  · rw [show sz n.toNat = 0 by unfold sz; rw [hp]; rfl]; exact rsize_4 n w (by omega)
/-- How many bytes the first one tells. -/
def gk : List UInt8 → Nat | [] => 1 | b :: _ => gw b

theorem empty_yes (s : ByteArray) (h : s.size = 0) : s.toList.isEmpty = true := by
  rw [ByteArray.toList_eq]
  have : s.data.toList = [] := List.eq_nil_of_length_eq_zero (by simpa using h)
  rw [this]; rfl
theorem empty_no (s : ByteArray) (h : 0 < s.size) : s.toList.isEmpty = false := by
  rw [ByteArray.toList_eq]
  cases hl : s.data.toList with
  | nil => have : s.data.toList.length = s.size := by simp
           rw [hl] at this; simp at this; omega
  | cons _ _ => rfl
theorem size_len (s : ByteArray) : s.size = s.data.toList.length := by simp
theorem take_part (s : ByteArray) (k : Nat) (h : k ≤ s.size) : (s.extract 0 k).data.toList = s.data.toList.take k := by
  rw [Lib.extract_data]; simp
theorem drop_part (s : ByteArray) (k : Nat) (h : k ≤ s.size) : s.extract k s.size = ⟨(s.data.toList.drop k).toArray⟩ := by
  apply ByteArray.ext
  apply Array.toList_inj.1
  rw [Lib.extract_data]
  simp
  exact List.take_of_length_le (by simp)
theorem powerQ_6 (w : World) : Calls Try.prog 40 #[.int .i64 6] w fun e w' => e = .returned (.int .u64 64) ∧ w' = w :=
  (power_6 w).mono fun _ _ ⟨a, b⟩ => ⟨a, b.symm⟩
theorem powerQ_14 (w : World) : Calls Try.prog 40 #[.int .i64 14] w fun e w' => e = .returned (.int .u64 16384) ∧ w' = w :=
  (power_14 w).mono fun _ _ ⟨a, b⟩ => ⟨a, b.symm⟩
theorem powerQ_30 (w : World) : Calls Try.prog 40 #[.int .i64 30] w fun e w' => e = .returned (.int .u64 1073741824) ∧ w' = w :=
  (power_30 w).mono fun _ _ ⟨a, b⟩ => ⟨a, b.symm⟩
theorem powerQ_62 (w : World) : Calls Try.prog 40 #[.int .i64 62] w fun e w' => e = .returned (.int .u64 4611686018427387904) ∧ w' = w :=
  (power_62 w).mono fun _ _ ⟨a, b⟩ => ⟨a, b.symm⟩
end Go.Proofs.Ytliakeiaeakliaa.Vm
