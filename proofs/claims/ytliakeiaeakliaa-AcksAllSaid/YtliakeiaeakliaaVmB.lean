/- The walks of layer 1: Fixed, the program's: the lowest bytes of a number, the highest first. Widths from 0 to 8. -/
import Derived.Test.YtliakeiaeakliaaVmA
import Derived.Laws.BytesArg
namespace Go.Proofs.Ytliakeiaeakliaa.Vm
set_option maxRecDepth 20000
open Go.RowKit
set_option linter.unusedVariables false

theorem byte_eq (n a : Nat) (x : Int) (h : x.toNat % 256 = n / a % 256) : UInt8.ofNat x.toNat = UInt8.ofNat (n / a % 256) := by
  apply UInt8.toNat_inj.1
  rw [UInt8.toNat_ofNat', UInt8.toNat_ofNat']; omega

theorem fx8 (n : Nat) (hn : (n : Int) ≤ 18446744073709551615) (j k : Nat) (h : k + j = 8) : strOfNums ([(n : Int) / 72057594037927936, (n : Int) / 281474976710656 % 256, (n : Int) / 1099511627776 % 256, (n : Int) / 4294967296 % 256, (n : Int) / 16777216 % 256, (n : Int) / 65536 % 256, (n : Int) / 256 % 256, (n : Int) % 256].drop j) = ⟨(fx n k).toArray⟩ := by
  have e : strOfNums ([(n : Int) / 72057594037927936, (n : Int) / 281474976710656 % 256, (n : Int) / 1099511627776 % 256, (n : Int) / 4294967296 % 256, (n : Int) / 16777216 % 256, (n : Int) / 65536 % 256, (n : Int) / 256 % 256, (n : Int) % 256].drop j) = ⟨((fx n 8).drop j).toArray⟩ := by
    unfold strOfNums
    rw [List.map_drop]
    have : List.map (fun n : Int => UInt8.ofNat n.toNat) [(n : Int) / 72057594037927936, (n : Int) / 281474976710656 % 256, (n : Int) / 1099511627776 % 256, (n : Int) / 4294967296 % 256, (n : Int) / 16777216 % 256, (n : Int) / 65536 % 256, (n : Int) / 256 % 256, (n : Int) % 256] = fx n 8 := by
      simp only [List.map_cons, List.map_nil, fx]
      rw [byte_eq n (256 ^ 7) _ (by omega), byte_eq n (256 ^ 6) _ (by omega), byte_eq n (256 ^ 5) _ (by omega), byte_eq n (256 ^ 4) _ (by omega), byte_eq n (256 ^ 3) _ (by omega), byte_eq n (256 ^ 2) _ (by omega), byte_eq n (256 ^ 1) _ (by omega), byte_eq n (256 ^ 0) _ (by omega)]
    rw [this]
  rw [e]
  have : ∀ j k, k + j = 8 → (fx n 8).drop j = fx n k := by
    intro j k h
    match j, k, h with
    | 0, 8, _ | 1, 7, _ | 2, 6, _ | 3, 5, _ | 4, 4, _ | 5, 3, _ | 6, 2, _ | 7, 1, _ | 8, 0, _ => rfl
  rw [this j k h]

end Go.Proofs.Ytliakeiaeakliaa.Vm
