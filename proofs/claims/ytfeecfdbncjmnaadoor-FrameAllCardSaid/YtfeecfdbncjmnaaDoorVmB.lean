/- The walks of layer 1: Fixed, the program's: the lowest bytes of a number, the highest first. Widths from 0 to 8. -/
import Derived.Test.YtfeecfdbncjmnaaDoorVmA
import Derived.Laws.BytesArg
namespace Go.Proofs.YtfeecfdbncjmnaaDoor.Vm
set_option maxRecDepth 20000
open Go.RowKit
set_option linter.unusedVariables false

theorem conv8 (w : World) (c0 c1 c2 c3 c4 c5 c6 c7 : Int) (j len : Nat) (hl : len + j = 8) :
    (convert 48 9 (.slice (some ⟨w.heap.size, j, none⟩) len len)).run Tryd.prog (w.alloc (.cells #[.int .u8 c0, .int .u8 c1, .int .u8 c2, .int .u8 c3, .int .u8 c4, .int .u8 c5, .int .u8 c6, .int .u8 c7] 138)) =
      .ok (.string (strOfNums ([c0, c1, c2, c3, c4, c5, c6, c7].drop j))) (w.alloc (.cells #[.int .u8 c0, .int .u8 c1, .int .u8 c2, .int .u8 c3, .int .u8 c4, .int .u8 c5, .int .u8 c6, .int .u8 c7] 138)) := by
  refine run_convert_bytes_arg (P := Tryd.prog) _ 48 5 Tryd.underlying48 Tryd.underlying5 w.heap.size j len len ([c0, c1, c2, c3, c4, c5, c6, c7].drop j) (by simp; omega) ?_ 9 Tryd.underlying9
  intro i hi
  have : j + i < 8 := by omega
  have e : (List.drop j [c0, c1, c2, c3, c4, c5, c6, c7]).getD i 0 = [c0, c1, c2, c3, c4, c5, c6, c7].getD (j + i) 0 := by
    simp [List.getD, List.getElem?_drop]
  rw [e]
  generalize j + i = q at *
  match q, this with
  | 0, _ | 1, _ | 2, _ | 3, _ | 4, _ | 5, _ | 6, _ | 7, _ => simp

theorem byte_eq (n a : Nat) (x : Int) (h : x.toNat % 256 = n / a % 256) : UInt8.ofNat x.toNat = UInt8.ofNat (n / a % 256) := by
  apply UInt8.toNat_inj.1
  rw [UInt8.toNat_ofNat', UInt8.toNat_ofNat']; omega

theorem fx8 (n : Nat) (hn : (n : Int) ≤ 18446744073709551615) (j k : Nat) (h : k + j = 8) : strOfNums ([(n : Int) / 72057594037927936, (n : Int) / 281474976710656 % 256, (n : Int) / 1099511627776 % 256, (n : Int) / 4294967296 % 256, (n : Int) / 16777216 % 256, (n : Int) / 65536 % 256, (n : Int) / 256 % 256, (n : Int) % 256].drop j) = ⟨(fx n k).toArray⟩ := by
  have e : strOfNums ([(n : Int) / 72057594037927936, (n : Int) / 281474976710656 % 256, (n : Int) / 1099511627776 % 256, (n : Int) / 4294967296 % 256, (n : Int) / 16777216 % 256, (n : Int) / 65536 % 256, (n : Int) / 256 % 256, (n : Int) % 256].drop j) = ⟨((fx n 8).drop j).toArray⟩ := by
    unfold strOfNums
    rw [List.map_drop]
    have : List.map (fun n : Int => UInt8.ofNat n.toNat) [(n : Int) / 72057594037927936, (n : Int) / 281474976710656 % 256, (n : Int) / 1099511627776 % 256, (n : Int) / 4294967296 % 256, (n : Int) / 16777216 % 256, (n : Int) / 65536 % 256, (n : Int) / 256 % 256, (n : Int) % 256] = fx n 8 := by
      simp only [List.map_cons, List.map_nil, fx]
      rw [byte_eq n (256 ^ 7) _ (by omega), byte_eq n (256 ^ 6) _ (by omega), byte_eq n (256 ^ 5) _ (by omega), byte_eq n (256 ^ 4) _ (by omega), byte_eq n (256 ^ 3) _ (by omega), byte_eq n (256 ^ 2) _ (by omega), byte_eq n (256 ^ 1) _ (by omega), byte_eq n (256 ^ 0) _ (by omega)]
    rw [this]
  rw [e]
  have : ∀ j k, k + j = 8 → (fx n 8).drop j = fx n k := by
    intro j k h
    match j, k, h with
    | 0, 8, _ | 1, 7, _ | 2, 6, _ | 3, 5, _ | 4, 4, _ | 5, 3, _ | 6, 2, _ | 7, 1, _ | 8, 0, _ => rfl
  rw [this j k h]

theorem slice8 (k b : Nat) (W : World) (h1 : 1 ≤ k) (h8 : k ≤ 8) :
    (Instr.sliceAt 138 (.pointer (some ⟨b, 0, none⟩)) (some (.int .i64 (8 - (k : Int)))) none none).run Tryd.prog W = .ok (.slice (some ⟨b, 8 - k, none⟩) k k) W := by
  have : k = 1 ∨ k = 2 ∨ k = 3 ∨ k = 4 ∨ k = 5 ∨ k = 6 ∨ k = 7 ∨ k = 8 := by omega
  rcases this with rfl | rfl | rfl | rfl | rfl | rfl | rfl | rfl
  all_goals (show _ = _; kernel_rfl)

set_option maxHeartbeats 1000000 in
set_option maxRecDepth 100000 in
theorem vfixed (n k : Nat) (w : World) (hn : (n : Int) ≤ 18446744073709551615) (h1 : 1 ≤ k) (hk : k ≤ 8) :
    Calls Tryd.prog 74 #[.int .u64 n, .int .i64 k] w fun e w' => e = .returned (.string ⟨(fx n k).toArray⟩) ∧ Below w.heap.size w w' := by
  have hs := fun W => slice8 k w.heap.size W h1 hk
  have hc := Lib.hid (conv8 w (n / 72057594037927936) (n / 281474976710656 % 256) (n / 1099511627776 % 256) (n / 4294967296 % 256) (n / 16777216 % 256) (n / 65536 % 256) (n / 256 % 256) (n % 256) (8 - k) k (by omega))
  rw [fx8 n hn (8 - k) k (by omega)] at hc
  go_enter Tryd.func74, Tryd.ntmps74
  go_wp2
  refine wp_loop_rounds 9 ?_
  iterate 9 (rw [rounds_succ]; go_wp2)
  rw [hc.out]
  go_wp2
  go_ret
  exact ⟨rfl, (Below.refl _ _).alloc (Nat.le_refl _) _⟩
end Go.Proofs.YtfeecfdbncjmnaaDoor.Vm
