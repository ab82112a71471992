/- Layer 3: how many numbers two sets that share none have together. -/
import Derived.Test.YtedijfcagkedaaaRgK
namespace Go.Proofs.Ytedijfcagkedaaa.Rg
set_option maxRecDepth 20000
set_option linter.unusedVariables false

def cnt (f : Int → Bool) : Nat → Int
  | 0 => 0
  | N + 1 => cnt f N + (if f N then 1 else 0)
theorem cnt_or {f g h : Int → Bool} (hh : ∀ n, h n = (f n || g n)) (hd : ∀ n, f n = true → g n = true → False) : ∀ N, cnt h N = cnt f N + cnt g N
  | 0 => rfl
  | N + 1 => by
    rw [cnt, cnt, cnt, cnt_or hh hd N, hh]
    have := hd N
    cases hf : f N <;> cases hg : g N <;> simp [hf, hg] at this ⊢ <;> omega
theorem cnt_none {f : Int → Bool} (hf : ∀ n, f n = false) : ∀ N, cnt f N = 0
  | 0 => rfl
  | N + 1 => by rw [cnt, cnt_none hf N, hf]; rfl
theorem cnt_inn (a b : Int) (h0 : 0 ≤ a) (h1 : a ≤ b) : ∀ N : Nat, cnt (fun n => decide (a ≤ n ∧ n ≤ b)) N = if (N : Int) ≤ a then 0 else if (N : Int) ≤ b + 1 then N - a else b + 1 - a
  | 0 => by rw [cnt, if_pos (by omega)]
  | N + 1 => by
    rw [cnt, cnt_inn a b h0 h1 N]
    by_cases h2 : a ≤ (N : Int) ∧ (N : Int) ≤ b
    · rw [show decide (a ≤ (N : Int) ∧ (N : Int) ≤ b) = true from decide_eq_true h2, show (if true = true then (1 : Int) else 0) = 1 from rfl]
      (repeat' split) <;> omega
    · rw [show decide (a ≤ (N : Int) ∧ (N : Int) ≤ b) = false from decide_eq_false h2, show (if false = true then (1 : Int) else 0) = 0 from rfl]
      (repeat' split) <;> omega
theorem size_cnt : ∀ (l : List Ran), Can l → ∀ N : Nat, (N : Int) = 9223372036854775808 → size l = cnt (hasB l) N
  | [], _, N, _ => (cnt_none (fun n => rfl) N).symm
  | x :: l, hc, N, hN => by
    have hx := hc.head
    have h1 := cnt_or (h := hasB (x :: l)) (f := fun n => decide (x.1 ≤ n ∧ n ≤ x.2)) (g := hasB l) (fun n => rfl) (fun n h1 h2 => by
      have h1 := of_decide_eq_true h1
      exact hc.not_mem (n := n) (by omega) (hasB_iff.1 h2)) N
    have h2 := cnt_inn x.1 x.2 hx.1 hx.2.1 N
    rw [if_neg (by omega)] at h2
    have h3 := size_cnt l hc.tail N hN
    have h4 : size (x :: l) = (x.2 - x.1 + 1) + size l := rfl
    by_cases h : (N : Int) ≤ x.2 + 1
    · rw [if_pos h] at h2; omega
    · rw [if_neg h] at h2; omega
theorem size_union {A B C : List Ran} (ha : Can A) (hb : Can B) (hc : Can C) (h : ∀ n, mem A n ↔ mem B n ∨ mem C n) (hd : ∀ n, mem B n → ¬ mem C n) : size A = size B + size C := by
  obtain ⟨N, hN⟩ : ∃ N : Nat, (N : Int) = 9223372036854775808 := ⟨9223372036854775808, rfl⟩
  rw [size_cnt A ha N hN, size_cnt B hb N hN, size_cnt C hc N hN]
  refine cnt_or (fun n => ?_) (fun n h1 h2 => hd n (hasB_iff.1 h1) (hasB_iff.1 h2)) N
  rw [Bool.eq_iff_iff, hasB_iff, h, Bool.or_eq_true, hasB_iff, hasB_iff]
end Go.Proofs.Ytedijfcagkedaaa.Rg
