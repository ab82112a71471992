/- What Expand and Label answer, in each way. -/
import Derived.Test.YthjphechdhbenaaKdE
namespace Go.Proofs.Ythjphechdhbenaa.Kd
set_option maxRecDepth 20000
open Go.RowKit
open Go.Proofs.Ythjphechdhbenaa.Dg
theorem exP_yes (k info : List UInt8) (m : Nat) (hm : m ≤ 8160) : exP k info m = .returned (.tuple #[.string ⟨(exq (ko k) (ki k) info m).toArray⟩, .int .i64 0]) := by unfold exP; rw [if_pos (by omega)]; rfl
theorem exP_no (k info : List UInt8) (n : Int) (hn : ¬ (0 ≤ n ∧ n ≤ 8160)) : exP k info n = .returned (.tuple #[.string ⟨#[]⟩, .int .i64 1]) := by unfold exP; rw [if_neg hn]
theorem lbP_yes (k label ctx : List UInt8) (m : Nat) (hm : m ≤ 8160) (hl : label.length ≤ 249) (hc : ctx.length ≤ 255) : lbP k label ctx m = .returned (.tuple #[.string ⟨(lab (ko k) (ki k) label ctx m).toArray⟩, .int .i64 0]) := by unfold lbP; rw [if_pos (by omega)]; rfl
theorem lbP_no (k label ctx : List UInt8) (n : Int) (hn : ¬ ((0 ≤ n ∧ n ≤ 8160) ∧ label.length ≤ 249 ∧ ctx.length ≤ 255)) : lbP k label ctx n = .returned (.tuple #[.string ⟨#[]⟩, .int .i64 1]) := by unfold lbP; rw [if_neg hn]
end Go.Proofs.Ythjphechdhbenaa.Kd
