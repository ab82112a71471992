/- Plain mathematics of cut numbers: what the laws of layer 2 ask. Nothing of the program is walked here. -/
import Derived.Test.YtpjcpkolmjoneaaPnE
namespace Go.Proofs.Ytpjcpkolmjoneaa.Pn
set_option linter.unusedVariables false

def IsWin (W : Int) : Prop := W = 256 ∨ W = 65536 ∨ W = 16777216 ∨ W = 4294967296
theorem isWin (k : Int) : IsWin (wn (cl k)) := wn_cases (cl_range k).1 (cl_range k).2
theorem cl_by (d : Int) : cl (by' d) = by' d := cl_mid (by_range d).1 (by_range d).2
theorem by_spans {d : Int} (h : d ≤ 2147483647) : 2 * d < wn (by' d) := by
  by_cases g1 : 2 * d < 256
  · rw [by_1 g1, wn_1]; exact g1
  · by_cases g2 : 2 * d < 65536
    · rw [by_2 (by omega) g2, wn_2]; exact g2
    · by_cases g3 : 2 * d < 16777216
      · rw [by_3 (by omega) (by omega) g3, wn_3]; exact g3
      · rw [by_4 (by omega) (by omega) (by omega), wn_4]; omega
theorem by_mono {a b : Int} (h : a ≤ b) : by' a ≤ by' b := by
  unfold by'
  split <;> split <;> (try split) <;> (try split) <;> (try split) <;> (try split) <;> omega
theorem ex_some (l x W : Int) : ex l true x W = nr (l + 1) (cd (l + 1) x W) W := rfl

theorem nr_cases (e c W : Int) : (nr e c W = c + W ∧ c + W / 2 ≤ e ∧ c < 4611686018427387904 - W) ∨ (nr e c W = c - W ∧ ¬ (c + W / 2 ≤ e ∧ c < 4611686018427387904 - W) ∧ e + W / 2 < c ∧ W ≤ c) ∨
    (nr e c W = c ∧ ¬ (c + W / 2 ≤ e ∧ c < 4611686018427387904 - W) ∧ ¬ (e + W / 2 < c ∧ W ≤ c)) := by
  unfold nr
  by_cases g : c + W / 2 ≤ e ∧ c < 4611686018427387904 - W
  · rw [if_pos g]; exact .inl ⟨rfl, g⟩
  · rw [if_neg g]
    by_cases g2 : e + W / 2 < c ∧ W ≤ c
    · rw [if_pos g2]; exact .inr (.inl ⟨rfl, g, g2⟩)
    · rw [if_neg g2]; exact .inr (.inr ⟨rfl, g, g2⟩)

/-- A number is expanded to itself by whoever expects one that is nearer than half a window. -/
theorem ex_back {l full W : Int} (hW : IsWin W) (hl : 0 ≤ l) (hf : 0 ≤ full) (hf1 : full < 4611686018427387904) (h1 : full < l + 1 + W / 2) (h2 : l + 1 < full + W / 2) : ex l true (full % W) W = full := by
  rw [ex_some]
  have hc := nr_cases (l + 1) (cd (l + 1) (full % W) W) W
  unfold cd at *
  rcases hW with rfl | rfl | rfl | rfl <;> omega

theorem ex_near {l x W : Int} (hW : IsWin W) (hl : 0 ≤ l) (hl1 : l < 4611686018427387904) (hx : 0 ≤ x) :
    ex l true x W % W = x % W ∧ l + 1 < ex l true x W + W ∧ ex l true x W < l + 1 + W ∧ 0 ≤ ex l true x W := by
  rw [ex_some]
  have hc := nr_cases (l + 1) (cd (l + 1) x W) W
  unfold cd at *
  rcases hW with rfl | rfl | rfl | rfl <;> omega
end Go.Proofs.Ytpjcpkolmjoneaa.Pn
