/- The walks of layer 7: slices of bytes of the call's own. -/
import Derived.Test.YthjphechdhbenaaDgL
import Derived.Laws.OwnMore
import Derived.Laws.BytesArg
import Derived.Lib.ConvBytes
import Derived.Laws.IdiomStrings
import Derived.Laws.Bits64
namespace Go.Proofs.Ythjphechdhbenaa.Dg
set_option maxRecDepth 20000
open Go.RowKit
set_option linter.unusedVariables false
set_option linter.unusedSimpArgs false

/-- A slice of bytes of the call's own. -/
def Own8 (w : World) (B : Nat) (v : Value) (l : List UInt8) : Prop := w.ownsRow B 5 1 v l.length (Lib.byteCells l)
theorem Own8.form {w : World} {B : Nat} {v : Value} {l : List UInt8} (h : Own8 w B v l) : ∃ a c, v = .slice a l.length c := by
  rcases h.2 with ⟨hv, hl⟩ | ⟨g, cap, cur, hv, _⟩
  · exact ⟨none, 0, by rw [hv, hl]⟩
  · exact ⟨_, _, hv⟩
theorem Own8.of {w : World} {B : Nat} {v : Value} {l m : List UInt8} {n : Nat} (hn : n = l.length + m.length) (h : w.ownsRow B 5 1 v n (Lib.byteCells l ++ Lib.byteCells m)) : Own8 w B v (l ++ m) := by
  unfold Own8
  rw [byteCells_app, List.length_append, ← hn]
  exact h
theorem bit_step (x y j : Nat) : (x ^^^ y) % 2 ^ (j + 1) = (x ^^^ y) % 2 ^ j + (if x / 2 ^ j % 2 = y / 2 ^ j % 2 then 0 else 2 ^ j) := by
  rw [Nat.mod_pow_succ]
  have h : (x ^^^ y) / 2 ^ j % 2 = if x / 2 ^ j % 2 = y / 2 ^ j % 2 then 0 else 1 := by
    have e : (x ^^^ y).testBit j = (x.testBit j ^^ y.testBit j) := Nat.testBit_xor ..
    rw [Nat.testBit_eq_decide_div_mod_eq, Nat.testBit_eq_decide_div_mod_eq, Nat.testBit_eq_decide_div_mod_eq] at e
    have h1 := Nat.mod_two_eq_zero_or_one ((x ^^^ y) / 2 ^ j)
    have h2 := Nat.mod_two_eq_zero_or_one (x / 2 ^ j)
    have h3 := Nat.mod_two_eq_zero_or_one (y / 2 ^ j)
    rcases h1 with h1 | h1 <;> rcases h2 with h2 | h2 <;> rcases h3 with h3 | h3 <;> simp [h1, h2, h3] at e ⊢
  rw [h]
  split <;> simp
theorem conv_owned {wr : World} {B : Nat} {v : Value} (l : List UInt8) (h : wr.ownsRow B 5 1 v l.length (l.map fun b => .int .u8 (b.toNat : Int))) :
    (convert 60 9 v).run Try.prog wr = .ok (.string ⟨l.toArray⟩) wr := by
  have h0 := h
  obtain ⟨hlen, ⟨rfl, hn⟩ | ⟨g, cap, cur, rfl, hb, hg, hnc, hcm, hcs, ht⟩⟩ := h
  · have : l = [] := List.eq_nil_of_length_eq_zero hn
    subst this
    rw [run_convert_bytes_nil (P := Try.prog) wr 60 5 Try.underlying60 Try.underlying5 0 0 9 Try.underlying9]
    rfl
  · refine run_convert_bytes_back (P := Try.prog) wr 60 9 5 _ cap l Try.underlying60 Try.underlying5 Try.underlying9 ?_
    intro j hj
    have := h0.cellAt j (by omega)
    have e : (⟨g, 0, none⟩ : Addr).add j = ⟨g, j, none⟩ := by unfold Addr.add; split <;> simp_all
    rw [e, this]
    simp [List.getElem?_eq_getElem hj]
end Go.Proofs.Ythjphechdhbenaa.Dg
