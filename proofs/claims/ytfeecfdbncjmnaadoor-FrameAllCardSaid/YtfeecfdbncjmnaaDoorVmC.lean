/- The walks of layer 1: the document's own Fixed; both readings of bytes as a number (at most eight bytes). -/
import Derived.Test.YtfeecfdbncjmnaaDoorVmB
import Derived.Laws.IdiomStrings
import Derived.Laws.Bits64
namespace Go.Proofs.YtfeecfdbncjmnaaDoor.Vm
set_option maxRecDepth 20000
open Go.RowKit
set_option linter.unusedVariables false

theorem conv_owned {wr : World} {B : Nat} {v : Value} (l : List UInt8) (h : wr.ownsRow B 5 1 v l.length (l.map fun b => .int .u8 (b.toNat : Int))) :
    (convert 48 9 v).run Tryd.prog wr = .ok (.string ⟨l.toArray⟩) wr := by
  have h0 := h
  obtain ⟨hlen, ⟨rfl, hn⟩ | ⟨g, cap, cur, rfl, hb, hg, hnc, hcm, hcs, ht⟩⟩ := h
  · have : l = [] := List.eq_nil_of_length_eq_zero hn
    subst this
    rw [run_convert_bytes_nil (P := Tryd.prog) wr 48 5 Tryd.underlying48 Tryd.underlying5 0 0 9 Tryd.underlying9]
    rfl
  · refine run_convert_bytes_back (P := Tryd.prog) wr 48 9 5 _ cap l Tryd.underlying48 Tryd.underlying5 Tryd.underlying9 ?_
    intro j hj
    have := h0.cellAt j (by omega)
    have e : (⟨g, 0, none⟩ : Addr).add j = ⟨g, j, none⟩ := by unfold Addr.add; split <;> simp_all
    rw [e, this]
    simp [List.getElem?_eq_getElem hj]

theorem fx_get (n k j : Nat) (h : j < k) : (fx n k).take (j + 1) = (fx n k).take j ++ [UInt8.ofNat (n / 256 ^ (k - 1 - j) % 256)] := by
  have hl : j < (fx n k).length := by rw [fx_length]; exact h
  rw [List.take_succ_eq_append_getElem hl]
  congr 2
  induction k generalizing j with
  | zero => omega
  | succ k ih =>
    cases j with
    | zero => simp [fx]
    | succ j =>
      simp only [fx, List.getElem_cons_succ]
      rw [ih j (by omega) (by rw [fx_length]; omega)]
      rw [show k - 1 - j = k + 1 - 1 - (j + 1) from by omega]

theorem pw256 (m : Nat) : pw (8 * (m : Int)) = ((256 ^ m : Nat) : Int) := by
  unfold pw
  rw [show (8 * (m : Int)).toNat = 8 * m from by omega, Nat.pow_mul]
theorem p256_le (m : Nat) (h : m ≤ 7) : 1 ≤ 256 ^ m ∧ 256 ^ m ≤ 256 ^ 7 := ⟨Nat.one_le_pow _ _ (by omega), Nat.pow_le_pow_right (by omega) h⟩

theorem info5 : (Tryd.prog.info? 5).map (fun i => (i.zero, i.size, i.bytes)) = some (some (.int .u8 0), 1, 1) := by kernel_rfl

def OwnRel (n k B : Nat) (w : World) (v i : Value) (wr : World) : Prop :=
  ∃ j : Nat, j ≤ k ∧ i = .int .i64 ((k : Int) - 1 - j) ∧ wr.ownsRow B 5 1 v j (((fx n k).take j).map fun b => .int .u8 (b.toNat : Int)) ∧ Below B w wr

theorem own_step {n k B j : Nat} {w1 w : World} {v' : Value} {x : Int} (hj : j < k) (hx : x = ((n / 256 ^ (k - 1 - j) % 256 : Nat) : Int))
    (h : w1.ownsRow B 5 1 v' (j + 1) (((fx n k).map (fun b => Value.int .u8 (b.toNat : Int))).take j ++ [.int .u8 x])) (hb : Below B w w1) :
    OwnRel n k B w v' (.int .i64 ((k : Int) - 1 - j - 1)) w1 := by
  refine ⟨j + 1, by omega, by congr 1; omega, ?_, hb⟩
  rw [fx_get n k j hj]
  have e : ((UInt8.ofNat (n / 256 ^ (k - 1 - j) % 256)).toNat : Int) = x := by rw [hx, UInt8.toNat_ofNat']; omega
  rw [List.map_append, List.map_cons, List.map_nil, e, List.map_take]
  exact h

end Go.Proofs.YtfeecfdbncjmnaaDoor.Vm
