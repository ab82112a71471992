/- The walks of layer 1: the document's own Fixed; both readings of bytes as a number (at most eight bytes). -/
import Derived.Test.YtliakeiaeakliaaVmB
import Derived.Laws.IdiomStrings
import Derived.Laws.Bits64
namespace Go.Proofs.Ytliakeiaeakliaa.Vm
set_option maxRecDepth 20000
open Go.RowKit
set_option linter.unusedVariables false

theorem conv_owned {wr : World} {B : Nat} {v : Value} (l : List UInt8) (h : wr.ownsRow B 5 1 v l.length (l.map fun b => .int .u8 (b.toNat : Int))) :
    (convert 37 9 v).run Try.prog wr = .ok (.string ⟨l.toArray⟩) wr := by
  have h0 := h
  obtain ⟨hlen, ⟨rfl, hn⟩ | ⟨g, cap, cur, rfl, hb, hg, hnc, hcm, hcs, ht⟩⟩ := h
  · have : l = [] := List.eq_nil_of_length_eq_zero hn
    subst this
    rw [run_convert_bytes_nil (P := Try.prog) wr 37 5 Try.underlying37 Try.underlying5 0 0 9 Try.underlying9]
    rfl
  · refine run_convert_bytes_back (P := Try.prog) wr 37 9 5 _ cap l Try.underlying37 Try.underlying5 Try.underlying9 ?_
    intro j hj
    have := h0.cellAt j (by omega)
    have e : (⟨g, 0, none⟩ : Addr).add j = ⟨g, j, none⟩ := by unfold Addr.add; split <;> simp_all
    rw [e, this]
    simp [List.getElem?_eq_getElem hj]

theorem fx_get (n k j : Nat) (h : j < k) : (fx n k).take (j + 1) = (fx n k).take j ++ [UInt8.ofNat (n / 256 ^ (k - 1 - j) % 256)] := by
  have hl : j < (fx n k).length := by rw [fx_length]; exact h
  rw [List.take_succ_eq_append_getElem hl]
  congr 2
  induction k generalizing j with
  | zero => omega
  | succ k ih =>
    cases j with
    | zero => simp [fx]
    | succ j =>
      simp only [fx, List.getElem_cons_succ]
      rw [ih j (by omega) (by rw [fx_length]; omega)]
      rw [show k - 1 - j = k + 1 - 1 - (j + 1) from by omega]

theorem pw256 (m : Nat) : pw (8 * (m : Int)) = ((256 ^ m : Nat) : Int) := by
  unfold pw
  rw [show (8 * (m : Int)).toNat = 8 * m from by omega, Nat.pow_mul]
theorem p256_le (m : Nat) (h : m ≤ 7) : 1 ≤ 256 ^ m ∧ 256 ^ m ≤ 256 ^ 7 := ⟨Nat.one_le_pow _ _ (by omega), Nat.pow_le_pow_right (by omega) h⟩

theorem info5 : (Try.prog.info? 5).map (fun i => (i.zero, i.size, i.bytes)) = some (some (.int .u8 0), 1, 1) := by kernel_rfl

def OwnRel (n k B : Nat) (w : World) (v i : Value) (wr : World) : Prop :=
  ∃ j : Nat, j ≤ k ∧ i = .int .i64 ((k : Int) - 1 - j) ∧ wr.ownsRow B 5 1 v j (((fx n k).take j).map fun b => .int .u8 (b.toNat : Int)) ∧ Below B w wr

theorem own_step {n k B j : Nat} {w1 w : World} {v' : Value} {x : Int} (hj : j < k) (hx : x = ((n / 256 ^ (k - 1 - j) % 256 : Nat) : Int))
    (h : w1.ownsRow B 5 1 v' (j + 1) (((fx n k).map (fun b => Value.int .u8 (b.toNat : Int))).take j ++ [.int .u8 x])) (hb : Below B w w1) :
    OwnRel n k B w v' (.int .i64 ((k : Int) - 1 - j - 1)) w1 := by
  refine ⟨j + 1, by omega, by congr 1; omega, ?_, hb⟩
  rw [fx_get n k j hj]
  have e : ((UInt8.ofNat (n / 256 ^ (k - 1 - j) % 256)).toNat : Int) = x := by rw [hx, UInt8.toNat_ofNat']; omega
  rw [List.map_append, List.map_cons, List.map_nil, e, List.map_take]
  exact h

set_option maxHeartbeats 1000000 in
theorem rfixed (n k : Nat) (w : World) (hn : (n : Int) ≤ 18446744073709551615) (h1 : 1 ≤ k) (hk : k ≤ 8) :
    Calls Try.prog 39 #[.int .u64 n, .int .i64 k] w fun e w' => e = .returned (.string ⟨(fx n k).toArray⟩) ∧ Below w.heap.size w w' := by
  obtain ⟨i0, hi, hz0, hz1, hz2⟩ := info_parts info5
  have hz1 := Lib.hid hz1; have hz2 := Lib.hid hz2; have hz0 := Lib.hid hz0; have hi := Lib.hid hi
  go_enter Try.func39, Try.ntmps39
  go_wp2
  go_loopw [5, 6] (fun v i wr => OwnRel n k w.heap.size w v i wr) (fun _ i _ => (intOf i + 1).toNat)
  case atStart => exact ⟨0, Nat.zero_le _, by congr 1; omega, World.ownsRow_made w #[] 0 (Nat.le_refl _) (by unfold maxLen; omega) rfl, (Below.refl _ _).alloc (Nat.le_refl _) _⟩
  case round =>
    obtain ⟨j, hj, rfl, hown, hb⟩ := hrel
    by_cases hlt : j < k
    · have hx := p256_le (k - 1 - j) (by omega)
      have HP := Lib.hid (pw256 (k - 1 - j))
      go_wp2_with fail
      refine (power_any _ _ (by omega) (by omega)).mono ?_
      rintro e w' ⟨rfl, rfl⟩
      rw [show (8 : Int) * ((k : Int) - 1 - j) = 8 * ((k - 1 - j : Nat) : Int) from by omega, HP.out]
      have HX : Hid ((n : Int) / ((256 ^ (k - 1 - j) : Nat) : Int) % 256 = ((n / 256 ^ (k - 1 - j) % 256 : Nat) : Int)) := by
        show (n : Int) / ((256 ^ (k - 1 - j) : Nat) : Int) % 256 = ((n / 256 ^ (k - 1 - j) % 256 : Nat) : Int)
        rw [Int.natCast_emod, Int.natCast_ediv]; rfl
      have hP1 : (1 : Int) ≤ ((256 ^ (k - 1 - j) : Nat) : Int) := by have := hx.1; omega
      have hx2 : 0 ≤ (n : Int) / ((256 ^ (k - 1 - j) : Nat) : Int) ∧ (n : Int) / ((256 ^ (k - 1 - j) : Nat) : Int) ≤ n := ⟨Int.ediv_nonneg (by omega) (by omega), Int.ediv_le_self _ (by omega)⟩
      clear hx HP
      generalize ((256 ^ (k - 1 - j) : Nat) : Int) = P at *
      obtain ⟨hq1, hq2⟩ := hx2
      go_wp2_with (at_builtin; refine wpList_append_own _ rfl _ _ 37 rfl w.heap.size 5 i0 (.int .u8 0) 1 1 Try.underlying37 hi.out hz0.out hz1.out hz2.out rfl (by decide) _ _ _ rfl (hown.alloc _) ⟨wr.heap.size, 0, none⟩ 1 1 [.int .u8 ((n : Int) / P % 256)] rfl rfl ?c1 ?c2 ?c3 ?c4 ?c5 ?_)
      case c1 =>
        intro j u hj
        match j, hj with
        | 0, hj => simp at hj; subst hj; simp [Addr.add]
      case c2 => intro u hu; simp at hu; subst hu; rfl
      case c3 => unfold maxLen; omega
      case c4 => omega
      case c5 => have := hb.size; simp; omega
      intro v' w1 hown' hgrow _
      have hb1 : Below w.heap.size w w1 := by
        refine (hb.alloc (by have := hb.size; omega) _).grown hgrow (by have := hb.size; simp; omega) ?_
        intro q hq
        exact (hown.lt q hq).1
      go_wp2
      go_roundw
      case rel => exact own_step hlt HX.out hown' hb1
      case measure => simp [intOf]; omega
    · obtain rfl : j = k := by omega
      rw [List.take_of_length_le (by rw [fx_length]; exact Nat.le_refl _)] at hown
      have HC := Lib.hid (conv_owned (fx n j) (by rw [fx_length]; exact hown))
      go_wp2
      rw [HC.out]
      go_wp2
      go_ret
      exact ⟨rfl, hb⟩
end Go.Proofs.Ytliakeiaeakliaa.Vm
