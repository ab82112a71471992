/- The walk of the law VarintRises. -/
import Derived.Test.YtppjjpibojilcaaDoorVmShort
namespace Go.Proofs.YtppjjpibojilcaaDoor.Vm
open Go.RowKit
set_option linter.unusedVariables false

theorem tag_lt (n : Nat) (h : pl n < 4) : pl n * 2 ^ (8 * wd (pl n) - 2) + n < 256 ^ wd (pl n) := by
  have hp := pl_cases n
  rcases hp with ⟨hp, h1⟩ | ⟨hp, h1, h2⟩ | ⟨hp, h1, h2⟩ | ⟨hp, h1, h2⟩ | ⟨hp, h1⟩
  all_goals rw [hp]
  all_goals simp [wd]
  all_goals omega
theorem wd_inj {p q : Nat} (hp : p < 4) (hq : q < 4) (h : wd p = wd q) : p = q := by
  unfold wd at h
  have e1 : p = 0 ∨ p = 1 ∨ p = 2 ∨ p = 3 := by omega
  have e2 : q = 0 ∨ q = 1 ∨ q = 2 ∨ q = 3 := by omega
  rcases e1 with e1 | e1 | e1 | e1 <;> rcases e2 with e2 | e2 | e2 | e2 <;> rw [e1, e2] at h <;> first | (rw [e1, e2]; done) | (exfalso; revert h; decide)
theorem less_eq (l m : List UInt8) : Op.bytesLess l m = less l m := by
  induction l generalizing m with
  | nil => cases m <;> rfl
  | cons a l ih =>
    cases m with
    | nil => rfl
    | cons b m =>
      show (decide (a < b) || (a == b && Op.bytesLess l m)) = (decide (a.toNat < b.toNat) || (a.toNat == b.toNat && less l m))
      rw [ih m]
      have e1 : decide (a < b) = decide (a.toNat < b.toNat) := by rw [decide_eq_decide]; exact UInt8.lt_iff_toNat_lt
      have e2 : (a == b) = (a.toNat == b.toNat) := by rw [Bool.eq_iff_iff, beq_iff_eq, beq_iff_eq]; exact UInt8.toNat_inj.symm
      rw [e1, e2]
theorem rises_same (a b : Nat) (ha : pl a < 4) (hb : pl b < 4) (h : (pt a).length = (pt b).length) :
    Op.bytesLess (pt a) (pt b) = decide (a < b) ∧ (pt a = pt b ↔ a = b) := by
  rw [pt_length, pt_length] at h
  have hp := wd_inj ha hb h
  have h1 := tag_lt a ha
  have h2 := tag_lt b hb
  rw [← hp] at h2
  unfold pt
  rw [← hp]
  constructor
  · rw [less_eq, less_bk _ _ (by rw [fx_length, fx_length]), bk_fx, bk_fx, Nat.mod_eq_of_lt h1, Nat.mod_eq_of_lt h2]
    congr 1
    rw [eq_iff_iff]; omega
  · rw [fx_inj _ _ _ h1 h2]; omega
theorem rises_other (a b : Nat) (ha : pl a < 4) (hb : pl b < 4) (h : (pt a).length ≠ (pt b).length) : ((pt a).length < (pt b).length ↔ a < b) := by
  rw [pt_length, pt_length] at *
  have c1 := pl_cases a
  have c2 := pl_cases b
  unfold wd at *
  rcases c1 with ⟨hp, g1⟩ | ⟨hp, g1, g2⟩ | ⟨hp, g1, g2⟩ | ⟨hp, g1, g2⟩ | ⟨hp, g1⟩ <;> rcases c2 with ⟨hq, g3⟩ | ⟨hq, g3, g4⟩ | ⟨hq, g3, g4⟩ | ⟨hq, g3, g4⟩ | ⟨hq, g3⟩
  all_goals rw [hp] at ha h ⊢
  all_goals rw [hq] at hb h ⊢
  all_goals first | (exfalso; exact h rfl) | (exfalso; omega) | (constructor <;> intro _ <;> first | omega | decide | (exfalso; revert ‹_ < _›; decide))

set_option maxHeartbeats 1000000 in
theorem rises_none1 (a b : Int) (w : World) (ht : Tab w) (ha : 4611686018427387904 ≤ a) (hb : 0 ≤ b) :
    Calls Tryd.prog 7 #[.int .u64 a, .int .u64 b] w fun e w' => e = .returned (.bool true) ∧ Below w.heap.size w w' := by
  have hlt := ht.lt
  have HT := Lib.hid ht
  clear ht
  go_enter Tryd.func7, Tryd.ntmps7
  go_wp2_with fail
  refine (vput_4 _ _ HT.out ha).mono ?_
  rintro e w1 ⟨rfl, hb1⟩
  have HT1 := Lib.hid (HT.out.below hb1 hlt)
  have hz1 := hb1.size
  go_wp2_with fail
  refine (vput _ _ HT1.out hb).mono ?_
  rintro e w2 ⟨rfl, hb2⟩
  have HT2 := Lib.hid (HT1.out.below hb2 (by omega))
  have hz2 := hb2.size
  go_wp2_with fail
  refine (shown_any _ HT2.out).mono ?_
  rintro e w3 ⟨rfl, hb3⟩
  go_wp2
  go_ret
  exact ⟨rfl, hb1.trans ((hb2.mono (by omega)).trans (hb3.mono (by omega)))⟩

set_option maxHeartbeats 1000000 in
theorem rises_none2 (a b : Int) (w : World) (ht : Tab w) (ha : 0 ≤ a) (ha2 : a < 4611686018427387904) (hb : 4611686018427387904 ≤ b) :
    Calls Tryd.prog 7 #[.int .u64 a, .int .u64 b] w fun e w' => e = .returned (.bool true) ∧ Below w.heap.size w w' := by
  have hlt := ht.lt
  have HT := Lib.hid ht
  clear ht
  have HP := Lib.hid (pl_lt a.toNat (by omega))
  go_enter Tryd.func7, Tryd.ntmps7
  go_wp2_with fail
  refine (vput _ _ HT.out ha).mono ?_
  rintro e w1 ⟨rfl, hb1⟩
  rw [(ps_ok HP.out).1, (ps_ok HP.out).2]
  have HT1 := Lib.hid (HT.out.below hb1 hlt)
  have hz1 := hb1.size
  go_wp2_with fail
  refine (vput_4 _ _ HT1.out hb).mono ?_
  rintro e w2 ⟨rfl, hb2⟩
  have HT2 := Lib.hid (HT1.out.below hb2 (by omega))
  have hz2 := hb2.size
  go_wp2_with fail
  refine (shown_any _ HT2.out).mono ?_
  rintro e w3 ⟨rfl, hb3⟩
  go_wp2
  go_ret
  exact ⟨rfl, hb1.trans ((hb2.mono (by omega)).trans (hb3.mono (by omega)))⟩

set_option maxHeartbeats 1000000 in
theorem rises_some (a b : Int) (w : World) (ht : Tab w) (ha : 0 ≤ a) (ha2 : a < 4611686018427387904) (hb : 0 ≤ b) (hb0 : b < 4611686018427387904) :
    Calls Tryd.prog 7 #[.int .u64 a, .int .u64 b] w fun e w' => e = .returned (.bool true) ∧ Below w.heap.size w w' := by
  have hlt := ht.lt
  have HT := Lib.hid ht
  clear ht
  have HP := Lib.hid (pl_lt a.toNat (by omega))
  have HQ := Lib.hid (pl_lt b.toNat (by omega))
  have HS := Lib.hid (rises_same a.toNat b.toNat HP.out HQ.out)
  have HO := Lib.hid (rises_other a.toNat b.toNat HP.out HQ.out)
  go_enter Tryd.func7, Tryd.ntmps7
  go_wp2_with fail
  refine (vput _ _ HT.out ha).mono ?_
  rintro e w1 ⟨rfl, hb1⟩
  rw [(ps_ok HP.out).1, (ps_ok HP.out).2]
  have HT1 := Lib.hid (HT.out.below hb1 hlt)
  have hz1 := hb1.size
  go_wp2_with fail
  refine (vput _ _ HT1.out hb).mono ?_
  rintro e w2 ⟨rfl, hb2⟩
  rw [(ps_ok HQ.out).1, (ps_ok HQ.out).2]
  have HT2 := Lib.hid (HT1.out.below hb2 (by omega))
  have hz2 := hb2.size
  go_wp2_with fail
  refine (shown_any _ HT2.out).mono ?_
  rintro e w3 ⟨rfl, hb3⟩
  by_cases hE : (pt a.toNat).length = (pt b.toNat).length
  · have HEE := Lib.hid hE
    have hq : (((pt a.toNat).length : Int) == ((pt b.toNat).length : Int)) = true := by rw [beq_iff_eq]; omega
    have f1 : (Op.bytesLess (pt a.toNat) (pt b.toNat) == decide (a < b)) = true := by
      rw [(HS.out hE).1, beq_iff_eq, decide_eq_decide]; omega
    have f2 : ((pt a.toNat == pt b.toNat) == (a == b)) = true := by
      rw [beq_iff_eq, Bool.eq_iff_iff, beq_iff_eq, beq_iff_eq, (HS.out hE).2]; omega
    clear hE
    go_wp2
    go_ret
    exact ⟨rfl, hb1.trans ((hb2.mono (by omega)).trans (hb3.mono (by omega)))⟩
  · have hq : (((pt a.toNat).length : Int) == ((pt b.toNat).length : Int)) = false := by rw [beq_eq_false_iff_ne]; omega
    have HEE := Lib.hid hE
    have f1 : (decide ((pt a.toNat).length < (pt b.toNat).length) == decide (a < b)) = true := by
      rw [beq_iff_eq, decide_eq_decide, HO.out hE]; omega
    clear hE
    go_wp2
    go_ret
    exact ⟨rfl, hb1.trans ((hb2.mono (by omega)).trans (hb3.mono (by omega)))⟩

theorem rises (a b : Int) (w : World) (ht : Tab w) (w0 : (Lit.int .u64 a).wf = true) (w1 : (Lit.int .u64 b).wf = true) :
    Calls Tryd.prog 7 #[.int .u64 a, .int .u64 b] w fun e w' => e = .returned (.bool true) ∧ Below w.heap.size w w' := by
  have ha := bounds_u64 w0
  have hb := bounds_u64 w1
  by_cases h4 : a < 4611686018427387904
  · by_cases h5 : b < 4611686018427387904
    · exact rises_some a b w ht ha.1 h4 hb.1 h5
    · exact rises_none2 a b w ht ha.1 h4 (by omega)
  · exact rises_none1 a b w ht (by omega) hb.1
end Go.Proofs.YtppjjpibojilcaaDoor.Vm
