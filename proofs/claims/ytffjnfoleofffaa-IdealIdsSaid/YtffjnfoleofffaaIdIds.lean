/- The law IdealIds, walked. By tools/gen-ideal-3.py. -/
import Derived.Test.YtffjnfoleofffaaIdL
namespace Go.Proofs.Ytffjnfoleofffaa.Id
open Go.RowKit Vm
set_option linter.unusedVariables false
set_option linter.unusedSimpArgs false

set_option maxHeartbeats 4000000 in
theorem ids_law (s a b : Nat) (w : World) (ha : a < 18446744073709551616) (hb : b < 18446744073709551616) : Calls Try.prog 6 #[.int .u64 s, .int .u64 a, .int .u64 b] w fun e w' => e = .returned (.bool true) ∧ Below w.heap.size w w' := by
  have CA := Lib.hid (id_any s a)
  have CB := Lib.hid (id_any s b)
  have hab := idN_inj s a b ha hb
  have hs := str_eq (idN s a) (idN s b)
  obtain ⟨D, hD⟩ : ∃ x : ByteArray, ⟨(idN s a).toArray⟩ = x := ⟨_, rfl⟩
  obtain ⟨E, hE⟩ : ∃ x : ByteArray, ⟨(idN s b).toArray⟩ = x := ⟨_, rfl⟩
  rw [hD] at CA hs
  rw [hE] at CB hs
  by_cases h : a = b
  · have hs2 : (D.toList == E.toList) = true := by rw [hs]; exact decide_eq_true (hab.2 h)
    have hi : (((a : Nat) : Int) == ((b : Nat) : Int)) = true := by simp [h]
    clear hab hs hD hE h ha hb
    go_enter Try.func6, Try.ntmps6
    go_wp2_with fail
    with_reducible refine (CA.out _).mono ?_
    rintro e w1 ⟨rfl, hb⟩
    have HB1 := Lib.hid hb
    clear hb
    go_wp2_with fail
    with_reducible refine (CB.out _).mono ?_
    rintro e w2 ⟨rfl, hb⟩
    have HB2 := Lib.hid (HB1.out.trans (hb.mono HB1.out.size))
    clear hb
    go_wp2_with fail
    with_reducible refine (shown_any _).mono ?_
    rintro e w3 ⟨rfl, hb⟩
    have HB3 := Lib.hid (HB2.out.trans (hb.mono HB2.out.size))
    clear hb
    go_wp2_with fail
    go_ret
    exact ⟨rfl, HB3.out⟩
  · have hs2 : (D.toList == E.toList) = false := by rw [hs]; exact decide_eq_false (fun x => h (hab.1 x))
    have hi : (((a : Nat) : Int) == ((b : Nat) : Int)) = false := by rw [beq_eq_false_iff_ne]; omega
    clear hab hs hD hE h ha hb
    go_enter Try.func6, Try.ntmps6
    go_wp2_with fail
    with_reducible refine (CA.out _).mono ?_
    rintro e w1 ⟨rfl, hb⟩
    have HB1 := Lib.hid hb
    clear hb
    go_wp2_with fail
    with_reducible refine (CB.out _).mono ?_
    rintro e w2 ⟨rfl, hb⟩
    have HB2 := Lib.hid (HB1.out.trans (hb.mono HB1.out.size))
    clear hb
    go_wp2_with fail
    with_reducible refine (shown_any _).mono ?_
    rintro e w3 ⟨rfl, hb⟩
    have HB3 := Lib.hid (HB2.out.trans (hb.mono HB2.out.size))
    clear hb
    go_wp2_with fail
    go_ret
    exact ⟨rfl, HB3.out⟩
theorem law_ids (seed a b : Int) (w : World) (w0 : (Lit.int .u64 seed).wf = true) (w1 : (Lit.int .u64 a).wf = true) (w2 : (Lit.int .u64 b).wf = true) :
    Calls Try.prog 6 #[.int .u64 seed, .int .u64 a, .int .u64 b] w fun e w' => e = .returned (.bool true) ∧ Below w.heap.size w w' := by
  obtain ⟨s, rfl⟩ := nat_u64 w0
  obtain ⟨i, rfl⟩ := nat_u64 w1
  obtain ⟨j, rfl⟩ := nat_u64 w2
  exact ids_law s i j w (lt_u64 w1) (lt_u64 w2)
end Go.Proofs.Ytffjnfoleofffaa.Id
