/- The law IdealDraws, walked. By tools/gen-ideal-3.py. -/
import Derived.Test.YtffjnfoleofffaaIdL
namespace Go.Proofs.Ytffjnfoleofffaa.Id
open Go.RowKit Vm
set_option linter.unusedVariables false
set_option linter.unusedSimpArgs false

set_option maxHeartbeats 4000000 in
theorem draws_law (s i : Nat) (n : Int) (w : World) : Calls Try.prog 3 #[.int .u64 s, .int .u64 i, .int .i64 n] w fun e w' => e = .returned (.bool true) ∧ Below w.heap.size w w' := by
  by_cases hn : n ≤ 500
  · have hn5 : ¬ 500 < n := by omega
    obtain ⟨m, hm⟩ : ∃ m, n.toNat = m := ⟨_, rfl⟩
    have CD := Lib.hid (fun W => draw_any s i n W (by omega))
    have CR := Lib.hid (fun W => rdraw_any s i n W (by omega))
    have CI := Lib.hid (id_any s i)
    have CJ := Lib.hid (rid_any s i)
    rw [hm] at CD CR
    have hl : (⟨(drawN (baseN s i) m).toArray⟩ : ByteArray).size = m := drawN_len _ _
    have hl8 : (⟨(idN s i).toArray⟩ : ByteArray).size = 8 := idN_len s i
    obtain ⟨D, hD⟩ : ∃ x : ByteArray, ⟨(drawN (baseN s i) m).toArray⟩ = x := ⟨_, rfl⟩
    obtain ⟨E, hE⟩ : ∃ x : ByteArray, ⟨(idN s i).toArray⟩ = x := ⟨_, rfl⟩
    rw [hD] at CD CR hl
    rw [hE] at CI CJ hl8
    have hmx : max n 0 = (m : Int) := by omega
    have hDD : (D.toList == D.toList) = true := by simp
    have hEE : (E.toList == E.toList) = true := by simp
    have hmm : ((m : Int) == (m : Int)) = true := by simp
    clear hD hE hm hn
    go_enter Try.func3, Try.ntmps3
    go_wp2_with fail
    with_reducible refine (shown_any _).mono ?_
    rintro e w1 ⟨rfl, hb⟩
    have HB1 := Lib.hid hb
    clear hb
    go_wp2_with fail
    with_reducible refine (CD.out _).mono ?_
    rintro e w2 ⟨rfl, hb⟩
    have HB2 := Lib.hid (HB1.out.trans (hb.mono HB1.out.size))
    clear hb
    go_wp2_with fail
    with_reducible refine (CR.out _).mono ?_
    rintro e w3 ⟨rfl, hb⟩
    have HB3 := Lib.hid (HB2.out.trans (hb.mono HB2.out.size))
    clear hb
    go_wp2_with fail
    with_reducible refine (CI.out _).mono ?_
    rintro e w4 ⟨rfl, hb⟩
    have HB4 := Lib.hid (HB3.out.trans (hb.mono HB3.out.size))
    clear hb
    go_wp2_with fail
    with_reducible refine (CJ.out _).mono ?_
    rintro e w5 ⟨rfl, hb⟩
    have HB5 := Lib.hid (HB4.out.trans (hb.mono HB4.out.size))
    clear hb
    go_wp2_with fail
    with_reducible refine (CI.out _).mono ?_
    rintro e w6 ⟨rfl, hb⟩
    have HB6 := Lib.hid (HB5.out.trans (hb.mono HB5.out.size))
    clear hb
    go_wp2_with fail
    go_ret
    exact ⟨rfl, HB6.out⟩
  · have hn5 : 500 < n := by omega
    go_enter Try.func3, Try.ntmps3
    go_wp2_with fail
    with_reducible refine (shown_any _).mono ?_
    rintro e w1 ⟨rfl, hb⟩
    have HB1 := Lib.hid hb
    clear hb
    go_wp2_with fail
    go_ret
    exact ⟨rfl, HB1.out⟩
theorem law_draws (seed index n : Int) (w : World) (w0 : (Lit.int .u64 seed).wf = true) (w1 : (Lit.int .u64 index).wf = true) (w2 : (Lit.int .i64 n).wf = true) :
    Calls Try.prog 3 #[.int .u64 seed, .int .u64 index, .int .i64 n] w fun e w' => e = .returned (.bool true) ∧ Below w.heap.size w w' := by
  obtain ⟨s, rfl⟩ := nat_u64 w0
  obtain ⟨i, rfl⟩ := nat_u64 w1
  exact draws_law s i n w
end Go.Proofs.Ytffjnfoleofffaa.Id
