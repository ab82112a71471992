/- The walk of the law RangesCounts. -/
import Derived.Test.YtbapbkhbkpeofaaRgH
import Derived.Test.YtbapbkhbkpeofaaRgK
import Derived.OpenShut
import Derived.Test.YtbapbkhbkpeofaaRgN
import Derived.Deep.RegionHeld3
namespace Go.Proofs.Ytbapbkhbkpeofaa.Rg
open Go.RowKit Go.Shelf
set_option linter.unusedVariables false
set_option maxHeartbeats 2000000 in
theorem RangesCounts_no0 (va : Value) (la : List Ran) (lo hi : Int) (w : World) (ma : la.length ≤ maxLen) (ra : Rd w va la) (ua : Nums la) (h0 : 0 ≤ lo) (h1 : 0 ≤ hi) (ga : lowB la = false) :
    Calls Try.prog 6 #[va, .agg #[.int .u64 lo, .int .u64 hi]] w fun e w' => e = .returned (.bool true) ∧ Below w.heap.size w w' := by
  have Ra := Lib.hid ra
  clear ra
  have q1 : (w.alloc (.cells #[.int .u64 lo, .int .u64 hi] 25)).cell? ⟨w.heap.size, 0, none⟩ = some (.int .u64 lo) := by simp [go_sem]
  have q2 : (w.alloc (.cells #[.int .u64 lo, .int .u64 hi] 25)).cell? ⟨w.heap.size, 1, none⟩ = some (.int .u64 hi) := by simp [go_sem]
  have HB := Lib.hid (made w (.cells #[.int .u64 lo, .int .u64 hi] 25))
  replace Ra := Lib.hid (Ra.out.go (made w (.cells #[.int .u64 lo, .int .u64 hi] 25)))
  go_enter Try.func6, Try.ntmps6
  go_wp2_with fail
  refine (low_any _ la _ (by omega) Ra.out).mono ?_
  rintro e A1 ⟨rfl, bl⟩
  replace HB := Lib.hid (next HB.out bl)
  replace Ra := Lib.hid (Ra.out.go bl)
  replace q1 := cell_next bl q1
  replace q2 := cell_next bl q2
  clear bl
  rw [ga]
  go_wp2_with fail
  refine (shown_any _).mono ?_
  rintro e A2 ⟨rfl, bl⟩
  replace HB := Lib.hid (next HB.out bl)
  replace Ra := Lib.hid (Ra.out.go bl)
  replace q1 := cell_next bl q1
  replace q2 := cell_next bl q2
  clear bl
  go_wp2
  go_ret
  exact ⟨rfl, HB.out⟩
set_option maxHeartbeats 2000000 in
theorem RangesCounts_no1 (va : Value) (la : List Ran) (lo hi : Int) (w : World) (ma : la.length ≤ maxLen) (ra : Rd w va la) (ua : Nums la) (h0 : 0 ≤ lo) (h1 : 0 ≤ hi) (ga : lowB la = true) (g0 : lowB [(lo, hi)] = false) :
    Calls Try.prog 6 #[va, .agg #[.int .u64 lo, .int .u64 hi]] w fun e w' => e = .returned (.bool true) ∧ Below w.heap.size w w' := by
  have Ra := Lib.hid ra
  clear ra
  have q1 : (w.alloc (.cells #[.int .u64 lo, .int .u64 hi] 25)).cell? ⟨w.heap.size, 0, none⟩ = some (.int .u64 lo) := by simp [go_sem]
  have q2 : (w.alloc (.cells #[.int .u64 lo, .int .u64 hi] 25)).cell? ⟨w.heap.size, 1, none⟩ = some (.int .u64 hi) := by simp [go_sem]
  have HB := Lib.hid (made w (.cells #[.int .u64 lo, .int .u64 hi] 25))
  replace Ra := Lib.hid (Ra.out.go (made w (.cells #[.int .u64 lo, .int .u64 hi] 25)))
  go_enter Try.func6, Try.ntmps6
  go_wp2_with fail
  refine (low_any _ la _ (by omega) Ra.out).mono ?_
  rintro e A1 ⟨rfl, bl⟩
  replace HB := Lib.hid (next HB.out bl)
  replace Ra := Lib.hid (Ra.out.go bl)
  replace q1 := cell_next bl q1
  replace q2 := cell_next bl q2
  clear bl
  rw [ga]
  go_wp2_with fail
  refine (low_any _ [(lo, hi)] _ (by simp [maxLen]) (rd_made _ lo hi)).mono ?_
  rintro e A2 ⟨rfl, bl⟩
  replace bl := next (made _ _) bl
  replace HB := Lib.hid (next HB.out bl)
  replace Ra := Lib.hid (Ra.out.go bl)
  replace q1 := cell_next bl q1
  replace q2 := cell_next bl q2
  clear bl
  rw [g0]
  go_wp2_with fail
  refine (shown_any _).mono ?_
  rintro e A3 ⟨rfl, bl⟩
  replace HB := Lib.hid (next HB.out bl)
  replace Ra := Lib.hid (Ra.out.go bl)
  replace q1 := cell_next bl q1
  replace q2 := cell_next bl q2
  clear bl
  go_wp2
  go_ret
  exact ⟨rfl, HB.out⟩
theorem below_drew {n : Nat} {w w' : World} (h : Below n w w') : Below n w w'.drew := below_drewN h 1
theorem wr {x : Int} (h : 0 ≤ x) (h1 : x ≤ 18446744073709551615) : IntKind.u64.wrap x = x := by rw [IntKind.wrap_u64]; omega
set_option maxHeartbeats 16000000 in
theorem counts_core (va : Value) (la : List Ran) (lo hi : Int) (w : World) (ma : la.length ≤ maxLen) (ra : Rd w va la) (ua : Nums la) (h0 : 0 ≤ lo) (h1 : 0 ≤ hi) (ga : lowB la = true) (g0 : lowB [(lo, hi)] = true) :
    Calls Try.prog 6 #[va, .agg #[.int .u64 lo, .int .u64 hi]] w fun e w' => e = .returned (.bool true) ∧ Below w.heap.size w w' := by
  have hga : la.length ≤ 40 ∧ ∀ x ∈ la, 0 ≤ x.1 ∧ x.2 < 9223372036854775808 := ⟨(lowB_of ga).1, fun x hx => ⟨(ua x hx).1.1, ((lowB_of ga).2 x hx).2⟩⟩
  have hla := hga.1
  have GA := Lib.hid hga.2
  have hua := Lib.hid ua
  clear hga ua
  have hlo := (low_can g0).1
  have hhi := (low_can g0).2
  have Ra := Lib.hid ra
  clear ra
  have q1 : (w.alloc (.cells #[.int .u64 lo, .int .u64 hi] 25)).cell? ⟨w.heap.size, 0, none⟩ = some (.int .u64 lo) := by simp [go_sem]
  have q2 : (w.alloc (.cells #[.int .u64 lo, .int .u64 hi] 25)).cell? ⟨w.heap.size, 1, none⟩ = some (.int .u64 hi) := by simp [go_sem]
  have HB := Lib.hid (made w (.cells #[.int .u64 lo, .int .u64 hi] 25))
  replace Ra := Lib.hid (Ra.out.go (made w (.cells #[.int .u64 lo, .int .u64 hi] 25)))
  go_enter Try.func6, Try.ntmps6
  go_wp2_with fail
  refine (low_any _ la _ (by omega) Ra.out).mono ?_
  rintro e A1 ⟨rfl, bl⟩
  replace HB := Lib.hid (next HB.out bl)
  replace Ra := Lib.hid (Ra.out.go bl)
  replace q1 := cell_next bl q1
  replace q2 := cell_next bl q2
  clear bl
  rw [ga]
  go_wp2_with fail
  refine (low_any _ [(lo, hi)] _ (by simp [maxLen]) (rd_made _ lo hi)).mono ?_
  rintro e A2 ⟨rfl, bl⟩
  replace bl := next (made _ _) bl
  replace HB := Lib.hid (next HB.out bl)
  replace Ra := Lib.hid (Ra.out.go bl)
  replace q1 := cell_next bl q1
  replace q2 := cell_next bl q2
  clear bl
  rw [g0]
  go_wp2_with fail
  refine (shown_any _).mono ?_
  rintro e A3 ⟨rfl, bl⟩
  replace HB := Lib.hid (next HB.out bl)
  replace Ra := Lib.hid (Ra.out.go bl)
  replace q1 := cell_next bl q1
  replace q2 := cell_next bl q2
  clear bl
  go_wp2_with fail
  refine (of' _ la _ (by omega) GA.out Ra.out).mono ?_
  rintro e A4 ⟨vs, ls, rfl, c, m, h, r, bl⟩
  replace HB := Lib.hid (next HB.out bl)
  replace Ra := Lib.hid (Ra.out.go bl)
  replace q1 := cell_next bl q1
  replace q2 := cell_next bl q2
  clear bl
  have Cs := Lib.hid c
  have Ms := Lib.hid m
  have Ns := Lib.hid h
  have Rs := Lib.hid r
  clear c m h r
  clear Ra
  have hs := Ns.out
  go_wp2_with fail
  refine (of' _ [(lo, hi)] _ (by simp) (fun x hx => by rw [List.mem_singleton.1 hx]; exact ⟨h0, hhi⟩) (rd_made _ lo hi)).mono ?_
  rintro e A5 ⟨vu, lu, rfl, c, m, h, r, bl⟩
  replace bl := next (made _ _) bl
  replace HB := Lib.hid (next HB.out bl)
  replace Rs := Lib.hid (Rs.out.go bl)
  replace q1 := cell_next bl q1
  replace q2 := cell_next bl q2
  clear bl
  have Cu := Lib.hid c
  have Mu := Lib.hid m
  have Nu := Lib.hid h
  have Ru := Lib.hid r
  clear c m h r
  have hu := Nu.out
  rw [List.length_singleton] at hu
  have MU : ∀ n, mem lu n ↔ inn (lo, hi) n := fun n => (Mu.out n).trans mem_single
  replace Mu := Lib.hid MU
  clear MU
  obtain ⟨zs, hzs⟩ : ∃ c, size ls = c := ⟨_, rfl⟩
  obtain ⟨zu, hzu⟩ : ∃ c, size lu = c := ⟨_, rfl⟩
  go_wp2_with fail
  refine wp_region_noPanic ?_
  refine wp_region_held_drew (S := fun w' => w'.cell? ⟨w.heap.size, 0, none⟩ = some (.int .u64 lo) ∧ w'.cell? ⟨w.heap.size, 1, none⟩ = some (.int .u64 hi) ∧ Rd w' vs ls ∧ Rd w' vu lu ∧ Below w.heap.size w w') (by kernel_rfl) ?_ (fun hHeld => ?_)
  · exact ⟨cell_next (below_drew (Below.refl _ _)) q1, cell_next (below_drew (Below.refl _ _)) q2, Rs.out.go (below_drew (Below.refl _ _)), Ru.out.go (below_drew (Below.refl _ _)), next HB.out (below_drew (Below.refl _ _))⟩
  clear q1 q2 HB Rs Ru
  have HH := Lib.hid hHeld
  obtain ⟨q1, q2, rs, ru, hbw⟩ := hHeld
  have Rs := Lib.hid rs
  have Ru := Lib.hid ru
  have HB := Lib.hid hbw
  clear hbw q1 q2 rs ru
  have hHeld := HH.out
  clear HH
  refine wpAnyH_take (i := 0) (v := ?_) rfl (by kernel_rfl) (by kernel_rfl) (by kernel_rfl) (fun _ _ _ h => h) (Or.inl ⟨by rfl, ?_⟩) (by assumption) ?_
  rotate_left
  · (intro w hSw; (try dsimp only at hSw); go_simp; (try with_reducible rfl))
  try simp only [Act.put, List.getElem_toArray, List.getElem_cons_zero, List.getElem_cons_succ, List.setIfInBounds_toArray, List.set_cons_zero, List.set_cons_succ]
  refine wpAnyH_take (i := 1) (v := ?_) rfl (by kernel_rfl) (by kernel_rfl) (by kernel_rfl) (fun _ _ _ h => h) (Or.inl ⟨by rfl, ?_⟩) (by assumption) ?_
  rotate_left
  · (intro w hSw; (try dsimp only at hSw); go_simp; (try with_reducible rfl))
  try simp only [Act.put, List.getElem_toArray, List.getElem_cons_zero, List.getElem_cons_succ, List.setIfInBounds_toArray, List.set_cons_zero, List.set_cons_succ]
  refine wpAnyH_take (i := 4) (v := ?_) rfl (by kernel_rfl) (by kernel_rfl) (by kernel_rfl) (fun _ _ _ h => h) (Or.inl ⟨by rfl, ?_⟩) (by assumption) ?_
  rotate_left
  · (intro w hSw; (try dsimp only at hSw); go_simp; (try with_reducible rfl))
  try simp only [Act.put, List.getElem_toArray, List.getElem_cons_zero, List.getElem_cons_succ, List.setIfInBounds_toArray, List.set_cons_zero, List.set_cons_succ]
  refine wpAnyH_take (i := 5) (v := ?_) rfl (by kernel_rfl) (by kernel_rfl) (by kernel_rfl) (fun _ _ _ h => h) (Or.inl ⟨by rfl, ?_⟩) (by assumption) ?_
  rotate_left
  · (intro w hSw; (try dsimp only at hSw); go_simp; (try with_reducible rfl))
  try simp only [Act.put, List.getElem_toArray, List.getElem_cons_zero, List.getElem_cons_succ, List.setIfInBounds_toArray, List.set_cons_zero, List.set_cons_succ]
  refine wpAnyH_take (i := 9) (v := ?_) rfl (by kernel_rfl) (by kernel_rfl) (by kernel_rfl) (fun _ _ _ h => h) (Or.inl ⟨by rfl, ?_⟩) (by assumption) ?_
  rotate_left
  · (intro w hSw; (try dsimp only at hSw); go_simp; (try with_reducible rfl))
  try simp only [Act.put, List.getElem_toArray, List.getElem_cons_zero, List.getElem_cons_succ, List.setIfInBounds_toArray, List.set_cons_zero, List.set_cons_succ]
  refine wpAnyH_ready (rs := [2]) (by kernel_rfl) (by simp) ?_
  refine AllReadyH.cons rfl (fun K hK => ?_) AllReadyH.nil
  rw [if_pos (by rfl)]
  go_simp
  refine (meet' _ _ ls lu _ (by omega) Cs.out (by omega) Cu.out Rs.out Ru.out).mono ?_
  rintro e A6 ⟨vm, lm, rfl, c, m, h, r, bl⟩
  have Cm := Lib.hid c
  have Mm := Lib.hid m
  have Nm := Lib.hid h
  have Rm := Lib.hid r
  clear c m h r
  refine hK.out _ _ ?_ (fun hHeld => ?_)
  · exact ⟨cell_next bl hHeld.1, cell_next bl hHeld.2.1, Rs.out.go bl, Ru.out.go bl, next HB.out bl⟩
  clear hK K
  clear bl HB Rs Ru
  have HH := Lib.hid hHeld
  obtain ⟨q1, q2, rs, ru, hbw⟩ := hHeld
  have Rs := Lib.hid rs
  have Ru := Lib.hid ru
  have HB := Lib.hid hbw
  clear hbw q1 q2 rs ru
  have hHeld := HH.out
  clear HH
  try simp only [Act.put, List.getElem_toArray, List.getElem_cons_zero, List.getElem_cons_succ, List.setIfInBounds_toArray, List.set_cons_zero, List.set_cons_succ]
  have hm := Nm.out
  obtain ⟨zm, hzm⟩ : ∃ c, size lm = c := ⟨_, rfl⟩
  refine wpAnyH_ready (rs := [3]) (by kernel_rfl) (by simp) ?_
  refine AllReadyH.cons rfl (fun K hK => ?_) AllReadyH.nil
  rw [if_pos (by rfl)]
  go_simp
  refine (count' _ lm _ (by omega) Cm.out Rm.out).mono ?_
  rintro e A7 ⟨rfl, bl⟩
  rw [hzm]
  refine hK.out _ _ ?_ (fun hHeld => ?_)
  · exact ⟨cell_next bl hHeld.1, cell_next bl hHeld.2.1, Rs.out.go bl, Ru.out.go bl, next HB.out bl⟩
  clear hK K
  replace Rm := Lib.hid (Rm.out.go bl)
  clear bl HB Rs Ru
  have HH := Lib.hid hHeld
  obtain ⟨q1, q2, rs, ru, hbw⟩ := hHeld
  have Rs := Lib.hid rs
  have Ru := Lib.hid ru
  have HB := Lib.hid hbw
  clear hbw q1 q2 rs ru
  have hHeld := HH.out
  clear HH
  try simp only [Act.put, List.getElem_toArray, List.getElem_cons_zero, List.getElem_cons_succ, List.setIfInBounds_toArray, List.set_cons_zero, List.set_cons_succ]
  clear Rm
  refine wpAnyH_ready (rs := [6]) (by kernel_rfl) (by simp) ?_
  refine AllReadyH.cons rfl (fun K hK => ?_) AllReadyH.nil
  rw [if_pos (by rfl)]
  go_simp
  refine (gaps' _ ls lo hi _ (by omega) Cs.out h0 hhi Rs.out).mono ?_
  rintro e A8 ⟨vg, lg, rfl, c, m, h, r, bl⟩
  have Cg := Lib.hid c
  have Mg := Lib.hid m
  have Ng := Lib.hid h
  have Rg := Lib.hid r
  clear c m h r
  refine hK.out _ _ ?_ (fun hHeld => ?_)
  · exact ⟨cell_next bl hHeld.1, cell_next bl hHeld.2.1, Rs.out.go bl, Ru.out.go bl, next HB.out bl⟩
  clear hK K
  clear bl HB Rs Ru
  have HH := Lib.hid hHeld
  obtain ⟨q1, q2, rs, ru, hbw⟩ := hHeld
  have Rs := Lib.hid rs
  have Ru := Lib.hid ru
  have HB := Lib.hid hbw
  clear hbw q1 q2 rs ru
  have hHeld := HH.out
  clear HH
  try simp only [Act.put, List.getElem_toArray, List.getElem_cons_zero, List.getElem_cons_succ, List.setIfInBounds_toArray, List.set_cons_zero, List.set_cons_succ]
  have hg := Ng.out
  obtain ⟨zg, hzg⟩ : ∃ c, size lg = c := ⟨_, rfl⟩
  refine wpAnyH_ready (rs := [7]) (by kernel_rfl) (by simp) ?_
  refine AllReadyH.cons rfl (fun K hK => ?_) AllReadyH.nil
  rw [if_pos (by rfl)]
  go_simp
  refine (count' _ lg _ (by omega) Cg.out Rg.out).mono ?_
  rintro e A9 ⟨rfl, bl⟩
  rw [hzg]
  refine hK.out _ _ ?_ (fun hHeld => ?_)
  · exact ⟨cell_next bl hHeld.1, cell_next bl hHeld.2.1, Rs.out.go bl, Ru.out.go bl, next HB.out bl⟩
  clear hK K
  replace Rg := Lib.hid (Rg.out.go bl)
  clear bl HB Rs Ru
  have HH := Lib.hid hHeld
  obtain ⟨q1, q2, rs, ru, hbw⟩ := hHeld
  have Rs := Lib.hid rs
  have Ru := Lib.hid ru
  have HB := Lib.hid hbw
  clear hbw q1 q2 rs ru
  have hHeld := HH.out
  clear HH
  try simp only [Act.put, List.getElem_toArray, List.getElem_cons_zero, List.getElem_cons_succ, List.setIfInBounds_toArray, List.set_cons_zero, List.set_cons_succ]
  clear Rg
  have bu := size_can Cu.out
  rw [hzu] at bu
  have e1 : zu = zm + zg := by rw [← hzu, ← hzm, ← hzg]; exact size_union Cu.out Cm.out Cg.out (fun n => by have i1 := Mu.out n; have i2 := Mm.out n; have i3 := Mg.out n; simp only at i2 i3; rw [i2, i3, i1]; by_cases h : mem ls n <;> simp [h]) (fun n h k => ((Mg.out n).1 k).2 ((Mm.out n).1 h).1)
  have w1 : IntKind.u64.wrap (zm + zg) = zu := by rw [e1]; exact wr (by omega) (by omega)
  refine wpAnyH_take (i := 8) (v := ?_) rfl (by kernel_rfl) (by kernel_rfl) (by kernel_rfl) (fun _ _ _ h => h) (Or.inl ⟨by rfl, ?_⟩) (by assumption) ?_
  rotate_left
  · (intro w hSw; (try dsimp only at hSw); go_simp; (try with_reducible rfl))
  try simp only [Act.put, List.getElem_toArray, List.getElem_cons_zero, List.getElem_cons_succ, List.setIfInBounds_toArray, List.set_cons_zero, List.set_cons_succ]
  refine wpAnyH_ready (rs := [10]) (by kernel_rfl) (by simp) ?_
  refine AllReadyH.cons rfl (fun K hK => ?_) AllReadyH.nil
  rw [if_pos (by rfl)]
  go_simp
  refine (count' _ lu _ (by omega) Cu.out Ru.out).mono ?_
  rintro e A10 ⟨rfl, bl⟩
  rw [hzu]
  refine hK.out _ _ ?_ (fun hHeld => ?_)
  · exact ⟨cell_next bl hHeld.1, cell_next bl hHeld.2.1, Rs.out.go bl, Ru.out.go bl, next HB.out bl⟩
  clear hK K
  clear bl HB Rs Ru
  have HH := Lib.hid hHeld
  obtain ⟨q1, q2, rs, ru, hbw⟩ := hHeld
  have Rs := Lib.hid rs
  have Ru := Lib.hid ru
  have HB := Lib.hid hbw
  clear hbw q1 q2 rs ru
  have hHeld := HH.out
  clear HH
  try simp only [Act.put, List.getElem_toArray, List.getElem_cons_zero, List.getElem_cons_succ, List.setIfInBounds_toArray, List.set_cons_zero, List.set_cons_succ]
  refine wpAnyH_take (i := 11) (v := ?_) rfl (by kernel_rfl) (by kernel_rfl) (by kernel_rfl) (fun _ _ _ h => h) (Or.inl ⟨by rfl, ?_⟩) (by assumption) ?_
  rotate_left
  · (intro w hSw; (try dsimp only at hSw); go_simp; (try with_reducible rfl))
  try simp only [Act.put, List.getElem_toArray, List.getElem_cons_zero, List.getElem_cons_succ, List.setIfInBounds_toArray, List.set_cons_zero, List.set_cons_succ]
  refine wpAnyH_take (i := 12) (v := ?_) rfl (by kernel_rfl) (by kernel_rfl) (by kernel_rfl) (fun _ _ _ h => h) (Or.inl ⟨by rfl, ?_⟩) (by assumption) ?_
  rotate_left
  · (intro w hSw; (try dsimp only at hSw); go_simp; (try with_reducible rfl))
  try simp only [Act.put, List.getElem_toArray, List.getElem_cons_zero, List.getElem_cons_succ, List.setIfInBounds_toArray, List.set_cons_zero, List.set_cons_succ]
  refine wpAnyH_take (i := 13) (v := ?_) rfl (by kernel_rfl) (by kernel_rfl) (by kernel_rfl) (fun _ _ _ h => h) (Or.inl ⟨by rfl, ?_⟩) (by assumption) ?_
  rotate_left
  · (intro w hSw; (try dsimp only at hSw); go_simp; (try with_reducible rfl))
  try simp only [Act.put, List.getElem_toArray, List.getElem_cons_zero, List.getElem_cons_succ, List.setIfInBounds_toArray, List.set_cons_zero, List.set_cons_succ]
  refine wpAnyH_take (i := 14) (v := ?_) rfl (by kernel_rfl) (by kernel_rfl) (by kernel_rfl) (fun _ _ _ h => h) (Or.inl ⟨by rfl, ?_⟩) (by assumption) ?_
  rotate_left
  · (intro w hSw; (try dsimp only at hSw); go_simp; (try with_reducible rfl))
  try simp only [Act.put, List.getElem_toArray, List.getElem_cons_zero, List.getElem_cons_succ, List.setIfInBounds_toArray, List.set_cons_zero, List.set_cons_succ]
  refine wpAnyH_take (i := 17) (v := ?_) rfl (by kernel_rfl) (by kernel_rfl) (by kernel_rfl) (fun _ _ _ h => h) (Or.inl ⟨by rfl, ?_⟩) (by assumption) ?_
  rotate_left
  · (intro w hSw; (try dsimp only at hSw); go_simp; (try with_reducible rfl))
  try simp only [Act.put, List.getElem_toArray, List.getElem_cons_zero, List.getElem_cons_succ, List.setIfInBounds_toArray, List.set_cons_zero, List.set_cons_succ]
  refine wpAnyH_take (i := 19) (v := ?_) rfl (by kernel_rfl) (by kernel_rfl) (by kernel_rfl) (fun _ _ _ h => h) (Or.inl ⟨by rfl, ?_⟩) (by assumption) ?_
  rotate_left
  · (intro w hSw; (try dsimp only at hSw); go_simp; (try with_reducible rfl))
  try simp only [Act.put, List.getElem_toArray, List.getElem_cons_zero, List.getElem_cons_succ, List.setIfInBounds_toArray, List.set_cons_zero, List.set_cons_succ]
  refine wpAnyH_take (i := 20) (v := ?_) rfl (by kernel_rfl) (by kernel_rfl) (by kernel_rfl) (fun _ _ _ h => h) (Or.inl ⟨by rfl, ?_⟩) (by assumption) ?_
  rotate_left
  · (intro w hSw; (try dsimp only at hSw); go_simp; (try with_reducible rfl))
  try simp only [Act.put, List.getElem_toArray, List.getElem_cons_zero, List.getElem_cons_succ, List.setIfInBounds_toArray, List.set_cons_zero, List.set_cons_succ]
  refine wpAnyH_ready (rs := [15]) (by kernel_rfl) (by simp) ?_
  refine AllReadyH.cons rfl (fun K hK => ?_) AllReadyH.nil
  rw [if_pos (by rfl)]
  go_simp
  refine (add' _ ls lo hi _ (by omega) Cs.out h0 hhi Rs.out).mono ?_
  rintro e A11 ⟨vd, ld, rfl, c, m, h, r, bl⟩
  have Cd := Lib.hid c
  have Md := Lib.hid m
  have Nd := Lib.hid h
  have Rd := Lib.hid r
  clear c m h r
  refine hK.out _ _ ?_ (fun hHeld => ?_)
  · exact ⟨cell_next bl hHeld.1, cell_next bl hHeld.2.1, Rs.out.go bl, Ru.out.go bl, next HB.out bl⟩
  clear hK K
  clear bl HB Rs Ru
  have HH := Lib.hid hHeld
  obtain ⟨q1, q2, rs, ru, hbw⟩ := hHeld
  have Rs := Lib.hid rs
  have Ru := Lib.hid ru
  have HB := Lib.hid hbw
  clear hbw q1 q2 rs ru
  have hHeld := HH.out
  clear HH
  try simp only [Act.put, List.getElem_toArray, List.getElem_cons_zero, List.getElem_cons_succ, List.setIfInBounds_toArray, List.set_cons_zero, List.set_cons_succ]
  have hd := Nd.out
  obtain ⟨zd, hzd⟩ : ∃ c, size ld = c := ⟨_, rfl⟩
  refine wpAnyH_ready (rs := [16]) (by kernel_rfl) (by simp) ?_
  refine AllReadyH.cons rfl (fun K hK => ?_) AllReadyH.nil
  rw [if_pos (by rfl)]
  go_simp
  refine (count' _ ld _ (by omega) Cd.out Rd.out).mono ?_
  rintro e A12 ⟨rfl, bl⟩
  rw [hzd]
  refine hK.out _ _ ?_ (fun hHeld => ?_)
  · exact ⟨cell_next bl hHeld.1, cell_next bl hHeld.2.1, Rs.out.go bl, Ru.out.go bl, next HB.out bl⟩
  clear hK K
  replace Rd := Lib.hid (Rd.out.go bl)
  clear bl HB Rs Ru
  have HH := Lib.hid hHeld
  obtain ⟨q1, q2, rs, ru, hbw⟩ := hHeld
  have Rs := Lib.hid rs
  have Ru := Lib.hid ru
  have HB := Lib.hid hbw
  clear hbw q1 q2 rs ru
  have hHeld := HH.out
  clear HH
  try simp only [Act.put, List.getElem_toArray, List.getElem_cons_zero, List.getElem_cons_succ, List.setIfInBounds_toArray, List.set_cons_zero, List.set_cons_succ]
  clear Rd
  refine wpAnyH_ready (rs := [18]) (by kernel_rfl) (by simp) ?_
  refine AllReadyH.cons rfl (fun K hK => ?_) AllReadyH.nil
  rw [if_pos (by rfl)]
  go_simp
  refine (count' _ ls _ (by omega) Cs.out Rs.out).mono ?_
  rintro e A13 ⟨rfl, bl⟩
  rw [hzs]
  refine hK.out _ _ ?_ (fun hHeld => ?_)
  · exact ⟨cell_next bl hHeld.1, cell_next bl hHeld.2.1, Rs.out.go bl, Ru.out.go bl, next HB.out bl⟩
  clear hK K
  clear bl HB Rs Ru
  have HH := Lib.hid hHeld
  obtain ⟨q1, q2, rs, ru, hbw⟩ := hHeld
  have Rs := Lib.hid rs
  have Ru := Lib.hid ru
  have HB := Lib.hid hbw
  clear hbw q1 q2 rs ru
  have hHeld := HH.out
  clear HH
  try simp only [Act.put, List.getElem_toArray, List.getElem_cons_zero, List.getElem_cons_succ, List.setIfInBounds_toArray, List.set_cons_zero, List.set_cons_succ]
  refine wpAnyH_ready (rs := [21]) (by kernel_rfl) (by simp) ?_
  refine AllReadyH.cons rfl (fun K hK => ?_) AllReadyH.nil
  rw [if_pos (by rfl)]
  go_simp
  refine (gaps' _ ls lo hi _ (by omega) Cs.out h0 hhi Rs.out).mono ?_
  rintro e A14 ⟨vg2, lg2, rfl, c, m, h, r, bl⟩
  have Cg2 := Lib.hid c
  have Mg2 := Lib.hid m
  have Ng2 := Lib.hid h
  have Rg2 := Lib.hid r
  clear c m h r
  refine hK.out _ _ ?_ (fun hHeld => ?_)
  · exact ⟨cell_next bl hHeld.1, cell_next bl hHeld.2.1, Rs.out.go bl, Ru.out.go bl, next HB.out bl⟩
  clear hK K
  clear bl HB Rs Ru
  have HH := Lib.hid hHeld
  obtain ⟨q1, q2, rs, ru, hbw⟩ := hHeld
  have Rs := Lib.hid rs
  have Ru := Lib.hid ru
  have HB := Lib.hid hbw
  clear hbw q1 q2 rs ru
  have hHeld := HH.out
  clear HH
  try simp only [Act.put, List.getElem_toArray, List.getElem_cons_zero, List.getElem_cons_succ, List.setIfInBounds_toArray, List.set_cons_zero, List.set_cons_succ]
  have hg2 := Ng2.out
  obtain ⟨zg2, hzg2⟩ : ∃ c, size lg2 = c := ⟨_, rfl⟩
  refine wpAnyH_ready (rs := [22]) (by kernel_rfl) (by simp) ?_
  refine AllReadyH.cons rfl (fun K hK => ?_) AllReadyH.nil
  rw [if_pos (by rfl)]
  go_simp
  refine (count' _ lg2 _ (by omega) Cg2.out Rg2.out).mono ?_
  rintro e A15 ⟨rfl, bl⟩
  rw [hzg2]
  refine hK.out _ _ ?_ (fun hHeld => ?_)
  · exact ⟨cell_next bl hHeld.1, cell_next bl hHeld.2.1, Rs.out.go bl, Ru.out.go bl, next HB.out bl⟩
  clear hK K
  replace Rg2 := Lib.hid (Rg2.out.go bl)
  clear bl HB Rs Ru
  have HH := Lib.hid hHeld
  obtain ⟨q1, q2, rs, ru, hbw⟩ := hHeld
  have Rs := Lib.hid rs
  have Ru := Lib.hid ru
  have HB := Lib.hid hbw
  clear hbw q1 q2 rs ru
  have hHeld := HH.out
  clear HH
  try simp only [Act.put, List.getElem_toArray, List.getElem_cons_zero, List.getElem_cons_succ, List.setIfInBounds_toArray, List.set_cons_zero, List.set_cons_succ]
  clear Rg2
  have bd := size_can Cd.out
  rw [hzd] at bd
  have e2 : zd = zs + zg2 := by rw [← hzd, ← hzs, ← hzg2]; exact size_union Cd.out Cs.out Cg2.out (fun n => by rw [Md.out, Mg2.out]; by_cases h : mem ls n <;> simp [h]) (fun n h k => ((Mg2.out n).1 k).2 h)
  have w2 : IntKind.u64.wrap (zs + zg2) = zd := by rw [e2]; exact wr (by omega) (by omega)
  refine wpAnyH_take (i := 23) (v := ?_) rfl (by kernel_rfl) (by kernel_rfl) (by kernel_rfl) (fun _ _ _ h => h) (Or.inl ⟨by rfl, ?_⟩) (by assumption) ?_
  rotate_left
  · (intro w hSw; (try dsimp only at hSw); go_simp; (try with_reducible rfl))
  try simp only [Act.put, List.getElem_toArray, List.getElem_cons_zero, List.getElem_cons_succ, List.setIfInBounds_toArray, List.set_cons_zero, List.set_cons_succ]
  refine wpAnyH_take (i := 24) (v := ?_) rfl (by kernel_rfl) (by kernel_rfl) (by kernel_rfl) (fun _ _ _ h => h) (Or.inl ⟨by rfl, ?_⟩) (by assumption) ?_
  rotate_left
  · (intro w hSw; (try dsimp only at hSw); go_simp; (try with_reducible rfl))
  try simp only [Act.put, List.getElem_toArray, List.getElem_cons_zero, List.getElem_cons_succ, List.setIfInBounds_toArray, List.set_cons_zero, List.set_cons_succ]
  refine wpAnyH_take (i := 25) (v := ?_) rfl (by kernel_rfl) (by kernel_rfl) (by kernel_rfl) (fun _ _ _ h => h) (Or.inl ⟨by rfl, ?_⟩) (by assumption) ?_
  rotate_left
  · (intro w hSw; (try dsimp only at hSw); go_simp; (try with_reducible rfl))
  try simp only [Act.put, List.getElem_toArray, List.getElem_cons_zero, List.getElem_cons_succ, List.setIfInBounds_toArray, List.set_cons_zero, List.set_cons_succ]
  refine wpAnyH_take (i := 26) (v := ?_) rfl (by kernel_rfl) (by kernel_rfl) (by kernel_rfl) (fun _ _ _ h => h) (Or.inl ⟨by rfl, ?_⟩) (by assumption) ?_
  rotate_left
  · (intro w hSw; (try dsimp only at hSw); go_simp; (try with_reducible rfl))
  try simp only [Act.put, List.getElem_toArray, List.getElem_cons_zero, List.getElem_cons_succ, List.setIfInBounds_toArray, List.set_cons_zero, List.set_cons_succ]
  refine wpAnyH_take (i := 27) (v := ?_) rfl (by kernel_rfl) (by kernel_rfl) (by kernel_rfl) (fun _ _ _ h => h) (Or.inl ⟨by rfl, ?_⟩) (by assumption) ?_
  rotate_left
  · (intro w hSw; (try dsimp only at hSw); go_simp; (try with_reducible rfl))
  try simp only [Act.put, List.getElem_toArray, List.getElem_cons_zero, List.getElem_cons_succ, List.setIfInBounds_toArray, List.set_cons_zero, List.set_cons_succ]
  refine wpAnyH_take (i := 28) (v := ?_) rfl (by kernel_rfl) (by kernel_rfl) (by kernel_rfl) (fun _ _ _ h => h) (Or.inl ⟨by rfl, ?_⟩) (by assumption) ?_
  rotate_left
  · (intro w hSw; (try dsimp only at hSw); go_simp; (try with_reducible rfl))
  try simp only [Act.put, List.getElem_toArray, List.getElem_cons_zero, List.getElem_cons_succ, List.setIfInBounds_toArray, List.set_cons_zero, List.set_cons_succ]
  refine wpAnyH_take (i := 31) (v := ?_) rfl (by kernel_rfl) (by kernel_rfl) (by kernel_rfl) (fun _ _ _ h => h) (Or.inl ⟨by rfl, ?_⟩) (by assumption) ?_
  rotate_left
  · (intro w hSw; (try dsimp only at hSw); go_simp; (try with_reducible rfl))
  try simp only [Act.put, List.getElem_toArray, List.getElem_cons_zero, List.getElem_cons_succ, List.setIfInBounds_toArray, List.set_cons_zero, List.set_cons_succ]
  refine wpAnyH_take (i := 32) (v := ?_) rfl (by kernel_rfl) (by kernel_rfl) (by kernel_rfl) (fun _ _ _ h => h) (Or.inl ⟨by rfl, ?_⟩) (by assumption) ?_
  rotate_left
  · (intro w hSw; (try dsimp only at hSw); go_simp; (try with_reducible rfl))
  try simp only [Act.put, List.getElem_toArray, List.getElem_cons_zero, List.getElem_cons_succ, List.setIfInBounds_toArray, List.set_cons_zero, List.set_cons_succ]
  refine wpAnyH_take (i := 36) (v := ?_) rfl (by kernel_rfl) (by kernel_rfl) (by kernel_rfl) (fun _ _ _ h => h) (Or.inl ⟨by rfl, ?_⟩) (by assumption) ?_
  rotate_left
  · (intro w hSw; (try dsimp only at hSw); go_simp; (try with_reducible rfl))
  try simp only [Act.put, List.getElem_toArray, List.getElem_cons_zero, List.getElem_cons_succ, List.setIfInBounds_toArray, List.set_cons_zero, List.set_cons_succ]
  refine wpAnyH_ready (rs := [29]) (by kernel_rfl) (by simp) ?_
  refine AllReadyH.cons rfl (fun K hK => ?_) AllReadyH.nil
  rw [if_pos (by rfl)]
  go_simp
  refine (cut' _ ls lo hi _ (by omega) Cs.out h0 hhi Rs.out).mono ?_
  rintro e A16 ⟨vc, lc, rfl, c, m, h, r, bl⟩
  have Cc := Lib.hid c
  have Mc := Lib.hid m
  have Nc := Lib.hid h
  have Rc := Lib.hid r
  clear c m h r
  refine hK.out _ _ ?_ (fun hHeld => ?_)
  · exact ⟨cell_next bl hHeld.1, cell_next bl hHeld.2.1, Rs.out.go bl, Ru.out.go bl, next HB.out bl⟩
  clear hK K
  clear bl HB Rs Ru
  have HH := Lib.hid hHeld
  obtain ⟨q1, q2, rs, ru, hbw⟩ := hHeld
  have Rs := Lib.hid rs
  have Ru := Lib.hid ru
  have HB := Lib.hid hbw
  clear hbw q1 q2 rs ru
  have hHeld := HH.out
  clear HH
  try simp only [Act.put, List.getElem_toArray, List.getElem_cons_zero, List.getElem_cons_succ, List.setIfInBounds_toArray, List.set_cons_zero, List.set_cons_succ]
  have hc := Nc.out
  obtain ⟨zc, hzc⟩ : ∃ c, size lc = c := ⟨_, rfl⟩
  refine wpAnyH_ready (rs := [30]) (by kernel_rfl) (by simp) ?_
  refine AllReadyH.cons rfl (fun K hK => ?_) AllReadyH.nil
  rw [if_pos (by rfl)]
  go_simp
  refine (count' _ lc _ (by omega) Cc.out Rc.out).mono ?_
  rintro e A17 ⟨rfl, bl⟩
  rw [hzc]
  refine hK.out _ _ ?_ (fun hHeld => ?_)
  · exact ⟨cell_next bl hHeld.1, cell_next bl hHeld.2.1, Rs.out.go bl, Ru.out.go bl, next HB.out bl⟩
  clear hK K
  replace Rc := Lib.hid (Rc.out.go bl)
  clear bl HB Rs Ru
  have HH := Lib.hid hHeld
  obtain ⟨q1, q2, rs, ru, hbw⟩ := hHeld
  have Rs := Lib.hid rs
  have Ru := Lib.hid ru
  have HB := Lib.hid hbw
  clear hbw q1 q2 rs ru
  have hHeld := HH.out
  clear HH
  try simp only [Act.put, List.getElem_toArray, List.getElem_cons_zero, List.getElem_cons_succ, List.setIfInBounds_toArray, List.set_cons_zero, List.set_cons_succ]
  clear Rc
  refine wpAnyH_ready (rs := [33]) (by kernel_rfl) (by simp) ?_
  refine AllReadyH.cons rfl (fun K hK => ?_) AllReadyH.nil
  rw [if_pos (by rfl)]
  go_simp
  refine (meet' _ _ ls lu _ (by omega) Cs.out (by omega) Cu.out Rs.out Ru.out).mono ?_
  rintro e A18 ⟨vm2, lm2, rfl, c, m, h, r, bl⟩
  have Cm2 := Lib.hid c
  have Mm2 := Lib.hid m
  have Nm2 := Lib.hid h
  have Rm2 := Lib.hid r
  clear c m h r
  refine hK.out _ _ ?_ (fun hHeld => ?_)
  · exact ⟨cell_next bl hHeld.1, cell_next bl hHeld.2.1, Rs.out.go bl, Ru.out.go bl, next HB.out bl⟩
  clear hK K
  clear bl HB Rs Ru
  have HH := Lib.hid hHeld
  obtain ⟨q1, q2, rs, ru, hbw⟩ := hHeld
  have Rs := Lib.hid rs
  have Ru := Lib.hid ru
  have HB := Lib.hid hbw
  clear hbw q1 q2 rs ru
  have hHeld := HH.out
  clear HH
  try simp only [Act.put, List.getElem_toArray, List.getElem_cons_zero, List.getElem_cons_succ, List.setIfInBounds_toArray, List.set_cons_zero, List.set_cons_succ]
  have hm2 := Nm2.out
  obtain ⟨zm2, hzm2⟩ : ∃ c, size lm2 = c := ⟨_, rfl⟩
  refine wpAnyH_ready (rs := [34]) (by kernel_rfl) (by simp) ?_
  refine AllReadyH.cons rfl (fun K hK => ?_) AllReadyH.nil
  rw [if_pos (by rfl)]
  go_simp
  refine (count' _ lm2 _ (by omega) Cm2.out Rm2.out).mono ?_
  rintro e A19 ⟨rfl, bl⟩
  rw [hzm2]
  refine hK.out _ _ ?_ (fun hHeld => ?_)
  · exact ⟨cell_next bl hHeld.1, cell_next bl hHeld.2.1, Rs.out.go bl, Ru.out.go bl, next HB.out bl⟩
  clear hK K
  replace Rm2 := Lib.hid (Rm2.out.go bl)
  clear bl HB Rs Ru
  have HH := Lib.hid hHeld
  obtain ⟨q1, q2, rs, ru, hbw⟩ := hHeld
  have Rs := Lib.hid rs
  have Ru := Lib.hid ru
  have HB := Lib.hid hbw
  clear hbw q1 q2 rs ru
  have hHeld := HH.out
  clear HH
  try simp only [Act.put, List.getElem_toArray, List.getElem_cons_zero, List.getElem_cons_succ, List.setIfInBounds_toArray, List.set_cons_zero, List.set_cons_succ]
  clear Rm2
  have bs := size_can Cs.out
  rw [hzs] at bs
  have e3 : zs = zc + zm2 := by rw [← hzs, ← hzc, ← hzm2]; exact size_union Cs.out Cc.out Cm2.out (fun n => by have i1 := Mu.out n; have i2 := Mc.out n; have i3 := Mm2.out n; simp only at i2 i3; rw [i2, i3, i1]; by_cases h : mem ls n <;> by_cases k : inn (lo, hi) n <;> simp [h, k]) (fun n h k => ((Mc.out n).1 h).2 ((Mu.out n).1 ((Mm2.out n).1 k).2))
  have w3 : IntKind.u64.wrap (zc + zm2) = zs := by rw [e3]; exact wr (by omega) (by omega)
  refine wpAnyH_take (i := 35) (v := ?_) rfl (by kernel_rfl) (by kernel_rfl) (by kernel_rfl) (fun _ _ _ h => h) (Or.inl ⟨by rfl, ?_⟩) (by assumption) ?_
  rotate_left
  · (intro w hSw; (try dsimp only at hSw); go_simp; (try with_reducible rfl))
  try simp only [Act.put, List.getElem_toArray, List.getElem_cons_zero, List.getElem_cons_succ, List.setIfInBounds_toArray, List.set_cons_zero, List.set_cons_succ]
  refine wpAnyH_ready (rs := [37]) (by kernel_rfl) (by simp) ?_
  refine AllReadyH.cons rfl (fun K hK => ?_) AllReadyH.nil
  rw [if_pos (by rfl)]
  go_simp
  refine (count' _ ls _ (by omega) Cs.out Rs.out).mono ?_
  rintro e A20 ⟨rfl, bl⟩
  rw [hzs]
  refine hK.out _ _ ?_ (fun hHeld => ?_)
  · exact ⟨cell_next bl hHeld.1, cell_next bl hHeld.2.1, Rs.out.go bl, Ru.out.go bl, next HB.out bl⟩
  clear hK K
  clear bl HB Rs Ru
  have HH := Lib.hid hHeld
  obtain ⟨q1, q2, rs, ru, hbw⟩ := hHeld
  have Rs := Lib.hid rs
  have Ru := Lib.hid ru
  have HB := Lib.hid hbw
  clear hbw q1 q2 rs ru
  have hHeld := HH.out
  clear HH
  try simp only [Act.put, List.getElem_toArray, List.getElem_cons_zero, List.getElem_cons_succ, List.setIfInBounds_toArray, List.set_cons_zero, List.set_cons_succ]
  refine wpAnyH_take (i := 38) (v := ?_) rfl (by kernel_rfl) (by kernel_rfl) (by kernel_rfl) (fun _ _ _ h => h) (Or.inl ⟨by rfl, ?_⟩) (by assumption) ?_
  rotate_left
  · (intro w hSw; (try dsimp only at hSw); go_simp; (try with_reducible rfl))
  try simp only [Act.put, List.getElem_toArray, List.getElem_cons_zero, List.getElem_cons_succ, List.setIfInBounds_toArray, List.set_cons_zero, List.set_cons_succ]
  refine wpAnyH_take (i := 39) (v := ?_) rfl (by kernel_rfl) (by kernel_rfl) (by kernel_rfl) (fun _ _ _ h => h) (Or.inl ⟨by rfl, ?_⟩) (by assumption) ?_
  rotate_left
  · (intro w hSw; (try dsimp only at hSw); go_simp; (try with_reducible rfl))
  try simp only [Act.put, List.getElem_toArray, List.getElem_cons_zero, List.getElem_cons_succ, List.setIfInBounds_toArray, List.set_cons_zero, List.set_cons_succ]
  refine wpAnyH_take (i := 40) (v := ?_) rfl (by kernel_rfl) (by kernel_rfl) (by kernel_rfl) (fun _ _ _ h => h) (Or.inl ⟨by rfl, ?_⟩) (by assumption) ?_
  rotate_left
  · (intro w hSw; (try dsimp only at hSw); go_simp; (try with_reducible rfl))
  try simp only [Act.put, List.getElem_toArray, List.getElem_cons_zero, List.getElem_cons_succ, List.setIfInBounds_toArray, List.set_cons_zero, List.set_cons_succ]
  refine wpAnyH_done (by kernel_rfl) (NoPanic.normal ?_) _
  go_wp2
  go_ret
  exact ⟨rfl, HB.out⟩
theorem law_counts (a : Option Addr) (n cap : Nat) (la : List Ran) (lo hi : Int) (w : World) (hn : la.length = n) (hm : n ≤ maxLen) (r : Rd w (.slice a n cap) la) (u : Nums la) (w0 : (Lit.int .u64 lo).wf = true) (w1 : (Lit.int .u64 hi).wf = true) :
    Calls Try.prog 6 #[.slice a n cap, .agg #[.int .u64 lo, .int .u64 hi]] w fun e w' => e = .returned (.bool true) ∧ Below w.heap.size w w' := by
  have h0 := (bounds_u64 w0).1
  have h1 := (bounds_u64 w1).1
  rcases lowB_or la with ga | ga
  · rcases lowB_or [(lo, hi)] with g0 | g0
    · exact counts_core _ la lo hi w (by omega) r u h0 h1 ga g0
    · exact RangesCounts_no1 _ la lo hi w (by omega) r u h0 h1 ga g0
  · exact RangesCounts_no0 _ la lo hi w (by omega) r u h0 h1 ga
end Go.Proofs.Ytbapbkhbkpeofaa.Rg
