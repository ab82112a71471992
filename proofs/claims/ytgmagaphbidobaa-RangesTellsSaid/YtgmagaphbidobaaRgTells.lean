/- The walk of the law RangesTells. -/
import Derived.Test.YtgmagaphbidobaaRgH
import Derived.Test.YtgmagaphbidobaaRgK
import Derived.OpenShut
import Derived.Test.YtgmagaphbidobaaRgX
import Derived.Deep.RegionHeld3
namespace Go.Proofs.Ytgmagaphbidobaa.Rg
open Go.RowKit Go.Shelf
set_option linter.unusedVariables false
set_option linter.unusedSimpArgs false
set_option maxHeartbeats 2000000 in
theorem RangesTells_no0 (va vb : Value) (la lb : List Ran) (lo hi y : Int) (w : World) (ma : la.length ≤ maxLen) (ra : Rd w va la) (ua : Nums la) (mb : lb.length ≤ maxLen) (rb : Rd w vb lb) (ub : Nums lb) (h0 : 0 ≤ lo) (h1 : 0 ≤ hi) (hy0 : 0 ≤ y) (ga : lowB la = false) :
    Calls Try.prog 3 #[va, vb, .agg #[.int .u64 lo, .int .u64 hi], .int .u64 y] w fun e w' => e = .returned (.bool true) ∧ Below w.heap.size w w' := by
  have Ra := Lib.hid ra
  have Rb := Lib.hid rb
  clear ra rb
  have q1 : (w.alloc (.cells #[.int .u64 lo, .int .u64 hi] 25)).cell? ⟨w.heap.size, 0, none⟩ = some (.int .u64 lo) := by simp [go_sem]
  have q2 : (w.alloc (.cells #[.int .u64 lo, .int .u64 hi] 25)).cell? ⟨w.heap.size, 1, none⟩ = some (.int .u64 hi) := by simp [go_sem]
  have HB := Lib.hid (made w (.cells #[.int .u64 lo, .int .u64 hi] 25))
  replace Ra := Lib.hid (Ra.out.go (made w (.cells #[.int .u64 lo, .int .u64 hi] 25)))
  replace Rb := Lib.hid (Rb.out.go (made w (.cells #[.int .u64 lo, .int .u64 hi] 25)))
  go_enter Try.func3, Try.ntmps3
  go_wp2_with fail
  refine (low_any _ la _ (by omega) Ra.out).mono ?_
  rintro e A1 ⟨rfl, bl⟩
  replace HB := Lib.hid (next HB.out bl)
  replace Ra := Lib.hid (Ra.out.go bl)
  replace Rb := Lib.hid (Rb.out.go bl)
  replace q1 := cell_next bl q1
  replace q2 := cell_next bl q2
  clear bl
  rw [ga]
  go_wp2_with fail
  refine (shown_any _).mono ?_
  rintro e A2 ⟨rfl, bl⟩
  replace HB := Lib.hid (next HB.out bl)
  replace Ra := Lib.hid (Ra.out.go bl)
  replace Rb := Lib.hid (Rb.out.go bl)
  replace q1 := cell_next bl q1
  replace q2 := cell_next bl q2
  clear bl
  go_wp2
  go_ret
  exact ⟨rfl, HB.out⟩
set_option maxHeartbeats 2000000 in
theorem RangesTells_no1 (va vb : Value) (la lb : List Ran) (lo hi y : Int) (w : World) (ma : la.length ≤ maxLen) (ra : Rd w va la) (ua : Nums la) (mb : lb.length ≤ maxLen) (rb : Rd w vb lb) (ub : Nums lb) (h0 : 0 ≤ lo) (h1 : 0 ≤ hi) (hy0 : 0 ≤ y) (ga : lowB la = true) (gb : lowB lb = false) :
    Calls Try.prog 3 #[va, vb, .agg #[.int .u64 lo, .int .u64 hi], .int .u64 y] w fun e w' => e = .returned (.bool true) ∧ Below w.heap.size w w' := by
  have Ra := Lib.hid ra
  have Rb := Lib.hid rb
  clear ra rb
  have q1 : (w.alloc (.cells #[.int .u64 lo, .int .u64 hi] 25)).cell? ⟨w.heap.size, 0, none⟩ = some (.int .u64 lo) := by simp [go_sem]
  have q2 : (w.alloc (.cells #[.int .u64 lo, .int .u64 hi] 25)).cell? ⟨w.heap.size, 1, none⟩ = some (.int .u64 hi) := by simp [go_sem]
  have HB := Lib.hid (made w (.cells #[.int .u64 lo, .int .u64 hi] 25))
  replace Ra := Lib.hid (Ra.out.go (made w (.cells #[.int .u64 lo, .int .u64 hi] 25)))
  replace Rb := Lib.hid (Rb.out.go (made w (.cells #[.int .u64 lo, .int .u64 hi] 25)))
  go_enter Try.func3, Try.ntmps3
  go_wp2_with fail
  refine (low_any _ la _ (by omega) Ra.out).mono ?_
  rintro e A1 ⟨rfl, bl⟩
  replace HB := Lib.hid (next HB.out bl)
  replace Ra := Lib.hid (Ra.out.go bl)
  replace Rb := Lib.hid (Rb.out.go bl)
  replace q1 := cell_next bl q1
  replace q2 := cell_next bl q2
  clear bl
  rw [ga]
  go_wp2_with fail
  refine (low_any _ lb _ (by omega) Rb.out).mono ?_
  rintro e A2 ⟨rfl, bl⟩
  replace HB := Lib.hid (next HB.out bl)
  replace Ra := Lib.hid (Ra.out.go bl)
  replace Rb := Lib.hid (Rb.out.go bl)
  replace q1 := cell_next bl q1
  replace q2 := cell_next bl q2
  clear bl
  rw [gb]
  go_wp2_with fail
  refine (shown_any _).mono ?_
  rintro e A3 ⟨rfl, bl⟩
  replace HB := Lib.hid (next HB.out bl)
  replace Ra := Lib.hid (Ra.out.go bl)
  replace Rb := Lib.hid (Rb.out.go bl)
  replace q1 := cell_next bl q1
  replace q2 := cell_next bl q2
  clear bl
  go_wp2
  go_ret
  exact ⟨rfl, HB.out⟩
set_option maxHeartbeats 2000000 in
theorem RangesTells_no2 (va vb : Value) (la lb : List Ran) (lo hi y : Int) (w : World) (ma : la.length ≤ maxLen) (ra : Rd w va la) (ua : Nums la) (mb : lb.length ≤ maxLen) (rb : Rd w vb lb) (ub : Nums lb) (h0 : 0 ≤ lo) (h1 : 0 ≤ hi) (hy0 : 0 ≤ y) (ga : lowB la = true) (gb : lowB lb = true) (g0 : lowB [(lo, hi)] = false) :
    Calls Try.prog 3 #[va, vb, .agg #[.int .u64 lo, .int .u64 hi], .int .u64 y] w fun e w' => e = .returned (.bool true) ∧ Below w.heap.size w w' := by
  have Ra := Lib.hid ra
  have Rb := Lib.hid rb
  clear ra rb
  have q1 : (w.alloc (.cells #[.int .u64 lo, .int .u64 hi] 25)).cell? ⟨w.heap.size, 0, none⟩ = some (.int .u64 lo) := by simp [go_sem]
  have q2 : (w.alloc (.cells #[.int .u64 lo, .int .u64 hi] 25)).cell? ⟨w.heap.size, 1, none⟩ = some (.int .u64 hi) := by simp [go_sem]
  have HB := Lib.hid (made w (.cells #[.int .u64 lo, .int .u64 hi] 25))
  replace Ra := Lib.hid (Ra.out.go (made w (.cells #[.int .u64 lo, .int .u64 hi] 25)))
  replace Rb := Lib.hid (Rb.out.go (made w (.cells #[.int .u64 lo, .int .u64 hi] 25)))
  go_enter Try.func3, Try.ntmps3
  go_wp2_with fail
  refine (low_any _ la _ (by omega) Ra.out).mono ?_
  rintro e A1 ⟨rfl, bl⟩
  replace HB := Lib.hid (next HB.out bl)
  replace Ra := Lib.hid (Ra.out.go bl)
  replace Rb := Lib.hid (Rb.out.go bl)
  replace q1 := cell_next bl q1
  replace q2 := cell_next bl q2
  clear bl
  rw [ga]
  go_wp2_with fail
  refine (low_any _ lb _ (by omega) Rb.out).mono ?_
  rintro e A2 ⟨rfl, bl⟩
  replace HB := Lib.hid (next HB.out bl)
  replace Ra := Lib.hid (Ra.out.go bl)
  replace Rb := Lib.hid (Rb.out.go bl)
  replace q1 := cell_next bl q1
  replace q2 := cell_next bl q2
  clear bl
  rw [gb]
  go_wp2_with fail
  refine (low_any _ [(lo, hi)] _ (by simp [maxLen]) (rd_made _ lo hi)).mono ?_
  rintro e A3 ⟨rfl, bl⟩
  replace bl := next (made _ _) bl
  replace HB := Lib.hid (next HB.out bl)
  replace Ra := Lib.hid (Ra.out.go bl)
  replace Rb := Lib.hid (Rb.out.go bl)
  replace q1 := cell_next bl q1
  replace q2 := cell_next bl q2
  clear bl
  rw [g0]
  go_wp2_with fail
  refine (shown_any _).mono ?_
  rintro e A4 ⟨rfl, bl⟩
  replace HB := Lib.hid (next HB.out bl)
  replace Ra := Lib.hid (Ra.out.go bl)
  replace Rb := Lib.hid (Rb.out.go bl)
  replace q1 := cell_next bl q1
  replace q2 := cell_next bl q2
  clear bl
  go_wp2
  go_ret
  exact ⟨rfl, HB.out⟩
set_option maxHeartbeats 200000000 in
theorem tells_core (va vb : Value) (la lb : List Ran) (lo hi y : Int) (w : World) (ma : la.length ≤ maxLen) (ra : Rd w va la) (ua : Nums la) (mb : lb.length ≤ maxLen) (rb : Rd w vb lb) (ub : Nums lb) (h0 : 0 ≤ lo) (h1 : 0 ≤ hi) (hy0 : 0 ≤ y) (ga : lowB la = true) (gb : lowB lb = true) (g0 : lowB [(lo, hi)] = true) :
    Calls Try.prog 3 #[va, vb, .agg #[.int .u64 lo, .int .u64 hi], .int .u64 y] w fun e w' => e = .returned (.bool true) ∧ Below w.heap.size w w' := by
  have hga : la.length ≤ 40 ∧ ∀ x ∈ la, 0 ≤ x.1 ∧ x.2 < 9223372036854775808 := ⟨(lowB_of ga).1, fun x hx => ⟨(ua x hx).1.1, ((lowB_of ga).2 x hx).2⟩⟩
  have hla := hga.1
  have GA := Lib.hid hga.2
  have hua := Lib.hid ua
  clear hga ua
  have hgb : lb.length ≤ 40 ∧ ∀ x ∈ lb, 0 ≤ x.1 ∧ x.2 < 9223372036854775808 := ⟨(lowB_of gb).1, fun x hx => ⟨(ub x hx).1.1, ((lowB_of gb).2 x hx).2⟩⟩
  have hlb := hgb.1
  have GB := Lib.hid hgb.2
  have hub := Lib.hid ub
  clear hgb ub
  have hlo := (low_can g0).1
  have hhi := (low_can g0).2
  have hua2 : Hid (∀ x ∈ la, 0 ≤ x.1 ∧ 0 ≤ x.2) := Lib.hid (fun x hx => ⟨(hua.out x hx).1.1, (hua.out x hx).2.1⟩)
  have Ra := Lib.hid ra
  have Rb := Lib.hid rb
  clear ra rb
  have q1 : (w.alloc (.cells #[.int .u64 lo, .int .u64 hi] 25)).cell? ⟨w.heap.size, 0, none⟩ = some (.int .u64 lo) := by simp [go_sem]
  have q2 : (w.alloc (.cells #[.int .u64 lo, .int .u64 hi] 25)).cell? ⟨w.heap.size, 1, none⟩ = some (.int .u64 hi) := by simp [go_sem]
  have HB := Lib.hid (made w (.cells #[.int .u64 lo, .int .u64 hi] 25))
  replace Ra := Lib.hid (Ra.out.go (made w (.cells #[.int .u64 lo, .int .u64 hi] 25)))
  replace Rb := Lib.hid (Rb.out.go (made w (.cells #[.int .u64 lo, .int .u64 hi] 25)))
  go_enter Try.func3, Try.ntmps3
  go_wp2_with fail
  refine (low_any _ la _ (by omega) Ra.out).mono ?_
  rintro e A1 ⟨rfl, bl⟩
  replace HB := Lib.hid (next HB.out bl)
  replace Ra := Lib.hid (Ra.out.go bl)
  replace Rb := Lib.hid (Rb.out.go bl)
  replace q1 := cell_next bl q1
  replace q2 := cell_next bl q2
  clear bl
  rw [ga]
  go_wp2_with fail
  refine (low_any _ lb _ (by omega) Rb.out).mono ?_
  rintro e A2 ⟨rfl, bl⟩
  replace HB := Lib.hid (next HB.out bl)
  replace Ra := Lib.hid (Ra.out.go bl)
  replace Rb := Lib.hid (Rb.out.go bl)
  replace q1 := cell_next bl q1
  replace q2 := cell_next bl q2
  clear bl
  rw [gb]
  go_wp2_with fail
  refine (low_any _ [(lo, hi)] _ (by simp [maxLen]) (rd_made _ lo hi)).mono ?_
  rintro e A3 ⟨rfl, bl⟩
  replace bl := next (made _ _) bl
  replace HB := Lib.hid (next HB.out bl)
  replace Ra := Lib.hid (Ra.out.go bl)
  replace Rb := Lib.hid (Rb.out.go bl)
  replace q1 := cell_next bl q1
  replace q2 := cell_next bl q2
  clear bl
  rw [g0]
  go_wp2_with fail
  refine (shown_any _).mono ?_
  rintro e A4 ⟨rfl, bl⟩
  replace HB := Lib.hid (next HB.out bl)
  replace Ra := Lib.hid (Ra.out.go bl)
  replace Rb := Lib.hid (Rb.out.go bl)
  replace q1 := cell_next bl q1
  replace q2 := cell_next bl q2
  clear bl
  have o1 : (A4.alloc (.cells #[.int .u64 lo, .int .u64 hi] 28)).cell? ⟨A4.heap.size, 0, none⟩ = some (.int .u64 lo) := by simp [go_sem]
  have o2 : (A4.alloc (.cells #[.int .u64 lo, .int .u64 hi] 28)).cell? ⟨A4.heap.size, 1, none⟩ = some (.int .u64 hi) := by simp [go_sem]
  go_wp2_with fail
  refine (of' _ la _ (by omega) GA.out (Ra.out.go (made _ _))).mono ?_
  rintro e A5 ⟨vs, ls, rfl, c, m, h, r, bl⟩
  have p1 := cell_next bl o1
  have p2 := cell_next bl o2
  clear o1 o2
  replace bl := next (made _ _) bl
  replace HB := Lib.hid (next HB.out bl)
  replace Ra := Lib.hid (Ra.out.go bl)
  replace Rb := Lib.hid (Rb.out.go bl)
  replace q1 := cell_next bl q1
  replace q2 := cell_next bl q2
  clear bl
  have Cs := Lib.hid c
  have Ms := Lib.hid m
  have Ns := Lib.hid h
  have Rs := Lib.hid r
  clear c m h r
  have hs := Ns.out
  go_wp2_with fail
  refine (of' _ lb _ (by omega) GB.out Rb.out).mono ?_
  rintro e A6 ⟨vt, lt, rfl, c, m, h, r, bl⟩
  replace HB := Lib.hid (next HB.out bl)
  replace Ra := Lib.hid (Ra.out.go bl)
  replace Rb := Lib.hid (Rb.out.go bl)
  replace Rs := Lib.hid (Rs.out.go bl)
  replace q1 := cell_next bl q1
  replace q2 := cell_next bl q2
  replace p1 := cell_next bl p1
  replace p2 := cell_next bl p2
  clear bl
  have Ct := Lib.hid c
  have Mt := Lib.hid m
  have Nt := Lib.hid h
  have Rt := Lib.hid r
  clear c m h r
  have ht := Nt.out
  go_wp2_with fail
  refine (its_any _ la _ (by omega) Ra.out).mono ?_
  rintro e A7 ⟨vy, rfl, r, bl⟩
  replace HB := Lib.hid (next HB.out bl)
  replace Ra := Lib.hid (Ra.out.go bl)
  replace Rb := Lib.hid (Rb.out.go bl)
  replace Rs := Lib.hid (Rs.out.go bl)
  replace Rt := Lib.hid (Rt.out.go bl)
  replace q1 := cell_next bl q1
  replace q2 := cell_next bl q2
  replace p1 := cell_next bl p1
  replace p2 := cell_next bl p2
  clear bl
  have Ry := Lib.hid r
  clear r
  go_wp2_with fail
  refine (rof' _ la _ (by omega) GA.out Ry.out).mono ?_
  rintro e A8 ⟨vu, lu, rfl, c, m, h, r, bl⟩
  replace HB := Lib.hid (next HB.out bl)
  replace Ra := Lib.hid (Ra.out.go bl)
  replace Rb := Lib.hid (Rb.out.go bl)
  replace Rs := Lib.hid (Rs.out.go bl)
  replace Rt := Lib.hid (Rt.out.go bl)
  replace Ry := Lib.hid (Ry.out.go bl)
  replace q1 := cell_next bl q1
  replace q2 := cell_next bl q2
  replace p1 := cell_next bl p1
  replace p2 := cell_next bl p2
  clear bl
  have Cu := Lib.hid c
  have Mu := Lib.hid m
  have Nu := Lib.hid h
  have Ru := Lib.hid r
  clear c m h r
  clear Ry
  have Eu : lu = ls := can_ext Cu.out Cs.out (fun n => by rw [Mu.out, Ms.out])
  have Ru2 := Ru.out
  rw [Eu] at Ru2
  replace Ru := Lib.hid Ru2
  clear Ru2
  go_wp2_with fail
  refine (its_any _ lb _ (by omega) Rb.out).mono ?_
  rintro e A9 ⟨vy, rfl, r, bl⟩
  replace HB := Lib.hid (next HB.out bl)
  replace Ra := Lib.hid (Ra.out.go bl)
  replace Rb := Lib.hid (Rb.out.go bl)
  replace Rs := Lib.hid (Rs.out.go bl)
  replace Rt := Lib.hid (Rt.out.go bl)
  replace Ru := Lib.hid (Ru.out.go bl)
  replace q1 := cell_next bl q1
  replace q2 := cell_next bl q2
  replace p1 := cell_next bl p1
  replace p2 := cell_next bl p2
  clear bl
  have Ry := Lib.hid r
  clear r
  clear Rb
  go_wp2_with fail
  refine (rof' _ lb _ (by omega) GB.out Ry.out).mono ?_
  rintro e A10 ⟨vv, lv, rfl, c, m, h, r, bl⟩
  replace HB := Lib.hid (next HB.out bl)
  replace Ra := Lib.hid (Ra.out.go bl)
  replace Rs := Lib.hid (Rs.out.go bl)
  replace Rt := Lib.hid (Rt.out.go bl)
  replace Ru := Lib.hid (Ru.out.go bl)
  replace Ry := Lib.hid (Ry.out.go bl)
  replace q1 := cell_next bl q1
  replace q2 := cell_next bl q2
  replace p1 := cell_next bl p1
  replace p2 := cell_next bl p2
  clear bl
  have Cv := Lib.hid c
  have Mv := Lib.hid m
  have Nv := Lib.hid h
  have Rv := Lib.hid r
  clear c m h r
  clear Ry
  have Ev : lv = lt := can_ext Cv.out Ct.out (fun n => by rw [Mv.out, Mt.out])
  have Rv2 := Rv.out
  rw [Ev] at Rv2
  replace Rv := Lib.hid Rv2
  clear Rv2
  obtain ⟨bm, hbm⟩ : ∃ b, mayB la = b := ⟨_, rfl⟩
  obtain ⟨bh, hbh⟩ : ∃ b, hasB ls y = b := ⟨_, rfl⟩
  obtain ⟨zs, hzs⟩ : ∃ c, size ls = c := ⟨_, rfl⟩
  obtain ⟨X, hX⟩ : ∃ X, A4.heap.size = X := ⟨_, rfl⟩
  rw [hX] at p1 p2
  go_wp2_with fail
  try rw [hX]
  clear hX
  refine wp_region_noPanic ?_
  refine wp_region_held_drew (S := fun w' => w'.cell? ⟨w.heap.size, 0, none⟩ = some (.int .u64 lo) ∧ w'.cell? ⟨w.heap.size, 1, none⟩ = some (.int .u64 hi) ∧ w'.cell? ⟨X, 0, none⟩ = some (.int .u64 lo) ∧ w'.cell? ⟨X, 1, none⟩ = some (.int .u64 hi) ∧ Rd w' va la ∧ Rd w' vs ls ∧ Rd w' vt lt ∧ Rd w' vu ls ∧ Rd w' vv lt ∧ Below w.heap.size w w') (by kernel_rfl) ?_ (fun hHeld => ?_)
  · exact ⟨cell_next (below_drew (Below.refl _ _)) q1, cell_next (below_drew (Below.refl _ _)) q2, cell_next (below_drew (Below.refl _ _)) p1, cell_next (below_drew (Below.refl _ _)) p2, Ra.out.go (below_drew (Below.refl _ _)), Rs.out.go (below_drew (Below.refl _ _)), Rt.out.go (below_drew (Below.refl _ _)), Ru.out.go (below_drew (Below.refl _ _)), Rv.out.go (below_drew (Below.refl _ _)), next HB.out (below_drew (Below.refl _ _))⟩
  clear q1 q2 p1 p2 HB Ra Rs Rt Ru Rv
  have HH := Lib.hid hHeld
  obtain ⟨q1, q2, p1, p2, ra, rs, rt, ru, rv, hbw⟩ := hHeld
  have Ra := Lib.hid ra
  have Rs := Lib.hid rs
  have Rt := Lib.hid rt
  have Ru := Lib.hid ru
  have Rv := Lib.hid rv
  have HB := Lib.hid hbw
  clear hbw q1 q2 p1 p2 ra rs rt ru rv
  have hHeld := HH.out
  clear HH
  refine wpAnyH_take (i := 0) (v := ?_) rfl (by kernel_rfl) (by kernel_rfl) (by kernel_rfl) (fun _ _ _ h => h) (Or.inl ⟨by kernel_rfl, ?_⟩) (by assumption) ?_
  rotate_left
  · (intro w hSw; (try dsimp only at hSw); go_simp; (try with_reducible rfl))
  try simp only [Act.put, List.getElem_toArray, List.getElem_cons_zero, List.getElem_cons_succ, List.setIfInBounds_toArray, List.set_cons_zero, List.set_cons_succ]
  refine wpAnyH_take (i := 2) (v := ?_) rfl (by kernel_rfl) (by kernel_rfl) (by kernel_rfl) (fun _ _ _ h => h) (Or.inl ⟨by kernel_rfl, ?_⟩) (by assumption) ?_
  rotate_left
  · (intro w hSw; (try dsimp only at hSw); go_simp; (try with_reducible rfl))
  try simp only [Act.put, List.getElem_toArray, List.getElem_cons_zero, List.getElem_cons_succ, List.setIfInBounds_toArray, List.set_cons_zero, List.set_cons_succ]
  refine wpAnyH_ready (rs := [1]) (by kernel_rfl) (by simp) ?_
  refine AllReadyH.cons rfl (fun K hK => ?_) AllReadyH.nil
  rw [if_pos (by kernel_rfl)]
  go_simp
  refine (its_any _ ls _ (by omega) Rs.out).mono ?_
  rintro e A11 ⟨vy, rfl, r, bl⟩
  have Ry := Lib.hid r
  clear r
  refine hK.out _ _ ?_ (fun hHeld => ?_)
  · exact ⟨cell_next bl hHeld.1, cell_next bl hHeld.2.1, cell_next bl hHeld.2.2.1, cell_next bl hHeld.2.2.2.1, Ra.out.go bl, Rs.out.go bl, Rt.out.go bl, Ru.out.go bl, Rv.out.go bl, next HB.out bl⟩
  clear hK K
  clear bl HB Ra Rs Rt Ru Rv
  have HH := Lib.hid hHeld
  obtain ⟨q1, q2, p1, p2, ra, rs, rt, ru, rv, hbw⟩ := hHeld
  have Ra := Lib.hid ra
  have Rs := Lib.hid rs
  have Rt := Lib.hid rt
  have Ru := Lib.hid ru
  have Rv := Lib.hid rv
  have HB := Lib.hid hbw
  clear hbw q1 q2 p1 p2 ra rs rt ru rv
  have hHeld := HH.out
  clear HH
  try simp only [Act.put, List.getElem_toArray, List.getElem_cons_zero, List.getElem_cons_succ, List.setIfInBounds_toArray, List.set_cons_zero, List.set_cons_succ]
  refine wpAnyH_ready (rs := [3]) (by kernel_rfl) (by simp) ?_
  refine AllReadyH.cons rfl (fun K hK => ?_) AllReadyH.nil
  rw [if_pos (by kernel_rfl)]
  go_simp
  refine (same_any _ _ ls _ (by omega) Ry.out Ru.out).mono ?_
  rintro e A12 ⟨rfl, bl⟩
  refine hK.out _ _ ?_ (fun hHeld => ?_)
  · exact ⟨cell_next bl hHeld.1, cell_next bl hHeld.2.1, cell_next bl hHeld.2.2.1, cell_next bl hHeld.2.2.2.1, Ra.out.go bl, Rs.out.go bl, Rt.out.go bl, Ru.out.go bl, Rv.out.go bl, next HB.out bl⟩
  clear hK K
  replace Ry := Lib.hid (Ry.out.go bl)
  clear bl HB Ra Rs Rt Ru Rv
  have HH := Lib.hid hHeld
  obtain ⟨q1, q2, p1, p2, ra, rs, rt, ru, rv, hbw⟩ := hHeld
  have Ra := Lib.hid ra
  have Rs := Lib.hid rs
  have Rt := Lib.hid rt
  have Ru := Lib.hid ru
  have Rv := Lib.hid rv
  have HB := Lib.hid hbw
  clear hbw q1 q2 p1 p2 ra rs rt ru rv
  have hHeld := HH.out
  clear HH
  try simp only [Act.put, List.getElem_toArray, List.getElem_cons_zero, List.getElem_cons_succ, List.setIfInBounds_toArray, List.set_cons_zero, List.set_cons_succ]
  clear Ry
  refine wpAnyH_take (i := 4) (v := ?_) rfl (by kernel_rfl) (by kernel_rfl) (by kernel_rfl) (fun _ _ _ h => h) (Or.inl ⟨by kernel_rfl, ?_⟩) (by assumption) ?_
  rotate_left
  · (intro w hSw; (try dsimp only at hSw); go_simp; (try with_reducible rfl))
  try simp only [Act.put, List.getElem_toArray, List.getElem_cons_zero, List.getElem_cons_succ, List.setIfInBounds_toArray, List.set_cons_zero, List.set_cons_succ]
  refine wpAnyH_take (i := 5) (v := ?_) rfl (by kernel_rfl) (by kernel_rfl) (by kernel_rfl) (fun _ _ _ h => h) (Or.inl ⟨by kernel_rfl, ?_⟩) (by assumption) ?_
  rotate_left
  · (intro w hSw; (try dsimp only at hSw); go_simp; (try with_reducible rfl))
  try simp only [Act.put, List.getElem_toArray, List.getElem_cons_zero, List.getElem_cons_succ, List.setIfInBounds_toArray, List.set_cons_zero, List.set_cons_succ]
  refine wpAnyH_ready (rs := [6]) (by kernel_rfl) (by simp) ?_
  refine AllReadyH.cons rfl (fun K hK => ?_) AllReadyH.nil
  rw [if_pos (by kernel_rfl)]
  go_simp
  refine (may' _ ls _ (by omega) Cs.out Rs.out).mono ?_
  rintro e A13 ⟨rfl, bl⟩
  refine hK.out _ _ ?_ (fun hHeld => ?_)
  · exact ⟨cell_next bl hHeld.1, cell_next bl hHeld.2.1, cell_next bl hHeld.2.2.1, cell_next bl hHeld.2.2.2.1, Ra.out.go bl, Rs.out.go bl, Rt.out.go bl, Ru.out.go bl, Rv.out.go bl, next HB.out bl⟩
  clear hK K
  clear bl HB Ra Rs Rt Ru Rv
  have HH := Lib.hid hHeld
  obtain ⟨q1, q2, p1, p2, ra, rs, rt, ru, rv, hbw⟩ := hHeld
  have Ra := Lib.hid ra
  have Rs := Lib.hid rs
  have Rt := Lib.hid rt
  have Ru := Lib.hid ru
  have Rv := Lib.hid rv
  have HB := Lib.hid hbw
  clear hbw q1 q2 p1 p2 ra rs rt ru rv
  have hHeld := HH.out
  clear HH
  try simp only [Act.put, List.getElem_toArray, List.getElem_cons_zero, List.getElem_cons_succ, List.setIfInBounds_toArray, List.set_cons_zero, List.set_cons_succ]
  refine wpAnyH_take (i := 7) (v := ?_) rfl (by kernel_rfl) (by kernel_rfl) (by kernel_rfl) (fun _ _ _ h => h) (Or.inl ⟨by kernel_rfl, ?_⟩) (by assumption) ?_
  rotate_left
  · (intro w hSw; (try dsimp only at hSw); go_simp; (try with_reducible rfl))
  try simp only [Act.put, List.getElem_toArray, List.getElem_cons_zero, List.getElem_cons_succ, List.setIfInBounds_toArray, List.set_cons_zero, List.set_cons_succ]
  refine wpAnyH_take (i := 8) (v := ?_) rfl (by kernel_rfl) (by kernel_rfl) (by kernel_rfl) (fun _ _ _ h => h) (Or.inl ⟨by kernel_rfl, ?_⟩) (by assumption) ?_
  rotate_left
  · (intro w hSw; (try dsimp only at hSw); go_simp; (try with_reducible rfl))
  try simp only [Act.put, List.getElem_toArray, List.getElem_cons_zero, List.getElem_cons_succ, List.setIfInBounds_toArray, List.set_cons_zero, List.set_cons_succ]
  refine wpAnyH_take (i := 9) (v := ?_) rfl (by kernel_rfl) (by kernel_rfl) (by kernel_rfl) (fun _ _ _ h => h) (Or.inl ⟨by kernel_rfl, ?_⟩) (by assumption) ?_
  rotate_left
  · (intro w hSw; (try dsimp only at hSw); go_simp; (try with_reducible rfl))
  try simp only [Act.put, List.getElem_toArray, List.getElem_cons_zero, List.getElem_cons_succ, List.setIfInBounds_toArray, List.set_cons_zero, List.set_cons_succ]
  refine wpAnyH_take (i := 11) (v := ?_) rfl (by kernel_rfl) (by kernel_rfl) (by kernel_rfl) (fun _ _ _ h => h) (Or.inl ⟨by kernel_rfl, ?_⟩) (by assumption) ?_
  rotate_left
  · (intro w hSw; (try dsimp only at hSw); go_simp; (try with_reducible rfl))
  try simp only [Act.put, List.getElem_toArray, List.getElem_cons_zero, List.getElem_cons_succ, List.setIfInBounds_toArray, List.set_cons_zero, List.set_cons_succ]
  refine wpAnyH_ready (rs := [10]) (by kernel_rfl) (by simp) ?_
  refine AllReadyH.cons rfl (fun K hK => ?_) AllReadyH.nil
  rw [if_pos (by kernel_rfl)]
  go_simp
  refine (may_any _ la _ (by omega) Ra.out hua2.out).mono ?_
  rintro e A14 ⟨rfl, bl⟩
  rw [hbm]
  refine hK.out _ _ ?_ (fun hHeld => ?_)
  · exact ⟨cell_next bl hHeld.1, cell_next bl hHeld.2.1, cell_next bl hHeld.2.2.1, cell_next bl hHeld.2.2.2.1, Ra.out.go bl, Rs.out.go bl, Rt.out.go bl, Ru.out.go bl, Rv.out.go bl, next HB.out bl⟩
  clear hK K
  clear bl HB Ra Rs Rt Ru Rv
  have HH := Lib.hid hHeld
  obtain ⟨q1, q2, p1, p2, ra, rs, rt, ru, rv, hbw⟩ := hHeld
  have Ra := Lib.hid ra
  have Rs := Lib.hid rs
  have Rt := Lib.hid rt
  have Ru := Lib.hid ru
  have Rv := Lib.hid rv
  have HB := Lib.hid hbw
  clear hbw q1 q2 p1 p2 ra rs rt ru rv
  have hHeld := HH.out
  clear HH
  try simp only [Act.put, List.getElem_toArray, List.getElem_cons_zero, List.getElem_cons_succ, List.setIfInBounds_toArray, List.set_cons_zero, List.set_cons_succ]
  refine wpAnyH_ready (rs := [12]) (by kernel_rfl) (by simp) ?_
  refine AllReadyH.cons rfl (fun K hK => ?_) AllReadyH.nil
  rw [if_pos (by kernel_rfl)]
  go_simp
  refine (its_any _ la _ (by omega) Ra.out).mono ?_
  rintro e A15 ⟨vy, rfl, r, bl⟩
  have Ry := Lib.hid r
  clear r
  refine hK.out _ _ ?_ (fun hHeld => ?_)
  · exact ⟨cell_next bl hHeld.1, cell_next bl hHeld.2.1, cell_next bl hHeld.2.2.1, cell_next bl hHeld.2.2.2.1, Ra.out.go bl, Rs.out.go bl, Rt.out.go bl, Ru.out.go bl, Rv.out.go bl, next HB.out bl⟩
  clear hK K
  clear bl HB Ra Rs Rt Ru Rv
  have HH := Lib.hid hHeld
  obtain ⟨q1, q2, p1, p2, ra, rs, rt, ru, rv, hbw⟩ := hHeld
  have Ra := Lib.hid ra
  have Rs := Lib.hid rs
  have Rt := Lib.hid rt
  have Ru := Lib.hid ru
  have Rv := Lib.hid rv
  have HB := Lib.hid hbw
  clear hbw q1 q2 p1 p2 ra rs rt ru rv
  have hHeld := HH.out
  clear HH
  try simp only [Act.put, List.getElem_toArray, List.getElem_cons_zero, List.getElem_cons_succ, List.setIfInBounds_toArray, List.set_cons_zero, List.set_cons_succ]
  refine wpAnyH_ready (rs := [13]) (by kernel_rfl) (by simp) ?_
  refine AllReadyH.cons rfl (fun K hK => ?_) AllReadyH.nil
  rw [if_pos (by kernel_rfl)]
  go_simp
  refine (rmay_any _ la _ (by omega) Ry.out hua2.out).mono ?_
  rintro e A16 ⟨rfl, bl⟩
  rw [hbm]
  refine hK.out _ _ ?_ (fun hHeld => ?_)
  · exact ⟨cell_next bl hHeld.1, cell_next bl hHeld.2.1, cell_next bl hHeld.2.2.1, cell_next bl hHeld.2.2.2.1, Ra.out.go bl, Rs.out.go bl, Rt.out.go bl, Ru.out.go bl, Rv.out.go bl, next HB.out bl⟩
  clear hK K
  replace Ry := Lib.hid (Ry.out.go bl)
  clear bl HB Ra Rs Rt Ru Rv
  have HH := Lib.hid hHeld
  obtain ⟨q1, q2, p1, p2, ra, rs, rt, ru, rv, hbw⟩ := hHeld
  have Ra := Lib.hid ra
  have Rs := Lib.hid rs
  have Rt := Lib.hid rt
  have Ru := Lib.hid ru
  have Rv := Lib.hid rv
  have HB := Lib.hid hbw
  clear hbw q1 q2 p1 p2 ra rs rt ru rv
  have hHeld := HH.out
  clear HH
  try simp only [Act.put, List.getElem_toArray, List.getElem_cons_zero, List.getElem_cons_succ, List.setIfInBounds_toArray, List.set_cons_zero, List.set_cons_succ]
  clear Ry
  refine wpAnyH_take (i := 14) (v := ?_) rfl (by kernel_rfl) (by kernel_rfl) (by kernel_rfl) (fun _ _ _ h => h) (Or.inl ⟨by kernel_rfl, ?_⟩) (by assumption) ?_
  rotate_left
  · (intro w hSw; (try dsimp only at hSw); go_simp; (try with_reducible rfl))
  try simp only [Act.put, List.getElem_toArray, List.getElem_cons_zero, List.getElem_cons_succ, List.setIfInBounds_toArray, List.set_cons_zero, List.set_cons_succ]
  refine wpAnyH_take (i := 15) (v := ?_) rfl (by kernel_rfl) (by kernel_rfl) (by kernel_rfl) (fun _ _ _ h => h) (Or.inl ⟨by kernel_rfl, ?_⟩) (by assumption) ?_
  rotate_left
  · (intro w hSw; (try dsimp only at hSw); go_simp; (try with_reducible rfl))
  try simp only [Act.put, List.getElem_toArray, List.getElem_cons_zero, List.getElem_cons_succ, List.setIfInBounds_toArray, List.set_cons_zero, List.set_cons_succ]
  refine wpAnyH_take (i := 16) (v := ?_) rfl (by kernel_rfl) (by kernel_rfl) (by kernel_rfl) (fun _ _ _ h => h) (Or.inl ⟨by kernel_rfl, ?_⟩) (by assumption) ?_
  rotate_left
  · (intro w hSw; (try dsimp only at hSw); go_simp; (try with_reducible rfl))
  try simp only [Act.put, List.getElem_toArray, List.getElem_cons_zero, List.getElem_cons_succ, List.setIfInBounds_toArray, List.set_cons_zero, List.set_cons_succ]
  refine wpAnyH_take (i := 17) (v := ?_) rfl (by kernel_rfl) (by kernel_rfl) (by kernel_rfl) (fun _ _ _ h => h) (Or.inl ⟨by kernel_rfl, ?_⟩) (by assumption) ?_
  rotate_left
  · (intro w hSw; (try dsimp only at hSw); go_simp; (try with_reducible rfl))
  try simp only [Act.put, List.getElem_toArray, List.getElem_cons_zero, List.getElem_cons_succ, List.setIfInBounds_toArray, List.set_cons_zero, List.set_cons_succ]
  refine wpAnyH_take (i := 18) (v := ?_) rfl (by kernel_rfl) (by kernel_rfl) (by kernel_rfl) (fun _ _ _ h => h) (Or.inl ⟨by kernel_rfl, ?_⟩) (by assumption) ?_
  rotate_left
  · (intro w hSw; (try dsimp only at hSw); go_simp; (try with_reducible rfl))
  try simp only [Act.put, List.getElem_toArray, List.getElem_cons_zero, List.getElem_cons_succ, List.setIfInBounds_toArray, List.set_cons_zero, List.set_cons_succ]
  refine wpAnyH_take (i := 20) (v := ?_) rfl (by kernel_rfl) (by kernel_rfl) (by kernel_rfl) (fun _ _ _ h => h) (Or.inl ⟨by kernel_rfl, ?_⟩) (by assumption) ?_
  rotate_left
  · (intro w hSw; (try dsimp only at hSw); go_simp; (try with_reducible rfl))
  try simp only [Act.put, List.getElem_toArray, List.getElem_cons_zero, List.getElem_cons_succ, List.setIfInBounds_toArray, List.set_cons_zero, List.set_cons_succ]
  refine wpAnyH_take (i := 21) (v := ?_) rfl (by kernel_rfl) (by kernel_rfl) (by kernel_rfl) (fun _ _ _ h => h) (Or.inl ⟨by kernel_rfl, ?_⟩) (by assumption) ?_
  rotate_left
  · (intro w hSw; (try dsimp only at hSw); go_simp; (try with_reducible rfl))
  try simp only [Act.put, List.getElem_toArray, List.getElem_cons_zero, List.getElem_cons_succ, List.setIfInBounds_toArray, List.set_cons_zero, List.set_cons_succ]
  refine wpAnyH_ready (rs := [19]) (by kernel_rfl) (by simp) ?_
  refine AllReadyH.cons rfl (fun K hK => ?_) AllReadyH.nil
  rw [if_pos (by kernel_rfl)]
  go_simp
  refine (has' _ ls y _ (by omega) Cs.out Rs.out).mono ?_
  rintro e A17 ⟨rfl, bl⟩
  rw [hbh]
  refine hK.out _ _ ?_ (fun hHeld => ?_)
  · exact ⟨cell_next bl hHeld.1, cell_next bl hHeld.2.1, cell_next bl hHeld.2.2.1, cell_next bl hHeld.2.2.2.1, Ra.out.go bl, Rs.out.go bl, Rt.out.go bl, Ru.out.go bl, Rv.out.go bl, next HB.out bl⟩
  clear hK K
  clear bl HB Ra Rs Rt Ru Rv
  have HH := Lib.hid hHeld
  obtain ⟨q1, q2, p1, p2, ra, rs, rt, ru, rv, hbw⟩ := hHeld
  have Ra := Lib.hid ra
  have Rs := Lib.hid rs
  have Rt := Lib.hid rt
  have Ru := Lib.hid ru
  have Rv := Lib.hid rv
  have HB := Lib.hid hbw
  clear hbw q1 q2 p1 p2 ra rs rt ru rv
  have hHeld := HH.out
  clear HH
  try simp only [Act.put, List.getElem_toArray, List.getElem_cons_zero, List.getElem_cons_succ, List.setIfInBounds_toArray, List.set_cons_zero, List.set_cons_succ]
  refine wpAnyH_ready (rs := [22]) (by kernel_rfl) (by simp) ?_
  refine AllReadyH.cons rfl (fun K hK => ?_) AllReadyH.nil
  rw [if_pos (by kernel_rfl)]
  go_simp
  refine (rhas_any _ ls y _ (by omega) Ru.out).mono ?_
  rintro e A18 ⟨rfl, bl⟩
  rw [hbh]
  refine hK.out _ _ ?_ (fun hHeld => ?_)
  · exact ⟨cell_next bl hHeld.1, cell_next bl hHeld.2.1, cell_next bl hHeld.2.2.1, cell_next bl hHeld.2.2.2.1, Ra.out.go bl, Rs.out.go bl, Rt.out.go bl, Ru.out.go bl, Rv.out.go bl, next HB.out bl⟩
  clear hK K
  clear bl HB Ra Rs Rt Ru Rv
  have HH := Lib.hid hHeld
  obtain ⟨q1, q2, p1, p2, ra, rs, rt, ru, rv, hbw⟩ := hHeld
  have Ra := Lib.hid ra
  have Rs := Lib.hid rs
  have Rt := Lib.hid rt
  have Ru := Lib.hid ru
  have Rv := Lib.hid rv
  have HB := Lib.hid hbw
  clear hbw q1 q2 p1 p2 ra rs rt ru rv
  have hHeld := HH.out
  clear HH
  try simp only [Act.put, List.getElem_toArray, List.getElem_cons_zero, List.getElem_cons_succ, List.setIfInBounds_toArray, List.set_cons_zero, List.set_cons_succ]
  refine wpAnyH_take (i := 23) (v := ?_) rfl (by kernel_rfl) (by kernel_rfl) (by kernel_rfl) (fun _ _ _ h => h) (Or.inl ⟨by kernel_rfl, ?_⟩) (by assumption) ?_
  rotate_left
  · (intro w hSw; (try dsimp only at hSw); go_simp; (try with_reducible rfl))
  try simp only [Act.put, List.getElem_toArray, List.getElem_cons_zero, List.getElem_cons_succ, List.setIfInBounds_toArray, List.set_cons_zero, List.set_cons_succ]
  refine wpAnyH_take (i := 24) (v := ?_) rfl (by kernel_rfl) (by kernel_rfl) (by kernel_rfl) (fun _ _ _ h => h) (Or.inl ⟨by kernel_rfl, ?_⟩) (by assumption) ?_
  rotate_left
  · (intro w hSw; (try dsimp only at hSw); go_simp; (try with_reducible rfl))
  try simp only [Act.put, List.getElem_toArray, List.getElem_cons_zero, List.getElem_cons_succ, List.setIfInBounds_toArray, List.set_cons_zero, List.set_cons_succ]
  refine wpAnyH_take (i := 25) (v := ?_) rfl (by kernel_rfl) (by kernel_rfl) (by kernel_rfl) (fun _ _ _ h => h) (Or.inl ⟨by kernel_rfl, ?_⟩) (by assumption) ?_
  rotate_left
  · (intro w hSw; (try dsimp only at hSw); go_simp; (try with_reducible rfl))
  try simp only [Act.put, List.getElem_toArray, List.getElem_cons_zero, List.getElem_cons_succ, List.setIfInBounds_toArray, List.set_cons_zero, List.set_cons_succ]
  refine wpAnyH_take (i := 26) (v := ?_) rfl (by kernel_rfl) (by kernel_rfl) (by kernel_rfl) (fun _ _ _ h => h) (Or.inl ⟨by kernel_rfl, ?_⟩) (by assumption) ?_
  rotate_left
  · (intro w hSw; (try dsimp only at hSw); go_simp; (try with_reducible rfl))
  try simp only [Act.put, List.getElem_toArray, List.getElem_cons_zero, List.getElem_cons_succ, List.setIfInBounds_toArray, List.set_cons_zero, List.set_cons_succ]
  refine wpAnyH_take (i := 27) (v := ?_) rfl (by kernel_rfl) (by kernel_rfl) (by kernel_rfl) (fun _ _ _ h => h) (Or.inl ⟨by kernel_rfl, ?_⟩) (by assumption) ?_
  rotate_left
  · (intro w hSw; (try dsimp only at hSw); go_simp; (try with_reducible rfl))
  try simp only [Act.put, List.getElem_toArray, List.getElem_cons_zero, List.getElem_cons_succ, List.setIfInBounds_toArray, List.set_cons_zero, List.set_cons_succ]
  refine wpAnyH_take (i := 30) (v := ?_) rfl (by kernel_rfl) (by kernel_rfl) (by kernel_rfl) (fun _ _ _ h => h) (Or.inl ⟨by kernel_rfl, ?_⟩) (by assumption) ?_
  rotate_left
  · (intro w hSw; (try dsimp only at hSw); go_simp; (try with_reducible rfl))
  try simp only [Act.put, List.getElem_toArray, List.getElem_cons_zero, List.getElem_cons_succ, List.setIfInBounds_toArray, List.set_cons_zero, List.set_cons_succ]
  refine wpAnyH_take (i := 31) (v := ?_) rfl (by kernel_rfl) (by kernel_rfl) (by kernel_rfl) (fun _ _ _ h => h) (Or.inl ⟨by kernel_rfl, ?_⟩) (by assumption) ?_
  rotate_left
  · (intro w hSw; (try dsimp only at hSw); go_simp; (try with_reducible rfl))
  try simp only [Act.put, List.getElem_toArray, List.getElem_cons_zero, List.getElem_cons_succ, List.setIfInBounds_toArray, List.set_cons_zero, List.set_cons_succ]
  refine wpAnyH_ready (rs := [28]) (by kernel_rfl) (by simp) ?_
  refine AllReadyH.cons rfl (fun K hK => ?_) AllReadyH.nil
  rw [if_pos (by kernel_rfl)]
  go_simp
  refine (add' _ ls lo hi _ (by omega) Cs.out h0 hhi Rs.out).mono ?_
  rintro e A19 ⟨vd, ld, rfl, c, m, h, r, bl⟩
  have Cd := Lib.hid c
  have Md := Lib.hid m
  have Nd := Lib.hid h
  have Rd := Lib.hid r
  clear c m h r
  refine hK.out _ _ ?_ (fun hHeld => ?_)
  · exact ⟨cell_next bl hHeld.1, cell_next bl hHeld.2.1, cell_next bl hHeld.2.2.1, cell_next bl hHeld.2.2.2.1, Ra.out.go bl, Rs.out.go bl, Rt.out.go bl, Ru.out.go bl, Rv.out.go bl, next HB.out bl⟩
  clear hK K
  clear bl HB Ra Rs Rt Ru Rv
  have HH := Lib.hid hHeld
  obtain ⟨q1, q2, p1, p2, ra, rs, rt, ru, rv, hbw⟩ := hHeld
  have Ra := Lib.hid ra
  have Rs := Lib.hid rs
  have Rt := Lib.hid rt
  have Ru := Lib.hid ru
  have Rv := Lib.hid rv
  have HB := Lib.hid hbw
  clear hbw q1 q2 p1 p2 ra rs rt ru rv
  have hHeld := HH.out
  clear HH
  try simp only [Act.put, List.getElem_toArray, List.getElem_cons_zero, List.getElem_cons_succ, List.setIfInBounds_toArray, List.set_cons_zero, List.set_cons_succ]
  have hd := Nd.out
  refine wpAnyH_ready (rs := [29]) (by kernel_rfl) (by simp) ?_
  refine AllReadyH.cons rfl (fun K hK => ?_) AllReadyH.nil
  rw [if_pos (by kernel_rfl)]
  go_simp
  refine (its_any _ ld _ (by omega) Rd.out).mono ?_
  rintro e A20 ⟨vy, rfl, r, bl⟩
  have Ry := Lib.hid r
  clear r
  refine hK.out _ _ ?_ (fun hHeld => ?_)
  · exact ⟨cell_next bl hHeld.1, cell_next bl hHeld.2.1, cell_next bl hHeld.2.2.1, cell_next bl hHeld.2.2.2.1, Ra.out.go bl, Rs.out.go bl, Rt.out.go bl, Ru.out.go bl, Rv.out.go bl, next HB.out bl⟩
  clear hK K
  replace Rd := Lib.hid (Rd.out.go bl)
  clear bl HB Ra Rs Rt Ru Rv
  have HH := Lib.hid hHeld
  obtain ⟨q1, q2, p1, p2, ra, rs, rt, ru, rv, hbw⟩ := hHeld
  have Ra := Lib.hid ra
  have Rs := Lib.hid rs
  have Rt := Lib.hid rt
  have Ru := Lib.hid ru
  have Rv := Lib.hid rv
  have HB := Lib.hid hbw
  clear hbw q1 q2 p1 p2 ra rs rt ru rv
  have hHeld := HH.out
  clear HH
  try simp only [Act.put, List.getElem_toArray, List.getElem_cons_zero, List.getElem_cons_succ, List.setIfInBounds_toArray, List.set_cons_zero, List.set_cons_succ]
  clear Rd
  refine wpAnyH_ready (rs := [32]) (by kernel_rfl) (by simp) ?_
  refine AllReadyH.cons rfl (fun K hK => ?_) AllReadyH.nil
  rw [if_pos (by kernel_rfl)]
  go_simp
  refine (radd' _ ls lo hi _ (by omega) Cs.out h0 hhi Ru.out).mono ?_
  rintro e A21 ⟨ve, le, rfl, c, m, h, r, bl⟩
  have Ce := Lib.hid c
  have Me := Lib.hid m
  have Ne := Lib.hid h
  have Re := Lib.hid r
  clear c m h r
  refine hK.out _ _ ?_ (fun hHeld => ?_)
  · exact ⟨cell_next bl hHeld.1, cell_next bl hHeld.2.1, cell_next bl hHeld.2.2.1, cell_next bl hHeld.2.2.2.1, Ra.out.go bl, Rs.out.go bl, Rt.out.go bl, Ru.out.go bl, Rv.out.go bl, next HB.out bl⟩
  clear hK K
  replace Ry := Lib.hid (Ry.out.go bl)
  clear bl HB Ra Rs Rt Ru Rv
  have HH := Lib.hid hHeld
  obtain ⟨q1, q2, p1, p2, ra, rs, rt, ru, rv, hbw⟩ := hHeld
  have Ra := Lib.hid ra
  have Rs := Lib.hid rs
  have Rt := Lib.hid rt
  have Ru := Lib.hid ru
  have Rv := Lib.hid rv
  have HB := Lib.hid hbw
  clear hbw q1 q2 p1 p2 ra rs rt ru rv
  have hHeld := HH.out
  clear HH
  try simp only [Act.put, List.getElem_toArray, List.getElem_cons_zero, List.getElem_cons_succ, List.setIfInBounds_toArray, List.set_cons_zero, List.set_cons_succ]
  have he := Ne.out
  refine wpAnyH_ready (rs := [33]) (by kernel_rfl) (by simp) ?_
  refine AllReadyH.cons rfl (fun K hK => ?_) AllReadyH.nil
  rw [if_pos (by kernel_rfl)]
  go_simp
  refine (same' _ _ ld le _ (by omega) Ry.out Re.out Cd.out Ce.out (fun n => by rw [Md.out, Me.out])).mono ?_
  rintro e A22 ⟨rfl, bl⟩
  refine hK.out _ _ ?_ (fun hHeld => ?_)
  · exact ⟨cell_next bl hHeld.1, cell_next bl hHeld.2.1, cell_next bl hHeld.2.2.1, cell_next bl hHeld.2.2.2.1, Ra.out.go bl, Rs.out.go bl, Rt.out.go bl, Ru.out.go bl, Rv.out.go bl, next HB.out bl⟩
  clear hK K
  replace Ry := Lib.hid (Ry.out.go bl)
  replace Re := Lib.hid (Re.out.go bl)
  clear bl HB Ra Rs Rt Ru Rv
  have HH := Lib.hid hHeld
  obtain ⟨q1, q2, p1, p2, ra, rs, rt, ru, rv, hbw⟩ := hHeld
  have Ra := Lib.hid ra
  have Rs := Lib.hid rs
  have Rt := Lib.hid rt
  have Ru := Lib.hid ru
  have Rv := Lib.hid rv
  have HB := Lib.hid hbw
  clear hbw q1 q2 p1 p2 ra rs rt ru rv
  have hHeld := HH.out
  clear HH
  try simp only [Act.put, List.getElem_toArray, List.getElem_cons_zero, List.getElem_cons_succ, List.setIfInBounds_toArray, List.set_cons_zero, List.set_cons_succ]
  clear Ry
  clear Re
  refine wpAnyH_take (i := 34) (v := ?_) rfl (by kernel_rfl) (by kernel_rfl) (by kernel_rfl) (fun _ _ _ h => h) (Or.inl ⟨by kernel_rfl, ?_⟩) (by assumption) ?_
  rotate_left
  · (intro w hSw; (try dsimp only at hSw); go_simp; (try with_reducible rfl))
  try simp only [Act.put, List.getElem_toArray, List.getElem_cons_zero, List.getElem_cons_succ, List.setIfInBounds_toArray, List.set_cons_zero, List.set_cons_succ]
  refine wpAnyH_take (i := 35) (v := ?_) rfl (by kernel_rfl) (by kernel_rfl) (by kernel_rfl) (fun _ _ _ h => h) (Or.inl ⟨by kernel_rfl, ?_⟩) (by assumption) ?_
  rotate_left
  · (intro w hSw; (try dsimp only at hSw); go_simp; (try with_reducible rfl))
  try simp only [Act.put, List.getElem_toArray, List.getElem_cons_zero, List.getElem_cons_succ, List.setIfInBounds_toArray, List.set_cons_zero, List.set_cons_succ]
  refine wpAnyH_take (i := 36) (v := ?_) rfl (by kernel_rfl) (by kernel_rfl) (by kernel_rfl) (fun _ _ _ h => h) (Or.inl ⟨by kernel_rfl, ?_⟩) (by assumption) ?_
  rotate_left
  · (intro w hSw; (try dsimp only at hSw); go_simp; (try with_reducible rfl))
  try simp only [Act.put, List.getElem_toArray, List.getElem_cons_zero, List.getElem_cons_succ, List.setIfInBounds_toArray, List.set_cons_zero, List.set_cons_succ]
  refine wpAnyH_take (i := 37) (v := ?_) rfl (by kernel_rfl) (by kernel_rfl) (by kernel_rfl) (fun _ _ _ h => h) (Or.inl ⟨by kernel_rfl, ?_⟩) (by assumption) ?_
  rotate_left
  · (intro w hSw; (try dsimp only at hSw); go_simp; (try with_reducible rfl))
  try simp only [Act.put, List.getElem_toArray, List.getElem_cons_zero, List.getElem_cons_succ, List.setIfInBounds_toArray, List.set_cons_zero, List.set_cons_succ]
  refine wpAnyH_take (i := 40) (v := ?_) rfl (by kernel_rfl) (by kernel_rfl) (by kernel_rfl) (fun _ _ _ h => h) (Or.inl ⟨by kernel_rfl, ?_⟩) (by assumption) ?_
  rotate_left
  · (intro w hSw; (try dsimp only at hSw); go_simp; (try with_reducible rfl))
  try simp only [Act.put, List.getElem_toArray, List.getElem_cons_zero, List.getElem_cons_succ, List.setIfInBounds_toArray, List.set_cons_zero, List.set_cons_succ]
  refine wpAnyH_take (i := 41) (v := ?_) rfl (by kernel_rfl) (by kernel_rfl) (by kernel_rfl) (fun _ _ _ h => h) (Or.inl ⟨by kernel_rfl, ?_⟩) (by assumption) ?_
  rotate_left
  · (intro w hSw; (try dsimp only at hSw); go_simp; (try with_reducible rfl))
  try simp only [Act.put, List.getElem_toArray, List.getElem_cons_zero, List.getElem_cons_succ, List.setIfInBounds_toArray, List.set_cons_zero, List.set_cons_succ]
  refine wpAnyH_ready (rs := [38]) (by kernel_rfl) (by simp) ?_
  refine AllReadyH.cons rfl (fun K hK => ?_) AllReadyH.nil
  rw [if_pos (by kernel_rfl)]
  go_simp
  refine (cut' _ ls lo hi _ (by omega) Cs.out h0 hhi Rs.out).mono ?_
  rintro e A23 ⟨vc, lc, rfl, c, m, h, r, bl⟩
  have Cc := Lib.hid c
  have Mc := Lib.hid m
  have Nc := Lib.hid h
  have Rc := Lib.hid r
  clear c m h r
  refine hK.out _ _ ?_ (fun hHeld => ?_)
  · exact ⟨cell_next bl hHeld.1, cell_next bl hHeld.2.1, cell_next bl hHeld.2.2.1, cell_next bl hHeld.2.2.2.1, Ra.out.go bl, Rs.out.go bl, Rt.out.go bl, Ru.out.go bl, Rv.out.go bl, next HB.out bl⟩
  clear hK K
  clear bl HB Ra Rs Rt Ru Rv
  have HH := Lib.hid hHeld
  obtain ⟨q1, q2, p1, p2, ra, rs, rt, ru, rv, hbw⟩ := hHeld
  have Ra := Lib.hid ra
  have Rs := Lib.hid rs
  have Rt := Lib.hid rt
  have Ru := Lib.hid ru
  have Rv := Lib.hid rv
  have HB := Lib.hid hbw
  clear hbw q1 q2 p1 p2 ra rs rt ru rv
  have hHeld := HH.out
  clear HH
  try simp only [Act.put, List.getElem_toArray, List.getElem_cons_zero, List.getElem_cons_succ, List.setIfInBounds_toArray, List.set_cons_zero, List.set_cons_succ]
  have hc := Nc.out
  refine wpAnyH_ready (rs := [39]) (by kernel_rfl) (by simp) ?_
  refine AllReadyH.cons rfl (fun K hK => ?_) AllReadyH.nil
  rw [if_pos (by kernel_rfl)]
  go_simp
  refine (its_any _ lc _ (by omega) Rc.out).mono ?_
  rintro e A24 ⟨vy, rfl, r, bl⟩
  have Ry := Lib.hid r
  clear r
  refine hK.out _ _ ?_ (fun hHeld => ?_)
  · exact ⟨cell_next bl hHeld.1, cell_next bl hHeld.2.1, cell_next bl hHeld.2.2.1, cell_next bl hHeld.2.2.2.1, Ra.out.go bl, Rs.out.go bl, Rt.out.go bl, Ru.out.go bl, Rv.out.go bl, next HB.out bl⟩
  clear hK K
  replace Rc := Lib.hid (Rc.out.go bl)
  clear bl HB Ra Rs Rt Ru Rv
  have HH := Lib.hid hHeld
  obtain ⟨q1, q2, p1, p2, ra, rs, rt, ru, rv, hbw⟩ := hHeld
  have Ra := Lib.hid ra
  have Rs := Lib.hid rs
  have Rt := Lib.hid rt
  have Ru := Lib.hid ru
  have Rv := Lib.hid rv
  have HB := Lib.hid hbw
  clear hbw q1 q2 p1 p2 ra rs rt ru rv
  have hHeld := HH.out
  clear HH
  try simp only [Act.put, List.getElem_toArray, List.getElem_cons_zero, List.getElem_cons_succ, List.setIfInBounds_toArray, List.set_cons_zero, List.set_cons_succ]
  clear Rc
  refine wpAnyH_ready (rs := [42]) (by kernel_rfl) (by simp) ?_
  refine AllReadyH.cons rfl (fun K hK => ?_) AllReadyH.nil
  rw [if_pos (by kernel_rfl)]
  go_simp
  refine (rcut' _ ls lo hi _ (by omega) Cs.out h0 hlo h1 hhi Ru.out).mono ?_
  rintro e A25 ⟨vf, lf, rfl, c, m, h, r, bl⟩
  have Cf := Lib.hid c
  have Mf := Lib.hid m
  have Nf := Lib.hid h
  have Rf := Lib.hid r
  clear c m h r
  refine hK.out _ _ ?_ (fun hHeld => ?_)
  · exact ⟨cell_next bl hHeld.1, cell_next bl hHeld.2.1, cell_next bl hHeld.2.2.1, cell_next bl hHeld.2.2.2.1, Ra.out.go bl, Rs.out.go bl, Rt.out.go bl, Ru.out.go bl, Rv.out.go bl, next HB.out bl⟩
  clear hK K
  replace Ry := Lib.hid (Ry.out.go bl)
  clear bl HB Ra Rs Rt Ru Rv
  have HH := Lib.hid hHeld
  obtain ⟨q1, q2, p1, p2, ra, rs, rt, ru, rv, hbw⟩ := hHeld
  have Ra := Lib.hid ra
  have Rs := Lib.hid rs
  have Rt := Lib.hid rt
  have Ru := Lib.hid ru
  have Rv := Lib.hid rv
  have HB := Lib.hid hbw
  clear hbw q1 q2 p1 p2 ra rs rt ru rv
  have hHeld := HH.out
  clear HH
  try simp only [Act.put, List.getElem_toArray, List.getElem_cons_zero, List.getElem_cons_succ, List.setIfInBounds_toArray, List.set_cons_zero, List.set_cons_succ]
  have hf := Nf.out
  refine wpAnyH_ready (rs := [43]) (by kernel_rfl) (by simp) ?_
  refine AllReadyH.cons rfl (fun K hK => ?_) AllReadyH.nil
  rw [if_pos (by kernel_rfl)]
  go_simp
  refine (same' _ _ lc lf _ (by omega) Ry.out Rf.out Cc.out Cf.out (fun n => by rw [Mc.out, Mf.out])).mono ?_
  rintro e A26 ⟨rfl, bl⟩
  refine hK.out _ _ ?_ (fun hHeld => ?_)
  · exact ⟨cell_next bl hHeld.1, cell_next bl hHeld.2.1, cell_next bl hHeld.2.2.1, cell_next bl hHeld.2.2.2.1, Ra.out.go bl, Rs.out.go bl, Rt.out.go bl, Ru.out.go bl, Rv.out.go bl, next HB.out bl⟩
  clear hK K
  replace Ry := Lib.hid (Ry.out.go bl)
  replace Rf := Lib.hid (Rf.out.go bl)
  clear bl HB Ra Rs Rt Ru Rv
  have HH := Lib.hid hHeld
  obtain ⟨q1, q2, p1, p2, ra, rs, rt, ru, rv, hbw⟩ := hHeld
  have Ra := Lib.hid ra
  have Rs := Lib.hid rs
  have Rt := Lib.hid rt
  have Ru := Lib.hid ru
  have Rv := Lib.hid rv
  have HB := Lib.hid hbw
  clear hbw q1 q2 p1 p2 ra rs rt ru rv
  have hHeld := HH.out
  clear HH
  try simp only [Act.put, List.getElem_toArray, List.getElem_cons_zero, List.getElem_cons_succ, List.setIfInBounds_toArray, List.set_cons_zero, List.set_cons_succ]
  clear Ry
  clear Rf
  refine wpAnyH_take (i := 44) (v := ?_) rfl (by kernel_rfl) (by kernel_rfl) (by kernel_rfl) (fun _ _ _ h => h) (Or.inl ⟨by kernel_rfl, ?_⟩) (by assumption) ?_
  rotate_left
  · (intro w hSw; (try dsimp only at hSw); go_simp; (try with_reducible rfl))
  try simp only [Act.put, List.getElem_toArray, List.getElem_cons_zero, List.getElem_cons_succ, List.setIfInBounds_toArray, List.set_cons_zero, List.set_cons_succ]
  refine wpAnyH_take (i := 45) (v := ?_) rfl (by kernel_rfl) (by kernel_rfl) (by kernel_rfl) (fun _ _ _ h => h) (Or.inl ⟨by kernel_rfl, ?_⟩) (by assumption) ?_
  rotate_left
  · (intro w hSw; (try dsimp only at hSw); go_simp; (try with_reducible rfl))
  try simp only [Act.put, List.getElem_toArray, List.getElem_cons_zero, List.getElem_cons_succ, List.setIfInBounds_toArray, List.set_cons_zero, List.set_cons_succ]
  refine wpAnyH_take (i := 46) (v := ?_) rfl (by kernel_rfl) (by kernel_rfl) (by kernel_rfl) (fun _ _ _ h => h) (Or.inl ⟨by kernel_rfl, ?_⟩) (by assumption) ?_
  rotate_left
  · (intro w hSw; (try dsimp only at hSw); go_simp; (try with_reducible rfl))
  try simp only [Act.put, List.getElem_toArray, List.getElem_cons_zero, List.getElem_cons_succ, List.setIfInBounds_toArray, List.set_cons_zero, List.set_cons_succ]
  refine wpAnyH_take (i := 47) (v := ?_) rfl (by kernel_rfl) (by kernel_rfl) (by kernel_rfl) (fun _ _ _ h => h) (Or.inl ⟨by kernel_rfl, ?_⟩) (by assumption) ?_
  rotate_left
  · (intro w hSw; (try dsimp only at hSw); go_simp; (try with_reducible rfl))
  try simp only [Act.put, List.getElem_toArray, List.getElem_cons_zero, List.getElem_cons_succ, List.setIfInBounds_toArray, List.set_cons_zero, List.set_cons_succ]
  refine wpAnyH_take (i := 50) (v := ?_) rfl (by kernel_rfl) (by kernel_rfl) (by kernel_rfl) (fun _ _ _ h => h) (Or.inl ⟨by kernel_rfl, ?_⟩) (by assumption) ?_
  rotate_left
  · (intro w hSw; (try dsimp only at hSw); go_simp; (try with_reducible rfl))
  try simp only [Act.put, List.getElem_toArray, List.getElem_cons_zero, List.getElem_cons_succ, List.setIfInBounds_toArray, List.set_cons_zero, List.set_cons_succ]
  refine wpAnyH_take (i := 51) (v := ?_) rfl (by kernel_rfl) (by kernel_rfl) (by kernel_rfl) (fun _ _ _ h => h) (Or.inl ⟨by kernel_rfl, ?_⟩) (by assumption) ?_
  rotate_left
  · (intro w hSw; (try dsimp only at hSw); go_simp; (try with_reducible rfl))
  try simp only [Act.put, List.getElem_toArray, List.getElem_cons_zero, List.getElem_cons_succ, List.setIfInBounds_toArray, List.set_cons_zero, List.set_cons_succ]
  refine wpAnyH_ready (rs := [48]) (by kernel_rfl) (by simp) ?_
  refine AllReadyH.cons rfl (fun K hK => ?_) AllReadyH.nil
  rw [if_pos (by kernel_rfl)]
  go_simp
  refine (meet' _ _ ls lt _ (by omega) Cs.out (by omega) Ct.out Rs.out Rt.out).mono ?_
  rintro e A27 ⟨vm, lm, rfl, c, m, h, r, bl⟩
  have Cm := Lib.hid c
  have Mm := Lib.hid m
  have Nm := Lib.hid h
  have Rm := Lib.hid r
  clear c m h r
  refine hK.out _ _ ?_ (fun hHeld => ?_)
  · exact ⟨cell_next bl hHeld.1, cell_next bl hHeld.2.1, cell_next bl hHeld.2.2.1, cell_next bl hHeld.2.2.2.1, Ra.out.go bl, Rs.out.go bl, Rt.out.go bl, Ru.out.go bl, Rv.out.go bl, next HB.out bl⟩
  clear hK K
  clear bl HB Ra Rs Rt Ru Rv
  have HH := Lib.hid hHeld
  obtain ⟨q1, q2, p1, p2, ra, rs, rt, ru, rv, hbw⟩ := hHeld
  have Ra := Lib.hid ra
  have Rs := Lib.hid rs
  have Rt := Lib.hid rt
  have Ru := Lib.hid ru
  have Rv := Lib.hid rv
  have HB := Lib.hid hbw
  clear hbw q1 q2 p1 p2 ra rs rt ru rv
  have hHeld := HH.out
  clear HH
  try simp only [Act.put, List.getElem_toArray, List.getElem_cons_zero, List.getElem_cons_succ, List.setIfInBounds_toArray, List.set_cons_zero, List.set_cons_succ]
  have hm := Nm.out
  refine wpAnyH_ready (rs := [49]) (by kernel_rfl) (by simp) ?_
  refine AllReadyH.cons rfl (fun K hK => ?_) AllReadyH.nil
  rw [if_pos (by kernel_rfl)]
  go_simp
  refine (its_any _ lm _ (by omega) Rm.out).mono ?_
  rintro e A28 ⟨vy, rfl, r, bl⟩
  have Ry := Lib.hid r
  clear r
  refine hK.out _ _ ?_ (fun hHeld => ?_)
  · exact ⟨cell_next bl hHeld.1, cell_next bl hHeld.2.1, cell_next bl hHeld.2.2.1, cell_next bl hHeld.2.2.2.1, Ra.out.go bl, Rs.out.go bl, Rt.out.go bl, Ru.out.go bl, Rv.out.go bl, next HB.out bl⟩
  clear hK K
  replace Rm := Lib.hid (Rm.out.go bl)
  clear bl HB Ra Rs Rt Ru Rv
  have HH := Lib.hid hHeld
  obtain ⟨q1, q2, p1, p2, ra, rs, rt, ru, rv, hbw⟩ := hHeld
  have Ra := Lib.hid ra
  have Rs := Lib.hid rs
  have Rt := Lib.hid rt
  have Ru := Lib.hid ru
  have Rv := Lib.hid rv
  have HB := Lib.hid hbw
  clear hbw q1 q2 p1 p2 ra rs rt ru rv
  have hHeld := HH.out
  clear HH
  try simp only [Act.put, List.getElem_toArray, List.getElem_cons_zero, List.getElem_cons_succ, List.setIfInBounds_toArray, List.set_cons_zero, List.set_cons_succ]
  clear Rm
  refine wpAnyH_ready (rs := [52]) (by kernel_rfl) (by simp) ?_
  refine AllReadyH.cons rfl (fun K hK => ?_) AllReadyH.nil
  rw [if_pos (by kernel_rfl)]
  go_simp
  refine (rmeet' _ _ ls lt _ (by omega) (by omega) Cs.out Ct.out Ru.out Rv.out).mono ?_
  rintro e A29 ⟨vg, lg, rfl, c, m, h, r, bl⟩
  have Cg := Lib.hid c
  have Mg := Lib.hid m
  have Ng := Lib.hid h
  have Rg := Lib.hid r
  clear c m h r
  refine hK.out _ _ ?_ (fun hHeld => ?_)
  · exact ⟨cell_next bl hHeld.1, cell_next bl hHeld.2.1, cell_next bl hHeld.2.2.1, cell_next bl hHeld.2.2.2.1, Ra.out.go bl, Rs.out.go bl, Rt.out.go bl, Ru.out.go bl, Rv.out.go bl, next HB.out bl⟩
  clear hK K
  replace Ry := Lib.hid (Ry.out.go bl)
  clear bl HB Ra Rs Rt Ru Rv
  have HH := Lib.hid hHeld
  obtain ⟨q1, q2, p1, p2, ra, rs, rt, ru, rv, hbw⟩ := hHeld
  have Ra := Lib.hid ra
  have Rs := Lib.hid rs
  have Rt := Lib.hid rt
  have Ru := Lib.hid ru
  have Rv := Lib.hid rv
  have HB := Lib.hid hbw
  clear hbw q1 q2 p1 p2 ra rs rt ru rv
  have hHeld := HH.out
  clear HH
  try simp only [Act.put, List.getElem_toArray, List.getElem_cons_zero, List.getElem_cons_succ, List.setIfInBounds_toArray, List.set_cons_zero, List.set_cons_succ]
  have hg := Ng.out
  refine wpAnyH_ready (rs := [53]) (by kernel_rfl) (by simp) ?_
  refine AllReadyH.cons rfl (fun K hK => ?_) AllReadyH.nil
  rw [if_pos (by kernel_rfl)]
  go_simp
  refine (same' _ _ lm lg _ (by omega) Ry.out Rg.out Cm.out Cg.out (fun n => by rw [Mm.out, Mg.out])).mono ?_
  rintro e A30 ⟨rfl, bl⟩
  refine hK.out _ _ ?_ (fun hHeld => ?_)
  · exact ⟨cell_next bl hHeld.1, cell_next bl hHeld.2.1, cell_next bl hHeld.2.2.1, cell_next bl hHeld.2.2.2.1, Ra.out.go bl, Rs.out.go bl, Rt.out.go bl, Ru.out.go bl, Rv.out.go bl, next HB.out bl⟩
  clear hK K
  replace Ry := Lib.hid (Ry.out.go bl)
  replace Rg := Lib.hid (Rg.out.go bl)
  clear bl HB Ra Rs Rt Ru Rv
  have HH := Lib.hid hHeld
  obtain ⟨q1, q2, p1, p2, ra, rs, rt, ru, rv, hbw⟩ := hHeld
  have Ra := Lib.hid ra
  have Rs := Lib.hid rs
  have Rt := Lib.hid rt
  have Ru := Lib.hid ru
  have Rv := Lib.hid rv
  have HB := Lib.hid hbw
  clear hbw q1 q2 p1 p2 ra rs rt ru rv
  have hHeld := HH.out
  clear HH
  try simp only [Act.put, List.getElem_toArray, List.getElem_cons_zero, List.getElem_cons_succ, List.setIfInBounds_toArray, List.set_cons_zero, List.set_cons_succ]
  clear Ry
  clear Rg
  refine wpAnyH_take (i := 54) (v := ?_) rfl (by kernel_rfl) (by kernel_rfl) (by kernel_rfl) (fun _ _ _ h => h) (Or.inl ⟨by kernel_rfl, ?_⟩) (by assumption) ?_
  rotate_left
  · (intro w hSw; (try dsimp only at hSw); go_simp; (try with_reducible rfl))
  try simp only [Act.put, List.getElem_toArray, List.getElem_cons_zero, List.getElem_cons_succ, List.setIfInBounds_toArray, List.set_cons_zero, List.set_cons_succ]
  refine wpAnyH_take (i := 55) (v := ?_) rfl (by kernel_rfl) (by kernel_rfl) (by kernel_rfl) (fun _ _ _ h => h) (Or.inl ⟨by kernel_rfl, ?_⟩) (by assumption) ?_
  rotate_left
  · (intro w hSw; (try dsimp only at hSw); go_simp; (try with_reducible rfl))
  try simp only [Act.put, List.getElem_toArray, List.getElem_cons_zero, List.getElem_cons_succ, List.setIfInBounds_toArray, List.set_cons_zero, List.set_cons_succ]
  refine wpAnyH_take (i := 56) (v := ?_) rfl (by kernel_rfl) (by kernel_rfl) (by kernel_rfl) (fun _ _ _ h => h) (Or.inl ⟨by kernel_rfl, ?_⟩) (by assumption) ?_
  rotate_left
  · (intro w hSw; (try dsimp only at hSw); go_simp; (try with_reducible rfl))
  try simp only [Act.put, List.getElem_toArray, List.getElem_cons_zero, List.getElem_cons_succ, List.setIfInBounds_toArray, List.set_cons_zero, List.set_cons_succ]
  refine wpAnyH_take (i := 57) (v := ?_) rfl (by kernel_rfl) (by kernel_rfl) (by kernel_rfl) (fun _ _ _ h => h) (Or.inl ⟨by kernel_rfl, ?_⟩) (by assumption) ?_
  rotate_left
  · (intro w hSw; (try dsimp only at hSw); go_simp; (try with_reducible rfl))
  try simp only [Act.put, List.getElem_toArray, List.getElem_cons_zero, List.getElem_cons_succ, List.setIfInBounds_toArray, List.set_cons_zero, List.set_cons_succ]
  refine wpAnyH_take (i := 60) (v := ?_) rfl (by kernel_rfl) (by kernel_rfl) (by kernel_rfl) (fun _ _ _ h => h) (Or.inl ⟨by kernel_rfl, ?_⟩) (by assumption) ?_
  rotate_left
  · (intro w hSw; (try dsimp only at hSw); go_simp; (try with_reducible rfl))
  try simp only [Act.put, List.getElem_toArray, List.getElem_cons_zero, List.getElem_cons_succ, List.setIfInBounds_toArray, List.set_cons_zero, List.set_cons_succ]
  refine wpAnyH_take (i := 61) (v := ?_) rfl (by kernel_rfl) (by kernel_rfl) (by kernel_rfl) (fun _ _ _ h => h) (Or.inl ⟨by kernel_rfl, ?_⟩) (by assumption) ?_
  rotate_left
  · (intro w hSw; (try dsimp only at hSw); go_simp; (try with_reducible rfl))
  try simp only [Act.put, List.getElem_toArray, List.getElem_cons_zero, List.getElem_cons_succ, List.setIfInBounds_toArray, List.set_cons_zero, List.set_cons_succ]
  refine wpAnyH_ready (rs := [58]) (by kernel_rfl) (by simp) ?_
  refine AllReadyH.cons rfl (fun K hK => ?_) AllReadyH.nil
  rw [if_pos (by kernel_rfl)]
  go_simp
  refine (gaps' _ ls lo hi _ (by omega) Cs.out h0 hhi Rs.out).mono ?_
  rintro e A31 ⟨vgi, lgi, rfl, c, m, h, r, bl⟩
  have Cgi := Lib.hid c
  have Mgi := Lib.hid m
  have Ngi := Lib.hid h
  have Rgi := Lib.hid r
  clear c m h r
  refine hK.out _ _ ?_ (fun hHeld => ?_)
  · exact ⟨cell_next bl hHeld.1, cell_next bl hHeld.2.1, cell_next bl hHeld.2.2.1, cell_next bl hHeld.2.2.2.1, Ra.out.go bl, Rs.out.go bl, Rt.out.go bl, Ru.out.go bl, Rv.out.go bl, next HB.out bl⟩
  clear hK K
  clear bl HB Ra Rs Rt Ru Rv
  have HH := Lib.hid hHeld
  obtain ⟨q1, q2, p1, p2, ra, rs, rt, ru, rv, hbw⟩ := hHeld
  have Ra := Lib.hid ra
  have Rs := Lib.hid rs
  have Rt := Lib.hid rt
  have Ru := Lib.hid ru
  have Rv := Lib.hid rv
  have HB := Lib.hid hbw
  clear hbw q1 q2 p1 p2 ra rs rt ru rv
  have hHeld := HH.out
  clear HH
  try simp only [Act.put, List.getElem_toArray, List.getElem_cons_zero, List.getElem_cons_succ, List.setIfInBounds_toArray, List.set_cons_zero, List.set_cons_succ]
  have hgi := Ngi.out
  refine wpAnyH_ready (rs := [59]) (by kernel_rfl) (by simp) ?_
  refine AllReadyH.cons rfl (fun K hK => ?_) AllReadyH.nil
  rw [if_pos (by kernel_rfl)]
  go_simp
  refine (its_any _ lgi _ (by omega) Rgi.out).mono ?_
  rintro e A32 ⟨vy, rfl, r, bl⟩
  have Ry := Lib.hid r
  clear r
  refine hK.out _ _ ?_ (fun hHeld => ?_)
  · exact ⟨cell_next bl hHeld.1, cell_next bl hHeld.2.1, cell_next bl hHeld.2.2.1, cell_next bl hHeld.2.2.2.1, Ra.out.go bl, Rs.out.go bl, Rt.out.go bl, Ru.out.go bl, Rv.out.go bl, next HB.out bl⟩
  clear hK K
  replace Rgi := Lib.hid (Rgi.out.go bl)
  clear bl HB Ra Rs Rt Ru Rv
  have HH := Lib.hid hHeld
  obtain ⟨q1, q2, p1, p2, ra, rs, rt, ru, rv, hbw⟩ := hHeld
  have Ra := Lib.hid ra
  have Rs := Lib.hid rs
  have Rt := Lib.hid rt
  have Ru := Lib.hid ru
  have Rv := Lib.hid rv
  have HB := Lib.hid hbw
  clear hbw q1 q2 p1 p2 ra rs rt ru rv
  have hHeld := HH.out
  clear HH
  try simp only [Act.put, List.getElem_toArray, List.getElem_cons_zero, List.getElem_cons_succ, List.setIfInBounds_toArray, List.set_cons_zero, List.set_cons_succ]
  clear Rgi
  refine wpAnyH_ready (rs := [62]) (by kernel_rfl) (by simp) ?_
  refine AllReadyH.cons rfl (fun K hK => ?_) AllReadyH.nil
  rw [if_pos (by kernel_rfl)]
  go_simp
  refine (rgaps' _ ls lo hi _ (by omega) Cs.out h0 hhi Ru.out).mono ?_
  rintro e A33 ⟨vgj, lgj, rfl, c, m, h, r, bl⟩
  have Cgj := Lib.hid c
  have Mgj := Lib.hid m
  have Ngj := Lib.hid h
  have Rgj := Lib.hid r
  clear c m h r
  refine hK.out _ _ ?_ (fun hHeld => ?_)
  · exact ⟨cell_next bl hHeld.1, cell_next bl hHeld.2.1, cell_next bl hHeld.2.2.1, cell_next bl hHeld.2.2.2.1, Ra.out.go bl, Rs.out.go bl, Rt.out.go bl, Ru.out.go bl, Rv.out.go bl, next HB.out bl⟩
  clear hK K
  replace Ry := Lib.hid (Ry.out.go bl)
  clear bl HB Ra Rs Rt Ru Rv
  have HH := Lib.hid hHeld
  obtain ⟨q1, q2, p1, p2, ra, rs, rt, ru, rv, hbw⟩ := hHeld
  have Ra := Lib.hid ra
  have Rs := Lib.hid rs
  have Rt := Lib.hid rt
  have Ru := Lib.hid ru
  have Rv := Lib.hid rv
  have HB := Lib.hid hbw
  clear hbw q1 q2 p1 p2 ra rs rt ru rv
  have hHeld := HH.out
  clear HH
  try simp only [Act.put, List.getElem_toArray, List.getElem_cons_zero, List.getElem_cons_succ, List.setIfInBounds_toArray, List.set_cons_zero, List.set_cons_succ]
  have hgj := Ngj.out
  refine wpAnyH_ready (rs := [63]) (by kernel_rfl) (by simp) ?_
  refine AllReadyH.cons rfl (fun K hK => ?_) AllReadyH.nil
  rw [if_pos (by kernel_rfl)]
  go_simp
  refine (same' _ _ lgi lgj _ (by omega) Ry.out Rgj.out Cgi.out Cgj.out (fun n => by rw [Mgi.out, Mgj.out])).mono ?_
  rintro e A34 ⟨rfl, bl⟩
  refine hK.out _ _ ?_ (fun hHeld => ?_)
  · exact ⟨cell_next bl hHeld.1, cell_next bl hHeld.2.1, cell_next bl hHeld.2.2.1, cell_next bl hHeld.2.2.2.1, Ra.out.go bl, Rs.out.go bl, Rt.out.go bl, Ru.out.go bl, Rv.out.go bl, next HB.out bl⟩
  clear hK K
  replace Ry := Lib.hid (Ry.out.go bl)
  replace Rgj := Lib.hid (Rgj.out.go bl)
  clear bl HB Ra Rs Rt Ru Rv
  have HH := Lib.hid hHeld
  obtain ⟨q1, q2, p1, p2, ra, rs, rt, ru, rv, hbw⟩ := hHeld
  have Ra := Lib.hid ra
  have Rs := Lib.hid rs
  have Rt := Lib.hid rt
  have Ru := Lib.hid ru
  have Rv := Lib.hid rv
  have HB := Lib.hid hbw
  clear hbw q1 q2 p1 p2 ra rs rt ru rv
  have hHeld := HH.out
  clear HH
  try simp only [Act.put, List.getElem_toArray, List.getElem_cons_zero, List.getElem_cons_succ, List.setIfInBounds_toArray, List.set_cons_zero, List.set_cons_succ]
  clear Ry
  clear Rgj
  refine wpAnyH_take (i := 64) (v := ?_) rfl (by kernel_rfl) (by kernel_rfl) (by kernel_rfl) (fun _ _ _ h => h) (Or.inl ⟨by kernel_rfl, ?_⟩) (by assumption) ?_
  rotate_left
  · (intro w hSw; (try dsimp only at hSw); go_simp; (try with_reducible rfl))
  try simp only [Act.put, List.getElem_toArray, List.getElem_cons_zero, List.getElem_cons_succ, List.setIfInBounds_toArray, List.set_cons_zero, List.set_cons_succ]
  refine wpAnyH_take (i := 65) (v := ?_) rfl (by kernel_rfl) (by kernel_rfl) (by kernel_rfl) (fun _ _ _ h => h) (Or.inl ⟨by kernel_rfl, ?_⟩) (by assumption) ?_
  rotate_left
  · (intro w hSw; (try dsimp only at hSw); go_simp; (try with_reducible rfl))
  try simp only [Act.put, List.getElem_toArray, List.getElem_cons_zero, List.getElem_cons_succ, List.setIfInBounds_toArray, List.set_cons_zero, List.set_cons_succ]
  refine wpAnyH_take (i := 66) (v := ?_) rfl (by kernel_rfl) (by kernel_rfl) (by kernel_rfl) (fun _ _ _ h => h) (Or.inl ⟨by kernel_rfl, ?_⟩) (by assumption) ?_
  rotate_left
  · (intro w hSw; (try dsimp only at hSw); go_simp; (try with_reducible rfl))
  try simp only [Act.put, List.getElem_toArray, List.getElem_cons_zero, List.getElem_cons_succ, List.setIfInBounds_toArray, List.set_cons_zero, List.set_cons_succ]
  refine wpAnyH_take (i := 68) (v := ?_) rfl (by kernel_rfl) (by kernel_rfl) (by kernel_rfl) (fun _ _ _ h => h) (Or.inl ⟨by kernel_rfl, ?_⟩) (by assumption) ?_
  rotate_left
  · (intro w hSw; (try dsimp only at hSw); go_simp; (try with_reducible rfl))
  try simp only [Act.put, List.getElem_toArray, List.getElem_cons_zero, List.getElem_cons_succ, List.setIfInBounds_toArray, List.set_cons_zero, List.set_cons_succ]
  refine wpAnyH_ready (rs := [67]) (by kernel_rfl) (by simp) ?_
  refine AllReadyH.cons rfl (fun K hK => ?_) AllReadyH.nil
  rw [if_pos (by kernel_rfl)]
  go_simp
  refine (count' _ ls _ (by omega) Cs.out Rs.out).mono ?_
  rintro e A35 ⟨rfl, bl⟩
  rw [hzs]
  refine hK.out _ _ ?_ (fun hHeld => ?_)
  · exact ⟨cell_next bl hHeld.1, cell_next bl hHeld.2.1, cell_next bl hHeld.2.2.1, cell_next bl hHeld.2.2.2.1, Ra.out.go bl, Rs.out.go bl, Rt.out.go bl, Ru.out.go bl, Rv.out.go bl, next HB.out bl⟩
  clear hK K
  clear bl HB Ra Rs Rt Ru Rv
  have HH := Lib.hid hHeld
  obtain ⟨q1, q2, p1, p2, ra, rs, rt, ru, rv, hbw⟩ := hHeld
  have Ra := Lib.hid ra
  have Rs := Lib.hid rs
  have Rt := Lib.hid rt
  have Ru := Lib.hid ru
  have Rv := Lib.hid rv
  have HB := Lib.hid hbw
  clear hbw q1 q2 p1 p2 ra rs rt ru rv
  have hHeld := HH.out
  clear HH
  try simp only [Act.put, List.getElem_toArray, List.getElem_cons_zero, List.getElem_cons_succ, List.setIfInBounds_toArray, List.set_cons_zero, List.set_cons_succ]
  refine wpAnyH_ready (rs := [69]) (by kernel_rfl) (by simp) ?_
  refine AllReadyH.cons rfl (fun K hK => ?_) AllReadyH.nil
  rw [if_pos (by kernel_rfl)]
  go_simp
  refine (rcount_any _ ls _ (by omega) Cs.out Ru.out).mono ?_
  rintro e A36 ⟨rfl, bl⟩
  rw [hzs]
  refine hK.out _ _ ?_ (fun hHeld => ?_)
  · exact ⟨cell_next bl hHeld.1, cell_next bl hHeld.2.1, cell_next bl hHeld.2.2.1, cell_next bl hHeld.2.2.2.1, Ra.out.go bl, Rs.out.go bl, Rt.out.go bl, Ru.out.go bl, Rv.out.go bl, next HB.out bl⟩
  clear hK K
  clear bl HB Ra Rs Rt Ru Rv
  have HH := Lib.hid hHeld
  obtain ⟨q1, q2, p1, p2, ra, rs, rt, ru, rv, hbw⟩ := hHeld
  have Ra := Lib.hid ra
  have Rs := Lib.hid rs
  have Rt := Lib.hid rt
  have Ru := Lib.hid ru
  have Rv := Lib.hid rv
  have HB := Lib.hid hbw
  clear hbw q1 q2 p1 p2 ra rs rt ru rv
  have hHeld := HH.out
  clear HH
  try simp only [Act.put, List.getElem_toArray, List.getElem_cons_zero, List.getElem_cons_succ, List.setIfInBounds_toArray, List.set_cons_zero, List.set_cons_succ]
  refine wpAnyH_take (i := 70) (v := ?_) rfl (by kernel_rfl) (by kernel_rfl) (by kernel_rfl) (fun _ _ _ h => h) (Or.inl ⟨by kernel_rfl, ?_⟩) (by assumption) ?_
  rotate_left
  · (intro w hSw; (try dsimp only at hSw); go_simp; (try with_reducible rfl))
  try simp only [Act.put, List.getElem_toArray, List.getElem_cons_zero, List.getElem_cons_succ, List.setIfInBounds_toArray, List.set_cons_zero, List.set_cons_succ]
  refine wpAnyH_take (i := 71) (v := ?_) rfl (by kernel_rfl) (by kernel_rfl) (by kernel_rfl) (fun _ _ _ h => h) (Or.inl ⟨by kernel_rfl, ?_⟩) (by assumption) ?_
  rotate_left
  · (intro w hSw; (try dsimp only at hSw); go_simp; (try with_reducible rfl))
  try simp only [Act.put, List.getElem_toArray, List.getElem_cons_zero, List.getElem_cons_succ, List.setIfInBounds_toArray, List.set_cons_zero, List.set_cons_succ]
  refine wpAnyH_take (i := 72) (v := ?_) rfl (by kernel_rfl) (by kernel_rfl) (by kernel_rfl) (fun _ _ _ h => h) (Or.inl ⟨by kernel_rfl, ?_⟩) (by assumption) ?_
  rotate_left
  · (intro w hSw; (try dsimp only at hSw); go_simp; (try with_reducible rfl))
  try simp only [Act.put, List.getElem_toArray, List.getElem_cons_zero, List.getElem_cons_succ, List.setIfInBounds_toArray, List.set_cons_zero, List.set_cons_succ]
  refine wpAnyH_done (by kernel_rfl) (NoPanic.normal ?_) _
  go_wp2
  go_ret
  exact ⟨rfl, HB.out⟩
theorem law_tells (a : Option Addr) (n cap : Nat) (la : List Ran) (b : Option Addr) (n2 cap2 : Nat) (lb : List Ran) (lo hi y : Int) (w : World) (hn : la.length = n) (hm : n ≤ maxLen) (r : Rd w (.slice a n cap) la) (u : Nums la)
    (hn2 : lb.length = n2) (hm2 : n2 ≤ maxLen) (r2 : Rd w (.slice b n2 cap2) lb) (u2 : Nums lb) (w0 : (Lit.int .u64 lo).wf = true) (w1 : (Lit.int .u64 hi).wf = true) (w2 : (Lit.int .u64 y).wf = true) :
    Calls Try.prog 3 #[.slice a n cap, .slice b n2 cap2, .agg #[.int .u64 lo, .int .u64 hi], .int .u64 y] w fun e w' => e = .returned (.bool true) ∧ Below w.heap.size w w' := by
  have h0 := (bounds_u64 w0).1
  have h1 := (bounds_u64 w1).1
  have h2 := (bounds_u64 w2).1
  rcases lowB_or la with ga | ga
  · rcases lowB_or lb with gb | gb
    · rcases lowB_or [(lo, hi)] with g0 | g0
      · exact tells_core _ _ la lb lo hi y w (by omega) r u (by omega) r2 u2 h0 h1 h2 ga gb g0
      · exact RangesTells_no2 _ _ la lb lo hi y w (by omega) r u (by omega) r2 u2 h0 h1 h2 ga gb g0
    · exact RangesTells_no1 _ _ la lb lo hi y w (by omega) r u (by omega) r2 u2 h0 h1 h2 ga gb
  · exact RangesTells_no0 _ _ la lb lo hi y w (by omega) r u (by omega) r2 u2 h0 h1 h2 ga
end Go.Proofs.Ytgmagaphbidobaa.Rg
