/- The walk of the law RangesSets. -/
import Derived.Test.YtbapbkhbkpeofaaRgH
import Derived.Test.YtbapbkhbkpeofaaRgK
import Derived.OpenShut
namespace Go.Proofs.Ytbapbkhbkpeofaa.Rg
open Go.RowKit Go.Shelf
set_option linter.unusedVariables false
theorem hasB_of {l : List Ran} {y : Int} {φ : Prop} (h : mem l y ↔ φ) {b : Bool} (hb : φ ↔ b = true) : hasB l y = b := by
  cases b with
  | true => exact hasB_iff.2 (h.2 (hb.2 rfl))
  | false => exact hasB_no' (fun k => by have := hb.1 (h.1 k); cases this)
set_option maxHeartbeats 2000000 in
theorem RangesSets_no0 (va vb : Value) (la lb : List Ran) (lo hi y : Int) (w : World) (ma : la.length ≤ maxLen) (ra : Rd w va la) (ua : Nums la) (mb : lb.length ≤ maxLen) (rb : Rd w vb lb) (ub : Nums lb) (h0 : 0 ≤ lo) (h1 : 0 ≤ hi) (hy0 : 0 ≤ y) (ga : lowB la = false) :
    Calls Try.prog 5 #[va, vb, .agg #[.int .u64 lo, .int .u64 hi], .int .u64 y] w fun e w' => e = .returned (.bool true) ∧ Below w.heap.size w w' := by
  have Ra := Lib.hid ra
  have Rb := Lib.hid rb
  clear ra rb
  have q1 : (w.alloc (.cells #[.int .u64 lo, .int .u64 hi] 25)).cell? ⟨w.heap.size, 0, none⟩ = some (.int .u64 lo) := by simp [go_sem]
  have q2 : (w.alloc (.cells #[.int .u64 lo, .int .u64 hi] 25)).cell? ⟨w.heap.size, 1, none⟩ = some (.int .u64 hi) := by simp [go_sem]
  have HB := Lib.hid (made w (.cells #[.int .u64 lo, .int .u64 hi] 25))
  replace Ra := Lib.hid (Ra.out.go (made w (.cells #[.int .u64 lo, .int .u64 hi] 25)))
  replace Rb := Lib.hid (Rb.out.go (made w (.cells #[.int .u64 lo, .int .u64 hi] 25)))
  go_enter Try.func5, Try.ntmps5
  go_wp2_with fail
  refine (low_any _ la _ (by omega) Ra.out).mono ?_
  rintro e A1 ⟨rfl, bl⟩
  replace HB := Lib.hid (next HB.out bl)
  replace Ra := Lib.hid (Ra.out.go bl)
  replace Rb := Lib.hid (Rb.out.go bl)
  replace q1 := cell_next bl q1
  replace q2 := cell_next bl q2
  clear bl
  rw [ga]
  go_wp2_with fail
  refine (shown_any _).mono ?_
  rintro e A2 ⟨rfl, bl⟩
  replace HB := Lib.hid (next HB.out bl)
  replace Ra := Lib.hid (Ra.out.go bl)
  replace Rb := Lib.hid (Rb.out.go bl)
  replace q1 := cell_next bl q1
  replace q2 := cell_next bl q2
  clear bl
  go_wp2
  go_ret
  exact ⟨rfl, HB.out⟩
set_option maxHeartbeats 2000000 in
theorem RangesSets_no1 (va vb : Value) (la lb : List Ran) (lo hi y : Int) (w : World) (ma : la.length ≤ maxLen) (ra : Rd w va la) (ua : Nums la) (mb : lb.length ≤ maxLen) (rb : Rd w vb lb) (ub : Nums lb) (h0 : 0 ≤ lo) (h1 : 0 ≤ hi) (hy0 : 0 ≤ y) (ga : lowB la = true) (gb : lowB lb = false) :
    Calls Try.prog 5 #[va, vb, .agg #[.int .u64 lo, .int .u64 hi], .int .u64 y] w fun e w' => e = .returned (.bool true) ∧ Below w.heap.size w w' := by
  have Ra := Lib.hid ra
  have Rb := Lib.hid rb
  clear ra rb
  have q1 : (w.alloc (.cells #[.int .u64 lo, .int .u64 hi] 25)).cell? ⟨w.heap.size, 0, none⟩ = some (.int .u64 lo) := by simp [go_sem]
  have q2 : (w.alloc (.cells #[.int .u64 lo, .int .u64 hi] 25)).cell? ⟨w.heap.size, 1, none⟩ = some (.int .u64 hi) := by simp [go_sem]
  have HB := Lib.hid (made w (.cells #[.int .u64 lo, .int .u64 hi] 25))
  replace Ra := Lib.hid (Ra.out.go (made w (.cells #[.int .u64 lo, .int .u64 hi] 25)))
  replace Rb := Lib.hid (Rb.out.go (made w (.cells #[.int .u64 lo, .int .u64 hi] 25)))
  go_enter Try.func5, Try.ntmps5
  go_wp2_with fail
  refine (low_any _ la _ (by omega) Ra.out).mono ?_
  rintro e A1 ⟨rfl, bl⟩
  replace HB := Lib.hid (next HB.out bl)
  replace Ra := Lib.hid (Ra.out.go bl)
  replace Rb := Lib.hid (Rb.out.go bl)
  replace q1 := cell_next bl q1
  replace q2 := cell_next bl q2
  clear bl
  rw [ga]
  go_wp2_with fail
  refine (low_any _ lb _ (by omega) Rb.out).mono ?_
  rintro e A2 ⟨rfl, bl⟩
  replace HB := Lib.hid (next HB.out bl)
  replace Ra := Lib.hid (Ra.out.go bl)
  replace Rb := Lib.hid (Rb.out.go bl)
  replace q1 := cell_next bl q1
  replace q2 := cell_next bl q2
  clear bl
  rw [gb]
  go_wp2_with fail
  refine (shown_any _).mono ?_
  rintro e A3 ⟨rfl, bl⟩
  replace HB := Lib.hid (next HB.out bl)
  replace Ra := Lib.hid (Ra.out.go bl)
  replace Rb := Lib.hid (Rb.out.go bl)
  replace q1 := cell_next bl q1
  replace q2 := cell_next bl q2
  clear bl
  go_wp2
  go_ret
  exact ⟨rfl, HB.out⟩
set_option maxHeartbeats 2000000 in
theorem RangesSets_no2 (va vb : Value) (la lb : List Ran) (lo hi y : Int) (w : World) (ma : la.length ≤ maxLen) (ra : Rd w va la) (ua : Nums la) (mb : lb.length ≤ maxLen) (rb : Rd w vb lb) (ub : Nums lb) (h0 : 0 ≤ lo) (h1 : 0 ≤ hi) (hy0 : 0 ≤ y) (ga : lowB la = true) (gb : lowB lb = true) (g0 : lowB [(lo, hi)] = false) :
    Calls Try.prog 5 #[va, vb, .agg #[.int .u64 lo, .int .u64 hi], .int .u64 y] w fun e w' => e = .returned (.bool true) ∧ Below w.heap.size w w' := by
  have Ra := Lib.hid ra
  have Rb := Lib.hid rb
  clear ra rb
  have q1 : (w.alloc (.cells #[.int .u64 lo, .int .u64 hi] 25)).cell? ⟨w.heap.size, 0, none⟩ = some (.int .u64 lo) := by simp [go_sem]
  have q2 : (w.alloc (.cells #[.int .u64 lo, .int .u64 hi] 25)).cell? ⟨w.heap.size, 1, none⟩ = some (.int .u64 hi) := by simp [go_sem]
  have HB := Lib.hid (made w (.cells #[.int .u64 lo, .int .u64 hi] 25))
  replace Ra := Lib.hid (Ra.out.go (made w (.cells #[.int .u64 lo, .int .u64 hi] 25)))
  replace Rb := Lib.hid (Rb.out.go (made w (.cells #[.int .u64 lo, .int .u64 hi] 25)))
  go_enter Try.func5, Try.ntmps5
  go_wp2_with fail
  refine (low_any _ la _ (by omega) Ra.out).mono ?_
  rintro e A1 ⟨rfl, bl⟩
  replace HB := Lib.hid (next HB.out bl)
  replace Ra := Lib.hid (Ra.out.go bl)
  replace Rb := Lib.hid (Rb.out.go bl)
  replace q1 := cell_next bl q1
  replace q2 := cell_next bl q2
  clear bl
  rw [ga]
  go_wp2_with fail
  refine (low_any _ lb _ (by omega) Rb.out).mono ?_
  rintro e A2 ⟨rfl, bl⟩
  replace HB := Lib.hid (next HB.out bl)
  replace Ra := Lib.hid (Ra.out.go bl)
  replace Rb := Lib.hid (Rb.out.go bl)
  replace q1 := cell_next bl q1
  replace q2 := cell_next bl q2
  clear bl
  rw [gb]
  go_wp2_with fail
  refine (low_any _ [(lo, hi)] _ (by simp [maxLen]) (rd_made _ lo hi)).mono ?_
  rintro e A3 ⟨rfl, bl⟩
  replace bl := next (made _ _) bl
  replace HB := Lib.hid (next HB.out bl)
  replace Ra := Lib.hid (Ra.out.go bl)
  replace Rb := Lib.hid (Rb.out.go bl)
  replace q1 := cell_next bl q1
  replace q2 := cell_next bl q2
  clear bl
  rw [g0]
  go_wp2_with fail
  refine (shown_any _).mono ?_
  rintro e A4 ⟨rfl, bl⟩
  replace HB := Lib.hid (next HB.out bl)
  replace Ra := Lib.hid (Ra.out.go bl)
  replace Rb := Lib.hid (Rb.out.go bl)
  replace q1 := cell_next bl q1
  replace q2 := cell_next bl q2
  clear bl
  go_wp2
  go_ret
  exact ⟨rfl, HB.out⟩
set_option maxHeartbeats 8000000 in
theorem sets_in (va vb : Value) (la lb : List Ran) (lo hi y : Int) (w : World) (ma : la.length ≤ maxLen) (ra : Rd w va la) (ua : Nums la) (mb : lb.length ≤ maxLen) (rb : Rd w vb lb) (ub : Nums lb) (h0 : 0 ≤ lo) (h1 : 0 ≤ hi) (hy0 : 0 ≤ y) (ga : lowB la = true) (gb : lowB lb = true) (g0 : lowB [(lo, hi)] = true) (hx1 : lo ≤ y) (hx2 : y ≤ hi) :
    Calls Try.prog 5 #[va, vb, .agg #[.int .u64 lo, .int .u64 hi], .int .u64 y] w fun e w' => e = .returned (.bool true) ∧ Below w.heap.size w w' := by
  have hga : la.length ≤ 40 ∧ ∀ x ∈ la, 0 ≤ x.1 ∧ x.2 < 9223372036854775808 := ⟨(lowB_of ga).1, fun x hx => ⟨(ua x hx).1.1, ((lowB_of ga).2 x hx).2⟩⟩
  have hla := hga.1
  have GA := Lib.hid hga.2
  have hua := Lib.hid ua
  clear hga ua
  have hgb : lb.length ≤ 40 ∧ ∀ x ∈ lb, 0 ≤ x.1 ∧ x.2 < 9223372036854775808 := ⟨(lowB_of gb).1, fun x hx => ⟨(ub x hx).1.1, ((lowB_of gb).2 x hx).2⟩⟩
  have hlb := hgb.1
  have GB := Lib.hid hgb.2
  have hub := Lib.hid ub
  clear hgb ub
  have hlo := (low_can g0).1
  have hhi := (low_can g0).2
  have Ra := Lib.hid ra
  have Rb := Lib.hid rb
  clear ra rb
  have q1 : (w.alloc (.cells #[.int .u64 lo, .int .u64 hi] 25)).cell? ⟨w.heap.size, 0, none⟩ = some (.int .u64 lo) := by simp [go_sem]
  have q2 : (w.alloc (.cells #[.int .u64 lo, .int .u64 hi] 25)).cell? ⟨w.heap.size, 1, none⟩ = some (.int .u64 hi) := by simp [go_sem]
  have HB := Lib.hid (made w (.cells #[.int .u64 lo, .int .u64 hi] 25))
  replace Ra := Lib.hid (Ra.out.go (made w (.cells #[.int .u64 lo, .int .u64 hi] 25)))
  replace Rb := Lib.hid (Rb.out.go (made w (.cells #[.int .u64 lo, .int .u64 hi] 25)))
  have d1 : decide (lo ≤ y) = true := decide_eq_true hx1
  have d2 : decide (y ≤ hi) = true := decide_eq_true hx2
  have hO : inn (lo, hi) y := ⟨hx1, hx2⟩
  go_enter Try.func5, Try.ntmps5
  go_wp2_with fail
  refine (low_any _ la _ (by omega) Ra.out).mono ?_
  rintro e A1 ⟨rfl, bl⟩
  replace HB := Lib.hid (next HB.out bl)
  replace Ra := Lib.hid (Ra.out.go bl)
  replace Rb := Lib.hid (Rb.out.go bl)
  replace q1 := cell_next bl q1
  replace q2 := cell_next bl q2
  clear bl
  rw [ga]
  go_wp2_with fail
  refine (low_any _ lb _ (by omega) Rb.out).mono ?_
  rintro e A2 ⟨rfl, bl⟩
  replace HB := Lib.hid (next HB.out bl)
  replace Ra := Lib.hid (Ra.out.go bl)
  replace Rb := Lib.hid (Rb.out.go bl)
  replace q1 := cell_next bl q1
  replace q2 := cell_next bl q2
  clear bl
  rw [gb]
  go_wp2_with fail
  refine (low_any _ [(lo, hi)] _ (by simp [maxLen]) (rd_made _ lo hi)).mono ?_
  rintro e A3 ⟨rfl, bl⟩
  replace bl := next (made _ _) bl
  replace HB := Lib.hid (next HB.out bl)
  replace Ra := Lib.hid (Ra.out.go bl)
  replace Rb := Lib.hid (Rb.out.go bl)
  replace q1 := cell_next bl q1
  replace q2 := cell_next bl q2
  clear bl
  rw [g0]
  go_wp2_with fail
  refine (shown_any _).mono ?_
  rintro e A4 ⟨rfl, bl⟩
  replace HB := Lib.hid (next HB.out bl)
  replace Ra := Lib.hid (Ra.out.go bl)
  replace Rb := Lib.hid (Rb.out.go bl)
  replace q1 := cell_next bl q1
  replace q2 := cell_next bl q2
  clear bl
  go_wp2_with fail
  refine (of' _ la _ (by omega) GA.out Ra.out).mono ?_
  rintro e A5 ⟨vs, ls, rfl, c, m, h, r, bl⟩
  replace HB := Lib.hid (next HB.out bl)
  replace Ra := Lib.hid (Ra.out.go bl)
  replace Rb := Lib.hid (Rb.out.go bl)
  replace q1 := cell_next bl q1
  replace q2 := cell_next bl q2
  clear bl
  have Cs := Lib.hid c
  have Ms := Lib.hid m
  have Ns := Lib.hid h
  have Rs := Lib.hid r
  clear c m h r
  clear Ra
  have hs := Ns.out
  go_wp2_with fail
  refine (of' _ lb _ (by omega) GB.out Rb.out).mono ?_
  rintro e A6 ⟨vt, lt, rfl, c, m, h, r, bl⟩
  replace HB := Lib.hid (next HB.out bl)
  replace Rb := Lib.hid (Rb.out.go bl)
  replace Rs := Lib.hid (Rs.out.go bl)
  replace q1 := cell_next bl q1
  replace q2 := cell_next bl q2
  clear bl
  have Ct := Lib.hid c
  have Mt := Lib.hid m
  have Nt := Lib.hid h
  have Rt := Lib.hid r
  clear c m h r
  clear Rb
  have ht := Nt.out
  go_wp2_with fail
  refine (has' _ ls y _ (by omega) Cs.out Rs.out).mono ?_
  rintro e A7 ⟨rfl, bl⟩
  replace HB := Lib.hid (next HB.out bl)
  replace Rs := Lib.hid (Rs.out.go bl)
  replace Rt := Lib.hid (Rt.out.go bl)
  replace q1 := cell_next bl q1
  replace q2 := cell_next bl q2
  clear bl
  obtain ⟨bs, hbs⟩ : ∃ b, hasB ls y = b := ⟨_, rfl⟩
  rw [hbs]
  go_wp2_with fail
  refine (add' _ ls lo hi _ (by omega) Cs.out h0 hhi Rs.out).mono ?_
  rintro e A8 ⟨vd, ld, rfl, c, m, h, r, bl⟩
  replace HB := Lib.hid (next HB.out bl)
  replace Rs := Lib.hid (Rs.out.go bl)
  replace Rt := Lib.hid (Rt.out.go bl)
  replace q1 := cell_next bl q1
  replace q2 := cell_next bl q2
  clear bl
  have Cd := Lib.hid c
  have Md := Lib.hid m
  have Nd := Lib.hid h
  have Rd := Lib.hid r
  clear c m h r
  have hd := Nd.out
  go_wp2_with fail
  refine (cut' _ ls lo hi _ (by omega) Cs.out h0 hhi Rs.out).mono ?_
  rintro e A9 ⟨vc, lc, rfl, c, m, h, r, bl⟩
  replace HB := Lib.hid (next HB.out bl)
  replace Rs := Lib.hid (Rs.out.go bl)
  replace Rt := Lib.hid (Rt.out.go bl)
  replace Rd := Lib.hid (Rd.out.go bl)
  replace q1 := cell_next bl q1
  replace q2 := cell_next bl q2
  clear bl
  have Cc := Lib.hid c
  have Mc := Lib.hid m
  have Nc := Lib.hid h
  have Rc := Lib.hid r
  clear c m h r
  have hc := Nc.out
  go_wp2_with fail
  refine (meet' _ _ ls lt _ (by omega) Cs.out (by omega) Ct.out Rs.out Rt.out).mono ?_
  rintro e A10 ⟨vm, lm, rfl, c, m, h, r, bl⟩
  replace HB := Lib.hid (next HB.out bl)
  replace Rs := Lib.hid (Rs.out.go bl)
  replace Rt := Lib.hid (Rt.out.go bl)
  replace Rd := Lib.hid (Rd.out.go bl)
  replace Rc := Lib.hid (Rc.out.go bl)
  replace q1 := cell_next bl q1
  replace q2 := cell_next bl q2
  clear bl
  have Cm := Lib.hid c
  have Mm := Lib.hid m
  have Nm := Lib.hid h
  have Rm := Lib.hid r
  clear c m h r
  have hm := Nm.out
  go_wp2_with fail
  refine (gaps' _ ls lo hi _ (by omega) Cs.out h0 hhi Rs.out).mono ?_
  rintro e A11 ⟨vg, lg, rfl, c, m, h, r, bl⟩
  replace HB := Lib.hid (next HB.out bl)
  replace Rs := Lib.hid (Rs.out.go bl)
  replace Rt := Lib.hid (Rt.out.go bl)
  replace Rd := Lib.hid (Rd.out.go bl)
  replace Rc := Lib.hid (Rc.out.go bl)
  replace Rm := Lib.hid (Rm.out.go bl)
  replace q1 := cell_next bl q1
  replace q2 := cell_next bl q2
  clear bl
  have Cg := Lib.hid c
  have Mg := Lib.hid m
  have Ng := Lib.hid h
  have Rg := Lib.hid r
  clear c m h r
  have hg := Ng.out
  clear Rs
  go_wp2_with fail
  refine (may' _ ld _ (by omega) Cd.out Rd.out).mono ?_
  rintro e A12 ⟨rfl, bl⟩
  replace HB := Lib.hid (next HB.out bl)
  replace Rt := Lib.hid (Rt.out.go bl)
  replace Rd := Lib.hid (Rd.out.go bl)
  replace Rc := Lib.hid (Rc.out.go bl)
  replace Rm := Lib.hid (Rm.out.go bl)
  replace Rg := Lib.hid (Rg.out.go bl)
  replace q1 := cell_next bl q1
  replace q2 := cell_next bl q2
  clear bl
  go_wp2_with fail
  refine (may' _ lc _ (by omega) Cc.out Rc.out).mono ?_
  rintro e A13 ⟨rfl, bl⟩
  replace HB := Lib.hid (next HB.out bl)
  replace Rt := Lib.hid (Rt.out.go bl)
  replace Rd := Lib.hid (Rd.out.go bl)
  replace Rc := Lib.hid (Rc.out.go bl)
  replace Rm := Lib.hid (Rm.out.go bl)
  replace Rg := Lib.hid (Rg.out.go bl)
  replace q1 := cell_next bl q1
  replace q2 := cell_next bl q2
  clear bl
  go_wp2_with fail
  refine (may' _ lm _ (by omega) Cm.out Rm.out).mono ?_
  rintro e A14 ⟨rfl, bl⟩
  replace HB := Lib.hid (next HB.out bl)
  replace Rt := Lib.hid (Rt.out.go bl)
  replace Rd := Lib.hid (Rd.out.go bl)
  replace Rc := Lib.hid (Rc.out.go bl)
  replace Rm := Lib.hid (Rm.out.go bl)
  replace Rg := Lib.hid (Rg.out.go bl)
  replace q1 := cell_next bl q1
  replace q2 := cell_next bl q2
  clear bl
  go_wp2_with fail
  refine (may' _ lg _ (by omega) Cg.out Rg.out).mono ?_
  rintro e A15 ⟨rfl, bl⟩
  replace HB := Lib.hid (next HB.out bl)
  replace Rt := Lib.hid (Rt.out.go bl)
  replace Rd := Lib.hid (Rd.out.go bl)
  replace Rc := Lib.hid (Rc.out.go bl)
  replace Rm := Lib.hid (Rm.out.go bl)
  replace Rg := Lib.hid (Rg.out.go bl)
  replace q1 := cell_next bl q1
  replace q2 := cell_next bl q2
  clear bl
  cases bs
  · have hS : ¬ mem ls y := fun h => by rw [hasB_iff.2 h] at hbs; cases hbs
    go_wp2_with fail
    refine (has' _ ld y _ (by omega) Cd.out Rd.out).mono ?_
    rintro e A16 ⟨rfl, bl⟩
    replace HB := Lib.hid (next HB.out bl)
    replace Rt := Lib.hid (Rt.out.go bl)
    replace Rd := Lib.hid (Rd.out.go bl)
    replace Rc := Lib.hid (Rc.out.go bl)
    replace Rm := Lib.hid (Rm.out.go bl)
    replace Rg := Lib.hid (Rg.out.go bl)
    replace q1 := cell_next bl q1
    replace q2 := cell_next bl q2
    clear bl
    rw [show hasB ld y = true from hasB_of (Md.out y) (by simp [hS, hO])]
    go_wp2_with fail
    refine (has' _ lc y _ (by omega) Cc.out Rc.out).mono ?_
    rintro e A17 ⟨rfl, bl⟩
    replace HB := Lib.hid (next HB.out bl)
    replace Rt := Lib.hid (Rt.out.go bl)
    replace Rd := Lib.hid (Rd.out.go bl)
    replace Rc := Lib.hid (Rc.out.go bl)
    replace Rm := Lib.hid (Rm.out.go bl)
    replace Rg := Lib.hid (Rg.out.go bl)
    replace q1 := cell_next bl q1
    replace q2 := cell_next bl q2
    clear bl
    rw [show hasB lc y = false from hasB_of (Mc.out y) (by simp [hS, hO])]
    go_wp2_with fail
    refine (has' _ lm y _ (by omega) Cm.out Rm.out).mono ?_
    rintro e A18 ⟨rfl, bl⟩
    replace HB := Lib.hid (next HB.out bl)
    replace Rt := Lib.hid (Rt.out.go bl)
    replace Rd := Lib.hid (Rd.out.go bl)
    replace Rc := Lib.hid (Rc.out.go bl)
    replace Rm := Lib.hid (Rm.out.go bl)
    replace Rg := Lib.hid (Rg.out.go bl)
    replace q1 := cell_next bl q1
    replace q2 := cell_next bl q2
    clear bl
    rw [show hasB lm y = false from hasB_of (Mm.out y) (by simp [hS])]
    go_wp2_with fail
    refine (has' _ lg y _ (by omega) Cg.out Rg.out).mono ?_
    rintro e A19 ⟨rfl, bl⟩
    replace HB := Lib.hid (next HB.out bl)
    replace Rt := Lib.hid (Rt.out.go bl)
    replace Rd := Lib.hid (Rd.out.go bl)
    replace Rc := Lib.hid (Rc.out.go bl)
    replace Rm := Lib.hid (Rm.out.go bl)
    replace Rg := Lib.hid (Rg.out.go bl)
    replace q1 := cell_next bl q1
    replace q2 := cell_next bl q2
    clear bl
    rw [show hasB lg y = true from hasB_of (Mg.out y) (by simp [hS, hO])]
    go_wp2
    go_ret
    exact ⟨rfl, HB.out⟩
  · have hS : mem ls y := hasB_iff.1 hbs
    go_wp2_with fail
    refine (has' _ ld y _ (by omega) Cd.out Rd.out).mono ?_
    rintro e A16 ⟨rfl, bl⟩
    replace HB := Lib.hid (next HB.out bl)
    replace Rt := Lib.hid (Rt.out.go bl)
    replace Rd := Lib.hid (Rd.out.go bl)
    replace Rc := Lib.hid (Rc.out.go bl)
    replace Rm := Lib.hid (Rm.out.go bl)
    replace Rg := Lib.hid (Rg.out.go bl)
    replace q1 := cell_next bl q1
    replace q2 := cell_next bl q2
    clear bl
    rw [show hasB ld y = true from hasB_of (Md.out y) (by simp [hS, hO])]
    go_wp2_with fail
    refine (has' _ lc y _ (by omega) Cc.out Rc.out).mono ?_
    rintro e A17 ⟨rfl, bl⟩
    replace HB := Lib.hid (next HB.out bl)
    replace Rt := Lib.hid (Rt.out.go bl)
    replace Rd := Lib.hid (Rd.out.go bl)
    replace Rc := Lib.hid (Rc.out.go bl)
    replace Rm := Lib.hid (Rm.out.go bl)
    replace Rg := Lib.hid (Rg.out.go bl)
    replace q1 := cell_next bl q1
    replace q2 := cell_next bl q2
    clear bl
    rw [show hasB lc y = false from hasB_of (Mc.out y) (by simp [hS, hO])]
    obtain ⟨bt, hbt⟩ : ∃ b, hasB lt y = b := ⟨_, rfl⟩
    have hT : mem lt y ↔ bt = true := by rw [← hbt]; exact hasB_iff.symm
    go_wp2_with fail
    refine (has' _ lm y _ (by omega) Cm.out Rm.out).mono ?_
    rintro e A18 ⟨rfl, bl⟩
    replace HB := Lib.hid (next HB.out bl)
    replace Rt := Lib.hid (Rt.out.go bl)
    replace Rd := Lib.hid (Rd.out.go bl)
    replace Rc := Lib.hid (Rc.out.go bl)
    replace Rm := Lib.hid (Rm.out.go bl)
    replace Rg := Lib.hid (Rg.out.go bl)
    replace q1 := cell_next bl q1
    replace q2 := cell_next bl q2
    clear bl
    rw [show hasB lm y = bt from hasB_of (Mm.out y) (by simp [hS, hT])]
    go_wp2_with fail
    refine (has' _ lt y _ (by omega) Ct.out Rt.out).mono ?_
    rintro e A19 ⟨rfl, bl⟩
    replace HB := Lib.hid (next HB.out bl)
    replace Rt := Lib.hid (Rt.out.go bl)
    replace Rd := Lib.hid (Rd.out.go bl)
    replace Rc := Lib.hid (Rc.out.go bl)
    replace Rm := Lib.hid (Rm.out.go bl)
    replace Rg := Lib.hid (Rg.out.go bl)
    replace q1 := cell_next bl q1
    replace q2 := cell_next bl q2
    clear bl
    rw [hbt]
    have HT := Lib.hid hT
    clear hT hbt
    cases bt
    · go_wp2_with fail
      refine (has' _ lg y _ (by omega) Cg.out Rg.out).mono ?_
      rintro e A20 ⟨rfl, bl⟩
      replace HB := Lib.hid (next HB.out bl)
      replace Rt := Lib.hid (Rt.out.go bl)
      replace Rd := Lib.hid (Rd.out.go bl)
      replace Rc := Lib.hid (Rc.out.go bl)
      replace Rm := Lib.hid (Rm.out.go bl)
      replace Rg := Lib.hid (Rg.out.go bl)
      replace q1 := cell_next bl q1
      replace q2 := cell_next bl q2
      clear bl
      rw [show hasB lg y = false from hasB_of (Mg.out y) (by simp [hS, hO])]
      go_wp2
      go_ret
      exact ⟨rfl, HB.out⟩
    · go_wp2_with fail
      refine (has' _ lg y _ (by omega) Cg.out Rg.out).mono ?_
      rintro e A20 ⟨rfl, bl⟩
      replace HB := Lib.hid (next HB.out bl)
      replace Rt := Lib.hid (Rt.out.go bl)
      replace Rd := Lib.hid (Rd.out.go bl)
      replace Rc := Lib.hid (Rc.out.go bl)
      replace Rm := Lib.hid (Rm.out.go bl)
      replace Rg := Lib.hid (Rg.out.go bl)
      replace q1 := cell_next bl q1
      replace q2 := cell_next bl q2
      clear bl
      rw [show hasB lg y = false from hasB_of (Mg.out y) (by simp [hS, hO])]
      go_wp2
      go_ret
      exact ⟨rfl, HB.out⟩
set_option maxHeartbeats 8000000 in
theorem sets_lo (va vb : Value) (la lb : List Ran) (lo hi y : Int) (w : World) (ma : la.length ≤ maxLen) (ra : Rd w va la) (ua : Nums la) (mb : lb.length ≤ maxLen) (rb : Rd w vb lb) (ub : Nums lb) (h0 : 0 ≤ lo) (h1 : 0 ≤ hi) (hy0 : 0 ≤ y) (ga : lowB la = true) (gb : lowB lb = true) (g0 : lowB [(lo, hi)] = true) (hx1 : ¬ lo ≤ y) :
    Calls Try.prog 5 #[va, vb, .agg #[.int .u64 lo, .int .u64 hi], .int .u64 y] w fun e w' => e = .returned (.bool true) ∧ Below w.heap.size w w' := by
  have hga : la.length ≤ 40 ∧ ∀ x ∈ la, 0 ≤ x.1 ∧ x.2 < 9223372036854775808 := ⟨(lowB_of ga).1, fun x hx => ⟨(ua x hx).1.1, ((lowB_of ga).2 x hx).2⟩⟩
  have hla := hga.1
  have GA := Lib.hid hga.2
  have hua := Lib.hid ua
  clear hga ua
  have hgb : lb.length ≤ 40 ∧ ∀ x ∈ lb, 0 ≤ x.1 ∧ x.2 < 9223372036854775808 := ⟨(lowB_of gb).1, fun x hx => ⟨(ub x hx).1.1, ((lowB_of gb).2 x hx).2⟩⟩
  have hlb := hgb.1
  have GB := Lib.hid hgb.2
  have hub := Lib.hid ub
  clear hgb ub
  have hlo := (low_can g0).1
  have hhi := (low_can g0).2
  have Ra := Lib.hid ra
  have Rb := Lib.hid rb
  clear ra rb
  have q1 : (w.alloc (.cells #[.int .u64 lo, .int .u64 hi] 25)).cell? ⟨w.heap.size, 0, none⟩ = some (.int .u64 lo) := by simp [go_sem]
  have q2 : (w.alloc (.cells #[.int .u64 lo, .int .u64 hi] 25)).cell? ⟨w.heap.size, 1, none⟩ = some (.int .u64 hi) := by simp [go_sem]
  have HB := Lib.hid (made w (.cells #[.int .u64 lo, .int .u64 hi] 25))
  replace Ra := Lib.hid (Ra.out.go (made w (.cells #[.int .u64 lo, .int .u64 hi] 25)))
  replace Rb := Lib.hid (Rb.out.go (made w (.cells #[.int .u64 lo, .int .u64 hi] 25)))
  have d1 : decide (lo ≤ y) = false := decide_eq_false hx1
  have hO : ¬ inn (lo, hi) y := fun h => hx1 h.1
  go_enter Try.func5, Try.ntmps5
  go_wp2_with fail
  refine (low_any _ la _ (by omega) Ra.out).mono ?_
  rintro e A1 ⟨rfl, bl⟩
  replace HB := Lib.hid (next HB.out bl)
  replace Ra := Lib.hid (Ra.out.go bl)
  replace Rb := Lib.hid (Rb.out.go bl)
  replace q1 := cell_next bl q1
  replace q2 := cell_next bl q2
  clear bl
  rw [ga]
  go_wp2_with fail
  refine (low_any _ lb _ (by omega) Rb.out).mono ?_
  rintro e A2 ⟨rfl, bl⟩
  replace HB := Lib.hid (next HB.out bl)
  replace Ra := Lib.hid (Ra.out.go bl)
  replace Rb := Lib.hid (Rb.out.go bl)
  replace q1 := cell_next bl q1
  replace q2 := cell_next bl q2
  clear bl
  rw [gb]
  go_wp2_with fail
  refine (low_any _ [(lo, hi)] _ (by simp [maxLen]) (rd_made _ lo hi)).mono ?_
  rintro e A3 ⟨rfl, bl⟩
  replace bl := next (made _ _) bl
  replace HB := Lib.hid (next HB.out bl)
  replace Ra := Lib.hid (Ra.out.go bl)
  replace Rb := Lib.hid (Rb.out.go bl)
  replace q1 := cell_next bl q1
  replace q2 := cell_next bl q2
  clear bl
  rw [g0]
  go_wp2_with fail
  refine (shown_any _).mono ?_
  rintro e A4 ⟨rfl, bl⟩
  replace HB := Lib.hid (next HB.out bl)
  replace Ra := Lib.hid (Ra.out.go bl)
  replace Rb := Lib.hid (Rb.out.go bl)
  replace q1 := cell_next bl q1
  replace q2 := cell_next bl q2
  clear bl
  go_wp2_with fail
  refine (of' _ la _ (by omega) GA.out Ra.out).mono ?_
  rintro e A5 ⟨vs, ls, rfl, c, m, h, r, bl⟩
  replace HB := Lib.hid (next HB.out bl)
  replace Ra := Lib.hid (Ra.out.go bl)
  replace Rb := Lib.hid (Rb.out.go bl)
  replace q1 := cell_next bl q1
  replace q2 := cell_next bl q2
  clear bl
  have Cs := Lib.hid c
  have Ms := Lib.hid m
  have Ns := Lib.hid h
  have Rs := Lib.hid r
  clear c m h r
  clear Ra
  have hs := Ns.out
  go_wp2_with fail
  refine (of' _ lb _ (by omega) GB.out Rb.out).mono ?_
  rintro e A6 ⟨vt, lt, rfl, c, m, h, r, bl⟩
  replace HB := Lib.hid (next HB.out bl)
  replace Rb := Lib.hid (Rb.out.go bl)
  replace Rs := Lib.hid (Rs.out.go bl)
  replace q1 := cell_next bl q1
  replace q2 := cell_next bl q2
  clear bl
  have Ct := Lib.hid c
  have Mt := Lib.hid m
  have Nt := Lib.hid h
  have Rt := Lib.hid r
  clear c m h r
  clear Rb
  have ht := Nt.out
  go_wp2_with fail
  refine (has' _ ls y _ (by omega) Cs.out Rs.out).mono ?_
  rintro e A7 ⟨rfl, bl⟩
  replace HB := Lib.hid (next HB.out bl)
  replace Rs := Lib.hid (Rs.out.go bl)
  replace Rt := Lib.hid (Rt.out.go bl)
  replace q1 := cell_next bl q1
  replace q2 := cell_next bl q2
  clear bl
  obtain ⟨bs, hbs⟩ : ∃ b, hasB ls y = b := ⟨_, rfl⟩
  rw [hbs]
  go_wp2_with fail
  refine (add' _ ls lo hi _ (by omega) Cs.out h0 hhi Rs.out).mono ?_
  rintro e A8 ⟨vd, ld, rfl, c, m, h, r, bl⟩
  replace HB := Lib.hid (next HB.out bl)
  replace Rs := Lib.hid (Rs.out.go bl)
  replace Rt := Lib.hid (Rt.out.go bl)
  replace q1 := cell_next bl q1
  replace q2 := cell_next bl q2
  clear bl
  have Cd := Lib.hid c
  have Md := Lib.hid m
  have Nd := Lib.hid h
  have Rd := Lib.hid r
  clear c m h r
  have hd := Nd.out
  go_wp2_with fail
  refine (cut' _ ls lo hi _ (by omega) Cs.out h0 hhi Rs.out).mono ?_
  rintro e A9 ⟨vc, lc, rfl, c, m, h, r, bl⟩
  replace HB := Lib.hid (next HB.out bl)
  replace Rs := Lib.hid (Rs.out.go bl)
  replace Rt := Lib.hid (Rt.out.go bl)
  replace Rd := Lib.hid (Rd.out.go bl)
  replace q1 := cell_next bl q1
  replace q2 := cell_next bl q2
  clear bl
  have Cc := Lib.hid c
  have Mc := Lib.hid m
  have Nc := Lib.hid h
  have Rc := Lib.hid r
  clear c m h r
  have hc := Nc.out
  go_wp2_with fail
  refine (meet' _ _ ls lt _ (by omega) Cs.out (by omega) Ct.out Rs.out Rt.out).mono ?_
  rintro e A10 ⟨vm, lm, rfl, c, m, h, r, bl⟩
  replace HB := Lib.hid (next HB.out bl)
  replace Rs := Lib.hid (Rs.out.go bl)
  replace Rt := Lib.hid (Rt.out.go bl)
  replace Rd := Lib.hid (Rd.out.go bl)
  replace Rc := Lib.hid (Rc.out.go bl)
  replace q1 := cell_next bl q1
  replace q2 := cell_next bl q2
  clear bl
  have Cm := Lib.hid c
  have Mm := Lib.hid m
  have Nm := Lib.hid h
  have Rm := Lib.hid r
  clear c m h r
  have hm := Nm.out
  go_wp2_with fail
  refine (gaps' _ ls lo hi _ (by omega) Cs.out h0 hhi Rs.out).mono ?_
  rintro e A11 ⟨vg, lg, rfl, c, m, h, r, bl⟩
  replace HB := Lib.hid (next HB.out bl)
  replace Rs := Lib.hid (Rs.out.go bl)
  replace Rt := Lib.hid (Rt.out.go bl)
  replace Rd := Lib.hid (Rd.out.go bl)
  replace Rc := Lib.hid (Rc.out.go bl)
  replace Rm := Lib.hid (Rm.out.go bl)
  replace q1 := cell_next bl q1
  replace q2 := cell_next bl q2
  clear bl
  have Cg := Lib.hid c
  have Mg := Lib.hid m
  have Ng := Lib.hid h
  have Rg := Lib.hid r
  clear c m h r
  have hg := Ng.out
  clear Rs
  go_wp2_with fail
  refine (may' _ ld _ (by omega) Cd.out Rd.out).mono ?_
  rintro e A12 ⟨rfl, bl⟩
  replace HB := Lib.hid (next HB.out bl)
  replace Rt := Lib.hid (Rt.out.go bl)
  replace Rd := Lib.hid (Rd.out.go bl)
  replace Rc := Lib.hid (Rc.out.go bl)
  replace Rm := Lib.hid (Rm.out.go bl)
  replace Rg := Lib.hid (Rg.out.go bl)
  replace q1 := cell_next bl q1
  replace q2 := cell_next bl q2
  clear bl
  go_wp2_with fail
  refine (may' _ lc _ (by omega) Cc.out Rc.out).mono ?_
  rintro e A13 ⟨rfl, bl⟩
  replace HB := Lib.hid (next HB.out bl)
  replace Rt := Lib.hid (Rt.out.go bl)
  replace Rd := Lib.hid (Rd.out.go bl)
  replace Rc := Lib.hid (Rc.out.go bl)
  replace Rm := Lib.hid (Rm.out.go bl)
  replace Rg := Lib.hid (Rg.out.go bl)
  replace q1 := cell_next bl q1
  replace q2 := cell_next bl q2
  clear bl
  go_wp2_with fail
  refine (may' _ lm _ (by omega) Cm.out Rm.out).mono ?_
  rintro e A14 ⟨rfl, bl⟩
  replace HB := Lib.hid (next HB.out bl)
  replace Rt := Lib.hid (Rt.out.go bl)
  replace Rd := Lib.hid (Rd.out.go bl)
  replace Rc := Lib.hid (Rc.out.go bl)
  replace Rm := Lib.hid (Rm.out.go bl)
  replace Rg := Lib.hid (Rg.out.go bl)
  replace q1 := cell_next bl q1
  replace q2 := cell_next bl q2
  clear bl
  go_wp2_with fail
  refine (may' _ lg _ (by omega) Cg.out Rg.out).mono ?_
  rintro e A15 ⟨rfl, bl⟩
  replace HB := Lib.hid (next HB.out bl)
  replace Rt := Lib.hid (Rt.out.go bl)
  replace Rd := Lib.hid (Rd.out.go bl)
  replace Rc := Lib.hid (Rc.out.go bl)
  replace Rm := Lib.hid (Rm.out.go bl)
  replace Rg := Lib.hid (Rg.out.go bl)
  replace q1 := cell_next bl q1
  replace q2 := cell_next bl q2
  clear bl
  cases bs
  · have hS : ¬ mem ls y := fun h => by rw [hasB_iff.2 h] at hbs; cases hbs
    go_wp2_with fail
    refine (has' _ ld y _ (by omega) Cd.out Rd.out).mono ?_
    rintro e A16 ⟨rfl, bl⟩
    replace HB := Lib.hid (next HB.out bl)
    replace Rt := Lib.hid (Rt.out.go bl)
    replace Rd := Lib.hid (Rd.out.go bl)
    replace Rc := Lib.hid (Rc.out.go bl)
    replace Rm := Lib.hid (Rm.out.go bl)
    replace Rg := Lib.hid (Rg.out.go bl)
    replace q1 := cell_next bl q1
    replace q2 := cell_next bl q2
    clear bl
    rw [show hasB ld y = false from hasB_of (Md.out y) (by simp [hS, hO])]
    go_wp2_with fail
    refine (has' _ lc y _ (by omega) Cc.out Rc.out).mono ?_
    rintro e A17 ⟨rfl, bl⟩
    replace HB := Lib.hid (next HB.out bl)
    replace Rt := Lib.hid (Rt.out.go bl)
    replace Rd := Lib.hid (Rd.out.go bl)
    replace Rc := Lib.hid (Rc.out.go bl)
    replace Rm := Lib.hid (Rm.out.go bl)
    replace Rg := Lib.hid (Rg.out.go bl)
    replace q1 := cell_next bl q1
    replace q2 := cell_next bl q2
    clear bl
    rw [show hasB lc y = false from hasB_of (Mc.out y) (by simp [hS, hO])]
    go_wp2_with fail
    refine (has' _ lm y _ (by omega) Cm.out Rm.out).mono ?_
    rintro e A18 ⟨rfl, bl⟩
    replace HB := Lib.hid (next HB.out bl)
    replace Rt := Lib.hid (Rt.out.go bl)
    replace Rd := Lib.hid (Rd.out.go bl)
    replace Rc := Lib.hid (Rc.out.go bl)
    replace Rm := Lib.hid (Rm.out.go bl)
    replace Rg := Lib.hid (Rg.out.go bl)
    replace q1 := cell_next bl q1
    replace q2 := cell_next bl q2
    clear bl
    rw [show hasB lm y = false from hasB_of (Mm.out y) (by simp [hS])]
    go_wp2_with fail
    refine (has' _ lg y _ (by omega) Cg.out Rg.out).mono ?_
    rintro e A19 ⟨rfl, bl⟩
    replace HB := Lib.hid (next HB.out bl)
    replace Rt := Lib.hid (Rt.out.go bl)
    replace Rd := Lib.hid (Rd.out.go bl)
    replace Rc := Lib.hid (Rc.out.go bl)
    replace Rm := Lib.hid (Rm.out.go bl)
    replace Rg := Lib.hid (Rg.out.go bl)
    replace q1 := cell_next bl q1
    replace q2 := cell_next bl q2
    clear bl
    rw [show hasB lg y = false from hasB_of (Mg.out y) (by simp [hS, hO])]
    go_wp2
    go_ret
    exact ⟨rfl, HB.out⟩
  · have hS : mem ls y := hasB_iff.1 hbs
    go_wp2_with fail
    refine (has' _ ld y _ (by omega) Cd.out Rd.out).mono ?_
    rintro e A16 ⟨rfl, bl⟩
    replace HB := Lib.hid (next HB.out bl)
    replace Rt := Lib.hid (Rt.out.go bl)
    replace Rd := Lib.hid (Rd.out.go bl)
    replace Rc := Lib.hid (Rc.out.go bl)
    replace Rm := Lib.hid (Rm.out.go bl)
    replace Rg := Lib.hid (Rg.out.go bl)
    replace q1 := cell_next bl q1
    replace q2 := cell_next bl q2
    clear bl
    rw [show hasB ld y = true from hasB_of (Md.out y) (by simp [hS, hO])]
    go_wp2_with fail
    refine (has' _ lc y _ (by omega) Cc.out Rc.out).mono ?_
    rintro e A17 ⟨rfl, bl⟩
    replace HB := Lib.hid (next HB.out bl)
    replace Rt := Lib.hid (Rt.out.go bl)
    replace Rd := Lib.hid (Rd.out.go bl)
    replace Rc := Lib.hid (Rc.out.go bl)
    replace Rm := Lib.hid (Rm.out.go bl)
    replace Rg := Lib.hid (Rg.out.go bl)
    replace q1 := cell_next bl q1
    replace q2 := cell_next bl q2
    clear bl
    rw [show hasB lc y = true from hasB_of (Mc.out y) (by simp [hS, hO])]
    obtain ⟨bt, hbt⟩ : ∃ b, hasB lt y = b := ⟨_, rfl⟩
    have hT : mem lt y ↔ bt = true := by rw [← hbt]; exact hasB_iff.symm
    go_wp2_with fail
    refine (has' _ lm y _ (by omega) Cm.out Rm.out).mono ?_
    rintro e A18 ⟨rfl, bl⟩
    replace HB := Lib.hid (next HB.out bl)
    replace Rt := Lib.hid (Rt.out.go bl)
    replace Rd := Lib.hid (Rd.out.go bl)
    replace Rc := Lib.hid (Rc.out.go bl)
    replace Rm := Lib.hid (Rm.out.go bl)
    replace Rg := Lib.hid (Rg.out.go bl)
    replace q1 := cell_next bl q1
    replace q2 := cell_next bl q2
    clear bl
    rw [show hasB lm y = bt from hasB_of (Mm.out y) (by simp [hS, hT])]
    go_wp2_with fail
    refine (has' _ lt y _ (by omega) Ct.out Rt.out).mono ?_
    rintro e A19 ⟨rfl, bl⟩
    replace HB := Lib.hid (next HB.out bl)
    replace Rt := Lib.hid (Rt.out.go bl)
    replace Rd := Lib.hid (Rd.out.go bl)
    replace Rc := Lib.hid (Rc.out.go bl)
    replace Rm := Lib.hid (Rm.out.go bl)
    replace Rg := Lib.hid (Rg.out.go bl)
    replace q1 := cell_next bl q1
    replace q2 := cell_next bl q2
    clear bl
    rw [hbt]
    have HT := Lib.hid hT
    clear hT hbt
    cases bt
    · go_wp2_with fail
      refine (has' _ lg y _ (by omega) Cg.out Rg.out).mono ?_
      rintro e A20 ⟨rfl, bl⟩
      replace HB := Lib.hid (next HB.out bl)
      replace Rt := Lib.hid (Rt.out.go bl)
      replace Rd := Lib.hid (Rd.out.go bl)
      replace Rc := Lib.hid (Rc.out.go bl)
      replace Rm := Lib.hid (Rm.out.go bl)
      replace Rg := Lib.hid (Rg.out.go bl)
      replace q1 := cell_next bl q1
      replace q2 := cell_next bl q2
      clear bl
      rw [show hasB lg y = false from hasB_of (Mg.out y) (by simp [hS, hO])]
      go_wp2
      go_ret
      exact ⟨rfl, HB.out⟩
    · go_wp2_with fail
      refine (has' _ lg y _ (by omega) Cg.out Rg.out).mono ?_
      rintro e A20 ⟨rfl, bl⟩
      replace HB := Lib.hid (next HB.out bl)
      replace Rt := Lib.hid (Rt.out.go bl)
      replace Rd := Lib.hid (Rd.out.go bl)
      replace Rc := Lib.hid (Rc.out.go bl)
      replace Rm := Lib.hid (Rm.out.go bl)
      replace Rg := Lib.hid (Rg.out.go bl)
      replace q1 := cell_next bl q1
      replace q2 := cell_next bl q2
      clear bl
      rw [show hasB lg y = false from hasB_of (Mg.out y) (by simp [hS, hO])]
      go_wp2
      go_ret
      exact ⟨rfl, HB.out⟩
set_option maxHeartbeats 8000000 in
theorem sets_hi (va vb : Value) (la lb : List Ran) (lo hi y : Int) (w : World) (ma : la.length ≤ maxLen) (ra : Rd w va la) (ua : Nums la) (mb : lb.length ≤ maxLen) (rb : Rd w vb lb) (ub : Nums lb) (h0 : 0 ≤ lo) (h1 : 0 ≤ hi) (hy0 : 0 ≤ y) (ga : lowB la = true) (gb : lowB lb = true) (g0 : lowB [(lo, hi)] = true) (hx1 : lo ≤ y) (hx2 : ¬ y ≤ hi) :
    Calls Try.prog 5 #[va, vb, .agg #[.int .u64 lo, .int .u64 hi], .int .u64 y] w fun e w' => e = .returned (.bool true) ∧ Below w.heap.size w w' := by
  have hga : la.length ≤ 40 ∧ ∀ x ∈ la, 0 ≤ x.1 ∧ x.2 < 9223372036854775808 := ⟨(lowB_of ga).1, fun x hx => ⟨(ua x hx).1.1, ((lowB_of ga).2 x hx).2⟩⟩
  have hla := hga.1
  have GA := Lib.hid hga.2
  have hua := Lib.hid ua
  clear hga ua
  have hgb : lb.length ≤ 40 ∧ ∀ x ∈ lb, 0 ≤ x.1 ∧ x.2 < 9223372036854775808 := ⟨(lowB_of gb).1, fun x hx => ⟨(ub x hx).1.1, ((lowB_of gb).2 x hx).2⟩⟩
  have hlb := hgb.1
  have GB := Lib.hid hgb.2
  have hub := Lib.hid ub
  clear hgb ub
  have hlo := (low_can g0).1
  have hhi := (low_can g0).2
  have Ra := Lib.hid ra
  have Rb := Lib.hid rb
  clear ra rb
  have q1 : (w.alloc (.cells #[.int .u64 lo, .int .u64 hi] 25)).cell? ⟨w.heap.size, 0, none⟩ = some (.int .u64 lo) := by simp [go_sem]
  have q2 : (w.alloc (.cells #[.int .u64 lo, .int .u64 hi] 25)).cell? ⟨w.heap.size, 1, none⟩ = some (.int .u64 hi) := by simp [go_sem]
  have HB := Lib.hid (made w (.cells #[.int .u64 lo, .int .u64 hi] 25))
  replace Ra := Lib.hid (Ra.out.go (made w (.cells #[.int .u64 lo, .int .u64 hi] 25)))
  replace Rb := Lib.hid (Rb.out.go (made w (.cells #[.int .u64 lo, .int .u64 hi] 25)))
  have d1 : decide (lo ≤ y) = true := decide_eq_true hx1
  have d2 : decide (y ≤ hi) = false := decide_eq_false hx2
  have hO : ¬ inn (lo, hi) y := fun h => hx2 h.2
  go_enter Try.func5, Try.ntmps5
  go_wp2_with fail
  refine (low_any _ la _ (by omega) Ra.out).mono ?_
  rintro e A1 ⟨rfl, bl⟩
  replace HB := Lib.hid (next HB.out bl)
  replace Ra := Lib.hid (Ra.out.go bl)
  replace Rb := Lib.hid (Rb.out.go bl)
  replace q1 := cell_next bl q1
  replace q2 := cell_next bl q2
  clear bl
  rw [ga]
  go_wp2_with fail
  refine (low_any _ lb _ (by omega) Rb.out).mono ?_
  rintro e A2 ⟨rfl, bl⟩
  replace HB := Lib.hid (next HB.out bl)
  replace Ra := Lib.hid (Ra.out.go bl)
  replace Rb := Lib.hid (Rb.out.go bl)
  replace q1 := cell_next bl q1
  replace q2 := cell_next bl q2
  clear bl
  rw [gb]
  go_wp2_with fail
  refine (low_any _ [(lo, hi)] _ (by simp [maxLen]) (rd_made _ lo hi)).mono ?_
  rintro e A3 ⟨rfl, bl⟩
  replace bl := next (made _ _) bl
  replace HB := Lib.hid (next HB.out bl)
  replace Ra := Lib.hid (Ra.out.go bl)
  replace Rb := Lib.hid (Rb.out.go bl)
  replace q1 := cell_next bl q1
  replace q2 := cell_next bl q2
  clear bl
  rw [g0]
  go_wp2_with fail
  refine (shown_any _).mono ?_
  rintro e A4 ⟨rfl, bl⟩
  replace HB := Lib.hid (next HB.out bl)
  replace Ra := Lib.hid (Ra.out.go bl)
  replace Rb := Lib.hid (Rb.out.go bl)
  replace q1 := cell_next bl q1
  replace q2 := cell_next bl q2
  clear bl
  go_wp2_with fail
  refine (of' _ la _ (by omega) GA.out Ra.out).mono ?_
  rintro e A5 ⟨vs, ls, rfl, c, m, h, r, bl⟩
  replace HB := Lib.hid (next HB.out bl)
  replace Ra := Lib.hid (Ra.out.go bl)
  replace Rb := Lib.hid (Rb.out.go bl)
  replace q1 := cell_next bl q1
  replace q2 := cell_next bl q2
  clear bl
  have Cs := Lib.hid c
  have Ms := Lib.hid m
  have Ns := Lib.hid h
  have Rs := Lib.hid r
  clear c m h r
  clear Ra
  have hs := Ns.out
  go_wp2_with fail
  refine (of' _ lb _ (by omega) GB.out Rb.out).mono ?_
  rintro e A6 ⟨vt, lt, rfl, c, m, h, r, bl⟩
  replace HB := Lib.hid (next HB.out bl)
  replace Rb := Lib.hid (Rb.out.go bl)
  replace Rs := Lib.hid (Rs.out.go bl)
  replace q1 := cell_next bl q1
  replace q2 := cell_next bl q2
  clear bl
  have Ct := Lib.hid c
  have Mt := Lib.hid m
  have Nt := Lib.hid h
  have Rt := Lib.hid r
  clear c m h r
  clear Rb
  have ht := Nt.out
  go_wp2_with fail
  refine (has' _ ls y _ (by omega) Cs.out Rs.out).mono ?_
  rintro e A7 ⟨rfl, bl⟩
  replace HB := Lib.hid (next HB.out bl)
  replace Rs := Lib.hid (Rs.out.go bl)
  replace Rt := Lib.hid (Rt.out.go bl)
  replace q1 := cell_next bl q1
  replace q2 := cell_next bl q2
  clear bl
  obtain ⟨bs, hbs⟩ : ∃ b, hasB ls y = b := ⟨_, rfl⟩
  rw [hbs]
  go_wp2_with fail
  refine (add' _ ls lo hi _ (by omega) Cs.out h0 hhi Rs.out).mono ?_
  rintro e A8 ⟨vd, ld, rfl, c, m, h, r, bl⟩
  replace HB := Lib.hid (next HB.out bl)
  replace Rs := Lib.hid (Rs.out.go bl)
  replace Rt := Lib.hid (Rt.out.go bl)
  replace q1 := cell_next bl q1
  replace q2 := cell_next bl q2
  clear bl
  have Cd := Lib.hid c
  have Md := Lib.hid m
  have Nd := Lib.hid h
  have Rd := Lib.hid r
  clear c m h r
  have hd := Nd.out
  go_wp2_with fail
  refine (cut' _ ls lo hi _ (by omega) Cs.out h0 hhi Rs.out).mono ?_
  rintro e A9 ⟨vc, lc, rfl, c, m, h, r, bl⟩
  replace HB := Lib.hid (next HB.out bl)
  replace Rs := Lib.hid (Rs.out.go bl)
  replace Rt := Lib.hid (Rt.out.go bl)
  replace Rd := Lib.hid (Rd.out.go bl)
  replace q1 := cell_next bl q1
  replace q2 := cell_next bl q2
  clear bl
  have Cc := Lib.hid c
  have Mc := Lib.hid m
  have Nc := Lib.hid h
  have Rc := Lib.hid r
  clear c m h r
  have hc := Nc.out
  go_wp2_with fail
  refine (meet' _ _ ls lt _ (by omega) Cs.out (by omega) Ct.out Rs.out Rt.out).mono ?_
  rintro e A10 ⟨vm, lm, rfl, c, m, h, r, bl⟩
  replace HB := Lib.hid (next HB.out bl)
  replace Rs := Lib.hid (Rs.out.go bl)
  replace Rt := Lib.hid (Rt.out.go bl)
  replace Rd := Lib.hid (Rd.out.go bl)
  replace Rc := Lib.hid (Rc.out.go bl)
  replace q1 := cell_next bl q1
  replace q2 := cell_next bl q2
  clear bl
  have Cm := Lib.hid c
  have Mm := Lib.hid m
  have Nm := Lib.hid h
  have Rm := Lib.hid r
  clear c m h r
  have hm := Nm.out
  go_wp2_with fail
  refine (gaps' _ ls lo hi _ (by omega) Cs.out h0 hhi Rs.out).mono ?_
  rintro e A11 ⟨vg, lg, rfl, c, m, h, r, bl⟩
  replace HB := Lib.hid (next HB.out bl)
  replace Rs := Lib.hid (Rs.out.go bl)
  replace Rt := Lib.hid (Rt.out.go bl)
  replace Rd := Lib.hid (Rd.out.go bl)
  replace Rc := Lib.hid (Rc.out.go bl)
  replace Rm := Lib.hid (Rm.out.go bl)
  replace q1 := cell_next bl q1
  replace q2 := cell_next bl q2
  clear bl
  have Cg := Lib.hid c
  have Mg := Lib.hid m
  have Ng := Lib.hid h
  have Rg := Lib.hid r
  clear c m h r
  have hg := Ng.out
  clear Rs
  go_wp2_with fail
  refine (may' _ ld _ (by omega) Cd.out Rd.out).mono ?_
  rintro e A12 ⟨rfl, bl⟩
  replace HB := Lib.hid (next HB.out bl)
  replace Rt := Lib.hid (Rt.out.go bl)
  replace Rd := Lib.hid (Rd.out.go bl)
  replace Rc := Lib.hid (Rc.out.go bl)
  replace Rm := Lib.hid (Rm.out.go bl)
  replace Rg := Lib.hid (Rg.out.go bl)
  replace q1 := cell_next bl q1
  replace q2 := cell_next bl q2
  clear bl
  go_wp2_with fail
  refine (may' _ lc _ (by omega) Cc.out Rc.out).mono ?_
  rintro e A13 ⟨rfl, bl⟩
  replace HB := Lib.hid (next HB.out bl)
  replace Rt := Lib.hid (Rt.out.go bl)
  replace Rd := Lib.hid (Rd.out.go bl)
  replace Rc := Lib.hid (Rc.out.go bl)
  replace Rm := Lib.hid (Rm.out.go bl)
  replace Rg := Lib.hid (Rg.out.go bl)
  replace q1 := cell_next bl q1
  replace q2 := cell_next bl q2
  clear bl
  go_wp2_with fail
  refine (may' _ lm _ (by omega) Cm.out Rm.out).mono ?_
  rintro e A14 ⟨rfl, bl⟩
  replace HB := Lib.hid (next HB.out bl)
  replace Rt := Lib.hid (Rt.out.go bl)
  replace Rd := Lib.hid (Rd.out.go bl)
  replace Rc := Lib.hid (Rc.out.go bl)
  replace Rm := Lib.hid (Rm.out.go bl)
  replace Rg := Lib.hid (Rg.out.go bl)
  replace q1 := cell_next bl q1
  replace q2 := cell_next bl q2
  clear bl
  go_wp2_with fail
  refine (may' _ lg _ (by omega) Cg.out Rg.out).mono ?_
  rintro e A15 ⟨rfl, bl⟩
  replace HB := Lib.hid (next HB.out bl)
  replace Rt := Lib.hid (Rt.out.go bl)
  replace Rd := Lib.hid (Rd.out.go bl)
  replace Rc := Lib.hid (Rc.out.go bl)
  replace Rm := Lib.hid (Rm.out.go bl)
  replace Rg := Lib.hid (Rg.out.go bl)
  replace q1 := cell_next bl q1
  replace q2 := cell_next bl q2
  clear bl
  cases bs
  · have hS : ¬ mem ls y := fun h => by rw [hasB_iff.2 h] at hbs; cases hbs
    go_wp2_with fail
    refine (has' _ ld y _ (by omega) Cd.out Rd.out).mono ?_
    rintro e A16 ⟨rfl, bl⟩
    replace HB := Lib.hid (next HB.out bl)
    replace Rt := Lib.hid (Rt.out.go bl)
    replace Rd := Lib.hid (Rd.out.go bl)
    replace Rc := Lib.hid (Rc.out.go bl)
    replace Rm := Lib.hid (Rm.out.go bl)
    replace Rg := Lib.hid (Rg.out.go bl)
    replace q1 := cell_next bl q1
    replace q2 := cell_next bl q2
    clear bl
    rw [show hasB ld y = false from hasB_of (Md.out y) (by simp [hS, hO])]
    go_wp2_with fail
    refine (has' _ lc y _ (by omega) Cc.out Rc.out).mono ?_
    rintro e A17 ⟨rfl, bl⟩
    replace HB := Lib.hid (next HB.out bl)
    replace Rt := Lib.hid (Rt.out.go bl)
    replace Rd := Lib.hid (Rd.out.go bl)
    replace Rc := Lib.hid (Rc.out.go bl)
    replace Rm := Lib.hid (Rm.out.go bl)
    replace Rg := Lib.hid (Rg.out.go bl)
    replace q1 := cell_next bl q1
    replace q2 := cell_next bl q2
    clear bl
    rw [show hasB lc y = false from hasB_of (Mc.out y) (by simp [hS, hO])]
    go_wp2_with fail
    refine (has' _ lm y _ (by omega) Cm.out Rm.out).mono ?_
    rintro e A18 ⟨rfl, bl⟩
    replace HB := Lib.hid (next HB.out bl)
    replace Rt := Lib.hid (Rt.out.go bl)
    replace Rd := Lib.hid (Rd.out.go bl)
    replace Rc := Lib.hid (Rc.out.go bl)
    replace Rm := Lib.hid (Rm.out.go bl)
    replace Rg := Lib.hid (Rg.out.go bl)
    replace q1 := cell_next bl q1
    replace q2 := cell_next bl q2
    clear bl
    rw [show hasB lm y = false from hasB_of (Mm.out y) (by simp [hS])]
    go_wp2_with fail
    refine (has' _ lg y _ (by omega) Cg.out Rg.out).mono ?_
    rintro e A19 ⟨rfl, bl⟩
    replace HB := Lib.hid (next HB.out bl)
    replace Rt := Lib.hid (Rt.out.go bl)
    replace Rd := Lib.hid (Rd.out.go bl)
    replace Rc := Lib.hid (Rc.out.go bl)
    replace Rm := Lib.hid (Rm.out.go bl)
    replace Rg := Lib.hid (Rg.out.go bl)
    replace q1 := cell_next bl q1
    replace q2 := cell_next bl q2
    clear bl
    rw [show hasB lg y = false from hasB_of (Mg.out y) (by simp [hS, hO])]
    go_wp2
    go_ret
    exact ⟨rfl, HB.out⟩
  · have hS : mem ls y := hasB_iff.1 hbs
    go_wp2_with fail
    refine (has' _ ld y _ (by omega) Cd.out Rd.out).mono ?_
    rintro e A16 ⟨rfl, bl⟩
    replace HB := Lib.hid (next HB.out bl)
    replace Rt := Lib.hid (Rt.out.go bl)
    replace Rd := Lib.hid (Rd.out.go bl)
    replace Rc := Lib.hid (Rc.out.go bl)
    replace Rm := Lib.hid (Rm.out.go bl)
    replace Rg := Lib.hid (Rg.out.go bl)
    replace q1 := cell_next bl q1
    replace q2 := cell_next bl q2
    clear bl
    rw [show hasB ld y = true from hasB_of (Md.out y) (by simp [hS, hO])]
    go_wp2_with fail
    refine (has' _ lc y _ (by omega) Cc.out Rc.out).mono ?_
    rintro e A17 ⟨rfl, bl⟩
    replace HB := Lib.hid (next HB.out bl)
    replace Rt := Lib.hid (Rt.out.go bl)
    replace Rd := Lib.hid (Rd.out.go bl)
    replace Rc := Lib.hid (Rc.out.go bl)
    replace Rm := Lib.hid (Rm.out.go bl)
    replace Rg := Lib.hid (Rg.out.go bl)
    replace q1 := cell_next bl q1
    replace q2 := cell_next bl q2
    clear bl
    rw [show hasB lc y = true from hasB_of (Mc.out y) (by simp [hS, hO])]
    obtain ⟨bt, hbt⟩ : ∃ b, hasB lt y = b := ⟨_, rfl⟩
    have hT : mem lt y ↔ bt = true := by rw [← hbt]; exact hasB_iff.symm
    go_wp2_with fail
    refine (has' _ lm y _ (by omega) Cm.out Rm.out).mono ?_
    rintro e A18 ⟨rfl, bl⟩
    replace HB := Lib.hid (next HB.out bl)
    replace Rt := Lib.hid (Rt.out.go bl)
    replace Rd := Lib.hid (Rd.out.go bl)
    replace Rc := Lib.hid (Rc.out.go bl)
    replace Rm := Lib.hid (Rm.out.go bl)
    replace Rg := Lib.hid (Rg.out.go bl)
    replace q1 := cell_next bl q1
    replace q2 := cell_next bl q2
    clear bl
    rw [show hasB lm y = bt from hasB_of (Mm.out y) (by simp [hS, hT])]
    go_wp2_with fail
    refine (has' _ lt y _ (by omega) Ct.out Rt.out).mono ?_
    rintro e A19 ⟨rfl, bl⟩
    replace HB := Lib.hid (next HB.out bl)
    replace Rt := Lib.hid (Rt.out.go bl)
    replace Rd := Lib.hid (Rd.out.go bl)
    replace Rc := Lib.hid (Rc.out.go bl)
    replace Rm := Lib.hid (Rm.out.go bl)
    replace Rg := Lib.hid (Rg.out.go bl)
    replace q1 := cell_next bl q1
    replace q2 := cell_next bl q2
    clear bl
    rw [hbt]
    have HT := Lib.hid hT
    clear hT hbt
    cases bt
    · go_wp2_with fail
      refine (has' _ lg y _ (by omega) Cg.out Rg.out).mono ?_
      rintro e A20 ⟨rfl, bl⟩
      replace HB := Lib.hid (next HB.out bl)
      replace Rt := Lib.hid (Rt.out.go bl)
      replace Rd := Lib.hid (Rd.out.go bl)
      replace Rc := Lib.hid (Rc.out.go bl)
      replace Rm := Lib.hid (Rm.out.go bl)
      replace Rg := Lib.hid (Rg.out.go bl)
      replace q1 := cell_next bl q1
      replace q2 := cell_next bl q2
      clear bl
      rw [show hasB lg y = false from hasB_of (Mg.out y) (by simp [hS, hO])]
      go_wp2
      go_ret
      exact ⟨rfl, HB.out⟩
    · go_wp2_with fail
      refine (has' _ lg y _ (by omega) Cg.out Rg.out).mono ?_
      rintro e A20 ⟨rfl, bl⟩
      replace HB := Lib.hid (next HB.out bl)
      replace Rt := Lib.hid (Rt.out.go bl)
      replace Rd := Lib.hid (Rd.out.go bl)
      replace Rc := Lib.hid (Rc.out.go bl)
      replace Rm := Lib.hid (Rm.out.go bl)
      replace Rg := Lib.hid (Rg.out.go bl)
      replace q1 := cell_next bl q1
      replace q2 := cell_next bl q2
      clear bl
      rw [show hasB lg y = false from hasB_of (Mg.out y) (by simp [hS, hO])]
      go_wp2
      go_ret
      exact ⟨rfl, HB.out⟩
theorem law_sets (a : Option Addr) (n cap : Nat) (la : List Ran) (b : Option Addr) (n2 cap2 : Nat) (lb : List Ran) (lo hi y : Int) (w : World) (hn : la.length = n) (hm : n ≤ maxLen) (r : Rd w (.slice a n cap) la) (u : Nums la)
    (hn2 : lb.length = n2) (hm2 : n2 ≤ maxLen) (r2 : Rd w (.slice b n2 cap2) lb) (u2 : Nums lb) (w0 : (Lit.int .u64 lo).wf = true) (w1 : (Lit.int .u64 hi).wf = true) (w2 : (Lit.int .u64 y).wf = true) :
    Calls Try.prog 5 #[.slice a n cap, .slice b n2 cap2, .agg #[.int .u64 lo, .int .u64 hi], .int .u64 y] w fun e w' => e = .returned (.bool true) ∧ Below w.heap.size w w' := by
  have h0 := (bounds_u64 w0).1
  have h1 := (bounds_u64 w1).1
  have h2 := (bounds_u64 w2).1
  rcases lowB_or la with ga | ga
  · rcases lowB_or lb with gb | gb
    · rcases lowB_or [(lo, hi)] with g0 | g0
      · by_cases hx1 : lo ≤ y
        · by_cases hx2 : y ≤ hi
          · exact sets_in _ _ la lb lo hi y w (by omega) r u (by omega) r2 u2 h0 h1 h2 ga gb g0 hx1 hx2
          · exact sets_hi _ _ la lb lo hi y w (by omega) r u (by omega) r2 u2 h0 h1 h2 ga gb g0 hx1 hx2
        · exact sets_lo _ _ la lb lo hi y w (by omega) r u (by omega) r2 u2 h0 h1 h2 ga gb g0 hx1
      · exact RangesSets_no2 _ _ la lb lo hi y w (by omega) r u (by omega) r2 u2 h0 h1 h2 ga gb g0
    · exact RangesSets_no1 _ _ la lb lo hi y w (by omega) r u (by omega) r2 u2 h0 h1 h2 ga gb
  · exact RangesSets_no0 _ _ la lb lo hi y w (by omega) r u (by omega) r2 u2 h0 h1 h2 ga
end Go.Proofs.Ytbapbkhbkpeofaa.Rg
