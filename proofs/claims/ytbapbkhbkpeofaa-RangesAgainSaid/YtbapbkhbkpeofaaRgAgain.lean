/- The walk of the law RangesAgain. -/
import Derived.Test.YtbapbkhbkpeofaaRgH
import Derived.Test.YtbapbkhbkpeofaaRgK
import Derived.OpenShut
namespace Go.Proofs.Ytbapbkhbkpeofaa.Rg
open Go.RowKit Go.Shelf
set_option linter.unusedVariables false
set_option maxHeartbeats 2000000 in
theorem RangesAgain_no0 (va : Value) (la : List Ran) (lo hi : Int) (w : World) (ma : la.length ≤ maxLen) (ra : Rd w va la) (ua : Nums la) (h0 : 0 ≤ lo) (h1 : 0 ≤ hi) (ga : lowB la = false) :
    Calls Try.prog 8 #[va, .agg #[.int .u64 lo, .int .u64 hi]] w fun e w' => e = .returned (.bool true) ∧ Below w.heap.size w w' := by
  have Ra := Lib.hid ra
  clear ra
  have q1 : (w.alloc (.cells #[.int .u64 lo, .int .u64 hi] 25)).cell? ⟨w.heap.size, 0, none⟩ = some (.int .u64 lo) := by simp [go_sem]
  have q2 : (w.alloc (.cells #[.int .u64 lo, .int .u64 hi] 25)).cell? ⟨w.heap.size, 1, none⟩ = some (.int .u64 hi) := by simp [go_sem]
  have HB := Lib.hid (made w (.cells #[.int .u64 lo, .int .u64 hi] 25))
  replace Ra := Lib.hid (Ra.out.go (made w (.cells #[.int .u64 lo, .int .u64 hi] 25)))
  go_enter Try.func8, Try.ntmps8
  go_wp2_with fail
  refine (low_any _ la _ (by omega) Ra.out).mono ?_
  rintro e A1 ⟨rfl, bl⟩
  replace HB := Lib.hid (next HB.out bl)
  replace Ra := Lib.hid (Ra.out.go bl)
  replace q1 := cell_next bl q1
  replace q2 := cell_next bl q2
  clear bl
  rw [ga]
  go_wp2_with fail
  refine (shown_any _).mono ?_
  rintro e A2 ⟨rfl, bl⟩
  replace HB := Lib.hid (next HB.out bl)
  replace Ra := Lib.hid (Ra.out.go bl)
  replace q1 := cell_next bl q1
  replace q2 := cell_next bl q2
  clear bl
  go_wp2
  go_ret
  exact ⟨rfl, HB.out⟩
set_option maxHeartbeats 2000000 in
theorem RangesAgain_no1 (va : Value) (la : List Ran) (lo hi : Int) (w : World) (ma : la.length ≤ maxLen) (ra : Rd w va la) (ua : Nums la) (h0 : 0 ≤ lo) (h1 : 0 ≤ hi) (ga : lowB la = true) (g0 : lowB [(lo, hi)] = false) :
    Calls Try.prog 8 #[va, .agg #[.int .u64 lo, .int .u64 hi]] w fun e w' => e = .returned (.bool true) ∧ Below w.heap.size w w' := by
  have Ra := Lib.hid ra
  clear ra
  have q1 : (w.alloc (.cells #[.int .u64 lo, .int .u64 hi] 25)).cell? ⟨w.heap.size, 0, none⟩ = some (.int .u64 lo) := by simp [go_sem]
  have q2 : (w.alloc (.cells #[.int .u64 lo, .int .u64 hi] 25)).cell? ⟨w.heap.size, 1, none⟩ = some (.int .u64 hi) := by simp [go_sem]
  have HB := Lib.hid (made w (.cells #[.int .u64 lo, .int .u64 hi] 25))
  replace Ra := Lib.hid (Ra.out.go (made w (.cells #[.int .u64 lo, .int .u64 hi] 25)))
  go_enter Try.func8, Try.ntmps8
  go_wp2_with fail
  refine (low_any _ la _ (by omega) Ra.out).mono ?_
  rintro e A1 ⟨rfl, bl⟩
  replace HB := Lib.hid (next HB.out bl)
  replace Ra := Lib.hid (Ra.out.go bl)
  replace q1 := cell_next bl q1
  replace q2 := cell_next bl q2
  clear bl
  rw [ga]
  go_wp2_with fail
  refine (low_any _ [(lo, hi)] _ (by simp [maxLen]) (rd_made _ lo hi)).mono ?_
  rintro e A2 ⟨rfl, bl⟩
  replace bl := next (made _ _) bl
  replace HB := Lib.hid (next HB.out bl)
  replace Ra := Lib.hid (Ra.out.go bl)
  replace q1 := cell_next bl q1
  replace q2 := cell_next bl q2
  clear bl
  rw [g0]
  go_wp2_with fail
  refine (shown_any _).mono ?_
  rintro e A3 ⟨rfl, bl⟩
  replace HB := Lib.hid (next HB.out bl)
  replace Ra := Lib.hid (Ra.out.go bl)
  replace q1 := cell_next bl q1
  replace q2 := cell_next bl q2
  clear bl
  go_wp2
  go_ret
  exact ⟨rfl, HB.out⟩
set_option maxHeartbeats 8000000 in
theorem again_yes (va : Value) (la : List Ran) (lo hi : Int) (w : World) (ma : la.length ≤ maxLen) (ra : Rd w va la) (ua : Nums la) (h0 : 0 ≤ lo) (h1 : 0 ≤ hi) (ga : lowB la = true) (g0 : lowB [(lo, hi)] = true) (hle : lo ≤ hi) :
    Calls Try.prog 8 #[va, .agg #[.int .u64 lo, .int .u64 hi]] w fun e w' => e = .returned (.bool true) ∧ Below w.heap.size w w' := by
  have hga : la.length ≤ 40 ∧ ∀ x ∈ la, 0 ≤ x.1 ∧ x.2 < 9223372036854775808 := ⟨(lowB_of ga).1, fun x hx => ⟨(ua x hx).1.1, ((lowB_of ga).2 x hx).2⟩⟩
  have hla := hga.1
  have GA := Lib.hid hga.2
  have hua := Lib.hid ua
  clear hga ua
  have hlo := (low_can g0).1
  have hhi := (low_can g0).2
  have Ra := Lib.hid ra
  clear ra
  have q1 : (w.alloc (.cells #[.int .u64 lo, .int .u64 hi] 25)).cell? ⟨w.heap.size, 0, none⟩ = some (.int .u64 lo) := by simp [go_sem]
  have q2 : (w.alloc (.cells #[.int .u64 lo, .int .u64 hi] 25)).cell? ⟨w.heap.size, 1, none⟩ = some (.int .u64 hi) := by simp [go_sem]
  have HB := Lib.hid (made w (.cells #[.int .u64 lo, .int .u64 hi] 25))
  replace Ra := Lib.hid (Ra.out.go (made w (.cells #[.int .u64 lo, .int .u64 hi] 25)))
  have d1 : decide (lo ≤ hi) = true := decide_eq_true hle
  go_enter Try.func8, Try.ntmps8
  go_wp2_with fail
  refine (low_any _ la _ (by omega) Ra.out).mono ?_
  rintro e A1 ⟨rfl, bl⟩
  replace HB := Lib.hid (next HB.out bl)
  replace Ra := Lib.hid (Ra.out.go bl)
  replace q1 := cell_next bl q1
  replace q2 := cell_next bl q2
  clear bl
  rw [ga]
  go_wp2_with fail
  refine (low_any _ [(lo, hi)] _ (by simp [maxLen]) (rd_made _ lo hi)).mono ?_
  rintro e A2 ⟨rfl, bl⟩
  replace bl := next (made _ _) bl
  replace HB := Lib.hid (next HB.out bl)
  replace Ra := Lib.hid (Ra.out.go bl)
  replace q1 := cell_next bl q1
  replace q2 := cell_next bl q2
  clear bl
  rw [g0]
  go_wp2_with fail
  refine (shown_any _).mono ?_
  rintro e A3 ⟨rfl, bl⟩
  replace HB := Lib.hid (next HB.out bl)
  replace Ra := Lib.hid (Ra.out.go bl)
  replace q1 := cell_next bl q1
  replace q2 := cell_next bl q2
  clear bl
  go_wp2_with fail
  refine (of' _ la _ (by omega) GA.out Ra.out).mono ?_
  rintro e A4 ⟨vs, ls, rfl, c, m, h, r, bl⟩
  replace HB := Lib.hid (next HB.out bl)
  replace Ra := Lib.hid (Ra.out.go bl)
  replace q1 := cell_next bl q1
  replace q2 := cell_next bl q2
  clear bl
  have Cs := Lib.hid c
  have Ms := Lib.hid m
  have Ns := Lib.hid h
  have Rs := Lib.hid r
  clear c m h r
  clear Ra
  have hs := Ns.out
  go_wp2_with fail
  refine (add' _ ls lo hi _ (by omega) Cs.out h0 hhi Rs.out).mono ?_
  rintro e A5 ⟨vd, ld, rfl, c, m, h, r, bl⟩
  replace HB := Lib.hid (next HB.out bl)
  replace Rs := Lib.hid (Rs.out.go bl)
  replace q1 := cell_next bl q1
  replace q2 := cell_next bl q2
  clear bl
  have Cd := Lib.hid c
  have Md := Lib.hid m
  have Nd := Lib.hid h
  have Rd := Lib.hid r
  clear c m h r
  have hd := Nd.out
  go_wp2_with fail
  refine (cut' _ ls lo hi _ (by omega) Cs.out h0 hhi Rs.out).mono ?_
  rintro e A6 ⟨vc, lc, rfl, c, m, h, r, bl⟩
  replace HB := Lib.hid (next HB.out bl)
  replace Rs := Lib.hid (Rs.out.go bl)
  replace Rd := Lib.hid (Rd.out.go bl)
  replace q1 := cell_next bl q1
  replace q2 := cell_next bl q2
  clear bl
  have Cc := Lib.hid c
  have Mc := Lib.hid m
  have Nc := Lib.hid h
  have Rc := Lib.hid r
  clear c m h r
  clear Rs
  have hc := Nc.out
  go_wp2_with fail
  refine (has' _ ld lo _ (by omega) Cd.out Rd.out).mono ?_
  rintro e A7 ⟨rfl, bl⟩
  replace HB := Lib.hid (next HB.out bl)
  replace Rd := Lib.hid (Rd.out.go bl)
  replace Rc := Lib.hid (Rc.out.go bl)
  replace q1 := cell_next bl q1
  replace q2 := cell_next bl q2
  clear bl
  rw [show hasB ld lo = true from hasB_iff.2 ((Md.out lo).2 (.inr ⟨Int.le_refl _, hle⟩))]
  go_wp2_with fail
  refine (has' _ ld hi _ (by omega) Cd.out Rd.out).mono ?_
  rintro e A8 ⟨rfl, bl⟩
  replace HB := Lib.hid (next HB.out bl)
  replace Rd := Lib.hid (Rd.out.go bl)
  replace Rc := Lib.hid (Rc.out.go bl)
  replace q1 := cell_next bl q1
  replace q2 := cell_next bl q2
  clear bl
  rw [show hasB ld hi = true from hasB_iff.2 ((Md.out hi).2 (.inr ⟨hle, Int.le_refl _⟩))]
  go_wp2_with fail
  refine (has' _ lc lo _ (by omega) Cc.out Rc.out).mono ?_
  rintro e A9 ⟨rfl, bl⟩
  replace HB := Lib.hid (next HB.out bl)
  replace Rd := Lib.hid (Rd.out.go bl)
  replace Rc := Lib.hid (Rc.out.go bl)
  replace q1 := cell_next bl q1
  replace q2 := cell_next bl q2
  clear bl
  rw [show hasB lc lo = false from hasB_no' (fun h => ((Mc.out lo).1 h).2 ⟨Int.le_refl _, hle⟩)]
  go_wp2_with fail
  refine (has' _ lc hi _ (by omega) Cc.out Rc.out).mono ?_
  rintro e A10 ⟨rfl, bl⟩
  replace HB := Lib.hid (next HB.out bl)
  replace Rd := Lib.hid (Rd.out.go bl)
  replace Rc := Lib.hid (Rc.out.go bl)
  replace q1 := cell_next bl q1
  replace q2 := cell_next bl q2
  clear bl
  rw [show hasB lc hi = false from hasB_no' (fun h => ((Mc.out hi).1 h).2 ⟨hle, Int.le_refl _⟩)]
  go_wp2_with fail
  refine (add' _ ld lo hi _ (by omega) Cd.out h0 hhi Rd.out).mono ?_
  rintro e A11 ⟨vx, lx, rfl, c, m, h, r, bl⟩
  replace HB := Lib.hid (next HB.out bl)
  replace Rd := Lib.hid (Rd.out.go bl)
  replace Rc := Lib.hid (Rc.out.go bl)
  replace q1 := cell_next bl q1
  replace q2 := cell_next bl q2
  clear bl
  have Cx := Lib.hid c
  have Mx := Lib.hid m
  have Nx := Lib.hid h
  have Rx := Lib.hid r
  clear c m h r
  go_wp2_with fail
  refine (its_any _ lx _ (by have := Nx.out; omega) Rx.out).mono ?_
  rintro e A12 ⟨vy, rfl, r, bl⟩
  replace HB := Lib.hid (next HB.out bl)
  replace Rd := Lib.hid (Rd.out.go bl)
  replace Rc := Lib.hid (Rc.out.go bl)
  replace Rx := Lib.hid (Rx.out.go bl)
  replace q1 := cell_next bl q1
  replace q2 := cell_next bl q2
  clear bl
  have Ry := Lib.hid r
  clear r
  clear Rx
  go_wp2_with fail
  refine (its_any _ ld _ (by have := Nd.out; omega) Rd.out).mono ?_
  rintro e A13 ⟨vz, rfl, r, bl⟩
  replace HB := Lib.hid (next HB.out bl)
  replace Rd := Lib.hid (Rd.out.go bl)
  replace Rc := Lib.hid (Rc.out.go bl)
  replace Ry := Lib.hid (Ry.out.go bl)
  replace q1 := cell_next bl q1
  replace q2 := cell_next bl q2
  clear bl
  have Rz := Lib.hid r
  clear r
  go_wp2_with fail
  refine (same' _ _ lx ld _ (by have := Nx.out; omega) Ry.out Rz.out Cx.out Cd.out (fun n => by rw [Mx.out, Md.out, or_assoc, or_self])).mono ?_
  rintro e A14 ⟨rfl, bl⟩
  replace HB := Lib.hid (next HB.out bl)
  replace Rd := Lib.hid (Rd.out.go bl)
  replace Rc := Lib.hid (Rc.out.go bl)
  replace Ry := Lib.hid (Ry.out.go bl)
  replace Rz := Lib.hid (Rz.out.go bl)
  replace q1 := cell_next bl q1
  replace q2 := cell_next bl q2
  clear bl
  clear Ry
  clear Rz
  go_wp2_with fail
  refine (cut' _ lc lo hi _ (by omega) Cc.out h0 hhi Rc.out).mono ?_
  rintro e A15 ⟨vx2, lx2, rfl, c, m, h, r, bl⟩
  replace HB := Lib.hid (next HB.out bl)
  replace Rd := Lib.hid (Rd.out.go bl)
  replace Rc := Lib.hid (Rc.out.go bl)
  replace q1 := cell_next bl q1
  replace q2 := cell_next bl q2
  clear bl
  have Cx2 := Lib.hid c
  have Mx2 := Lib.hid m
  have Nx2 := Lib.hid h
  have Rx2 := Lib.hid r
  clear c m h r
  go_wp2_with fail
  refine (its_any _ lx2 _ (by have := Nx2.out; omega) Rx2.out).mono ?_
  rintro e A16 ⟨vy, rfl, r, bl⟩
  replace HB := Lib.hid (next HB.out bl)
  replace Rd := Lib.hid (Rd.out.go bl)
  replace Rc := Lib.hid (Rc.out.go bl)
  replace Rx2 := Lib.hid (Rx2.out.go bl)
  replace q1 := cell_next bl q1
  replace q2 := cell_next bl q2
  clear bl
  have Ry := Lib.hid r
  clear r
  clear Rx2
  go_wp2_with fail
  refine (its_any _ lc _ (by have := Nc.out; omega) Rc.out).mono ?_
  rintro e A17 ⟨vz, rfl, r, bl⟩
  replace HB := Lib.hid (next HB.out bl)
  replace Rd := Lib.hid (Rd.out.go bl)
  replace Rc := Lib.hid (Rc.out.go bl)
  replace Ry := Lib.hid (Ry.out.go bl)
  replace q1 := cell_next bl q1
  replace q2 := cell_next bl q2
  clear bl
  have Rz := Lib.hid r
  clear r
  go_wp2_with fail
  refine (same' _ _ lx2 lc _ (by have := Nx2.out; omega) Ry.out Rz.out Cx2.out Cc.out (fun n => by rw [Mx2.out, Mc.out, and_assoc, and_self])).mono ?_
  rintro e A18 ⟨rfl, bl⟩
  replace HB := Lib.hid (next HB.out bl)
  replace Rd := Lib.hid (Rd.out.go bl)
  replace Rc := Lib.hid (Rc.out.go bl)
  replace Ry := Lib.hid (Ry.out.go bl)
  replace Rz := Lib.hid (Rz.out.go bl)
  replace q1 := cell_next bl q1
  replace q2 := cell_next bl q2
  clear bl
  clear Ry
  clear Rz
  go_wp2_with fail
  refine (cut' _ ld lo hi _ (by omega) Cd.out h0 hhi Rd.out).mono ?_
  rintro e A19 ⟨vx3, lx3, rfl, c, m, h, r, bl⟩
  replace HB := Lib.hid (next HB.out bl)
  replace Rd := Lib.hid (Rd.out.go bl)
  replace Rc := Lib.hid (Rc.out.go bl)
  replace q1 := cell_next bl q1
  replace q2 := cell_next bl q2
  clear bl
  have Cx3 := Lib.hid c
  have Mx3 := Lib.hid m
  have Nx3 := Lib.hid h
  have Rx3 := Lib.hid r
  clear c m h r
  go_wp2_with fail
  refine (its_any _ lx3 _ (by have := Nx3.out; omega) Rx3.out).mono ?_
  rintro e A20 ⟨vy, rfl, r, bl⟩
  replace HB := Lib.hid (next HB.out bl)
  replace Rd := Lib.hid (Rd.out.go bl)
  replace Rc := Lib.hid (Rc.out.go bl)
  replace Rx3 := Lib.hid (Rx3.out.go bl)
  replace q1 := cell_next bl q1
  replace q2 := cell_next bl q2
  clear bl
  have Ry := Lib.hid r
  clear r
  clear Rx3
  go_wp2_with fail
  refine (its_any _ lc _ (by have := Nc.out; omega) Rc.out).mono ?_
  rintro e A21 ⟨vz, rfl, r, bl⟩
  replace HB := Lib.hid (next HB.out bl)
  replace Rd := Lib.hid (Rd.out.go bl)
  replace Rc := Lib.hid (Rc.out.go bl)
  replace Ry := Lib.hid (Ry.out.go bl)
  replace q1 := cell_next bl q1
  replace q2 := cell_next bl q2
  clear bl
  have Rz := Lib.hid r
  clear r
  go_wp2_with fail
  refine (same' _ _ lx3 lc _ (by have := Nx3.out; omega) Ry.out Rz.out Cx3.out Cc.out (fun n => by rw [Mx3.out, Mc.out, Md.out]; exact ⟨fun ⟨h, k⟩ => ⟨h.resolve_right k, k⟩, fun ⟨h, k⟩ => ⟨.inl h, k⟩⟩)).mono ?_
  rintro e A22 ⟨rfl, bl⟩
  replace HB := Lib.hid (next HB.out bl)
  replace Rd := Lib.hid (Rd.out.go bl)
  replace Rc := Lib.hid (Rc.out.go bl)
  replace Ry := Lib.hid (Ry.out.go bl)
  replace Rz := Lib.hid (Rz.out.go bl)
  replace q1 := cell_next bl q1
  replace q2 := cell_next bl q2
  clear bl
  clear Ry
  clear Rz
  go_wp2_with fail
  refine (gaps' _ ld lo hi _ (by omega) Cd.out h0 hhi Rd.out).mono ?_
  rintro e A23 ⟨vg, lg, rfl, c, m, h, r, bl⟩
  replace HB := Lib.hid (next HB.out bl)
  replace Rd := Lib.hid (Rd.out.go bl)
  replace Rc := Lib.hid (Rc.out.go bl)
  replace q1 := cell_next bl q1
  replace q2 := cell_next bl q2
  clear bl
  have Cg := Lib.hid c
  have Mg := Lib.hid m
  have Ng := Lib.hid h
  have Rg := Lib.hid r
  clear c m h r
  obtain rfl : lg = [] := can_ext Cg.out Can.nil (fun n => ⟨fun h => absurd ((Md.out n).2 (.inr ((Mg.out n).1 h).1)) ((Mg.out n).1 h).2, fun h => absurd h (mem_nil n)⟩)
  obtain ⟨ag, cg, rfl, _⟩ := id Rg.out
  simp only [List.length_nil]
  go_wp2
  go_ret
  exact ⟨rfl, HB.out⟩
set_option maxHeartbeats 8000000 in
theorem again_no (va : Value) (la : List Ran) (lo hi : Int) (w : World) (ma : la.length ≤ maxLen) (ra : Rd w va la) (ua : Nums la) (h0 : 0 ≤ lo) (h1 : 0 ≤ hi) (ga : lowB la = true) (g0 : lowB [(lo, hi)] = true) (hle : ¬ lo ≤ hi) :
    Calls Try.prog 8 #[va, .agg #[.int .u64 lo, .int .u64 hi]] w fun e w' => e = .returned (.bool true) ∧ Below w.heap.size w w' := by
  have hga : la.length ≤ 40 ∧ ∀ x ∈ la, 0 ≤ x.1 ∧ x.2 < 9223372036854775808 := ⟨(lowB_of ga).1, fun x hx => ⟨(ua x hx).1.1, ((lowB_of ga).2 x hx).2⟩⟩
  have hla := hga.1
  have GA := Lib.hid hga.2
  have hua := Lib.hid ua
  clear hga ua
  have hlo := (low_can g0).1
  have hhi := (low_can g0).2
  have Ra := Lib.hid ra
  clear ra
  have q1 : (w.alloc (.cells #[.int .u64 lo, .int .u64 hi] 25)).cell? ⟨w.heap.size, 0, none⟩ = some (.int .u64 lo) := by simp [go_sem]
  have q2 : (w.alloc (.cells #[.int .u64 lo, .int .u64 hi] 25)).cell? ⟨w.heap.size, 1, none⟩ = some (.int .u64 hi) := by simp [go_sem]
  have HB := Lib.hid (made w (.cells #[.int .u64 lo, .int .u64 hi] 25))
  replace Ra := Lib.hid (Ra.out.go (made w (.cells #[.int .u64 lo, .int .u64 hi] 25)))
  have d1 : decide (lo ≤ hi) = false := decide_eq_false (by omega)
  go_enter Try.func8, Try.ntmps8
  go_wp2_with fail
  refine (low_any _ la _ (by omega) Ra.out).mono ?_
  rintro e A1 ⟨rfl, bl⟩
  replace HB := Lib.hid (next HB.out bl)
  replace Ra := Lib.hid (Ra.out.go bl)
  replace q1 := cell_next bl q1
  replace q2 := cell_next bl q2
  clear bl
  rw [ga]
  go_wp2_with fail
  refine (low_any _ [(lo, hi)] _ (by simp [maxLen]) (rd_made _ lo hi)).mono ?_
  rintro e A2 ⟨rfl, bl⟩
  replace bl := next (made _ _) bl
  replace HB := Lib.hid (next HB.out bl)
  replace Ra := Lib.hid (Ra.out.go bl)
  replace q1 := cell_next bl q1
  replace q2 := cell_next bl q2
  clear bl
  rw [g0]
  go_wp2_with fail
  refine (shown_any _).mono ?_
  rintro e A3 ⟨rfl, bl⟩
  replace HB := Lib.hid (next HB.out bl)
  replace Ra := Lib.hid (Ra.out.go bl)
  replace q1 := cell_next bl q1
  replace q2 := cell_next bl q2
  clear bl
  go_wp2_with fail
  refine (of' _ la _ (by omega) GA.out Ra.out).mono ?_
  rintro e A4 ⟨vs, ls, rfl, c, m, h, r, bl⟩
  replace HB := Lib.hid (next HB.out bl)
  replace Ra := Lib.hid (Ra.out.go bl)
  replace q1 := cell_next bl q1
  replace q2 := cell_next bl q2
  clear bl
  have Cs := Lib.hid c
  have Ms := Lib.hid m
  have Ns := Lib.hid h
  have Rs := Lib.hid r
  clear c m h r
  clear Ra
  have hs := Ns.out
  go_wp2_with fail
  refine (add' _ ls lo hi _ (by omega) Cs.out h0 hhi Rs.out).mono ?_
  rintro e A5 ⟨vd, ld, rfl, c, m, h, r, bl⟩
  replace HB := Lib.hid (next HB.out bl)
  replace Rs := Lib.hid (Rs.out.go bl)
  replace q1 := cell_next bl q1
  replace q2 := cell_next bl q2
  clear bl
  have Cd := Lib.hid c
  have Md := Lib.hid m
  have Nd := Lib.hid h
  have Rd := Lib.hid r
  clear c m h r
  have hd := Nd.out
  go_wp2_with fail
  refine (cut' _ ls lo hi _ (by omega) Cs.out h0 hhi Rs.out).mono ?_
  rintro e A6 ⟨vc, lc, rfl, c, m, h, r, bl⟩
  replace HB := Lib.hid (next HB.out bl)
  replace Rs := Lib.hid (Rs.out.go bl)
  replace Rd := Lib.hid (Rd.out.go bl)
  replace q1 := cell_next bl q1
  replace q2 := cell_next bl q2
  clear bl
  have Cc := Lib.hid c
  have Mc := Lib.hid m
  have Nc := Lib.hid h
  have Rc := Lib.hid r
  clear c m h r
  clear Rs
  have hc := Nc.out
  go_wp2_with fail
  refine (add' _ ld lo hi _ (by omega) Cd.out h0 hhi Rd.out).mono ?_
  rintro e A7 ⟨vx, lx, rfl, c, m, h, r, bl⟩
  replace HB := Lib.hid (next HB.out bl)
  replace Rd := Lib.hid (Rd.out.go bl)
  replace Rc := Lib.hid (Rc.out.go bl)
  replace q1 := cell_next bl q1
  replace q2 := cell_next bl q2
  clear bl
  have Cx := Lib.hid c
  have Mx := Lib.hid m
  have Nx := Lib.hid h
  have Rx := Lib.hid r
  clear c m h r
  go_wp2_with fail
  refine (its_any _ lx _ (by have := Nx.out; omega) Rx.out).mono ?_
  rintro e A8 ⟨vy, rfl, r, bl⟩
  replace HB := Lib.hid (next HB.out bl)
  replace Rd := Lib.hid (Rd.out.go bl)
  replace Rc := Lib.hid (Rc.out.go bl)
  replace Rx := Lib.hid (Rx.out.go bl)
  replace q1 := cell_next bl q1
  replace q2 := cell_next bl q2
  clear bl
  have Ry := Lib.hid r
  clear r
  clear Rx
  go_wp2_with fail
  refine (its_any _ ld _ (by have := Nd.out; omega) Rd.out).mono ?_
  rintro e A9 ⟨vz, rfl, r, bl⟩
  replace HB := Lib.hid (next HB.out bl)
  replace Rd := Lib.hid (Rd.out.go bl)
  replace Rc := Lib.hid (Rc.out.go bl)
  replace Ry := Lib.hid (Ry.out.go bl)
  replace q1 := cell_next bl q1
  replace q2 := cell_next bl q2
  clear bl
  have Rz := Lib.hid r
  clear r
  go_wp2_with fail
  refine (same' _ _ lx ld _ (by have := Nx.out; omega) Ry.out Rz.out Cx.out Cd.out (fun n => by rw [Mx.out, Md.out, or_assoc, or_self])).mono ?_
  rintro e A10 ⟨rfl, bl⟩
  replace HB := Lib.hid (next HB.out bl)
  replace Rd := Lib.hid (Rd.out.go bl)
  replace Rc := Lib.hid (Rc.out.go bl)
  replace Ry := Lib.hid (Ry.out.go bl)
  replace Rz := Lib.hid (Rz.out.go bl)
  replace q1 := cell_next bl q1
  replace q2 := cell_next bl q2
  clear bl
  clear Ry
  clear Rz
  go_wp2_with fail
  refine (cut' _ lc lo hi _ (by omega) Cc.out h0 hhi Rc.out).mono ?_
  rintro e A11 ⟨vx2, lx2, rfl, c, m, h, r, bl⟩
  replace HB := Lib.hid (next HB.out bl)
  replace Rd := Lib.hid (Rd.out.go bl)
  replace Rc := Lib.hid (Rc.out.go bl)
  replace q1 := cell_next bl q1
  replace q2 := cell_next bl q2
  clear bl
  have Cx2 := Lib.hid c
  have Mx2 := Lib.hid m
  have Nx2 := Lib.hid h
  have Rx2 := Lib.hid r
  clear c m h r
  go_wp2_with fail
  refine (its_any _ lx2 _ (by have := Nx2.out; omega) Rx2.out).mono ?_
  rintro e A12 ⟨vy, rfl, r, bl⟩
  replace HB := Lib.hid (next HB.out bl)
  replace Rd := Lib.hid (Rd.out.go bl)
  replace Rc := Lib.hid (Rc.out.go bl)
  replace Rx2 := Lib.hid (Rx2.out.go bl)
  replace q1 := cell_next bl q1
  replace q2 := cell_next bl q2
  clear bl
  have Ry := Lib.hid r
  clear r
  clear Rx2
  go_wp2_with fail
  refine (its_any _ lc _ (by have := Nc.out; omega) Rc.out).mono ?_
  rintro e A13 ⟨vz, rfl, r, bl⟩
  replace HB := Lib.hid (next HB.out bl)
  replace Rd := Lib.hid (Rd.out.go bl)
  replace Rc := Lib.hid (Rc.out.go bl)
  replace Ry := Lib.hid (Ry.out.go bl)
  replace q1 := cell_next bl q1
  replace q2 := cell_next bl q2
  clear bl
  have Rz := Lib.hid r
  clear r
  go_wp2_with fail
  refine (same' _ _ lx2 lc _ (by have := Nx2.out; omega) Ry.out Rz.out Cx2.out Cc.out (fun n => by rw [Mx2.out, Mc.out, and_assoc, and_self])).mono ?_
  rintro e A14 ⟨rfl, bl⟩
  replace HB := Lib.hid (next HB.out bl)
  replace Rd := Lib.hid (Rd.out.go bl)
  replace Rc := Lib.hid (Rc.out.go bl)
  replace Ry := Lib.hid (Ry.out.go bl)
  replace Rz := Lib.hid (Rz.out.go bl)
  replace q1 := cell_next bl q1
  replace q2 := cell_next bl q2
  clear bl
  clear Ry
  clear Rz
  go_wp2_with fail
  refine (cut' _ ld lo hi _ (by omega) Cd.out h0 hhi Rd.out).mono ?_
  rintro e A15 ⟨vx3, lx3, rfl, c, m, h, r, bl⟩
  replace HB := Lib.hid (next HB.out bl)
  replace Rd := Lib.hid (Rd.out.go bl)
  replace Rc := Lib.hid (Rc.out.go bl)
  replace q1 := cell_next bl q1
  replace q2 := cell_next bl q2
  clear bl
  have Cx3 := Lib.hid c
  have Mx3 := Lib.hid m
  have Nx3 := Lib.hid h
  have Rx3 := Lib.hid r
  clear c m h r
  go_wp2_with fail
  refine (its_any _ lx3 _ (by have := Nx3.out; omega) Rx3.out).mono ?_
  rintro e A16 ⟨vy, rfl, r, bl⟩
  replace HB := Lib.hid (next HB.out bl)
  replace Rd := Lib.hid (Rd.out.go bl)
  replace Rc := Lib.hid (Rc.out.go bl)
  replace Rx3 := Lib.hid (Rx3.out.go bl)
  replace q1 := cell_next bl q1
  replace q2 := cell_next bl q2
  clear bl
  have Ry := Lib.hid r
  clear r
  clear Rx3
  go_wp2_with fail
  refine (its_any _ lc _ (by have := Nc.out; omega) Rc.out).mono ?_
  rintro e A17 ⟨vz, rfl, r, bl⟩
  replace HB := Lib.hid (next HB.out bl)
  replace Rd := Lib.hid (Rd.out.go bl)
  replace Rc := Lib.hid (Rc.out.go bl)
  replace Ry := Lib.hid (Ry.out.go bl)
  replace q1 := cell_next bl q1
  replace q2 := cell_next bl q2
  clear bl
  have Rz := Lib.hid r
  clear r
  go_wp2_with fail
  refine (same' _ _ lx3 lc _ (by have := Nx3.out; omega) Ry.out Rz.out Cx3.out Cc.out (fun n => by rw [Mx3.out, Mc.out, Md.out]; exact ⟨fun ⟨h, k⟩ => ⟨h.resolve_right k, k⟩, fun ⟨h, k⟩ => ⟨.inl h, k⟩⟩)).mono ?_
  rintro e A18 ⟨rfl, bl⟩
  replace HB := Lib.hid (next HB.out bl)
  replace Rd := Lib.hid (Rd.out.go bl)
  replace Rc := Lib.hid (Rc.out.go bl)
  replace Ry := Lib.hid (Ry.out.go bl)
  replace Rz := Lib.hid (Rz.out.go bl)
  replace q1 := cell_next bl q1
  replace q2 := cell_next bl q2
  clear bl
  clear Ry
  clear Rz
  go_wp2_with fail
  refine (gaps' _ ld lo hi _ (by omega) Cd.out h0 hhi Rd.out).mono ?_
  rintro e A19 ⟨vg, lg, rfl, c, m, h, r, bl⟩
  replace HB := Lib.hid (next HB.out bl)
  replace Rd := Lib.hid (Rd.out.go bl)
  replace Rc := Lib.hid (Rc.out.go bl)
  replace q1 := cell_next bl q1
  replace q2 := cell_next bl q2
  clear bl
  have Cg := Lib.hid c
  have Mg := Lib.hid m
  have Ng := Lib.hid h
  have Rg := Lib.hid r
  clear c m h r
  obtain rfl : lg = [] := can_ext Cg.out Can.nil (fun n => ⟨fun h => absurd ((Md.out n).2 (.inr ((Mg.out n).1 h).1)) ((Mg.out n).1 h).2, fun h => absurd h (mem_nil n)⟩)
  obtain ⟨ag, cg, rfl, _⟩ := id Rg.out
  simp only [List.length_nil]
  go_wp2
  go_ret
  exact ⟨rfl, HB.out⟩
theorem law_again (a : Option Addr) (n cap : Nat) (la : List Ran) (lo hi : Int) (w : World) (hn : la.length = n) (hm : n ≤ maxLen) (r : Rd w (.slice a n cap) la) (u : Nums la) (w0 : (Lit.int .u64 lo).wf = true) (w1 : (Lit.int .u64 hi).wf = true) :
    Calls Try.prog 8 #[.slice a n cap, .agg #[.int .u64 lo, .int .u64 hi]] w fun e w' => e = .returned (.bool true) ∧ Below w.heap.size w w' := by
  have h0 := (bounds_u64 w0).1
  have h1 := (bounds_u64 w1).1
  rcases lowB_or la with ga | ga
  · rcases lowB_or [(lo, hi)] with g0 | g0
    · by_cases hle : lo ≤ hi
      · exact again_yes _ la lo hi w (by omega) r u h0 h1 ga g0 hle
      · exact again_no _ la lo hi w (by omega) r u h0 h1 ga g0 hle
    · exact RangesAgain_no1 _ la lo hi w (by omega) r u h0 h1 ga g0
  · exact RangesAgain_no0 _ la lo hi w (by omega) r u h0 h1 ga
end Go.Proofs.Ytbapbkhbkpeofaa.Rg
