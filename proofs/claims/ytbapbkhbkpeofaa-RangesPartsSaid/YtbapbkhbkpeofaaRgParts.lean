/- The walk of the law RangesParts. -/
import Derived.Test.YtbapbkhbkpeofaaRgH
import Derived.Test.YtbapbkhbkpeofaaRgK
import Derived.OpenShut
import Derived.Deep.RegionHeld3
namespace Go.Proofs.Ytbapbkhbkpeofaa.Rg
open Go.RowKit Go.Shelf
set_option linter.unusedVariables false
theorem below_drew {n : Nat} {w w' : World} (h : Below n w w') : Below n w w'.drew := below_drewN h 1
set_option maxHeartbeats 2000000 in
theorem RangesParts_no0 (va : Value) (la : List Ran) (lo hi : Int) (w : World) (ma : la.length ≤ maxLen) (ra : Rd w va la) (ua : Nums la) (h0 : 0 ≤ lo) (h1 : 0 ≤ hi) (ga : lowB la = false) :
    Calls Try.prog 9 #[va, .agg #[.int .u64 lo, .int .u64 hi]] w fun e w' => e = .returned (.bool true) ∧ Below w.heap.size w w' := by
  have Ra := Lib.hid ra
  clear ra
  have q1 : (w.alloc (.cells #[.int .u64 lo, .int .u64 hi] 25)).cell? ⟨w.heap.size, 0, none⟩ = some (.int .u64 lo) := by simp [go_sem]
  have q2 : (w.alloc (.cells #[.int .u64 lo, .int .u64 hi] 25)).cell? ⟨w.heap.size, 1, none⟩ = some (.int .u64 hi) := by simp [go_sem]
  have HB := Lib.hid (made w (.cells #[.int .u64 lo, .int .u64 hi] 25))
  replace Ra := Lib.hid (Ra.out.go (made w (.cells #[.int .u64 lo, .int .u64 hi] 25)))
  go_enter Try.func9, Try.ntmps9
  go_wp2_with fail
  refine (low_any _ la _ (by omega) Ra.out).mono ?_
  rintro e A1 ⟨rfl, bl⟩
  replace HB := Lib.hid (next HB.out bl)
  replace Ra := Lib.hid (Ra.out.go bl)
  replace q1 := cell_next bl q1
  replace q2 := cell_next bl q2
  clear bl
  rw [ga]
  go_wp2_with fail
  refine (shown_any _).mono ?_
  rintro e A2 ⟨rfl, bl⟩
  replace HB := Lib.hid (next HB.out bl)
  replace Ra := Lib.hid (Ra.out.go bl)
  replace q1 := cell_next bl q1
  replace q2 := cell_next bl q2
  clear bl
  go_wp2
  go_ret
  exact ⟨rfl, HB.out⟩
set_option maxHeartbeats 2000000 in
theorem RangesParts_no1 (va : Value) (la : List Ran) (lo hi : Int) (w : World) (ma : la.length ≤ maxLen) (ra : Rd w va la) (ua : Nums la) (h0 : 0 ≤ lo) (h1 : 0 ≤ hi) (ga : lowB la = true) (g0 : lowB [(lo, hi)] = false) :
    Calls Try.prog 9 #[va, .agg #[.int .u64 lo, .int .u64 hi]] w fun e w' => e = .returned (.bool true) ∧ Below w.heap.size w w' := by
  have Ra := Lib.hid ra
  clear ra
  have q1 : (w.alloc (.cells #[.int .u64 lo, .int .u64 hi] 25)).cell? ⟨w.heap.size, 0, none⟩ = some (.int .u64 lo) := by simp [go_sem]
  have q2 : (w.alloc (.cells #[.int .u64 lo, .int .u64 hi] 25)).cell? ⟨w.heap.size, 1, none⟩ = some (.int .u64 hi) := by simp [go_sem]
  have HB := Lib.hid (made w (.cells #[.int .u64 lo, .int .u64 hi] 25))
  replace Ra := Lib.hid (Ra.out.go (made w (.cells #[.int .u64 lo, .int .u64 hi] 25)))
  go_enter Try.func9, Try.ntmps9
  go_wp2_with fail
  refine (low_any _ la _ (by omega) Ra.out).mono ?_
  rintro e A1 ⟨rfl, bl⟩
  replace HB := Lib.hid (next HB.out bl)
  replace Ra := Lib.hid (Ra.out.go bl)
  replace q1 := cell_next bl q1
  replace q2 := cell_next bl q2
  clear bl
  rw [ga]
  go_wp2_with fail
  refine (low_any _ [(lo, hi)] _ (by simp [maxLen]) (rd_made _ lo hi)).mono ?_
  rintro e A2 ⟨rfl, bl⟩
  replace bl := next (made _ _) bl
  replace HB := Lib.hid (next HB.out bl)
  replace Ra := Lib.hid (Ra.out.go bl)
  replace q1 := cell_next bl q1
  replace q2 := cell_next bl q2
  clear bl
  rw [g0]
  go_wp2_with fail
  refine (shown_any _).mono ?_
  rintro e A3 ⟨rfl, bl⟩
  replace HB := Lib.hid (next HB.out bl)
  replace Ra := Lib.hid (Ra.out.go bl)
  replace q1 := cell_next bl q1
  replace q2 := cell_next bl q2
  clear bl
  go_wp2
  go_ret
  exact ⟨rfl, HB.out⟩
set_option maxHeartbeats 16000000 in
theorem parts_core (va : Value) (la : List Ran) (lo hi : Int) (w : World) (ma : la.length ≤ maxLen) (ra : Rd w va la) (ua : Nums la) (h0 : 0 ≤ lo) (h1 : 0 ≤ hi) (ga : lowB la = true) (g0 : lowB [(lo, hi)] = true) :
    Calls Try.prog 9 #[va, .agg #[.int .u64 lo, .int .u64 hi]] w fun e w' => e = .returned (.bool true) ∧ Below w.heap.size w w' := by
  obtain ⟨i0, hi0, hz0, hz1, hz2⟩ := info_parts infoR
  have hz1 := Lib.hid hz1; have hz2 := Lib.hid hz2; have hz0 := Lib.hid hz0; have hi0 := Lib.hid hi0
  have hga : la.length ≤ 40 ∧ ∀ x ∈ la, 0 ≤ x.1 ∧ x.2 < 9223372036854775808 := ⟨(lowB_of ga).1, fun x hx => ⟨(ua x hx).1.1, ((lowB_of ga).2 x hx).2⟩⟩
  have hla := hga.1
  have GA := Lib.hid hga.2
  have hua := Lib.hid ua
  clear hga ua
  have hlo := (low_can g0).1
  have hhi := (low_can g0).2
  have Ra := Lib.hid ra
  clear ra
  have q1 : (w.alloc (.cells #[.int .u64 lo, .int .u64 hi] 25)).cell? ⟨w.heap.size, 0, none⟩ = some (.int .u64 lo) := by simp [go_sem]
  have q2 : (w.alloc (.cells #[.int .u64 lo, .int .u64 hi] 25)).cell? ⟨w.heap.size, 1, none⟩ = some (.int .u64 hi) := by simp [go_sem]
  have HB := Lib.hid (made w (.cells #[.int .u64 lo, .int .u64 hi] 25))
  replace Ra := Lib.hid (Ra.out.go (made w (.cells #[.int .u64 lo, .int .u64 hi] 25)))
  go_enter Try.func9, Try.ntmps9
  go_wp2_with fail
  refine (low_any _ la _ (by omega) Ra.out).mono ?_
  rintro e A1 ⟨rfl, bl⟩
  replace HB := Lib.hid (next HB.out bl)
  replace Ra := Lib.hid (Ra.out.go bl)
  replace q1 := cell_next bl q1
  replace q2 := cell_next bl q2
  clear bl
  rw [ga]
  go_wp2_with fail
  refine (low_any _ [(lo, hi)] _ (by simp [maxLen]) (rd_made _ lo hi)).mono ?_
  rintro e A2 ⟨rfl, bl⟩
  replace bl := next (made _ _) bl
  replace HB := Lib.hid (next HB.out bl)
  replace Ra := Lib.hid (Ra.out.go bl)
  replace q1 := cell_next bl q1
  replace q2 := cell_next bl q2
  clear bl
  rw [g0]
  go_wp2_with fail
  refine (shown_any _).mono ?_
  rintro e A3 ⟨rfl, bl⟩
  replace HB := Lib.hid (next HB.out bl)
  replace Ra := Lib.hid (Ra.out.go bl)
  replace q1 := cell_next bl q1
  replace q2 := cell_next bl q2
  clear bl
  go_wp2_with fail
  refine (of' _ la _ (by omega) GA.out Ra.out).mono ?_
  rintro e A4 ⟨vs, ls, rfl, c, m, h, r, bl⟩
  replace HB := Lib.hid (next HB.out bl)
  replace Ra := Lib.hid (Ra.out.go bl)
  replace q1 := cell_next bl q1
  replace q2 := cell_next bl q2
  clear bl
  have Cs := Lib.hid c
  have Ms := Lib.hid m
  have Ns := Lib.hid h
  have Rs := Lib.hid r
  clear c m h r
  clear Ra
  have hs := Ns.out
  go_wp2_with fail
  refine (of' _ [(lo, hi)] _ (by simp) (fun x hx => by rw [List.mem_singleton.1 hx]; exact ⟨h0, hhi⟩) (rd_made _ lo hi)).mono ?_
  rintro e A5 ⟨vu, lu, rfl, c, m, h, r, bl⟩
  replace bl := next (made _ _) bl
  replace HB := Lib.hid (next HB.out bl)
  replace Rs := Lib.hid (Rs.out.go bl)
  replace q1 := cell_next bl q1
  replace q2 := cell_next bl q2
  clear bl
  have Cu := Lib.hid c
  have Mu := Lib.hid m
  have Nu := Lib.hid h
  have Ru := Lib.hid r
  clear c m h r
  have hu := Nu.out
  rw [List.length_singleton] at hu
  have MU : ∀ n, mem lu n ↔ inn (lo, hi) n := fun n => (Mu.out n).trans mem_single
  replace Mu := Lib.hid MU
  clear MU
  go_wp2_with fail
  refine (meet' _ _ ls lu _ (by omega) Cs.out (by omega) Cu.out Rs.out Ru.out).mono ?_
  rintro e A6 ⟨vi, li, rfl, c, m, h, r, bl⟩
  replace HB := Lib.hid (next HB.out bl)
  replace Rs := Lib.hid (Rs.out.go bl)
  replace Ru := Lib.hid (Ru.out.go bl)
  replace q1 := cell_next bl q1
  replace q2 := cell_next bl q2
  clear bl
  have Ci := Lib.hid c
  have Mi := Lib.hid m
  have Ni := Lib.hid h
  have Ri := Lib.hid r
  clear c m h r
  clear Ru
  have hi1 := Ni.out
  have MI : ∀ n, mem li n ↔ mem ls n ∧ inn (lo, hi) n := fun n => (Mi.out n).trans (by simp only [Mu.out])
  replace Mi := Lib.hid MI
  clear MI
  go_wp2_with fail
  refine (cut' _ ls lo hi _ (by omega) Cs.out h0 hhi Rs.out).mono ?_
  rintro e A7 ⟨vt, lt, rfl, c, m, h, r, bl⟩
  replace HB := Lib.hid (next HB.out bl)
  replace Rs := Lib.hid (Rs.out.go bl)
  replace Ri := Lib.hid (Ri.out.go bl)
  replace q1 := cell_next bl q1
  replace q2 := cell_next bl q2
  clear bl
  have Ct := Lib.hid c
  have Mt := Lib.hid m
  have Nt := Lib.hid h
  have Rt := Lib.hid r
  clear c m h r
  have ht := Nt.out
  have hbase := HB.out.size
  go_wp2_with (at_builtin; refine wpList_append_rd _ rfl _ _ 29 rfl A7.heap.size 25 i0 (.agg #[.int .u64 0, .int .u64 0]) Try.underlying29 hi0.out hz0.out hz1.out hz2.out rfl (.slice (some ⟨A7.heap.size, 0, none⟩) 0 0) rfl [] (ow_made A7 _) vi rfl li (Ri.out.go (made _ _)) (by (try simp); omega) (by first | omega | simp) ?_)
  intro a1 n1 c1 B1 o g _
  have bl : Below A7.heap.size A7 B1 := (made _ _).grown g (by simp) (fun k hk => by have := (ow_made A7 25).lt hk; omega)
  have BL := Lib.hid bl
  have O1 := Lib.hid o
  have hsz1 := bl.size
  have Rs0 := Rs
  replace Rs := Lib.hid (Rs.out.go bl)
  have Ri0 := Ri
  replace Ri := Lib.hid (Ri.out.go bl)
  have Rt0 := Rt
  replace Rt := Lib.hid (Rt.out.go bl)
  clear o g
  go_wp2_with (at_builtin; refine wpList_append_rd _ rfl _ _ 29 rfl A7.heap.size 25 i0 (.agg #[.int .u64 0, .int .u64 0]) Try.underlying29 hi0.out hz0.out hz1.out hz2.out rfl (.slice a1 n1 c1) rfl li O1.out vt rfl lt Rt.out (by (try simp); omega) (by first | omega | simp) ?_)
  intro a2 n2 c2 B2 o g _
  replace bl : Below A7.heap.size A7 B2 := BL.out.grown g BL.out.size (fun k hk => (O1.out.lt hk).1)
  replace Rs := Lib.hid (Rs0.out.go bl)
  clear Rs0
  replace Ri := Lib.hid (Ri0.out.go bl)
  clear Ri0
  replace Rt := Lib.hid (Rt0.out.go bl)
  clear Rt0
  replace HB := Lib.hid (next HB.out bl)
  replace q1 := cell_next bl q1
  replace q2 := cell_next bl q2
  have Rx : Hid (Rd B2 (.slice a2 n2 c2) (li ++ lt)) := Lib.hid o.rd
  clear o g bl BL O1
  obtain ⟨vx, hvx⟩ : ∃ v, v = Value.slice a2 n2 c2 := ⟨_, rfl⟩
  obtain ⟨lx, hlx⟩ : ∃ l, l = li ++ lt := ⟨_, rfl⟩
  rw [← hvx, ← hlx] at Rx
  have hxl : lx.length ≤ 200 := by rw [hlx]; simp; omega
  have GX : Hid (∀ x ∈ lx, 0 ≤ x.1 ∧ x.2 < 9223372036854775808) := Lib.hid (fun x hx => by rw [hlx] at hx; rcases List.mem_append.1 hx with h | h; exact ⟨(Ci.out.good x h).1, (Ci.out.good x h).2.2⟩; exact ⟨(Ct.out.good x h).1, (Ct.out.good x h).2.2⟩)
  have MX : Hid (∀ n, mem lx n ↔ mem ls n) := Lib.hid (fun n => by rw [hlx, mem_append]; have i1 := Mi.out n; have i2 := Mt.out n; (try simp only at i2); rw [i1, i2]; by_cases h : inn (lo, hi) n <;> simp [h])
  replace hvx := Lib.hid hvx
  clear hlx
  go_wp2_with fail
  rw [← hvx.out]
  go_wp2_with fail
  refine wp_region_noPanic ?_
  refine wp_region_held_drew (S := fun w' => w'.cell? ⟨w.heap.size, 0, none⟩ = some (.int .u64 lo) ∧ w'.cell? ⟨w.heap.size, 1, none⟩ = some (.int .u64 hi) ∧ Rd w' vs ls ∧ Rd w' vi li ∧ Rd w' vt lt ∧ Rd w' vx lx ∧ Below w.heap.size w w') (by kernel_rfl) ?_ (fun hHeld => ?_)
  · exact ⟨cell_next (below_drew (Below.refl _ _)) q1, cell_next (below_drew (Below.refl _ _)) q2, Rs.out.go (below_drew (Below.refl _ _)), Ri.out.go (below_drew (Below.refl _ _)), Rt.out.go (below_drew (Below.refl _ _)), Rx.out.go (below_drew (Below.refl _ _)), next HB.out (below_drew (Below.refl _ _))⟩
  clear q1 q2 HB Rs Ri Rt Rx
  have HH := Lib.hid hHeld
  obtain ⟨q1, q2, rs, ri, rt, rx, hbw⟩ := hHeld
  have Rs := Lib.hid rs
  have Ri := Lib.hid ri
  have Rt := Lib.hid rt
  have Rx := Lib.hid rx
  have HB := Lib.hid hbw
  clear hbw q1 q2 rs ri rt rx
  have hHeld := HH.out
  clear HH
  refine wpAnyH_take (i := 0) (v := ?_) rfl (by kernel_rfl) (by kernel_rfl) (by kernel_rfl) (fun _ _ _ h => h) (Or.inl ⟨by rfl, ?_⟩) (by assumption) ?_
  rotate_left
  · (intro w hSw; (try dsimp only at hSw); go_simp; (try with_reducible rfl))
  try simp only [Act.put, List.getElem_toArray, List.getElem_cons_zero, List.getElem_cons_succ, List.setIfInBounds_toArray, List.set_cons_zero, List.set_cons_succ]
  refine wpAnyH_take (i := 3) (v := ?_) rfl (by kernel_rfl) (by kernel_rfl) (by kernel_rfl) (fun _ _ _ h => h) (Or.inl ⟨by rfl, ?_⟩) (by assumption) ?_
  rotate_left
  · (intro w hSw; (try dsimp only at hSw); go_simp; (try with_reducible rfl))
  try simp only [Act.put, List.getElem_toArray, List.getElem_cons_zero, List.getElem_cons_succ, List.setIfInBounds_toArray, List.set_cons_zero, List.set_cons_succ]
  refine wpAnyH_ready (rs := [1]) (by kernel_rfl) (by simp) ?_
  refine AllReadyH.cons rfl (fun K hK => ?_) AllReadyH.nil
  rw [if_pos (by rfl)]
  go_simp
  refine (of' _ lx _ (by omega) GX.out Rx.out).mono ?_
  rintro e A8 ⟨vz, lz, rfl, c, m, h, r, bl⟩
  have Cz := Lib.hid c
  have Mz := Lib.hid m
  have Nz := Lib.hid h
  have Rz := Lib.hid r
  clear c m h r
  refine hK.out _ _ ?_ (fun hHeld => ?_)
  · exact ⟨cell_next bl hHeld.1, cell_next bl hHeld.2.1, Rs.out.go bl, Ri.out.go bl, Rt.out.go bl, Rx.out.go bl, next HB.out bl⟩
  clear hK K
  clear bl HB Rs Ri Rt Rx
  have HH := Lib.hid hHeld
  obtain ⟨q1, q2, rs, ri, rt, rx, hbw⟩ := hHeld
  have Rs := Lib.hid rs
  have Ri := Lib.hid ri
  have Rt := Lib.hid rt
  have Rx := Lib.hid rx
  have HB := Lib.hid hbw
  clear hbw q1 q2 rs ri rt rx
  have hHeld := HH.out
  clear HH
  try simp only [Act.put, List.getElem_toArray, List.getElem_cons_zero, List.getElem_cons_succ, List.setIfInBounds_toArray, List.set_cons_zero, List.set_cons_succ]
  have hz := Nz.out
  refine wpAnyH_ready (rs := [2]) (by kernel_rfl) (by simp) ?_
  refine AllReadyH.cons rfl (fun K hK => ?_) AllReadyH.nil
  rw [if_pos (by rfl)]
  go_simp
  refine (its_any _ lz _ (by omega) Rz.out).mono ?_
  rintro e A9 ⟨vy1, rfl, r, bl⟩
  have Ry1 := Lib.hid r
  clear r
  refine hK.out _ _ ?_ (fun hHeld => ?_)
  · exact ⟨cell_next bl hHeld.1, cell_next bl hHeld.2.1, Rs.out.go bl, Ri.out.go bl, Rt.out.go bl, Rx.out.go bl, next HB.out bl⟩
  clear hK K
  replace Rz := Lib.hid (Rz.out.go bl)
  clear bl HB Rs Ri Rt Rx
  have HH := Lib.hid hHeld
  obtain ⟨q1, q2, rs, ri, rt, rx, hbw⟩ := hHeld
  have Rs := Lib.hid rs
  have Ri := Lib.hid ri
  have Rt := Lib.hid rt
  have Rx := Lib.hid rx
  have HB := Lib.hid hbw
  clear hbw q1 q2 rs ri rt rx
  have hHeld := HH.out
  clear HH
  try simp only [Act.put, List.getElem_toArray, List.getElem_cons_zero, List.getElem_cons_succ, List.setIfInBounds_toArray, List.set_cons_zero, List.set_cons_succ]
  clear Rz
  refine wpAnyH_ready (rs := [4]) (by kernel_rfl) (by simp) ?_
  refine AllReadyH.cons rfl (fun K hK => ?_) AllReadyH.nil
  rw [if_pos (by rfl)]
  go_simp
  refine (its_any _ ls _ (by omega) Rs.out).mono ?_
  rintro e A10 ⟨vy2, rfl, r, bl⟩
  have Ry2 := Lib.hid r
  clear r
  refine hK.out _ _ ?_ (fun hHeld => ?_)
  · exact ⟨cell_next bl hHeld.1, cell_next bl hHeld.2.1, Rs.out.go bl, Ri.out.go bl, Rt.out.go bl, Rx.out.go bl, next HB.out bl⟩
  clear hK K
  replace Ry1 := Lib.hid (Ry1.out.go bl)
  clear bl HB Rs Ri Rt Rx
  have HH := Lib.hid hHeld
  obtain ⟨q1, q2, rs, ri, rt, rx, hbw⟩ := hHeld
  have Rs := Lib.hid rs
  have Ri := Lib.hid ri
  have Rt := Lib.hid rt
  have Rx := Lib.hid rx
  have HB := Lib.hid hbw
  clear hbw q1 q2 rs ri rt rx
  have hHeld := HH.out
  clear HH
  try simp only [Act.put, List.getElem_toArray, List.getElem_cons_zero, List.getElem_cons_succ, List.setIfInBounds_toArray, List.set_cons_zero, List.set_cons_succ]
  refine wpAnyH_ready (rs := [5]) (by kernel_rfl) (by simp) ?_
  refine AllReadyH.cons rfl (fun K hK => ?_) AllReadyH.nil
  rw [if_pos (by rfl)]
  go_simp
  refine (same' _ _ lz ls _ (by omega) Ry1.out Ry2.out Cz.out Cs.out (fun n => by rw [Mz.out, MX.out])).mono ?_
  rintro e A11 ⟨rfl, bl⟩
  refine hK.out _ _ ?_ (fun hHeld => ?_)
  · exact ⟨cell_next bl hHeld.1, cell_next bl hHeld.2.1, Rs.out.go bl, Ri.out.go bl, Rt.out.go bl, Rx.out.go bl, next HB.out bl⟩
  clear hK K
  replace Ry1 := Lib.hid (Ry1.out.go bl)
  replace Ry2 := Lib.hid (Ry2.out.go bl)
  clear bl HB Rs Ri Rt Rx
  have HH := Lib.hid hHeld
  obtain ⟨q1, q2, rs, ri, rt, rx, hbw⟩ := hHeld
  have Rs := Lib.hid rs
  have Ri := Lib.hid ri
  have Rt := Lib.hid rt
  have Rx := Lib.hid rx
  have HB := Lib.hid hbw
  clear hbw q1 q2 rs ri rt rx
  have hHeld := HH.out
  clear HH
  try simp only [Act.put, List.getElem_toArray, List.getElem_cons_zero, List.getElem_cons_succ, List.setIfInBounds_toArray, List.set_cons_zero, List.set_cons_succ]
  clear Ry1
  clear Ry2
  refine wpAnyH_take (i := 6) (v := ?_) rfl (by kernel_rfl) (by kernel_rfl) (by kernel_rfl) (fun _ _ _ h => h) (Or.inl ⟨by rfl, ?_⟩) (by assumption) ?_
  rotate_left
  · (intro w hSw; (try dsimp only at hSw); go_simp; (try with_reducible rfl))
  try simp only [Act.put, List.getElem_toArray, List.getElem_cons_zero, List.getElem_cons_succ, List.setIfInBounds_toArray, List.set_cons_zero, List.set_cons_succ]
  refine wpAnyH_take (i := 7) (v := ?_) rfl (by kernel_rfl) (by kernel_rfl) (by kernel_rfl) (fun _ _ _ h => h) (Or.inl ⟨by rfl, ?_⟩) (by assumption) ?_
  rotate_left
  · (intro w hSw; (try dsimp only at hSw); go_simp; (try with_reducible rfl))
  try simp only [Act.put, List.getElem_toArray, List.getElem_cons_zero, List.getElem_cons_succ, List.setIfInBounds_toArray, List.set_cons_zero, List.set_cons_succ]
  refine wpAnyH_take (i := 8) (v := ?_) rfl (by kernel_rfl) (by kernel_rfl) (by kernel_rfl) (fun _ _ _ h => h) (Or.inl ⟨by rfl, ?_⟩) (by assumption) ?_
  rotate_left
  · (intro w hSw; (try dsimp only at hSw); go_simp; (try with_reducible rfl))
  try simp only [Act.put, List.getElem_toArray, List.getElem_cons_zero, List.getElem_cons_succ, List.setIfInBounds_toArray, List.set_cons_zero, List.set_cons_succ]
  refine wpAnyH_take (i := 10) (v := ?_) rfl (by kernel_rfl) (by kernel_rfl) (by kernel_rfl) (fun _ _ _ h => h) (Or.inl ⟨by rfl, ?_⟩) (by assumption) ?_
  rotate_left
  · (intro w hSw; (try dsimp only at hSw); go_simp; (try with_reducible rfl))
  try simp only [Act.put, List.getElem_toArray, List.getElem_cons_zero, List.getElem_cons_succ, List.setIfInBounds_toArray, List.set_cons_zero, List.set_cons_succ]
  refine wpAnyH_take (i := 13) (v := ?_) rfl (by kernel_rfl) (by kernel_rfl) (by kernel_rfl) (fun _ _ _ h => h) (Or.inl ⟨by rfl, ?_⟩) (by assumption) ?_
  rotate_left
  · (intro w hSw; (try dsimp only at hSw); go_simp; (try with_reducible rfl))
  try simp only [Act.put, List.getElem_toArray, List.getElem_cons_zero, List.getElem_cons_succ, List.setIfInBounds_toArray, List.set_cons_zero, List.set_cons_succ]
  refine wpAnyH_ready (rs := [9]) (by kernel_rfl) (by simp) ?_
  refine AllReadyH.cons rfl (fun K hK => ?_) AllReadyH.nil
  rw [if_pos (by rfl)]
  go_simp
  refine (gaps' _ ls lo hi _ (by omega) Cs.out h0 hhi Rs.out).mono ?_
  rintro e A12 ⟨vg1, lg1, rfl, c, m, h, r, bl⟩
  have Cg1 := Lib.hid c
  have Mg1 := Lib.hid m
  have Ng1 := Lib.hid h
  have Rg1 := Lib.hid r
  clear c m h r
  refine hK.out _ _ ?_ (fun hHeld => ?_)
  · exact ⟨cell_next bl hHeld.1, cell_next bl hHeld.2.1, Rs.out.go bl, Ri.out.go bl, Rt.out.go bl, Rx.out.go bl, next HB.out bl⟩
  clear hK K
  clear bl HB Rs Ri Rt Rx
  have HH := Lib.hid hHeld
  obtain ⟨q1, q2, rs, ri, rt, rx, hbw⟩ := hHeld
  have Rs := Lib.hid rs
  have Ri := Lib.hid ri
  have Rt := Lib.hid rt
  have Rx := Lib.hid rx
  have HB := Lib.hid hbw
  clear hbw q1 q2 rs ri rt rx
  have hHeld := HH.out
  clear HH
  try simp only [Act.put, List.getElem_toArray, List.getElem_cons_zero, List.getElem_cons_succ, List.setIfInBounds_toArray, List.set_cons_zero, List.set_cons_succ]
  have hg1 := Ng1.out
  refine wpAnyH_ready (rs := [11]) (by kernel_rfl) (by simp) ?_
  refine AllReadyH.cons rfl (fun K hK => ?_) AllReadyH.nil
  rw [if_pos (by rfl)]
  go_simp
  refine (gaps' _ lg1 lo hi _ (by omega) Cg1.out h0 hhi Rg1.out).mono ?_
  rintro e A13 ⟨vg2, lg2, rfl, c, m, h, r, bl⟩
  have Cg2 := Lib.hid c
  have Mg2 := Lib.hid m
  have Ng2 := Lib.hid h
  have Rg2 := Lib.hid r
  clear c m h r
  refine hK.out _ _ ?_ (fun hHeld => ?_)
  · exact ⟨cell_next bl hHeld.1, cell_next bl hHeld.2.1, Rs.out.go bl, Ri.out.go bl, Rt.out.go bl, Rx.out.go bl, next HB.out bl⟩
  clear hK K
  replace Rg1 := Lib.hid (Rg1.out.go bl)
  clear bl HB Rs Ri Rt Rx
  have HH := Lib.hid hHeld
  obtain ⟨q1, q2, rs, ri, rt, rx, hbw⟩ := hHeld
  have Rs := Lib.hid rs
  have Ri := Lib.hid ri
  have Rt := Lib.hid rt
  have Rx := Lib.hid rx
  have HB := Lib.hid hbw
  clear hbw q1 q2 rs ri rt rx
  have hHeld := HH.out
  clear HH
  try simp only [Act.put, List.getElem_toArray, List.getElem_cons_zero, List.getElem_cons_succ, List.setIfInBounds_toArray, List.set_cons_zero, List.set_cons_succ]
  have hg2 := Ng2.out
  clear Rg1
  refine wpAnyH_ready (rs := [12]) (by kernel_rfl) (by simp) ?_
  refine AllReadyH.cons rfl (fun K hK => ?_) AllReadyH.nil
  rw [if_pos (by rfl)]
  go_simp
  refine (its_any _ lg2 _ (by omega) Rg2.out).mono ?_
  rintro e A14 ⟨vy3, rfl, r, bl⟩
  have Ry3 := Lib.hid r
  clear r
  refine hK.out _ _ ?_ (fun hHeld => ?_)
  · exact ⟨cell_next bl hHeld.1, cell_next bl hHeld.2.1, Rs.out.go bl, Ri.out.go bl, Rt.out.go bl, Rx.out.go bl, next HB.out bl⟩
  clear hK K
  replace Rg2 := Lib.hid (Rg2.out.go bl)
  clear bl HB Rs Ri Rt Rx
  have HH := Lib.hid hHeld
  obtain ⟨q1, q2, rs, ri, rt, rx, hbw⟩ := hHeld
  have Rs := Lib.hid rs
  have Ri := Lib.hid ri
  have Rt := Lib.hid rt
  have Rx := Lib.hid rx
  have HB := Lib.hid hbw
  clear hbw q1 q2 rs ri rt rx
  have hHeld := HH.out
  clear HH
  try simp only [Act.put, List.getElem_toArray, List.getElem_cons_zero, List.getElem_cons_succ, List.setIfInBounds_toArray, List.set_cons_zero, List.set_cons_succ]
  clear Rg2
  refine wpAnyH_ready (rs := [14]) (by kernel_rfl) (by simp) ?_
  refine AllReadyH.cons rfl (fun K hK => ?_) AllReadyH.nil
  rw [if_pos (by rfl)]
  go_simp
  refine (its_any _ li _ (by omega) Ri.out).mono ?_
  rintro e A15 ⟨vy4, rfl, r, bl⟩
  have Ry4 := Lib.hid r
  clear r
  refine hK.out _ _ ?_ (fun hHeld => ?_)
  · exact ⟨cell_next bl hHeld.1, cell_next bl hHeld.2.1, Rs.out.go bl, Ri.out.go bl, Rt.out.go bl, Rx.out.go bl, next HB.out bl⟩
  clear hK K
  replace Ry3 := Lib.hid (Ry3.out.go bl)
  clear bl HB Rs Ri Rt Rx
  have HH := Lib.hid hHeld
  obtain ⟨q1, q2, rs, ri, rt, rx, hbw⟩ := hHeld
  have Rs := Lib.hid rs
  have Ri := Lib.hid ri
  have Rt := Lib.hid rt
  have Rx := Lib.hid rx
  have HB := Lib.hid hbw
  clear hbw q1 q2 rs ri rt rx
  have hHeld := HH.out
  clear HH
  try simp only [Act.put, List.getElem_toArray, List.getElem_cons_zero, List.getElem_cons_succ, List.setIfInBounds_toArray, List.set_cons_zero, List.set_cons_succ]
  refine wpAnyH_ready (rs := [15]) (by kernel_rfl) (by simp) ?_
  refine AllReadyH.cons rfl (fun K hK => ?_) AllReadyH.nil
  rw [if_pos (by rfl)]
  go_simp
  refine (same' _ _ lg2 li _ (by omega) Ry3.out Ry4.out Cg2.out Ci.out (fun n => by have i1 := Mg1.out n; have i2 := Mg2.out n; have i3 := Mi.out n; simp only at i1 i2; rw [i2, i3, i1]; by_cases h : inn (lo, hi) n <;> by_cases k : mem ls n <;> simp [h, k])).mono ?_
  rintro e A16 ⟨rfl, bl⟩
  refine hK.out _ _ ?_ (fun hHeld => ?_)
  · exact ⟨cell_next bl hHeld.1, cell_next bl hHeld.2.1, Rs.out.go bl, Ri.out.go bl, Rt.out.go bl, Rx.out.go bl, next HB.out bl⟩
  clear hK K
  replace Ry3 := Lib.hid (Ry3.out.go bl)
  replace Ry4 := Lib.hid (Ry4.out.go bl)
  clear bl HB Rs Ri Rt Rx
  have HH := Lib.hid hHeld
  obtain ⟨q1, q2, rs, ri, rt, rx, hbw⟩ := hHeld
  have Rs := Lib.hid rs
  have Ri := Lib.hid ri
  have Rt := Lib.hid rt
  have Rx := Lib.hid rx
  have HB := Lib.hid hbw
  clear hbw q1 q2 rs ri rt rx
  have hHeld := HH.out
  clear HH
  try simp only [Act.put, List.getElem_toArray, List.getElem_cons_zero, List.getElem_cons_succ, List.setIfInBounds_toArray, List.set_cons_zero, List.set_cons_succ]
  clear Ry3
  clear Ry4
  refine wpAnyH_take (i := 16) (v := ?_) rfl (by kernel_rfl) (by kernel_rfl) (by kernel_rfl) (fun _ _ _ h => h) (Or.inl ⟨by rfl, ?_⟩) (by assumption) ?_
  rotate_left
  · (intro w hSw; (try dsimp only at hSw); go_simp; (try with_reducible rfl))
  try simp only [Act.put, List.getElem_toArray, List.getElem_cons_zero, List.getElem_cons_succ, List.setIfInBounds_toArray, List.set_cons_zero, List.set_cons_succ]
  refine wpAnyH_take (i := 17) (v := ?_) rfl (by kernel_rfl) (by kernel_rfl) (by kernel_rfl) (fun _ _ _ h => h) (Or.inl ⟨by rfl, ?_⟩) (by assumption) ?_
  rotate_left
  · (intro w hSw; (try dsimp only at hSw); go_simp; (try with_reducible rfl))
  try simp only [Act.put, List.getElem_toArray, List.getElem_cons_zero, List.getElem_cons_succ, List.setIfInBounds_toArray, List.set_cons_zero, List.set_cons_succ]
  refine wpAnyH_take (i := 18) (v := ?_) rfl (by kernel_rfl) (by kernel_rfl) (by kernel_rfl) (fun _ _ _ h => h) (Or.inl ⟨by rfl, ?_⟩) (by assumption) ?_
  rotate_left
  · (intro w hSw; (try dsimp only at hSw); go_simp; (try with_reducible rfl))
  try simp only [Act.put, List.getElem_toArray, List.getElem_cons_zero, List.getElem_cons_succ, List.setIfInBounds_toArray, List.set_cons_zero, List.set_cons_succ]
  refine wpAnyH_take (i := 19) (v := ?_) rfl (by kernel_rfl) (by kernel_rfl) (by kernel_rfl) (fun _ _ _ h => h) (Or.inl ⟨by rfl, ?_⟩) (by assumption) ?_
  rotate_left
  · (intro w hSw; (try dsimp only at hSw); go_simp; (try with_reducible rfl))
  try simp only [Act.put, List.getElem_toArray, List.getElem_cons_zero, List.getElem_cons_succ, List.setIfInBounds_toArray, List.set_cons_zero, List.set_cons_succ]
  refine wpAnyH_ready (rs := [20]) (by kernel_rfl) (by simp) ?_
  refine AllReadyH.cons rfl (fun K hK => ?_) AllReadyH.nil
  rw [if_pos (by rfl)]
  go_simp
  refine (meet' _ _ li lt _ (by omega) Ci.out (by omega) Ct.out Ri.out Rt.out).mono ?_
  rintro e A17 ⟨vm, lm, rfl, c, m, h, r, bl⟩
  obtain rfl : lm = [] := can_ext c Can.nil (fun n => ⟨fun h => absurd ((Mi.out n).1 ((m n).1 h).1).2 ((Mt.out n).1 ((m n).1 h).2).2, fun h => absurd h (mem_nil n)⟩)
  obtain ⟨am, cm, rfl, _⟩ := id r
  simp only [List.length_nil]
  clear c m h r
  refine hK.out _ _ ?_ (fun hHeld => ?_)
  · exact ⟨cell_next bl hHeld.1, cell_next bl hHeld.2.1, Rs.out.go bl, Ri.out.go bl, Rt.out.go bl, Rx.out.go bl, next HB.out bl⟩
  clear hK K
  clear bl HB Rs Ri Rt Rx
  have HH := Lib.hid hHeld
  obtain ⟨q1, q2, rs, ri, rt, rx, hbw⟩ := hHeld
  have Rs := Lib.hid rs
  have Ri := Lib.hid ri
  have Rt := Lib.hid rt
  have Rx := Lib.hid rx
  have HB := Lib.hid hbw
  clear hbw q1 q2 rs ri rt rx
  have hHeld := HH.out
  clear HH
  try simp only [Act.put, List.getElem_toArray, List.getElem_cons_zero, List.getElem_cons_succ, List.setIfInBounds_toArray, List.set_cons_zero, List.set_cons_succ]
  refine wpAnyH_take (i := 21) (v := ?_) rfl (by kernel_rfl) (by kernel_rfl) (by kernel_rfl) (fun _ _ _ h => h) (Or.inl ⟨by rfl, ?_⟩) (by assumption) ?_
  rotate_left
  · (intro w hSw; (try dsimp only at hSw); go_simp; (try with_reducible rfl))
  try simp only [Act.put, List.getElem_toArray, List.getElem_cons_zero, List.getElem_cons_succ, List.setIfInBounds_toArray, List.set_cons_zero, List.set_cons_succ]
  refine wpAnyH_take (i := 22) (v := ?_) rfl (by kernel_rfl) (by kernel_rfl) (by kernel_rfl) (fun _ _ _ h => h) (Or.inl ⟨by rfl, ?_⟩) (by assumption) ?_
  rotate_left
  · (intro w hSw; (try dsimp only at hSw); go_simp; (try with_reducible rfl))
  try simp only [Act.put, List.getElem_toArray, List.getElem_cons_zero, List.getElem_cons_succ, List.setIfInBounds_toArray, List.set_cons_zero, List.set_cons_succ]
  refine wpAnyH_take (i := 23) (v := ?_) rfl (by kernel_rfl) (by kernel_rfl) (by kernel_rfl) (fun _ _ _ h => h) (Or.inl ⟨by rfl, ?_⟩) (by assumption) ?_
  rotate_left
  · (intro w hSw; (try dsimp only at hSw); go_simp; (try with_reducible rfl))
  try simp only [Act.put, List.getElem_toArray, List.getElem_cons_zero, List.getElem_cons_succ, List.setIfInBounds_toArray, List.set_cons_zero, List.set_cons_succ]
  refine wpAnyH_take (i := 24) (v := ?_) rfl (by kernel_rfl) (by kernel_rfl) (by kernel_rfl) (fun _ _ _ h => h) (Or.inl ⟨by rfl, ?_⟩) (by assumption) ?_
  rotate_left
  · (intro w hSw; (try dsimp only at hSw); go_simp; (try with_reducible rfl))
  try simp only [Act.put, List.getElem_toArray, List.getElem_cons_zero, List.getElem_cons_succ, List.setIfInBounds_toArray, List.set_cons_zero, List.set_cons_succ]
  refine wpAnyH_take (i := 25) (v := ?_) rfl (by kernel_rfl) (by kernel_rfl) (by kernel_rfl) (fun _ _ _ h => h) (Or.inl ⟨by rfl, ?_⟩) (by assumption) ?_
  rotate_left
  · (intro w hSw; (try dsimp only at hSw); go_simp; (try with_reducible rfl))
  try simp only [Act.put, List.getElem_toArray, List.getElem_cons_zero, List.getElem_cons_succ, List.setIfInBounds_toArray, List.set_cons_zero, List.set_cons_succ]
  refine wpAnyH_take (i := 28) (v := ?_) rfl (by kernel_rfl) (by kernel_rfl) (by kernel_rfl) (fun _ _ _ h => h) (Or.inl ⟨by rfl, ?_⟩) (by assumption) ?_
  rotate_left
  · (intro w hSw; (try dsimp only at hSw); go_simp; (try with_reducible rfl))
  try simp only [Act.put, List.getElem_toArray, List.getElem_cons_zero, List.getElem_cons_succ, List.setIfInBounds_toArray, List.set_cons_zero, List.set_cons_succ]
  refine wpAnyH_take (i := 31) (v := ?_) rfl (by kernel_rfl) (by kernel_rfl) (by kernel_rfl) (fun _ _ _ h => h) (Or.inl ⟨by rfl, ?_⟩) (by assumption) ?_
  rotate_left
  · (intro w hSw; (try dsimp only at hSw); go_simp; (try with_reducible rfl))
  try simp only [Act.put, List.getElem_toArray, List.getElem_cons_zero, List.getElem_cons_succ, List.setIfInBounds_toArray, List.set_cons_zero, List.set_cons_succ]
  refine wpAnyH_ready (rs := [26]) (by kernel_rfl) (by simp) ?_
  refine AllReadyH.cons rfl (fun K hK => ?_) AllReadyH.nil
  rw [if_pos (by rfl)]
  go_simp
  have Rw := Lib.hid (rd_made A17 lo hi)
  have bl := made A17 (.cells #[.int .u64 lo, .int .u64 hi] 25)
  refine hK.out _ _ ?_ (fun hHeld => ?_)
  · exact ⟨cell_next bl hHeld.1, cell_next bl hHeld.2.1, Rs.out.go bl, Ri.out.go bl, Rt.out.go bl, Rx.out.go bl, next HB.out bl⟩
  clear hK K bl HB Rs Ri Rt Rx
  have HH := Lib.hid hHeld
  obtain ⟨q1, q2, rs, ri, rt, rx, hbw⟩ := hHeld
  have Rs := Lib.hid rs
  have Ri := Lib.hid ri
  have Rt := Lib.hid rt
  have Rx := Lib.hid rx
  have HB := Lib.hid hbw
  clear hbw q1 q2 rs ri rt rx
  have hHeld := HH.out
  clear HH
  try simp only [Act.put, List.getElem_toArray, List.getElem_cons_zero, List.getElem_cons_succ, List.setIfInBounds_toArray, List.set_cons_zero, List.set_cons_succ]
  refine wpAnyH_ready (rs := [27]) (by kernel_rfl) (by simp) ?_
  refine AllReadyH.cons rfl (fun K hK => ?_) AllReadyH.nil
  rw [if_pos (by rfl)]
  go_simp
  refine (of' _ [(lo, hi)] _ (by simp) (fun x hx => by rw [List.mem_singleton.1 hx]; exact ⟨h0, hhi⟩) Rw.out).mono ?_
  rintro e A18 ⟨vv, lv, rfl, c, m, h, r, bl⟩
  have Cv := Lib.hid c
  have Mv := Lib.hid m
  have Nv := Lib.hid h
  have Rv := Lib.hid r
  clear c m h r
  refine hK.out _ _ ?_ (fun hHeld => ?_)
  · exact ⟨cell_next bl hHeld.1, cell_next bl hHeld.2.1, Rs.out.go bl, Ri.out.go bl, Rt.out.go bl, Rx.out.go bl, next HB.out bl⟩
  clear hK K
  replace Rw := Lib.hid (Rw.out.go bl)
  clear bl HB Rs Ri Rt Rx
  have HH := Lib.hid hHeld
  obtain ⟨q1, q2, rs, ri, rt, rx, hbw⟩ := hHeld
  have Rs := Lib.hid rs
  have Ri := Lib.hid ri
  have Rt := Lib.hid rt
  have Rx := Lib.hid rx
  have HB := Lib.hid hbw
  clear hbw q1 q2 rs ri rt rx
  have hHeld := HH.out
  clear HH
  try simp only [Act.put, List.getElem_toArray, List.getElem_cons_zero, List.getElem_cons_succ, List.setIfInBounds_toArray, List.set_cons_zero, List.set_cons_succ]
  have hv := Nv.out
  clear Rw
  rw [List.length_singleton] at hv
  refine wpAnyH_ready (rs := [29]) (by kernel_rfl) (by simp) ?_
  refine AllReadyH.cons rfl (fun K hK => ?_) AllReadyH.nil
  rw [if_pos (by rfl)]
  go_simp
  refine (meet' _ _ lv ls _ (by omega) Cv.out (by omega) Cs.out Rv.out Rs.out).mono ?_
  rintro e A19 ⟨vm2, lm2, rfl, c, m, h, r, bl⟩
  have Cm2 := Lib.hid c
  have Mm2 := Lib.hid m
  have Nm2 := Lib.hid h
  have Rm2 := Lib.hid r
  clear c m h r
  refine hK.out _ _ ?_ (fun hHeld => ?_)
  · exact ⟨cell_next bl hHeld.1, cell_next bl hHeld.2.1, Rs.out.go bl, Ri.out.go bl, Rt.out.go bl, Rx.out.go bl, next HB.out bl⟩
  clear hK K
  replace Rv := Lib.hid (Rv.out.go bl)
  clear bl HB Rs Ri Rt Rx
  have HH := Lib.hid hHeld
  obtain ⟨q1, q2, rs, ri, rt, rx, hbw⟩ := hHeld
  have Rs := Lib.hid rs
  have Ri := Lib.hid ri
  have Rt := Lib.hid rt
  have Rx := Lib.hid rx
  have HB := Lib.hid hbw
  clear hbw q1 q2 rs ri rt rx
  have hHeld := HH.out
  clear HH
  try simp only [Act.put, List.getElem_toArray, List.getElem_cons_zero, List.getElem_cons_succ, List.setIfInBounds_toArray, List.set_cons_zero, List.set_cons_succ]
  have hm2 := Nm2.out
  clear Rv
  refine wpAnyH_ready (rs := [30]) (by kernel_rfl) (by simp) ?_
  refine AllReadyH.cons rfl (fun K hK => ?_) AllReadyH.nil
  rw [if_pos (by rfl)]
  go_simp
  refine (its_any _ lm2 _ (by omega) Rm2.out).mono ?_
  rintro e A20 ⟨vy5, rfl, r, bl⟩
  have Ry5 := Lib.hid r
  clear r
  refine hK.out _ _ ?_ (fun hHeld => ?_)
  · exact ⟨cell_next bl hHeld.1, cell_next bl hHeld.2.1, Rs.out.go bl, Ri.out.go bl, Rt.out.go bl, Rx.out.go bl, next HB.out bl⟩
  clear hK K
  replace Rm2 := Lib.hid (Rm2.out.go bl)
  clear bl HB Rs Ri Rt Rx
  have HH := Lib.hid hHeld
  obtain ⟨q1, q2, rs, ri, rt, rx, hbw⟩ := hHeld
  have Rs := Lib.hid rs
  have Ri := Lib.hid ri
  have Rt := Lib.hid rt
  have Rx := Lib.hid rx
  have HB := Lib.hid hbw
  clear hbw q1 q2 rs ri rt rx
  have hHeld := HH.out
  clear HH
  try simp only [Act.put, List.getElem_toArray, List.getElem_cons_zero, List.getElem_cons_succ, List.setIfInBounds_toArray, List.set_cons_zero, List.set_cons_succ]
  clear Rm2
  refine wpAnyH_ready (rs := [32]) (by kernel_rfl) (by simp) ?_
  refine AllReadyH.cons rfl (fun K hK => ?_) AllReadyH.nil
  rw [if_pos (by rfl)]
  go_simp
  refine (its_any _ li _ (by omega) Ri.out).mono ?_
  rintro e A21 ⟨vy6, rfl, r, bl⟩
  have Ry6 := Lib.hid r
  clear r
  refine hK.out _ _ ?_ (fun hHeld => ?_)
  · exact ⟨cell_next bl hHeld.1, cell_next bl hHeld.2.1, Rs.out.go bl, Ri.out.go bl, Rt.out.go bl, Rx.out.go bl, next HB.out bl⟩
  clear hK K
  replace Ry5 := Lib.hid (Ry5.out.go bl)
  clear bl HB Rs Ri Rt Rx
  have HH := Lib.hid hHeld
  obtain ⟨q1, q2, rs, ri, rt, rx, hbw⟩ := hHeld
  have Rs := Lib.hid rs
  have Ri := Lib.hid ri
  have Rt := Lib.hid rt
  have Rx := Lib.hid rx
  have HB := Lib.hid hbw
  clear hbw q1 q2 rs ri rt rx
  have hHeld := HH.out
  clear HH
  try simp only [Act.put, List.getElem_toArray, List.getElem_cons_zero, List.getElem_cons_succ, List.setIfInBounds_toArray, List.set_cons_zero, List.set_cons_succ]
  refine wpAnyH_ready (rs := [33]) (by kernel_rfl) (by simp) ?_
  refine AllReadyH.cons rfl (fun K hK => ?_) AllReadyH.nil
  rw [if_pos (by rfl)]
  go_simp
  refine (same' _ _ lm2 li _ (by omega) Ry5.out Ry6.out Cm2.out Ci.out (fun n => by have i1 := Mv.out n; have i2 := Mm2.out n; have i3 := Mi.out n; simp only at i2; rw [i2, i3, i1, mem_single]; exact And.comm)).mono ?_
  rintro e A22 ⟨rfl, bl⟩
  refine hK.out _ _ ?_ (fun hHeld => ?_)
  · exact ⟨cell_next bl hHeld.1, cell_next bl hHeld.2.1, Rs.out.go bl, Ri.out.go bl, Rt.out.go bl, Rx.out.go bl, next HB.out bl⟩
  clear hK K
  replace Ry5 := Lib.hid (Ry5.out.go bl)
  replace Ry6 := Lib.hid (Ry6.out.go bl)
  clear bl HB Rs Ri Rt Rx
  have HH := Lib.hid hHeld
  obtain ⟨q1, q2, rs, ri, rt, rx, hbw⟩ := hHeld
  have Rs := Lib.hid rs
  have Ri := Lib.hid ri
  have Rt := Lib.hid rt
  have Rx := Lib.hid rx
  have HB := Lib.hid hbw
  clear hbw q1 q2 rs ri rt rx
  have hHeld := HH.out
  clear HH
  try simp only [Act.put, List.getElem_toArray, List.getElem_cons_zero, List.getElem_cons_succ, List.setIfInBounds_toArray, List.set_cons_zero, List.set_cons_succ]
  clear Ry5
  clear Ry6
  refine wpAnyH_take (i := 34) (v := ?_) rfl (by kernel_rfl) (by kernel_rfl) (by kernel_rfl) (fun _ _ _ h => h) (Or.inl ⟨by rfl, ?_⟩) (by assumption) ?_
  rotate_left
  · (intro w hSw; (try dsimp only at hSw); go_simp; (try with_reducible rfl))
  try simp only [Act.put, List.getElem_toArray, List.getElem_cons_zero, List.getElem_cons_succ, List.setIfInBounds_toArray, List.set_cons_zero, List.set_cons_succ]
  refine wpAnyH_take (i := 35) (v := ?_) rfl (by kernel_rfl) (by kernel_rfl) (by kernel_rfl) (fun _ _ _ h => h) (Or.inl ⟨by rfl, ?_⟩) (by assumption) ?_
  rotate_left
  · (intro w hSw; (try dsimp only at hSw); go_simp; (try with_reducible rfl))
  try simp only [Act.put, List.getElem_toArray, List.getElem_cons_zero, List.getElem_cons_succ, List.setIfInBounds_toArray, List.set_cons_zero, List.set_cons_succ]
  refine wpAnyH_done (by kernel_rfl) (NoPanic.normal ?_) _
  go_wp2
  go_ret
  exact ⟨rfl, HB.out⟩
theorem law_parts (a : Option Addr) (n cap : Nat) (la : List Ran) (lo hi : Int) (w : World) (hn : la.length = n) (hm : n ≤ maxLen) (r : Rd w (.slice a n cap) la) (u : Nums la) (w0 : (Lit.int .u64 lo).wf = true) (w1 : (Lit.int .u64 hi).wf = true) :
    Calls Try.prog 9 #[.slice a n cap, .agg #[.int .u64 lo, .int .u64 hi]] w fun e w' => e = .returned (.bool true) ∧ Below w.heap.size w w' := by
  have h0 := (bounds_u64 w0).1
  have h1 := (bounds_u64 w1).1
  rcases lowB_or la with ga | ga
  · rcases lowB_or [(lo, hi)] with g0 | g0
    · exact parts_core _ la lo hi w (by omega) r u h0 h1 ga g0
    · exact RangesParts_no1 _ la lo hi w (by omega) r u h0 h1 ga g0
  · exact RangesParts_no0 _ la lo hi w (by omega) r u h0 h1 ga
end Go.Proofs.Ytbapbkhbkpeofaa.Rg
