/- The walks of layer 4: the document's Mask and Unmask. By tools/gen-header-ref5.py. -/
import Derived.Test.YtabikljimndliaaDoorHrI
import Derived.Test.YtabikljimndliaaDoorHdX
namespace Go.Proofs.YtabikljimndliaaDoor.Hd
open Go.RowKit Vm
set_option linter.unusedVariables false
set_option linter.unusedSimpArgs false

set_option maxHeartbeats 2000000 in
theorem Mask_five_ref (l m : List UInt8) (w : World) (hm : (((m.length : Nat) : Int) != 5) = true) :
    Calls Tryd.prog 16 #[.string ⟨l.toArray⟩, .string ⟨m.toArray⟩] w fun e w' => e = .returned (.tuple #[.string ⟨#[]⟩, .int .i64 1]) ∧ Below w.heap.size w w' := by
  go_enter Tryd.func16, Tryd.ntmps16
  go_wp2
  go_ret2
  exact ⟨rfl, Below.refl _ _⟩
set_option maxHeartbeats 2000000 in
theorem Unmask_five_ref (l m : List UInt8) (w : World) (hm : (((m.length : Nat) : Int) != 5) = true) :
    Calls Tryd.prog 18 #[.string ⟨l.toArray⟩, .string ⟨m.toArray⟩] w fun e w' => e = .returned (.tuple #[.string ⟨#[]⟩, .int .i64 1]) ∧ Below w.heap.size w w' := by
  go_enter Tryd.func18, Tryd.ntmps18
  go_wp2
  go_ret2
  exact ⟨rfl, Below.refl _ _⟩
set_option maxHeartbeats 2000000 in
theorem Mask_none_ref (l m : List UInt8) (w : World) (hm : (((m.length : Nat) : Int) != 5) = false) (hl : l.length ≤ 140737488351232) (hE : Hid (gEr l = 40)) :
    Calls Tryd.prog 16 #[.string ⟨l.toArray⟩, .string ⟨m.toArray⟩] w fun e w' => e = .returned (.tuple #[.string ⟨#[]⟩, .int .i64 40]) ∧ Below w.heap.size w w' := by
  have HG := Lib.hid (fun w => Get_ref l w hl)
  rw [hE.out] at HG
  generalize gHd l = h at HG
  generalize gRs l = rs at HG
  obtain ⟨lg, sp, ph, ty, ve, dc, sc, tk, le, wi, nu⟩ := h
  go_enter Tryd.func16, Tryd.ntmps16
  go_wp2_with fail
  refine (HG.out _).mono ?_
  rintro e w1 ⟨rfl, hb⟩
  go_wp2
  go_ret2
  exact ⟨rfl, hb.alloc hb.size _⟩
set_option maxHeartbeats 4000000 in
theorem Mask_some_ref (l m : List UInt8) (p k : Nat) (w : World) (hm : (((m.length : Nat) : Int) != 5) = false) (hm5 : Hid (m.length = 5)) (hl : l.length ≤ 140737488351232) (hE : Hid (gEr l = 0)) (hW : Hid ((gHd l).wi = (k : Int))) (hR : Hid (l.length = p + k + (gRs l).length)) (h0 : 0 < l.length) (hp : 1 ≤ p) (hk : k ≤ 4) :
    Calls Tryd.prog 16 #[.string ⟨l.toArray⟩, .string ⟨m.toArray⟩] w fun e w' => e = .returned (.tuple #[.string ⟨(turnM l m p k).toArray⟩, .int .i64 0]) ∧ Below w.heap.size w w' := by
  have HG := Lib.hid (fun w => Get_ref l w hl)
  rw [hE.out] at HG
  have HM := Lib.hid (fun w => laid_ref l m p k w hp hk (by have := hR.out; omega) hm5.out hl)
  have HF := Lib.hid (fun w => first_ref l m w h0 (by have := hm5.out; omega) (by omega) (by have := hm5.out; omega))
  generalize fstB (l.headD 0) (m.headD 0) = x at HM HF
  generalize gHd l = h at HG hW
  generalize gRs l = rs at HG hR
  obtain ⟨lg, sp, ph, ty, ve, dc, sc, tk, le, wi, nu⟩ := h
  have hwi : wi = (k : Int) := hW.out
  subst hwi
  have hrs : rs.length ≤ 140737488351232 := by have := hR.out; omega
  have hrl : rs.length ≤ l.length := by have := hR.out; omega
  have e1 : ((l.length : Nat) : Int) - ((rs.length : Nat) : Int) - (k : Int) = (p : Int) := by have := hR.out; omega
  have hpp : (p : Int) ≤ 140737488351232 := by omega
  have e2 : IntKind.i64.wrap (((l.length : Nat) : Int) - ((rs.length : Nat) : Int)) = ((l.length : Nat) : Int) - ((rs.length : Nat) : Int) := IntWalk.i64_in _ (by omega)
  have e3 : IntKind.i64.wrap (p : Int) = (p : Int) := IntWalk.i64_in _ (by omega)
  go_enter Tryd.func16, Tryd.ntmps16
  go_wp2_with fail
  refine (HG.out _).mono ?_
  rintro e w1 ⟨rfl, hb⟩
  have hg1 : w1.heap.size < w1.heap.size + 1 := Nat.lt_succ_self _
  go_wp2_with fail
  refine wp_region_noPanic ?_
  refine wp_region_held_drew (S := fun w' => w'.cell? ⟨w1.heap.size, 9, none⟩ = some (.int .i64 (k : Int)) ∧ w1.heap.size + 1 ≤ w'.heap.size ∧ Below w.heap.size w w') (by kernel_rfl) ?_ (fun hHeld => ?_)
  · exact ⟨by simp [go_sem], by simp, below_drew (hb.alloc hb.size _)⟩
  refine wpAnyH_take (i := 0) (v := ?_) rfl (by kernel_rfl) (by kernel_rfl) (by kernel_rfl) (fun _ _ _ h => h) (Or.inl ⟨by rfl, ?_⟩) (by assumption) ?_
  rotate_left
  · (intro w hSw; (try (have cA := hSw.1)); (try clear hSw); go_simp; (try with_reducible rfl))
  try simp only [Act.put, List.getElem_toArray, List.getElem_cons_zero, List.getElem_cons_succ, List.setIfInBounds_toArray, List.set_cons_zero, List.set_cons_succ]
  refine wpAnyH_take (i := 1) (v := ?_) rfl (by kernel_rfl) (by kernel_rfl) (by kernel_rfl) (fun _ _ _ h => h) (Or.inl ⟨by rfl, ?_⟩) (by assumption) ?_
  rotate_left
  · (intro w hSw; (try (have cA := hSw.1)); (try clear hSw); go_simp; (try with_reducible rfl))
  try simp only [Act.put, List.getElem_toArray, List.getElem_cons_zero, List.getElem_cons_succ, List.setIfInBounds_toArray, List.set_cons_zero, List.set_cons_succ]
  refine wpAnyH_take (i := 2) (v := ?_) rfl (by kernel_rfl) (by kernel_rfl) (by kernel_rfl) (fun _ _ _ h => h) (Or.inl ⟨by rfl, ?_⟩) (by assumption) ?_
  rotate_left
  · (intro w hSw; (try (have cA := hSw.1)); (try clear hSw); go_simp; (try with_reducible rfl))
  try simp only [Act.put, List.getElem_toArray, List.getElem_cons_zero, List.getElem_cons_succ, List.setIfInBounds_toArray, List.set_cons_zero, List.set_cons_succ]
  refine wpAnyH_take (i := 3) (v := ?_) rfl (by kernel_rfl) (by kernel_rfl) (by kernel_rfl) (fun _ _ _ h => h) (Or.inl ⟨by rfl, ?_⟩) (by assumption) ?_
  rotate_left
  · (intro w hSw; (try (have cA := hSw.1)); (try clear hSw); go_simp; (try with_reducible rfl))
  try simp only [Act.put, List.getElem_toArray, List.getElem_cons_zero, List.getElem_cons_succ, List.setIfInBounds_toArray, List.set_cons_zero, List.set_cons_succ]
  refine wpAnyH_take (i := 5) (v := ?_) rfl (by kernel_rfl) (by kernel_rfl) (by kernel_rfl) (fun _ _ _ h => h) (Or.inl ⟨by rfl, ?_⟩) (by assumption) ?_
  rotate_left
  · (intro w hSw; (try (have cA := hSw.1)); (try clear hSw); go_simp; (try with_reducible rfl))
  try simp only [Act.put, List.getElem_toArray, List.getElem_cons_zero, List.getElem_cons_succ, List.setIfInBounds_toArray, List.set_cons_zero, List.set_cons_succ]
  refine wpAnyH_take (i := 6) (v := ?_) rfl (by kernel_rfl) (by kernel_rfl) (by kernel_rfl) (fun _ _ _ h => h) (Or.inl ⟨by rfl, ?_⟩) (by assumption) ?_
  rotate_left
  · (intro w hSw; (try (have cA := hSw.1)); (try clear hSw); go_simp; (try with_reducible rfl))
  try simp only [Act.put, List.getElem_toArray, List.getElem_cons_zero, List.getElem_cons_succ, List.setIfInBounds_toArray, List.set_cons_zero, List.set_cons_succ]
  refine wpAnyH_take (i := 7) (v := ?_) rfl (by kernel_rfl) (by kernel_rfl) (by kernel_rfl) (fun _ _ _ h => h) (Or.inl ⟨by rfl, ?_⟩) (by assumption) ?_
  rotate_left
  · (intro w hSw; (try (have cA := hSw.1)); (try clear hSw); go_simp; (try with_reducible rfl))
  try simp only [Act.put, List.getElem_toArray, List.getElem_cons_zero, List.getElem_cons_succ, List.setIfInBounds_toArray, List.set_cons_zero, List.set_cons_succ]
  refine wpAnyH_take (i := 8) (v := ?_) rfl (by kernel_rfl) (by kernel_rfl) (by kernel_rfl) (fun _ _ _ h => h) (Or.inl ⟨by rfl, ?_⟩) (by assumption) ?_
  rotate_left
  · (intro w hSw; (try (have cA := hSw.1)); (try clear hSw); go_simp; (try with_reducible rfl))
  try simp only [Act.put, List.getElem_toArray, List.getElem_cons_zero, List.getElem_cons_succ, List.setIfInBounds_toArray, List.set_cons_zero, List.set_cons_succ]
  refine wpAnyH_take (i := 9) (v := ?_) rfl (by kernel_rfl) (by kernel_rfl) (by kernel_rfl) (fun _ _ _ h => h) (Or.inl ⟨by rfl, ?_⟩) (by assumption) ?_
  rotate_left
  · (intro w hSw; (try (have cA := hSw.1)); (try clear hSw); go_simp; (try with_reducible rfl))
  try simp only [Act.put, List.getElem_toArray, List.getElem_cons_zero, List.getElem_cons_succ, List.setIfInBounds_toArray, List.set_cons_zero, List.set_cons_succ]
  refine wpAnyH_take (i := 10) (v := ?_) rfl (by kernel_rfl) (by kernel_rfl) (by kernel_rfl) (fun _ _ _ h => h) (Or.inl ⟨by rfl, ?_⟩) (by assumption) ?_
  rotate_left
  · (intro w hSw; (try (have cA := hSw.1)); (try clear hSw); go_simp; (try with_reducible rfl))
  try simp only [Act.put, List.getElem_toArray, List.getElem_cons_zero, List.getElem_cons_succ, List.setIfInBounds_toArray, List.set_cons_zero, List.set_cons_succ]
  refine wpAnyH_take (i := 11) (v := ?_) rfl (by kernel_rfl) (by kernel_rfl) (by kernel_rfl) (fun _ _ _ h => h) (Or.inl ⟨by rfl, ?_⟩) (by assumption) ?_
  rotate_left
  · (intro w hSw; (try (have cA := hSw.1)); (try clear hSw); go_simp; (try with_reducible rfl))
  try simp only [Act.put, List.getElem_toArray, List.getElem_cons_zero, List.getElem_cons_succ, List.setIfInBounds_toArray, List.set_cons_zero, List.set_cons_succ]
  refine wpAnyH_take (i := 12) (v := ?_) rfl (by kernel_rfl) (by kernel_rfl) (by kernel_rfl) (fun _ _ _ h => h) (Or.inl ⟨by rfl, ?_⟩) (by assumption) ?_
  rotate_left
  · (intro w hSw; (try (have cA := hSw.1)); (try clear hSw); go_simp; (try with_reducible rfl))
  try simp only [Act.put, List.getElem_toArray, List.getElem_cons_zero, List.getElem_cons_succ, List.setIfInBounds_toArray, List.set_cons_zero, List.set_cons_succ]
  refine wpAnyH_take (i := 13) (v := ?_) rfl (by kernel_rfl) (by kernel_rfl) (by kernel_rfl) (fun _ _ _ h => h) (Or.inl ⟨by rfl, ?_⟩) (by assumption) ?_
  rotate_left
  · (intro w hSw; (try (have cA := hSw.1)); (try clear hSw); go_simp; (try with_reducible rfl))
  try simp only [Act.put, List.getElem_toArray, List.getElem_cons_zero, List.getElem_cons_succ, List.setIfInBounds_toArray, List.set_cons_zero, List.set_cons_succ]
  refine wpAnyH_take (i := 14) (v := ?_) rfl (by kernel_rfl) (by kernel_rfl) (by kernel_rfl) (fun _ _ _ h => h) (Or.inl ⟨by rfl, ?_⟩) (by assumption) ?_
  rotate_left
  · (intro w hSw; (try (have cA := hSw.1)); (try clear hSw); go_simp; (try with_reducible rfl))
  try simp only [Act.put, List.getElem_toArray, List.getElem_cons_zero, List.getElem_cons_succ, List.setIfInBounds_toArray, List.set_cons_zero, List.set_cons_succ]
  refine wpAnyH_ready (rs := [4]) (by kernel_rfl) (by simp) ?_
  refine AllReadyH.cons rfl (fun K hK => ?_) AllReadyH.nil
  rw [if_pos (by rfl)]
  go_simp
  refine (HF.out _).mono ?_
  rintro e w2 ⟨rfl, hb2⟩
  refine hK.out _ _ ?_ (fun hHeld => ?_)
  · exact ⟨(hb2.cell (p := ⟨w1.heap.size, 9, none⟩) (Nat.lt_of_lt_of_le hg1 hHeld.2.1)).trans hHeld.1, Nat.le_trans hHeld.2.1 hb2.size, hHeld.2.2.trans (hb2.mono hHeld.2.2.size)⟩
  clear hK K
  try simp only [Act.put, List.getElem_toArray, List.getElem_cons_zero, List.getElem_cons_succ, List.setIfInBounds_toArray, List.set_cons_zero, List.set_cons_succ]
  refine wpAnyH_ready (rs := [15]) (by kernel_rfl) (by simp) ?_
  refine AllReadyH.cons rfl (fun K hK => ?_) AllReadyH.nil
  rw [if_pos (by rfl)]
  go_simp
  refine (HM.out _).mono ?_
  rintro e w3 ⟨rfl, hb3⟩
  refine hK.out _ _ ?_ (fun hHeld => ?_)
  · exact ⟨(hb3.cell (p := ⟨w1.heap.size, 9, none⟩) (Nat.lt_of_lt_of_le hg1 hHeld.2.1)).trans hHeld.1, Nat.le_trans hHeld.2.1 hb3.size, hHeld.2.2.trans (hb3.mono hHeld.2.2.size)⟩
  clear hK K
  try simp only [Act.put, List.getElem_toArray, List.getElem_cons_zero, List.getElem_cons_succ, List.setIfInBounds_toArray, List.set_cons_zero, List.set_cons_succ]
  refine wpAnyH_take (i := 16) (v := ?_) rfl (by kernel_rfl) (by kernel_rfl) (by kernel_rfl) (fun _ _ _ h => h) (Or.inl ⟨by rfl, ?_⟩) (by assumption) ?_
  rotate_left
  · (intro w hSw; (try (have cA := hSw.1)); (try clear hSw); go_simp; (try with_reducible rfl))
  try simp only [Act.put, List.getElem_toArray, List.getElem_cons_zero, List.getElem_cons_succ, List.setIfInBounds_toArray, List.set_cons_zero, List.set_cons_succ]
  refine wpAnyH_take (i := 17) (v := ?_) rfl (by kernel_rfl) (by kernel_rfl) (by kernel_rfl) (fun _ _ _ h => h) (Or.inl ⟨by rfl, ?_⟩) (by assumption) ?_
  rotate_left
  · (intro w hSw; (try (have cA := hSw.1)); (try clear hSw); go_simp; (try with_reducible rfl))
  try simp only [Act.put, List.getElem_toArray, List.getElem_cons_zero, List.getElem_cons_succ, List.setIfInBounds_toArray, List.set_cons_zero, List.set_cons_succ]
  refine wpAnyH_done (by kernel_rfl) (NoPanic.normal ?_) _
  have HB := Lib.hid hHeld.2.2
  clear hHeld e2 e3
  go_wp2
  go_ret2
  exact ⟨rfl, HB.out⟩
theorem Mask_ref (l m : List UInt8) (w : World) (hl : l.length ≤ 140737488351232) :
    Calls Tryd.prog 16 #[.string ⟨l.toArray⟩, .string ⟨m.toArray⟩] w fun e w' => e = .returned (.tuple #[.string ⟨(mskL l m).toArray⟩, .int .i64 (mskE l m)]) ∧ Below w.heap.size w w' := by
  by_cases h5 : m.length = 5
  · have e1 : mskE l m = gEr l := if_pos h5
    cases hg : getO l with
    | none =>
      have e2 : mskL l m = [] := by unfold mskL; rw [if_pos h5, hg]
      have e3 : gEr l = 40 := by unfold gEr; rw [hg]
      rw [e1, e2, e3]
      exact Mask_none_ref l m w (ne5 h5) hl (Lib.hid e3)
    | some x =>
      obtain ⟨b, t, p, pre, hlb, ha, hf, hbb, hw, hx⟩ := get_parts hg
      have hlen := len_parts hf
      rw [← hlb] at hlen
      have hx1 : x.1.wi = ((wideB b : Nat) : Int) := by rw [hx]; rfl
      have hx2 : x.2.length = p.re.length - wideB b := by rw [hx]; simp
      have hwb : wideB b ≤ 4 := by unfold wideB; omega
      have e2 : mskL l m = turnM l m (1 + pre.length) (wideB b) := by
        unfold mskL
        rw [if_pos h5, hg]
        simp only
        rw [hx1, Int.toNat_natCast]
        congr 1
        omega
      have e3 : gEr l = 0 := by unfold gEr; rw [hg]
      have e4 : (gHd l).wi = ((wideB b : Nat) : Int) := by unfold gHd; rw [hg]; exact hx1
      have e5 : (gRs l).length = p.re.length - wideB b := by unfold gRs; rw [hg]; exact hx2
      rw [e1, e2, e3]
      exact Mask_some_ref l m (1 + pre.length) (wideB b) w (ne5 h5) (Lib.hid h5) hl (Lib.hid e3) (Lib.hid e4) (Lib.hid (by omega)) (by omega) (by omega) hwb
  · have e1 : mskE l m = 1 := if_neg h5
    have e2 : mskL l m = [] := if_neg h5
    rw [e1, e2]
    exact Mask_five_ref l m w (ne5' h5)
set_option maxHeartbeats 2000000 in
theorem Unmask_none_ref (l m : List UInt8) (w : World) (hm : (((m.length : Nat) : Int) != 5) = false) (hl : l.length ≤ 140737488351232) (hE : Hid (plE l = 40)) :
    Calls Tryd.prog 18 #[.string ⟨l.toArray⟩, .string ⟨m.toArray⟩] w fun e w' => e = .returned (.tuple #[.string ⟨#[]⟩, .int .i64 40]) ∧ Below w.heap.size w w' := by
  have HG := Lib.hid (fun w => Place_ref l w hl)
  rw [hE.out] at HG
  go_enter Tryd.func18, Tryd.ntmps18
  go_wp2_with fail
  refine (HG.out _).mono ?_
  rintro e w1 ⟨rfl, hb⟩
  go_wp2
  go_ret2
  exact ⟨rfl, hb⟩
set_option maxHeartbeats 2000000 in
theorem Unmask_short_ref (l m : List UInt8) (p k : Nat) (w : World) (hm : (((m.length : Nat) : Int) != 5) = false) (hm5 : Hid (m.length = 5)) (hl : l.length ≤ 140737488351232) (h0 : 0 < l.length) (hE : Hid (plE l = 0)) (hN : Hid (plN l = (p : Int))) (hK : Hid (umK l m = k)) (hp : 1 ≤ p) (hpl : p ≤ l.length) (hs : ((l.length : Nat) : Int) < (p : Int) + (k : Int)) :
    Calls Tryd.prog 18 #[.string ⟨l.toArray⟩, .string ⟨m.toArray⟩] w fun e w' => e = .returned (.tuple #[.string ⟨#[]⟩, .int .i64 40]) ∧ Below w.heap.size w w' := by
  have HG := Lib.hid (fun w => Place_ref l w hl)
  rw [hE.out, hN.out] at HG
  have HF := Lib.hid (fun w => first_ref l m w h0 (by have := hm5.out; omega) (by omega) (by have := hm5.out; omega))
  have HK := hK.out
  unfold umK at HK
  have hk4 : k ≤ 4 := by omega
  generalize fstB (l.headD 0) (m.headD 0) = x at HF HK
  have hx0 : (0 : Int) ≤ ((x.toNat : Nat) : Int) := by omega
  have hx1 : ((x.toNat : Nat) : Int) ≤ 255 := by have := x.toNat_lt; omega
  have kE : 1 + ((x.toNat : Nat) : Int) % 4 = (k : Int) := by omega
  have hpp : (p : Int) ≤ 140737488351232 := by omega
  replace HK := Lib.hid HK
  go_enter Tryd.func18, Tryd.ntmps18
  go_wp2_with fail
  refine (HG.out _).mono ?_
  rintro e w1 ⟨rfl, hb1⟩
  go_wp2_with fail
  refine (HF.out _).mono ?_
  rintro e w2 ⟨rfl, hb2⟩
  have hb12 := hb1.trans (hb2.mono hb1.size)
  clear hb1 hb2
  go_wp2
  go_ret2
  exact ⟨rfl, hb12⟩
set_option maxHeartbeats 2000000 in
theorem Unmask_bad_ref (l m : List UInt8) (p k : Nat) (w : World) (hm : (((m.length : Nat) : Int) != 5) = false) (hm5 : Hid (m.length = 5)) (hl : l.length ≤ 140737488351232) (h0 : 0 < l.length) (hE : Hid (plE l = 0)) (hN : Hid (plN l = (p : Int))) (hK : Hid (umK l m = k)) (hp : 1 ≤ p) (hpl : p ≤ l.length) (hs : ¬ ((l.length : Nat) : Int) < (p : Int) + (k : Int)) (hB : Hid (gEr (turnM l m p k) = 40)) :
    Calls Tryd.prog 18 #[.string ⟨l.toArray⟩, .string ⟨m.toArray⟩] w fun e w' => e = .returned (.tuple #[.string ⟨#[]⟩, .int .i64 40]) ∧ Below w.heap.size w w' := by
  have HG := Lib.hid (fun w => Place_ref l w hl)
  rw [hE.out, hN.out] at HG
  have HF := Lib.hid (fun w => first_ref l m w h0 (by have := hm5.out; omega) (by omega) (by have := hm5.out; omega))
  have HK := hK.out
  unfold umK at HK
  have hk4 : k ≤ 4 := by omega
  have HM := Lib.hid (fun w => laid_ref l m p k w hp hk4 (by omega) hm5.out hl)
  generalize fstB (l.headD 0) (m.headD 0) = x at HF HK HM
  have hx0 : (0 : Int) ≤ ((x.toNat : Nat) : Int) := by omega
  have hx1 : ((x.toNat : Nat) : Int) ≤ 255 := by have := x.toNat_lt; omega
  have kE : 1 + ((x.toNat : Nat) : Int) % 4 = (k : Int) := by omega
  have hpp : (p : Int) ≤ 140737488351232 := by omega
  replace HK := Lib.hid HK
  have hol : (turnM l m p k).length ≤ 140737488351232 := by rw [turnM_len l m p k hp (by omega) hm5.out hk4]; exact hl
  have HG2 := Lib.hid (fun w => Get_ref (turnM l m p k) w hol)
  rw [hB.out] at HG2
  generalize turnM l m p k = o at *
  generalize gHd o = h at HG2
  generalize gRs o = rs at HG2
  obtain ⟨lg, sp, ph, ty, ve, dc, sc, tk, le, wi, nu⟩ := h
  go_enter Tryd.func18, Tryd.ntmps18
  go_wp2_with fail
  refine (HG.out _).mono ?_
  rintro e w1 ⟨rfl, hb1⟩
  go_wp2_with fail
  refine (HF.out _).mono ?_
  rintro e w2 ⟨rfl, hb2⟩
  have hb12 := hb1.trans (hb2.mono hb1.size)
  clear hb1 hb2
  go_wp2_with fail
  refine (HM.out _).mono ?_
  rintro e w4 ⟨rfl, hb4⟩
  have hb := hb12.trans (hb4.mono hb12.size)
  clear hb12 hb4
  go_wp2_with fail
  refine (HG2.out _).mono ?_
  rintro e w5 ⟨rfl, hb5⟩
  have hb6 := hb.trans (hb5.mono hb.size)
  go_wp2
  go_ret2
  exact ⟨rfl, hb6.alloc hb6.size _⟩
set_option maxHeartbeats 2000000 in
theorem Unmask_ok_ref (l m : List UInt8) (p k : Nat) (w : World) (hm : (((m.length : Nat) : Int) != 5) = false) (hm5 : Hid (m.length = 5)) (hl : l.length ≤ 140737488351232) (h0 : 0 < l.length) (hE : Hid (plE l = 0)) (hN : Hid (plN l = (p : Int))) (hK : Hid (umK l m = k)) (hp : 1 ≤ p) (hpl : p ≤ l.length) (hs : ¬ ((l.length : Nat) : Int) < (p : Int) + (k : Int)) (hB : Hid (gEr (turnM l m p k) = 0)) :
    Calls Tryd.prog 18 #[.string ⟨l.toArray⟩, .string ⟨m.toArray⟩] w fun e w' => e = .returned (.tuple #[.string ⟨(turnM l m p k).toArray⟩, .int .i64 0]) ∧ Below w.heap.size w w' := by
  have HG := Lib.hid (fun w => Place_ref l w hl)
  rw [hE.out, hN.out] at HG
  have HF := Lib.hid (fun w => first_ref l m w h0 (by have := hm5.out; omega) (by omega) (by have := hm5.out; omega))
  have HK := hK.out
  unfold umK at HK
  have hk4 : k ≤ 4 := by omega
  have HM := Lib.hid (fun w => laid_ref l m p k w hp hk4 (by omega) hm5.out hl)
  generalize fstB (l.headD 0) (m.headD 0) = x at HF HK HM
  have hx0 : (0 : Int) ≤ ((x.toNat : Nat) : Int) := by omega
  have hx1 : ((x.toNat : Nat) : Int) ≤ 255 := by have := x.toNat_lt; omega
  have kE : 1 + ((x.toNat : Nat) : Int) % 4 = (k : Int) := by omega
  have hpp : (p : Int) ≤ 140737488351232 := by omega
  replace HK := Lib.hid HK
  have hol : (turnM l m p k).length ≤ 140737488351232 := by rw [turnM_len l m p k hp (by omega) hm5.out hk4]; exact hl
  have HG2 := Lib.hid (fun w => Get_ref (turnM l m p k) w hol)
  rw [hB.out] at HG2
  generalize turnM l m p k = o at *
  generalize gHd o = h at HG2
  generalize gRs o = rs at HG2
  obtain ⟨lg, sp, ph, ty, ve, dc, sc, tk, le, wi, nu⟩ := h
  go_enter Tryd.func18, Tryd.ntmps18
  go_wp2_with fail
  refine (HG.out _).mono ?_
  rintro e w1 ⟨rfl, hb1⟩
  go_wp2_with fail
  refine (HF.out _).mono ?_
  rintro e w2 ⟨rfl, hb2⟩
  have hb12 := hb1.trans (hb2.mono hb1.size)
  clear hb1 hb2
  go_wp2_with fail
  refine (HM.out _).mono ?_
  rintro e w4 ⟨rfl, hb4⟩
  have hb := hb12.trans (hb4.mono hb12.size)
  clear hb12 hb4
  go_wp2_with fail
  refine (HG2.out _).mono ?_
  rintro e w5 ⟨rfl, hb5⟩
  have hb6 := hb.trans (hb5.mono hb.size)
  go_wp2
  go_ret2
  exact ⟨rfl, hb6.alloc hb6.size _⟩
theorem Unmask_ref (l m : List UInt8) (w : World) (hl : l.length ≤ 140737488351232) :
    Calls Tryd.prog 18 #[.string ⟨l.toArray⟩, .string ⟨m.toArray⟩] w fun e w' => e = .returned (.tuple #[.string ⟨(umL l m).toArray⟩, .int .i64 (umE l m)]) ∧ Below w.heap.size w w' := by
  by_cases h5 : m.length = 5
  · have e1 : umE l m = match umO l m with
      | some x => 0
      | none => 40 := if_pos h5
    have e2 : umL l m = match umO l m with
      | some x => x
      | none => [] := if_pos h5
    cases l with
    | nil =>
      have e3 : umO [] m = none := rfl
      rw [e1, e2, e3]
      exact Unmask_none_ref [] m w (ne5 h5) hl (Lib.hid rfl)
    | cons b t =>
      cases ha : ahO (b :: t) with
      | none =>
        have e3 : umO (b :: t) m = none := by unfold umO; rw [ha]
        rw [e1, e2, e3]
        exact Unmask_none_ref _ m w (ne5 h5) hl (Lib.hid (by unfold plE; rw [ha]))
      | some p =>
        obtain ⟨pre, hf⟩ := ahO_local ha
        have hlen := len_parts hf
        have hE : plE (b :: t) = 0 := by unfold plE; rw [ha]
        have hN : plN (b :: t) = ((1 + pre.length : Nat) : Int) := by unfold plN; rw [ha]; simp only; omega
        have hpl : (b :: t).length - p.re.length = 1 + pre.length := by omega
        have h0 : 0 < (b :: t).length := by simp
        generalize b :: t = l at *
        have e3 : umO l m = if p.re.length < umK l m then none else match getO (turnM l m (1 + pre.length) (umK l m)) with
          | none => none
          | some _ => some (turnM l m (1 + pre.length) (umK l m)) := by unfold umO; rw [ha]; simp only; rw [hpl]; cases getO (turnM l m (1 + pre.length) (umK l m)) <;> rfl
        by_cases hs : p.re.length < umK l m
        · rw [e1, e2, e3, if_pos hs]
          exact Unmask_short_ref l m (1 + pre.length) (umK l m) w (ne5 h5) (Lib.hid h5) hl h0 (Lib.hid hE) (Lib.hid hN) (Lib.hid rfl) (by omega) (by omega) (by omega)
        · rw [e1, e2, e3, if_neg hs]
          cases hg : getO (turnM l m (1 + pre.length) (umK l m)) with
          | none => exact Unmask_bad_ref l m (1 + pre.length) (umK l m) w (ne5 h5) (Lib.hid h5) hl h0 (Lib.hid hE) (Lib.hid hN) (Lib.hid rfl) (by omega) (by omega) (by omega) (Lib.hid (by unfold gEr; rw [hg]))
          | some x => exact Unmask_ok_ref l m (1 + pre.length) (umK l m) w (ne5 h5) (Lib.hid h5) hl h0 (Lib.hid hE) (Lib.hid hN) (Lib.hid rfl) (by omega) (by omega) (by omega) (Lib.hid (by unfold gEr; rw [hg]))
  · have e1 : umE l m = 1 := if_neg h5
    have e2 : umL l m = [] := if_neg h5
    rw [e1, e2]
    exact Unmask_five_ref l m w (ne5' h5)
end Go.Proofs.YtabikljimndliaaDoor.Hd
