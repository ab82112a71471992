/- The walks of layer 4: a mask on a header. By tools/gen-header-turned2.py. -/
import Derived.Test.YtabikljimndliaaDoorHdU
namespace Go.Proofs.YtabikljimndliaaDoor.Hd
open Go.RowKit Vm
set_option linter.unusedVariables false
set_option linter.unusedSimpArgs false

theorem sv_sub (l : List UInt8) (a b : Nat) : (⟨l.toArray⟩ : ByteArray).extract a b = ⟨((l.drop a).take (b - a)).toArray⟩ := by
  apply ByteArray.ext
  apply Array.toList_inj.1
  rw [Lib.extract_data]
set_option maxHeartbeats 2000000 in
theorem turned_any (l m : List UInt8) (b c : UInt8) (p k : Nat) (w : World) (h0 : 0 < l.length) (h1 : 0 < m.length) (hb : l[0] = b) (hc : m[0] = c) (hp : 1 ≤ p) (hk : k ≤ 4) (hpk : p + k ≤ l.length) (hm5 : m.length = 5) (hl : l.length ≤ 140737488351232) :
    Calls Tryd.prog 34 #[.string ⟨l.toArray⟩, .string ⟨m.toArray⟩, .int .i64 p, .int .i64 k] w fun e w' => e = .returned (.string ⟨(turnL b c l m p k).toArray⟩) ∧ Below w.heap.size w w' := by
  have HF := Lib.hid (fun w => turnedFirst_any l m b c w h0 h1 hb hc hl (by omega))
  have X1 : (⟨m.toArray⟩ : ByteArray).extract 1 m.length = ⟨(m.drop 1).toArray⟩ := sv_from m 1
  have hm2 : (m.drop 1).length ≤ 140737488351232 := by rw [List.length_drop]; omega
  have hn1 : ((l.drop p).take k).length = k := by rw [List.length_take, List.length_drop]; omega
  have X2 : (⟨l.toArray⟩ : ByteArray).extract p (p + k) = ⟨((l.drop p).take k).toArray⟩ := by rw [sv_sub, Nat.add_sub_cancel_left]
  have X3 : (⟨l.toArray⟩ : ByteArray).extract 1 p = ⟨((l.take p).drop 1).toArray⟩ := by rw [sv_sub, List.drop_take]
  have X4 : (⟨l.toArray⟩ : ByteArray).extract (p + k) l.length = ⟨(l.drop (p + k)).toArray⟩ := sv_from l (p + k)
  have hxl : (xorL ((l.drop p).take k) (m.drop 1)).length ≤ 4 := by unfold xorL; simp; omega
  have EV : turnL b c l m p k = [fstB b c] ++ (l.take p).drop 1 ++ xorL ((l.drop p).take k) (m.drop 1) ++ l.drop (p + k) := rfl
  have hn2 : ((l.take p).drop 1).length ≤ l.length := by simp; omega
  have hn3 : (l.drop (p + k)).length ≤ l.length := by simp
  have hmd : (m.drop 1).length = 4 := by rw [List.length_drop]; omega
  obtain ⟨nb, Enb⟩ : ∃ x, x = (l.drop p).take k := ⟨_, rfl⟩
  rw [← Enb] at X2 EV hn1 hxl
  obtain ⟨mid, Emid⟩ : ∃ x, x = (l.take p).drop 1 := ⟨_, rfl⟩
  rw [← Emid] at X3 EV hn2
  obtain ⟨rest, Erest⟩ : ∃ x, x = l.drop (p + k) := ⟨_, rfl⟩
  rw [← Erest] at X4 EV hn3
  obtain ⟨md, Emd⟩ : ∃ x, x = m.drop 1 := ⟨_, rfl⟩
  rw [← Emd] at X1 hm2 hxl EV hmd
  have b1 : (1 : Int) ≤ (m.length : Nat) := by omega
  have b2 : 0 ≤ (p : Int) + (k : Int) := by omega
  have b3 : (p : Int) + (k : Int) ≤ (l.length : Nat) := by omega
  have b4 : (p : Int) ≤ (p : Int) + (k : Int) := by omega
  have b5 : ((p : Int) + (k : Int)).toNat = p + k := by omega
  have b6 : (1 : Int) ≤ (p : Nat) := by omega
  have b7 : ((p : Nat) : Int) ≤ (l.length : Nat) := by omega
  have b8 : p + k ≤ l.length := hpk
  obtain ⟨xl, Exl⟩ : ∃ x, x = xorL nb md := ⟨_, rfl⟩
  obtain ⟨cc, W2, hcv, hbw, hsz2, hcells⟩ := bytes_made w.drew nb
  have HCV := Lib.hid hcv
  have HC := Lib.hid hcells
  have HS := below_drew (Below.refl w.heap.size w) |>.trans (hbw.mono (Nat.le_refl _))
  have HG : w.drew.heap.size < W2.heap.size := by omega
  have hnb2 : nb.length ≤ 2000 := by omega
  have hnb3 : nb.length ≤ md.length := by omega
  have HEV := Lib.hid EV
  clear EV hcv hcells hbw Emid Erest hb hc hmd Emd
  replace Enb := Lib.hid Enb
  replace hn1 := Lib.hid hn1
  replace hm5 := Lib.hid hm5
  replace hsz2 := Lib.hid hsz2
  have hl63 : l.length ≤ 9223372036854775807 := by omega
  go_enter Tryd.func34, Tryd.ntmps34
  go_wp2_with fail
  refine wp_region_noPanic ?_
  refine wp_region_held_drew (S := fun w' => Below w.heap.size w w') (by kernel_rfl) ?_ (fun hHeld => ?_)
  · exact below_drew (Below.refl _ _)
  refine wpAnyH_take (i := 0) (v := ?_) rfl (by kernel_rfl) (by kernel_rfl) (by kernel_rfl) (fun _ _ _ h => h) (Or.inl ⟨by rfl, ?_⟩) (by assumption) ?_
  rotate_left
  · (intro w hSw; skip; go_simp; (try with_reducible rfl))
  try simp only [Act.put, List.getElem_toArray, List.getElem_cons_zero, List.getElem_cons_succ, List.setIfInBounds_toArray, List.set_cons_zero, List.set_cons_succ]
  refine wpAnyH_take (i := 1) (v := ?_) rfl (by kernel_rfl) (by kernel_rfl) (by kernel_rfl) (fun _ _ _ h => h) (Or.inl ⟨by rfl, ?_⟩) (by assumption) ?_
  rotate_left
  · (intro w hSw; skip; go_simp; (try with_reducible rfl))
  try simp only [Act.put, List.getElem_toArray, List.getElem_cons_zero, List.getElem_cons_succ, List.setIfInBounds_toArray, List.set_cons_zero, List.set_cons_succ]
  refine wpAnyH_take (i := 2) (v := ?_) rfl (by kernel_rfl) (by kernel_rfl) (by kernel_rfl) (fun _ _ _ h => h) (Or.inl ⟨by rfl, ?_⟩) (by assumption) ?_
  rotate_left
  · (intro w hSw; skip; go_simp; (try with_reducible rfl))
  try simp only [Act.put, List.getElem_toArray, List.getElem_cons_zero, List.getElem_cons_succ, List.setIfInBounds_toArray, List.set_cons_zero, List.set_cons_succ]
  refine wpAnyH_take (i := 3) (v := ?_) rfl (by kernel_rfl) (by kernel_rfl) (by kernel_rfl) (fun _ _ _ h => h) (Or.inl ⟨by rfl, ?_⟩) (by assumption) ?_
  rotate_left
  · (intro w hSw; skip; go_simp; (try with_reducible rfl))
  try simp only [Act.put, List.getElem_toArray, List.getElem_cons_zero, List.getElem_cons_succ, List.setIfInBounds_toArray, List.set_cons_zero, List.set_cons_succ]
  refine wpAnyH_take (i := 4) (v := ?_) rfl (by kernel_rfl) (by kernel_rfl) (by kernel_rfl) (fun _ _ _ h => h) (Or.inl ⟨by rfl, ?_⟩) (by assumption) ?_
  rotate_left
  · (intro w hSw; skip; go_simp; (try with_reducible rfl))
  try simp only [Act.put, List.getElem_toArray, List.getElem_cons_zero, List.getElem_cons_succ, List.setIfInBounds_toArray, List.set_cons_zero, List.set_cons_succ]
  refine wpAnyH_take (i := 5) (v := ?_) rfl (by kernel_rfl) (by kernel_rfl) (by kernel_rfl) (fun _ _ _ h => h) (Or.inl ⟨by rfl, ?_⟩) (by assumption) ?_
  rotate_left
  · (intro w hSw; skip; go_simp; (try with_reducible rfl))
  try simp only [Act.put, List.getElem_toArray, List.getElem_cons_zero, List.getElem_cons_succ, List.setIfInBounds_toArray, List.set_cons_zero, List.set_cons_succ]
  refine wpAnyH_ready (rs := [6]) (by kernel_rfl) (by simp) ?_
  refine AllReadyH.cons rfl (fun K hK => ?_) AllReadyH.nil
  rw [if_pos (by rfl)]
  go_simp
  rw [HCV.out]
  go_simp
  refine hK.out _ _ ?_ (fun hHeld => ?_)
  · exact HS
  clear hK K
  try simp only [Act.put, List.getElem_toArray, List.getElem_cons_zero, List.getElem_cons_succ, List.setIfInBounds_toArray, List.set_cons_zero, List.set_cons_succ]
  refine wpAnyH_ready (rs := [7]) (by kernel_rfl) (by simp) ?_
  refine AllReadyH.cons rfl (fun K hK => ?_) AllReadyH.nil
  rw [if_pos (by rfl)]
  go_simp
  refine (laid_any nb md w.drew.heap.size cc W2 HG HC hnb2 hnb3 hm2).mono ?_
  rintro e w3 ⟨rfl, hb3⟩
  refine hK.out _ _ ?_ (fun hHeld => ?_)
  · exact HS.trans (hb3.mono HS.size)
  clear hK K
  try simp only [Act.put, List.getElem_toArray, List.getElem_cons_zero, List.getElem_cons_succ, List.setIfInBounds_toArray, List.set_cons_zero, List.set_cons_succ]
  refine wpAnyH_take (i := 8) (v := ?_) rfl (by kernel_rfl) (by kernel_rfl) (by kernel_rfl) (fun _ _ _ h => h) (Or.inl ⟨by rfl, ?_⟩) (by assumption) ?_
  rotate_left
  · (intro w hSw; skip; go_simp; (try with_reducible rfl))
  try simp only [Act.put, List.getElem_toArray, List.getElem_cons_zero, List.getElem_cons_succ, List.setIfInBounds_toArray, List.set_cons_zero, List.set_cons_succ]
  refine wpAnyH_done (by kernel_rfl) (NoPanic.normal ?_) _
  have HB := Lib.hid hHeld
  clear hHeld
  rw [← Exl]
  rw [← Exl] at hxl HEV
  replace Exl := Lib.hid Exl
  have gs1 : ¬ 9223372036854775807 < 1 + mid.length := by omega
  have gs2 : ¬ 9223372036854775807 < 1 + mid.length + xl.length := by omega
  have gs3 : ¬ 9223372036854775807 < 1 + mid.length + xl.length + rest.length := by omega
  have gs4 : ¬ 9223372036854775807 < mid.length + 1 := by omega
  have gs5 : ¬ 9223372036854775807 < mid.length + 1 + xl.length := by omega
  have gs6 : ¬ 9223372036854775807 < mid.length + 1 + xl.length + rest.length := by omega
  go_wp2_with fail
  refine wp_region_noPanic ?_
  refine wp_region_held_drew (S := fun w' => Below w.heap.size w w') (by kernel_rfl) ?_ (fun hHeld => ?_)
  · exact below_drew HB.out
  refine wpAnyH_take (i := 0) (v := ?_) rfl (by kernel_rfl) (by kernel_rfl) (by kernel_rfl) (fun _ _ _ h => h) (Or.inl ⟨by rfl, ?_⟩) (by assumption) ?_
  rotate_left
  · (intro w hSw; skip; go_simp; (try with_reducible rfl))
  try simp only [Act.put, List.getElem_toArray, List.getElem_cons_zero, List.getElem_cons_succ, List.setIfInBounds_toArray, List.set_cons_zero, List.set_cons_succ]
  refine wpAnyH_take (i := 1) (v := ?_) rfl (by kernel_rfl) (by kernel_rfl) (by kernel_rfl) (fun _ _ _ h => h) (Or.inl ⟨by rfl, ?_⟩) (by assumption) ?_
  rotate_left
  · (intro w hSw; skip; go_simp; (try with_reducible rfl))
  try simp only [Act.put, List.getElem_toArray, List.getElem_cons_zero, List.getElem_cons_succ, List.setIfInBounds_toArray, List.set_cons_zero, List.set_cons_succ]
  refine wpAnyH_take (i := 3) (v := ?_) rfl (by kernel_rfl) (by kernel_rfl) (by kernel_rfl) (fun _ _ _ h => h) (Or.inl ⟨by rfl, ?_⟩) (by assumption) ?_
  rotate_left
  · (intro w hSw; skip; go_simp; (try with_reducible rfl))
  try simp only [Act.put, List.getElem_toArray, List.getElem_cons_zero, List.getElem_cons_succ, List.setIfInBounds_toArray, List.set_cons_zero, List.set_cons_succ]
  refine wpAnyH_take (i := 4) (v := ?_) rfl (by kernel_rfl) (by kernel_rfl) (by kernel_rfl) (fun _ _ _ h => h) (Or.inl ⟨by rfl, ?_⟩) (by assumption) ?_
  rotate_left
  · (intro w hSw; skip; go_simp; (try with_reducible rfl))
  try simp only [Act.put, List.getElem_toArray, List.getElem_cons_zero, List.getElem_cons_succ, List.setIfInBounds_toArray, List.set_cons_zero, List.set_cons_succ]
  refine wpAnyH_take (i := 5) (v := ?_) rfl (by kernel_rfl) (by kernel_rfl) (by kernel_rfl) (fun _ _ _ h => h) (Or.inl ⟨by rfl, ?_⟩) (by assumption) ?_
  rotate_left
  · (intro w hSw; skip; go_simp; (try with_reducible rfl))
  try simp only [Act.put, List.getElem_toArray, List.getElem_cons_zero, List.getElem_cons_succ, List.setIfInBounds_toArray, List.set_cons_zero, List.set_cons_succ]
  refine wpAnyH_take (i := 7) (v := ?_) rfl (by kernel_rfl) (by kernel_rfl) (by kernel_rfl) (fun _ _ _ h => h) (Or.inl ⟨by rfl, ?_⟩) (by assumption) ?_
  rotate_left
  · (intro w hSw; skip; go_simp; (try with_reducible rfl))
  try simp only [Act.put, List.getElem_toArray, List.getElem_cons_zero, List.getElem_cons_succ, List.setIfInBounds_toArray, List.set_cons_zero, List.set_cons_succ]
  refine wpAnyH_take (i := 9) (v := ?_) rfl (by kernel_rfl) (by kernel_rfl) (by kernel_rfl) (fun _ _ _ h => h) (Or.inl ⟨by rfl, ?_⟩) (by assumption) ?_
  rotate_left
  · (intro w hSw; skip; go_simp; (try with_reducible rfl))
  try simp only [Act.put, List.getElem_toArray, List.getElem_cons_zero, List.getElem_cons_succ, List.setIfInBounds_toArray, List.set_cons_zero, List.set_cons_succ]
  refine wpAnyH_take (i := 10) (v := ?_) rfl (by kernel_rfl) (by kernel_rfl) (by kernel_rfl) (fun _ _ _ h => h) (Or.inl ⟨by rfl, ?_⟩) (by assumption) ?_
  rotate_left
  · (intro w hSw; skip; go_simp; (try with_reducible rfl))
  try simp only [Act.put, List.getElem_toArray, List.getElem_cons_zero, List.getElem_cons_succ, List.setIfInBounds_toArray, List.set_cons_zero, List.set_cons_succ]
  refine wpAnyH_take (i := 11) (v := ?_) rfl (by kernel_rfl) (by kernel_rfl) (by kernel_rfl) (fun _ _ _ h => h) (Or.inl ⟨by rfl, ?_⟩) (by assumption) ?_
  rotate_left
  · (intro w hSw; skip; go_simp; (try with_reducible rfl))
  try simp only [Act.put, List.getElem_toArray, List.getElem_cons_zero, List.getElem_cons_succ, List.setIfInBounds_toArray, List.set_cons_zero, List.set_cons_succ]
  refine wpAnyH_ready (rs := [2]) (by kernel_rfl) (by simp) ?_
  refine AllReadyH.cons rfl (fun K hK => ?_) AllReadyH.nil
  rw [if_pos (by rfl)]
  go_simp
  refine (HF.out _).mono ?_
  rintro e w4 ⟨rfl, hb4⟩
  refine hK.out _ _ ?_ (fun hHeld => ?_)
  · exact hHeld.trans (hb4.mono hHeld.size)
  clear hK K
  try simp only [Act.put, List.getElem_toArray, List.getElem_cons_zero, List.getElem_cons_succ, List.setIfInBounds_toArray, List.set_cons_zero, List.set_cons_succ]
  refine wpAnyH_take (i := 6) (v := ?_) rfl (by kernel_rfl) (by kernel_rfl) (by kernel_rfl) (fun _ _ _ h => h) (Or.inl ⟨by rfl, ?_⟩) (by assumption) ?_
  rotate_left
  · (intro w hSw; skip; go_simp; (try with_reducible rfl))
  try simp only [Act.put, List.getElem_toArray, List.getElem_cons_zero, List.getElem_cons_succ, List.setIfInBounds_toArray, List.set_cons_zero, List.set_cons_succ]
  refine wpAnyH_take (i := 8) (v := ?_) rfl (by kernel_rfl) (by kernel_rfl) (by kernel_rfl) (fun _ _ _ h => h) (Or.inl ⟨by rfl, ?_⟩) (by assumption) ?_
  rotate_left
  · (intro w hSw; skip; go_simp; (try with_reducible rfl))
  try simp only [Act.put, List.getElem_toArray, List.getElem_cons_zero, List.getElem_cons_succ, List.setIfInBounds_toArray, List.set_cons_zero, List.set_cons_succ]
  refine wpAnyH_take (i := 12) (v := ?_) rfl (by kernel_rfl) (by kernel_rfl) (by kernel_rfl) (fun _ _ _ h => h) (Or.inl ⟨by rfl, ?_⟩) (by assumption) ?_
  rotate_left
  · (intro w hSw; skip; go_simp; (try with_reducible rfl))
  try simp only [Act.put, List.getElem_toArray, List.getElem_cons_zero, List.getElem_cons_succ, List.setIfInBounds_toArray, List.set_cons_zero, List.set_cons_succ]
  refine wpAnyH_take (i := 13) (v := ?_) rfl (by kernel_rfl) (by kernel_rfl) (by kernel_rfl) (fun _ _ _ h => h) (Or.inl ⟨by rfl, ?_⟩) (by assumption) ?_
  rotate_left
  · (intro w hSw; skip; go_simp; (try with_reducible rfl))
  try simp only [Act.put, List.getElem_toArray, List.getElem_cons_zero, List.getElem_cons_succ, List.setIfInBounds_toArray, List.set_cons_zero, List.set_cons_succ]
  refine wpAnyH_done (by kernel_rfl) (NoPanic.normal ?_) _
  have HB2 := Lib.hid hHeld
  clear hHeld
  go_wp2
  go_ret
  exact ⟨by rw [HEV.out, app_two, app_two, app_two]; rfl, HB2.out⟩
end Go.Proofs.YtabikljimndliaaDoor.Hd
