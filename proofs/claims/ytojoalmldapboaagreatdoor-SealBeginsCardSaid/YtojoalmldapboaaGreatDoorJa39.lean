/- The walks of layer 4: a mask on a header · The walks of layer 4: Mask and Unmask, the program's. -/
import Derived.Test.YtojoalmldapboaaGreatDoorJa38
import Derived.Test.YtojoalmldapboaaGreatDoorJa34
namespace Go.Proofs.YtojoalmldapboaaGreatDoor.Hd
set_option maxRecDepth 20000
open Go.RowKit Vm
set_option linter.unusedVariables false
set_option linter.unusedSimpArgs false

theorem sv_sub (l : List UInt8) (a b : Nat) : (⟨l.toArray⟩ : ByteArray).extract a b = ⟨((l.drop a).take (b - a)).toArray⟩ := by
  apply ByteArray.ext
  apply Array.toList_inj.1
  rw [Lib.extract_data]
set_option maxHeartbeats 2000000 in
theorem turned_any (l m : List UInt8) (b c : UInt8) (p k : Nat) (w : World) (h0 : 0 < l.length) (h1 : 0 < m.length) (hb : l[0] = b) (hc : m[0] = c) (hp : 1 ≤ p) (hk : k ≤ 4) (hpk : p + k ≤ l.length) (hm5 : m.length = 5) (hl : l.length ≤ 140737488351232) :
    Calls Tryz.prog 123 #[.string ⟨l.toArray⟩, .string ⟨m.toArray⟩, .int .i64 p, .int .i64 k] w fun e w' => e = .returned (.string ⟨(turnL b c l m p k).toArray⟩) ∧ Below w.heap.size w w' := by
  have HF := Lib.hid (fun w => turnedFirst_any l m b c w h0 h1 hb hc hl (by omega))
  have X1 : (⟨m.toArray⟩ : ByteArray).extract 1 m.length = ⟨(m.drop 1).toArray⟩ := sv_from m 1
  have hm2 : (m.drop 1).length ≤ 140737488351232 := by rw [List.length_drop]; omega
  have hn1 : ((l.drop p).take k).length = k := by rw [List.length_take, List.length_drop]; omega
  have X2 : (⟨l.toArray⟩ : ByteArray).extract p (p + k) = ⟨((l.drop p).take k).toArray⟩ := by rw [sv_sub, Nat.add_sub_cancel_left]
  have X3 : (⟨l.toArray⟩ : ByteArray).extract 1 p = ⟨((l.take p).drop 1).toArray⟩ := by rw [sv_sub, List.drop_take]
  have X4 : (⟨l.toArray⟩ : ByteArray).extract (p + k) l.length = ⟨(l.drop (p + k)).toArray⟩ := sv_from l (p + k)
  have hxl : (xorL ((l.drop p).take k) (m.drop 1)).length ≤ 4 := by unfold xorL; simp; omega
  have EV : turnL b c l m p k = [fstB b c] ++ (l.take p).drop 1 ++ xorL ((l.drop p).take k) (m.drop 1) ++ l.drop (p + k) := rfl
  have hn2 : ((l.take p).drop 1).length ≤ l.length := by simp; omega
  have hn3 : (l.drop (p + k)).length ≤ l.length := by simp
  have hmd : (m.drop 1).length = 4 := by rw [List.length_drop]; omega
  obtain ⟨nb, Enb⟩ : ∃ x, x = (l.drop p).take k := ⟨_, rfl⟩
  rw [← Enb] at X2 EV hn1 hxl
  obtain ⟨mid, Emid⟩ : ∃ x, x = (l.take p).drop 1 := ⟨_, rfl⟩
  rw [← Emid] at X3 EV hn2
  obtain ⟨rest, Erest⟩ : ∃ x, x = l.drop (p + k) := ⟨_, rfl⟩
  rw [← Erest] at X4 EV hn3
  obtain ⟨md, Emd⟩ : ∃ x, x = m.drop 1 := ⟨_, rfl⟩
  rw [← Emd] at X1 hm2 hxl EV hmd
  have b1 : (1 : Int) ≤ (m.length : Nat) := by omega
  have b2 : 0 ≤ (p : Int) + (k : Int) := by omega
  have b3 : (p : Int) + (k : Int) ≤ (l.length : Nat) := by omega
  have b4 : (p : Int) ≤ (p : Int) + (k : Int) := by omega
  have b5 : ((p : Int) + (k : Int)).toNat = p + k := by omega
  have b6 : (1 : Int) ≤ (p : Nat) := by omega
  have b7 : ((p : Nat) : Int) ≤ (l.length : Nat) := by omega
  have b8 : p + k ≤ l.length := hpk
  obtain ⟨xl, Exl⟩ : ∃ x, x = xorL nb md := ⟨_, rfl⟩
  obtain ⟨cc, W2, hcv, hbw, hsz2, hcells⟩ := bytes_made w.drew nb
  have HCV := Lib.hid hcv
  have HC := Lib.hid hcells
  have HS := below_drew (Below.refl w.heap.size w) |>.trans (hbw.mono (Nat.le_refl _))
  have HG : w.drew.heap.size < W2.heap.size := by omega
  have hnb2 : nb.length ≤ 2000 := by omega
  have hnb3 : nb.length ≤ md.length := by omega
  have HEV := Lib.hid EV
  clear EV hcv hcells hbw Emid Erest hb hc hmd Emd
  replace Enb := Lib.hid Enb
  replace hn1 := Lib.hid hn1
  replace hm5 := Lib.hid hm5
  replace hsz2 := Lib.hid hsz2
  have hl63 : l.length ≤ 9223372036854775807 := by omega
  go_enter Tryz.func123, Tryz.ntmps123
  go_wp2_with fail
  refine wp_region_noPanic ?_
  refine wp_region_held_drew (S := fun w' => Below w.heap.size w w') (by kernel_rfl) ?_ (fun hHeld => ?_)
  · exact below_drew (Below.refl _ _)
  refine wpAnyH_take (i := 0) (v := ?_) rfl (by kernel_rfl) (by kernel_rfl) (by kernel_rfl) (fun _ _ _ h => h) (Or.inl ⟨by rfl, ?_⟩) (by assumption) ?_
  rotate_left
  · (intro w hSw; skip; go_simp; (try with_reducible rfl))
  try simp only [Act.put, List.getElem_toArray, List.getElem_cons_zero, List.getElem_cons_succ, List.setIfInBounds_toArray, List.set_cons_zero, List.set_cons_succ]
  refine wpAnyH_take (i := 1) (v := ?_) rfl (by kernel_rfl) (by kernel_rfl) (by kernel_rfl) (fun _ _ _ h => h) (Or.inl ⟨by rfl, ?_⟩) (by assumption) ?_
  rotate_left
  · (intro w hSw; skip; go_simp; (try with_reducible rfl))
  try simp only [Act.put, List.getElem_toArray, List.getElem_cons_zero, List.getElem_cons_succ, List.setIfInBounds_toArray, List.set_cons_zero, List.set_cons_succ]
  refine wpAnyH_take (i := 2) (v := ?_) rfl (by kernel_rfl) (by kernel_rfl) (by kernel_rfl) (fun _ _ _ h => h) (Or.inl ⟨by rfl, ?_⟩) (by assumption) ?_
  rotate_left
  · (intro w hSw; skip; go_simp; (try with_reducible rfl))
  try simp only [Act.put, List.getElem_toArray, List.getElem_cons_zero, List.getElem_cons_succ, List.setIfInBounds_toArray, List.set_cons_zero, List.set_cons_succ]
  refine wpAnyH_take (i := 3) (v := ?_) rfl (by kernel_rfl) (by kernel_rfl) (by kernel_rfl) (fun _ _ _ h => h) (Or.inl ⟨by rfl, ?_⟩) (by assumption) ?_
  rotate_left
  · (intro w hSw; skip; go_simp; (try with_reducible rfl))
  try simp only [Act.put, List.getElem_toArray, List.getElem_cons_zero, List.getElem_cons_succ, List.setIfInBounds_toArray, List.set_cons_zero, List.set_cons_succ]
  refine wpAnyH_take (i := 4) (v := ?_) rfl (by kernel_rfl) (by kernel_rfl) (by kernel_rfl) (fun _ _ _ h => h) (Or.inl ⟨by rfl, ?_⟩) (by assumption) ?_
  rotate_left
  · (intro w hSw; skip; go_simp; (try with_reducible rfl))
  try simp only [Act.put, List.getElem_toArray, List.getElem_cons_zero, List.getElem_cons_succ, List.setIfInBounds_toArray, List.set_cons_zero, List.set_cons_succ]
  refine wpAnyH_take (i := 5) (v := ?_) rfl (by kernel_rfl) (by kernel_rfl) (by kernel_rfl) (fun _ _ _ h => h) (Or.inl ⟨by rfl, ?_⟩) (by assumption) ?_
  rotate_left
  · (intro w hSw; skip; go_simp; (try with_reducible rfl))
  try simp only [Act.put, List.getElem_toArray, List.getElem_cons_zero, List.getElem_cons_succ, List.setIfInBounds_toArray, List.set_cons_zero, List.set_cons_succ]
  refine wpAnyH_ready (rs := [6]) (by kernel_rfl) (by simp) ?_
  refine AllReadyH.cons rfl (fun K hK => ?_) AllReadyH.nil
  rw [if_pos (by rfl)]
  go_simp
  rw [HCV.out]
  go_simp
  refine hK.out _ _ ?_ (fun hHeld => ?_)
  · exact HS
  clear hK K
  try simp only [Act.put, List.getElem_toArray, List.getElem_cons_zero, List.getElem_cons_succ, List.setIfInBounds_toArray, List.set_cons_zero, List.set_cons_succ]
  refine wpAnyH_ready (rs := [7]) (by kernel_rfl) (by simp) ?_
  refine AllReadyH.cons rfl (fun K hK => ?_) AllReadyH.nil
  rw [if_pos (by rfl)]
  go_simp
  refine (laid_any nb md w.drew.heap.size cc W2 HG HC hnb2 hnb3 hm2).mono ?_
  rintro e w3 ⟨rfl, hb3⟩
  refine hK.out _ _ ?_ (fun hHeld => ?_)
  · exact HS.trans (hb3.mono HS.size)
  clear hK K
  try simp only [Act.put, List.getElem_toArray, List.getElem_cons_zero, List.getElem_cons_succ, List.setIfInBounds_toArray, List.set_cons_zero, List.set_cons_succ]
  refine wpAnyH_take (i := 8) (v := ?_) rfl (by kernel_rfl) (by kernel_rfl) (by kernel_rfl) (fun _ _ _ h => h) (Or.inl ⟨by rfl, ?_⟩) (by assumption) ?_
  rotate_left
  · (intro w hSw; skip; go_simp; (try with_reducible rfl))
  try simp only [Act.put, List.getElem_toArray, List.getElem_cons_zero, List.getElem_cons_succ, List.setIfInBounds_toArray, List.set_cons_zero, List.set_cons_succ]
  refine wpAnyH_done (by kernel_rfl) (NoPanic.normal ?_) _
  have HB := Lib.hid hHeld
  clear hHeld
  rw [← Exl]
  rw [← Exl] at hxl HEV
  replace Exl := Lib.hid Exl
  have gs1 : ¬ 9223372036854775807 < 1 + mid.length := by omega
  have gs2 : ¬ 9223372036854775807 < 1 + mid.length + xl.length := by omega
  have gs3 : ¬ 9223372036854775807 < 1 + mid.length + xl.length + rest.length := by omega
  have gs4 : ¬ 9223372036854775807 < mid.length + 1 := by omega
  have gs5 : ¬ 9223372036854775807 < mid.length + 1 + xl.length := by omega
  have gs6 : ¬ 9223372036854775807 < mid.length + 1 + xl.length + rest.length := by omega
  go_wp2_with fail
  refine wp_region_noPanic ?_
  refine wp_region_held_drew (S := fun w' => Below w.heap.size w w') (by kernel_rfl) ?_ (fun hHeld => ?_)
  · exact below_drew HB.out
  refine wpAnyH_take (i := 0) (v := ?_) rfl (by kernel_rfl) (by kernel_rfl) (by kernel_rfl) (fun _ _ _ h => h) (Or.inl ⟨by rfl, ?_⟩) (by assumption) ?_
  rotate_left
  · (intro w hSw; skip; go_simp; (try with_reducible rfl))
  try simp only [Act.put, List.getElem_toArray, List.getElem_cons_zero, List.getElem_cons_succ, List.setIfInBounds_toArray, List.set_cons_zero, List.set_cons_succ]
  refine wpAnyH_take (i := 1) (v := ?_) rfl (by kernel_rfl) (by kernel_rfl) (by kernel_rfl) (fun _ _ _ h => h) (Or.inl ⟨by rfl, ?_⟩) (by assumption) ?_
  rotate_left
  · (intro w hSw; skip; go_simp; (try with_reducible rfl))
  try simp only [Act.put, List.getElem_toArray, List.getElem_cons_zero, List.getElem_cons_succ, List.setIfInBounds_toArray, List.set_cons_zero, List.set_cons_succ]
  refine wpAnyH_take (i := 3) (v := ?_) rfl (by kernel_rfl) (by kernel_rfl) (by kernel_rfl) (fun _ _ _ h => h) (Or.inl ⟨by rfl, ?_⟩) (by assumption) ?_
  rotate_left
  · (intro w hSw; skip; go_simp; (try with_reducible rfl))
  try simp only [Act.put, List.getElem_toArray, List.getElem_cons_zero, List.getElem_cons_succ, List.setIfInBounds_toArray, List.set_cons_zero, List.set_cons_succ]
  refine wpAnyH_take (i := 4) (v := ?_) rfl (by kernel_rfl) (by kernel_rfl) (by kernel_rfl) (fun _ _ _ h => h) (Or.inl ⟨by rfl, ?_⟩) (by assumption) ?_
  rotate_left
  · (intro w hSw; skip; go_simp; (try with_reducible rfl))
  try simp only [Act.put, List.getElem_toArray, List.getElem_cons_zero, List.getElem_cons_succ, List.setIfInBounds_toArray, List.set_cons_zero, List.set_cons_succ]
  refine wpAnyH_take (i := 5) (v := ?_) rfl (by kernel_rfl) (by kernel_rfl) (by kernel_rfl) (fun _ _ _ h => h) (Or.inl ⟨by rfl, ?_⟩) (by assumption) ?_
  rotate_left
  · (intro w hSw; skip; go_simp; (try with_reducible rfl))
  try simp only [Act.put, List.getElem_toArray, List.getElem_cons_zero, List.getElem_cons_succ, List.setIfInBounds_toArray, List.set_cons_zero, List.set_cons_succ]
  refine wpAnyH_take (i := 7) (v := ?_) rfl (by kernel_rfl) (by kernel_rfl) (by kernel_rfl) (fun _ _ _ h => h) (Or.inl ⟨by rfl, ?_⟩) (by assumption) ?_
  rotate_left
  · (intro w hSw; skip; go_simp; (try with_reducible rfl))
  try simp only [Act.put, List.getElem_toArray, List.getElem_cons_zero, List.getElem_cons_succ, List.setIfInBounds_toArray, List.set_cons_zero, List.set_cons_succ]
  refine wpAnyH_take (i := 9) (v := ?_) rfl (by kernel_rfl) (by kernel_rfl) (by kernel_rfl) (fun _ _ _ h => h) (Or.inl ⟨by rfl, ?_⟩) (by assumption) ?_
  rotate_left
  · (intro w hSw; skip; go_simp; (try with_reducible rfl))
  try simp only [Act.put, List.getElem_toArray, List.getElem_cons_zero, List.getElem_cons_succ, List.setIfInBounds_toArray, List.set_cons_zero, List.set_cons_succ]
  refine wpAnyH_take (i := 10) (v := ?_) rfl (by kernel_rfl) (by kernel_rfl) (by kernel_rfl) (fun _ _ _ h => h) (Or.inl ⟨by rfl, ?_⟩) (by assumption) ?_
  rotate_left
  · (intro w hSw; skip; go_simp; (try with_reducible rfl))
  try simp only [Act.put, List.getElem_toArray, List.getElem_cons_zero, List.getElem_cons_succ, List.setIfInBounds_toArray, List.set_cons_zero, List.set_cons_succ]
  refine wpAnyH_take (i := 11) (v := ?_) rfl (by kernel_rfl) (by kernel_rfl) (by kernel_rfl) (fun _ _ _ h => h) (Or.inl ⟨by rfl, ?_⟩) (by assumption) ?_
  rotate_left
  · (intro w hSw; skip; go_simp; (try with_reducible rfl))
  try simp only [Act.put, List.getElem_toArray, List.getElem_cons_zero, List.getElem_cons_succ, List.setIfInBounds_toArray, List.set_cons_zero, List.set_cons_succ]
  refine wpAnyH_ready (rs := [2]) (by kernel_rfl) (by simp) ?_
  refine AllReadyH.cons rfl (fun K hK => ?_) AllReadyH.nil
  rw [if_pos (by rfl)]
  go_simp
  refine (HF.out _).mono ?_
  rintro e w4 ⟨rfl, hb4⟩
  refine hK.out _ _ ?_ (fun hHeld => ?_)
  · exact hHeld.trans (hb4.mono hHeld.size)
  clear hK K
  try simp only [Act.put, List.getElem_toArray, List.getElem_cons_zero, List.getElem_cons_succ, List.setIfInBounds_toArray, List.set_cons_zero, List.set_cons_succ]
  refine wpAnyH_take (i := 6) (v := ?_) rfl (by kernel_rfl) (by kernel_rfl) (by kernel_rfl) (fun _ _ _ h => h) (Or.inl ⟨by rfl, ?_⟩) (by assumption) ?_
  rotate_left
  · (intro w hSw; skip; go_simp; (try with_reducible rfl))
  try simp only [Act.put, List.getElem_toArray, List.getElem_cons_zero, List.getElem_cons_succ, List.setIfInBounds_toArray, List.set_cons_zero, List.set_cons_succ]
  refine wpAnyH_take (i := 8) (v := ?_) rfl (by kernel_rfl) (by kernel_rfl) (by kernel_rfl) (fun _ _ _ h => h) (Or.inl ⟨by rfl, ?_⟩) (by assumption) ?_
  rotate_left
  · (intro w hSw; skip; go_simp; (try with_reducible rfl))
  try simp only [Act.put, List.getElem_toArray, List.getElem_cons_zero, List.getElem_cons_succ, List.setIfInBounds_toArray, List.set_cons_zero, List.set_cons_succ]
  refine wpAnyH_take (i := 12) (v := ?_) rfl (by kernel_rfl) (by kernel_rfl) (by kernel_rfl) (fun _ _ _ h => h) (Or.inl ⟨by rfl, ?_⟩) (by assumption) ?_
  rotate_left
  · (intro w hSw; skip; go_simp; (try with_reducible rfl))
  try simp only [Act.put, List.getElem_toArray, List.getElem_cons_zero, List.getElem_cons_succ, List.setIfInBounds_toArray, List.set_cons_zero, List.set_cons_succ]
  refine wpAnyH_take (i := 13) (v := ?_) rfl (by kernel_rfl) (by kernel_rfl) (by kernel_rfl) (fun _ _ _ h => h) (Or.inl ⟨by rfl, ?_⟩) (by assumption) ?_
  rotate_left
  · (intro w hSw; skip; go_simp; (try with_reducible rfl))
  try simp only [Act.put, List.getElem_toArray, List.getElem_cons_zero, List.getElem_cons_succ, List.setIfInBounds_toArray, List.set_cons_zero, List.set_cons_succ]
  refine wpAnyH_done (by kernel_rfl) (NoPanic.normal ?_) _
  have HB2 := Lib.hid hHeld
  clear hHeld
  go_wp2
  go_ret
  exact ⟨by rw [HEV.out, app_two, app_two, app_two]; rfl, HB2.out⟩
end Go.Proofs.YtojoalmldapboaaGreatDoor.Hd
namespace Go.Proofs.YtojoalmldapboaaGreatDoor.Hd
set_option maxRecDepth 20000
open Go.RowKit Vm
set_option linter.unusedVariables false
set_option linter.unusedSimpArgs false

/-- Bytes that are masked, or unmasked, from place p on, k of them. -/
def turnM (l m : List UInt8) (p k : Nat) : List UInt8 := turnL (l.headD 0) (m.headD 0) l m p k
def mskL (l m : List UInt8) : List UInt8 := if m.length = 5 then (match getO l with
  | some x => turnM l m (l.length - x.2.length - x.1.wi.toNat) x.1.wi.toNat
  | none => []) else []
def mskE (l m : List UInt8) : Int := if m.length = 5 then gEr l else 1
def umK (l m : List UInt8) : Nat := 1 + (fstB (l.headD 0) (m.headD 0)).toNat % 4
def umO (l m : List UInt8) : Option (List UInt8) := match ahO l with
  | none => none
  | some p => if p.re.length < umK l m then none else match getO (turnM l m (l.length - p.re.length) (umK l m)) with
    | none => none
    | some _ => some (turnM l m (l.length - p.re.length) (umK l m))
def umL (l m : List UInt8) : List UInt8 := if m.length = 5 then (match umO l m with
  | some x => x
  | none => []) else []
def umE (l m : List UInt8) : Int := if m.length = 5 then (match umO l m with
  | some x => 0
  | none => 40) else 1
theorem head_get {l : List UInt8} (h : 0 < l.length) : l[0] = l.headD 0 := by
  cases l with
  | nil => simp at h
  | cons b r => rfl
theorem turned_M (l m : List UInt8) (p k : Nat) (w : World) (h0 : 0 < l.length) (hp : 1 ≤ p) (hk : k ≤ 4) (hpk : p + k ≤ l.length) (hm5 : m.length = 5) (hl : l.length ≤ 140737488351232) :
    Calls Tryz.prog 123 #[.string ⟨l.toArray⟩, .string ⟨m.toArray⟩, .int .i64 p, .int .i64 k] w fun e w' => e = .returned (.string ⟨(turnM l m p k).toArray⟩) ∧ Below w.heap.size w w' :=
  turned_any l m (l.headD 0) (m.headD 0) p k w h0 (by omega) (head_get h0) (head_get (by omega)) hp hk hpk hm5 hl
theorem get_parts {l : List UInt8} {x : Hdr × List UInt8} (h : getO l = some x) : ∃ b t p pre, l = b :: t ∧ ahO l = some p ∧ Fits b t p pre ∧ badB b = false ∧ wideB b ≤ p.re.length ∧ x = (hdr b p, p.re.drop (wideB b)) := by
  cases l with
  | nil => cases h
  | cons b t =>
    simp only [getO] at h
    cases ha : ahO (b :: t) with
    | none => rw [ha] at h; cases h
    | some p =>
      rw [ha] at h
      simp only at h
      split at h
      · cases h
      · rename_i hc
        obtain ⟨pre, hf⟩ := ahO_local ha
        refine ⟨b, t, p, pre, rfl, rfl, hf, ?_, by omega, by simpa using h.symm⟩
        cases hbb : badB b with
        | false => rfl
        | true => exact absurd (.inr hbb) hc
theorem len_parts {b : UInt8} {t : List UInt8} {p : Pre} {pre : List UInt8} (hf : Fits b t p pre) : (b :: t).length = 1 + pre.length + p.re.length := by
  have := hf.cut
  rw [this]; simp; omega
set_option maxHeartbeats 1000000 in
theorem Mask_five (l m : List UInt8) (w : World) (hm : (((m.length : Nat) : Int) != 5) = true) :
    Calls Tryz.prog 91 #[.string ⟨l.toArray⟩, .string ⟨m.toArray⟩] w fun e w' => e = .returned (.tuple #[.string ⟨#[]⟩, .int .i64 1]) ∧ Below w.heap.size w w' := by
  go_enter Tryz.func91, Tryz.ntmps91
  go_wp2
  go_ret2
  exact ⟨rfl, Below.refl _ _⟩
set_option maxHeartbeats 1000000 in
theorem Mask_none (l m : List UInt8) (w : World) (ht : Tab w) (hm : (((m.length : Nat) : Int) != 5) = false) (hl : l.length ≤ 140737488351232) (hE : Hid (gEr l = 40)) :
    Calls Tryz.prog 91 #[.string ⟨l.toArray⟩, .string ⟨m.toArray⟩] w fun e w' => e = .returned (.tuple #[.string ⟨#[]⟩, .int .i64 40]) ∧ Below w.heap.size w w' := by
  have HG := Lib.hid (fun w (ht : Tab w) => Get_any l w ht hl)
  have HT := Lib.hid ht
  clear ht
  rw [hE.out] at HG
  generalize gHd l = h at HG
  generalize gRs l = rs at HG
  obtain ⟨lg, sp, ph, ty, ve, dc, sc, tk, le, wi, nu⟩ := h
  go_enter Tryz.func91, Tryz.ntmps91
  go_wp2_with fail
  refine (HG.out _ HT.out).mono ?_
  rintro e w1 ⟨rfl, hb⟩
  go_wp2
  go_ret2
  exact ⟨rfl, hb.alloc hb.size _⟩
set_option maxHeartbeats 1000000 in
theorem Mask_some (l m : List UInt8) (p k : Nat) (w : World) (ht : Tab w) (hm : (((m.length : Nat) : Int) != 5) = false) (hm5 : Hid (m.length = 5)) (hl : l.length ≤ 140737488351232) (hE : Hid (gEr l = 0)) (hW : Hid ((gHd l).wi = (k : Int))) (hR : Hid (l.length = p + k + (gRs l).length)) (h0 : 0 < l.length) (hp : 1 ≤ p) (hk : k ≤ 4) :
    Calls Tryz.prog 91 #[.string ⟨l.toArray⟩, .string ⟨m.toArray⟩] w fun e w' => e = .returned (.tuple #[.string ⟨(turnM l m p k).toArray⟩, .int .i64 0]) ∧ Below w.heap.size w w' := by
  have HG := Lib.hid (fun w (ht : Tab w) => Get_any l w ht hl)
  have HT := Lib.hid ht
  clear ht
  rw [hE.out] at HG
  have HM := Lib.hid (fun w => turned_M l m p k w h0 hp hk (by have := hR.out; omega) hm5.out hl)
  generalize gHd l = h at HG hW
  generalize gRs l = rs at HG hR
  obtain ⟨lg, sp, ph, ty, ve, dc, sc, tk, le, wi, nu⟩ := h
  have hwi : wi = (k : Int) := hW.out
  subst hwi
  have hrs : rs.length ≤ 140737488351232 := by have := hR.out; omega
  have e1 : ((l.length : Nat) : Int) - ((rs.length : Nat) : Int) - (k : Int) = (p : Int) := by have := hR.out; omega
  go_enter Tryz.func91, Tryz.ntmps91
  go_wp2_with fail
  refine (HG.out _ HT.out).mono ?_
  rintro e w1 ⟨rfl, hb⟩
  go_wp2_with fail
  refine (HM.out _).mono ?_
  rintro e w2 ⟨rfl, hb2⟩
  go_wp2
  go_ret2
  exact ⟨rfl, (hb.alloc hb.size _).trans (hb2.mono (by have := hb.size; simp; omega))⟩
theorem ne5 {m : List UInt8} (h : m.length = 5) : (((m.length : Nat) : Int) != 5) = false := by rw [h]; rfl
theorem ne5' {m : List UInt8} (h : ¬ m.length = 5) : (((m.length : Nat) : Int) != 5) = true := by
  simp only [bne_iff_ne]; omega
theorem Mask_any (l m : List UInt8) (w : World) (ht : Tab w) (hl : l.length ≤ 140737488351232) :
    Calls Tryz.prog 91 #[.string ⟨l.toArray⟩, .string ⟨m.toArray⟩] w fun e w' => e = .returned (.tuple #[.string ⟨(mskL l m).toArray⟩, .int .i64 (mskE l m)]) ∧ Below w.heap.size w w' := by
  by_cases h5 : m.length = 5
  · have e1 : mskE l m = gEr l := if_pos h5
    cases hg : getO l with
    | none =>
      have e2 : mskL l m = [] := by unfold mskL; rw [if_pos h5, hg]
      have e3 : gEr l = 40 := by unfold gEr; rw [hg]
      rw [e1, e2, e3]
      exact Mask_none l m w ht (ne5 h5) hl (Lib.hid e3)
    | some x =>
      obtain ⟨b, t, p, pre, hlb, ha, hf, hbb, hw, hx⟩ := get_parts hg
      have hlen := len_parts hf
      rw [← hlb] at hlen
      have hx1 : x.1.wi = ((wideB b : Nat) : Int) := by rw [hx]; rfl
      have hx2 : x.2.length = p.re.length - wideB b := by rw [hx]; simp
      have hwb : wideB b ≤ 4 := by unfold wideB; omega
      have e2 : mskL l m = turnM l m (1 + pre.length) (wideB b) := by
        unfold mskL
        rw [if_pos h5, hg]
        simp only
        rw [hx1, Int.toNat_natCast]
        congr 1
        omega
      have e3 : gEr l = 0 := by unfold gEr; rw [hg]
      have e4 : (gHd l).wi = ((wideB b : Nat) : Int) := by unfold gHd; rw [hg]; exact hx1
      have e5 : (gRs l).length = p.re.length - wideB b := by unfold gRs; rw [hg]; exact hx2
      rw [e1, e2, e3]
      exact Mask_some l m (1 + pre.length) (wideB b) w ht (ne5 h5) (Lib.hid h5) hl (Lib.hid e3) (Lib.hid e4) (Lib.hid (by omega)) (by omega) (by omega) hwb
  · have e1 : mskE l m = 1 := if_neg h5
    have e2 : mskL l m = [] := if_neg h5
    rw [e1, e2]
    exact Mask_five l m w (ne5' h5)
end Go.Proofs.YtojoalmldapboaaGreatDoor.Hd
