/- The walks of layer 4: Mask and Unmask, the program's. -/
import Derived.Test.YtabikljimndliaaDoorHdO
import Derived.Test.YtabikljimndliaaDoorHdV
namespace Go.Proofs.YtabikljimndliaaDoor.Hd
open Go.RowKit Vm
set_option linter.unusedVariables false
set_option linter.unusedSimpArgs false

/-- Bytes that are masked, or unmasked, from place p on, k of them. -/
def turnM (l m : List UInt8) (p k : Nat) : List UInt8 := turnL (l.headD 0) (m.headD 0) l m p k
def mskL (l m : List UInt8) : List UInt8 := if m.length = 5 then (match getO l with
  | some x => turnM l m (l.length - x.2.length - x.1.wi.toNat) x.1.wi.toNat
  | none => []) else []
def mskE (l m : List UInt8) : Int := if m.length = 5 then gEr l else 1
def umK (l m : List UInt8) : Nat := 1 + (fstB (l.headD 0) (m.headD 0)).toNat % 4
def umO (l m : List UInt8) : Option (List UInt8) := match ahO l with
  | none => none
  | some p => if p.re.length < umK l m then none else match getO (turnM l m (l.length - p.re.length) (umK l m)) with
    | none => none
    | some _ => some (turnM l m (l.length - p.re.length) (umK l m))
def umL (l m : List UInt8) : List UInt8 := if m.length = 5 then (match umO l m with
  | some x => x
  | none => []) else []
def umE (l m : List UInt8) : Int := if m.length = 5 then (match umO l m with
  | some x => 0
  | none => 40) else 1
theorem head_get {l : List UInt8} (h : 0 < l.length) : l[0] = l.headD 0 := by
  cases l with
  | nil => simp at h
  | cons b r => rfl
theorem turned_M (l m : List UInt8) (p k : Nat) (w : World) (h0 : 0 < l.length) (hp : 1 ≤ p) (hk : k ≤ 4) (hpk : p + k ≤ l.length) (hm5 : m.length = 5) (hl : l.length ≤ 140737488351232) :
    Calls Tryd.prog 34 #[.string ⟨l.toArray⟩, .string ⟨m.toArray⟩, .int .i64 p, .int .i64 k] w fun e w' => e = .returned (.string ⟨(turnM l m p k).toArray⟩) ∧ Below w.heap.size w w' :=
  turned_any l m (l.headD 0) (m.headD 0) p k w h0 (by omega) (head_get h0) (head_get (by omega)) hp hk hpk hm5 hl
theorem get_parts {l : List UInt8} {x : Hdr × List UInt8} (h : getO l = some x) : ∃ b t p pre, l = b :: t ∧ ahO l = some p ∧ Fits b t p pre ∧ badB b = false ∧ wideB b ≤ p.re.length ∧ x = (hdr b p, p.re.drop (wideB b)) := by
  cases l with
  | nil => cases h
  | cons b t =>
    simp only [getO] at h
    cases ha : ahO (b :: t) with
    | none => rw [ha] at h; cases h
    | some p =>
      rw [ha] at h
      simp only at h
      split at h
      · cases h
      · rename_i hc
        obtain ⟨pre, hf⟩ := ahO_local ha
        refine ⟨b, t, p, pre, rfl, rfl, hf, ?_, by omega, by simpa using h.symm⟩
        cases hbb : badB b with
        | false => rfl
        | true => exact absurd (.inr hbb) hc
theorem len_parts {b : UInt8} {t : List UInt8} {p : Pre} {pre : List UInt8} (hf : Fits b t p pre) : (b :: t).length = 1 + pre.length + p.re.length := by
  have := hf.cut
  rw [this]; simp; omega
set_option maxHeartbeats 1000000 in
theorem Mask_five (l m : List UInt8) (w : World) (hm : (((m.length : Nat) : Int) != 5) = true) :
    Calls Tryd.prog 15 #[.string ⟨l.toArray⟩, .string ⟨m.toArray⟩] w fun e w' => e = .returned (.tuple #[.string ⟨#[]⟩, .int .i64 1]) ∧ Below w.heap.size w w' := by
  go_enter Tryd.func15, Tryd.ntmps15
  go_wp2
  go_ret2
  exact ⟨rfl, Below.refl _ _⟩
set_option maxHeartbeats 1000000 in
theorem Mask_none (l m : List UInt8) (w : World) (ht : Tab w) (hm : (((m.length : Nat) : Int) != 5) = false) (hl : l.length ≤ 140737488351232) (hE : Hid (gEr l = 40)) :
    Calls Tryd.prog 15 #[.string ⟨l.toArray⟩, .string ⟨m.toArray⟩] w fun e w' => e = .returned (.tuple #[.string ⟨#[]⟩, .int .i64 40]) ∧ Below w.heap.size w w' := by
  have HG := Lib.hid (fun w (ht : Tab w) => Get_any l w ht hl)
  have HT := Lib.hid ht
  clear ht
  rw [hE.out] at HG
  generalize gHd l = h at HG
  generalize gRs l = rs at HG
  obtain ⟨lg, sp, ph, ty, ve, dc, sc, tk, le, wi, nu⟩ := h
  go_enter Tryd.func15, Tryd.ntmps15
  go_wp2_with fail
  refine (HG.out _ HT.out).mono ?_
  rintro e w1 ⟨rfl, hb⟩
  go_wp2
  go_ret2
  exact ⟨rfl, hb.alloc hb.size _⟩
set_option maxHeartbeats 1000000 in
theorem Mask_some (l m : List UInt8) (p k : Nat) (w : World) (ht : Tab w) (hm : (((m.length : Nat) : Int) != 5) = false) (hm5 : Hid (m.length = 5)) (hl : l.length ≤ 140737488351232) (hE : Hid (gEr l = 0)) (hW : Hid ((gHd l).wi = (k : Int))) (hR : Hid (l.length = p + k + (gRs l).length)) (h0 : 0 < l.length) (hp : 1 ≤ p) (hk : k ≤ 4) :
    Calls Tryd.prog 15 #[.string ⟨l.toArray⟩, .string ⟨m.toArray⟩] w fun e w' => e = .returned (.tuple #[.string ⟨(turnM l m p k).toArray⟩, .int .i64 0]) ∧ Below w.heap.size w w' := by
  have HG := Lib.hid (fun w (ht : Tab w) => Get_any l w ht hl)
  have HT := Lib.hid ht
  clear ht
  rw [hE.out] at HG
  have HM := Lib.hid (fun w => turned_M l m p k w h0 hp hk (by have := hR.out; omega) hm5.out hl)
  generalize gHd l = h at HG hW
  generalize gRs l = rs at HG hR
  obtain ⟨lg, sp, ph, ty, ve, dc, sc, tk, le, wi, nu⟩ := h
  have hwi : wi = (k : Int) := hW.out
  subst hwi
  have hrs : rs.length ≤ 140737488351232 := by have := hR.out; omega
  have e1 : ((l.length : Nat) : Int) - ((rs.length : Nat) : Int) - (k : Int) = (p : Int) := by have := hR.out; omega
  go_enter Tryd.func15, Tryd.ntmps15
  go_wp2_with fail
  refine (HG.out _ HT.out).mono ?_
  rintro e w1 ⟨rfl, hb⟩
  go_wp2_with fail
  refine (HM.out _).mono ?_
  rintro e w2 ⟨rfl, hb2⟩
  go_wp2
  go_ret2
  exact ⟨rfl, (hb.alloc hb.size _).trans (hb2.mono (by have := hb.size; simp; omega))⟩
theorem ne5 {m : List UInt8} (h : m.length = 5) : (((m.length : Nat) : Int) != 5) = false := by rw [h]; rfl
theorem ne5' {m : List UInt8} (h : ¬ m.length = 5) : (((m.length : Nat) : Int) != 5) = true := by
  simp only [bne_iff_ne]; omega
theorem Mask_any (l m : List UInt8) (w : World) (ht : Tab w) (hl : l.length ≤ 140737488351232) :
    Calls Tryd.prog 15 #[.string ⟨l.toArray⟩, .string ⟨m.toArray⟩] w fun e w' => e = .returned (.tuple #[.string ⟨(mskL l m).toArray⟩, .int .i64 (mskE l m)]) ∧ Below w.heap.size w w' := by
  by_cases h5 : m.length = 5
  · have e1 : mskE l m = gEr l := if_pos h5
    cases hg : getO l with
    | none =>
      have e2 : mskL l m = [] := by unfold mskL; rw [if_pos h5, hg]
      have e3 : gEr l = 40 := by unfold gEr; rw [hg]
      rw [e1, e2, e3]
      exact Mask_none l m w ht (ne5 h5) hl (Lib.hid e3)
    | some x =>
      obtain ⟨b, t, p, pre, hlb, ha, hf, hbb, hw, hx⟩ := get_parts hg
      have hlen := len_parts hf
      rw [← hlb] at hlen
      have hx1 : x.1.wi = ((wideB b : Nat) : Int) := by rw [hx]; rfl
      have hx2 : x.2.length = p.re.length - wideB b := by rw [hx]; simp
      have hwb : wideB b ≤ 4 := by unfold wideB; omega
      have e2 : mskL l m = turnM l m (1 + pre.length) (wideB b) := by
        unfold mskL
        rw [if_pos h5, hg]
        simp only
        rw [hx1, Int.toNat_natCast]
        congr 1
        omega
      have e3 : gEr l = 0 := by unfold gEr; rw [hg]
      have e4 : (gHd l).wi = ((wideB b : Nat) : Int) := by unfold gHd; rw [hg]; exact hx1
      have e5 : (gRs l).length = p.re.length - wideB b := by unfold gRs; rw [hg]; exact hx2
      rw [e1, e2, e3]
      exact Mask_some l m (1 + pre.length) (wideB b) w ht (ne5 h5) (Lib.hid h5) hl (Lib.hid e3) (Lib.hid e4) (Lib.hid (by omega)) (by omega) (by omega) hwb
  · have e1 : mskE l m = 1 := if_neg h5
    have e2 : mskL l m = [] := if_neg h5
    rw [e1, e2]
    exact Mask_five l m w (ne5' h5)
end Go.Proofs.YtabikljimndliaaDoor.Hd
