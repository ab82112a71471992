/- The walks of layer 4: the document's Get and Place, in one word. -/
import Derived.Test.YtabikljimndliaaDoorHrF
import Derived.Test.YtabikljimndliaaDoorHrG
import Derived.Test.YtabikljimndliaaDoorHrH
namespace Go.Proofs.YtabikljimndliaaDoor.Hd
open Go.RowKit Vm
set_option linter.unusedVariables false
set_option linter.unusedSimpArgs false

theorem ahO_len {l : List UInt8} {p : Pre} (h : ahO l = some p) : p.re.length + 1 ≤ l.length := by
  cases l with
  | nil => simp [ahO] at h
  | cons b r =>
    obtain ⟨pre, hf⟩ := ahO_local h
    have := len_parts hf
    omega
theorem badB_int {b : UInt8} {p : Pre} {r pre : List UInt8} (hf : Fits b r p pre) : (p.lg = false → badB b = (((b.toNat : Nat) : Int) / 8 % 4 != 0)) ∧ (p.lg = true → badB b = (((b.toNat : Nat) : Int) / 4 % 4 != 0)) := by
  have h := hf.lg
  refine ⟨fun e => ?_, fun e => ?_⟩
  · rw [e] at h
    have : ¬ 128 ≤ b.toNat := of_decide_eq_false h.symm
    unfold badB
    rw [if_pos (by omega), Bool.eq_iff_iff, decide_eq_true_iff, bne_iff_ne]; omega
  · rw [e] at h
    have : 128 ≤ b.toNat := of_decide_eq_true h.symm
    unfold badB
    rw [if_neg (by omega), Bool.eq_iff_iff, decide_eq_true_iff, bne_iff_ne]; omega
theorem Get_ref (l : List UInt8) (w : World) (hl : l.length ≤ 140737488351232) :
    Calls Tryd.prog 10 #[.string ⟨l.toArray⟩] w fun e w' => e = .returned (.tuple #[.agg #[.bool (gHd l).lg, .bool (gHd l).sp, .bool (gHd l).ph, .int .i64 (gHd l).ty, .int .u32 (gHd l).ve, .string ⟨((gHd l).dc).toArray⟩, .string ⟨((gHd l).sc).toArray⟩, .string ⟨((gHd l).tk).toArray⟩, .int .u64 (gHd l).le, .int .i64 (gHd l).wi, .int .u64 (gHd l).nu], .string ⟨(gRs l).toArray⟩, .int .i64 (gEr l)]) ∧ Below w.heap.size w w' := by
  have hA := fun w => ahead_any l w hl
  have hno : getO l = none → gHd l = ⟨false, false, false, 0, 0, [], [], [], 0, 0, 0⟩ ∧ gRs l = [] ∧ gEr l = 40 := fun h => by
    refine ⟨?_, ?_, ?_⟩
    · unfold gHd; rw [h]
    · unfold gRs; rw [h]
    · unfold gEr; rw [h]
  cases l with
  | nil =>
    obtain ⟨e1, e2, e3⟩ := hno rfl
    rw [ahV_none (l := []) rfl] at hA
    rw [e1, e2, e3]
    exact refGet_none _ (Lib.hid hA) w
  | cons b r =>
    have hp : 0 < (⟨(b :: r).toArray⟩ : ByteArray).size := by rw [sv_size]; simp
    have hl2 : (⟨(b :: r).toArray⟩ : ByteArray).size ≤ 140737488351232 := by rw [sv_size]; exact hl
    have hbb := b.toNat_lt
    have b0 : (0 : Int) ≤ ((b.toNat : Nat) : Int) := by omega
    have b1 : ((b.toNat : Nat) : Int) ≤ 255 := by omega
    cases ha : ahO (b :: r) with
    | none =>
      obtain ⟨e1, e2, e3⟩ := hno (by simp only [getO, ha])
      rw [ahV_none ha] at hA
      rw [e1, e2, e3]
      exact refGet_none _ (Lib.hid hA) w
    | some p =>
      obtain ⟨pre, hf⟩ := ahO_local ha
      have hlen := ahO_len ha
      have hbi := badB_int hf
      have hg : getO (b :: r) = if p.re.length < wideB b ∨ badB b = true then none else some (hdr b p, p.re.drop (wideB b)) := by simp only [getO, ha]
      rw [ahV_some ha] at hA
      have k1 : 1 ≤ wideB b := by unfold wideB; omega
      have k4 : wideB b ≤ 4 := by unfold wideB; omega
      have kE : 1 + ((b.toNat : Nat) : Int) % 4 = ((wideB b : Nat) : Int) := by unfold wideB; omega
      have hrl : (⟨p.re.toArray⟩ : ByteArray).size = p.re.length := sv_size _
      have hre : (⟨p.re.toArray⟩ : ByteArray).size ≤ 140737488351232 := by rw [hrl]; omega
      obtain ⟨lg, sp, ty, ve, dc, sc, tk, le, re⟩ := p
      simp only at hA hbi hg hrl hre hlen
      by_cases hs : re.length < wideB b
      · obtain ⟨e1, e2, e3⟩ := hno (by rw [hg, if_pos (.inl hs)])
        rw [e1, e2, e3]
        cases lg with
        | false => exact refGet_few_s _ _ b sp ty ve le _ _ _ hp hl2 rfl b0 b1 hre _ k1 k4 kE (Lib.hid hA) (by rw [hrl]; exact hs) w
        | true => exact refGet_few_l _ _ b sp ty ve le _ _ _ hp hl2 rfl b0 b1 hre _ k1 k4 kE (Lib.hid hA) (by rw [hrl]; exact hs) w
      · cases hbd : badB b with
        | true =>
          obtain ⟨e1, e2, e3⟩ := hno (by rw [hg, if_pos (.inr hbd)])
          rw [e1, e2, e3]
          rw [hbd] at hbi
          cases lg with
          | false => exact refGet_bad_s _ _ b sp ty ve le _ _ _ hp hl2 rfl b0 b1 hre _ k1 k4 kE (Lib.hid hA) (by rw [hrl]; exact hs) (hbi.1 rfl).symm w
          | true => exact refGet_bad_l _ _ b sp ty ve le _ _ _ hp hl2 rfl b0 b1 hre _ k1 k4 kE (Lib.hid hA) (by rw [hrl]; exact hs) (hbi.2 rfl).symm w
        | false =>
          have hg2 : getO (b :: r) = some (hdr b ⟨lg, sp, ty, ve, dc, sc, tk, le, re⟩, re.drop (wideB b)) := by rw [hg, if_neg (fun h => by rcases h with h | h; exact hs h; rw [hbd] at h; cases h)]
          have e1 : gHd (b :: r) = hdr b ⟨lg, sp, ty, ve, dc, sc, tk, le, re⟩ := by unfold gHd; rw [hg2]
          have e2 : gRs (b :: r) = re.drop (wideB b) := by unfold gRs; rw [hg2]
          have e3 : gEr (b :: r) = 0 := by unfold gEr; rw [hg2]
          rw [e1, e2, e3]
          rw [hbd] at hbi
          have X1 : (⟨re.toArray⟩ : ByteArray).extract 0 (wideB b) = ⟨(re.take (wideB b)).toArray⟩ := sv_to _ _
          have X2 : (⟨re.toArray⟩ : ByteArray).extract (wideB b) (⟨re.toArray⟩ : ByteArray).size = ⟨(re.drop (wideB b)).toArray⟩ := by rw [hrl]; exact sv_from _ _
          have CB : Hid (∀ w : World, Calls Tryd.prog 29 #[.string ⟨(re.take (wideB b)).toArray⟩] w fun e w' => e = .returned (.int .u64 (bk (re.take (wideB b)) : Nat)) ∧ w = w') := Lib.hid fun w => rback ⟨(re.take (wideB b)).toArray⟩ w (by rw [sv_size, List.length_take]; omega)
          cases lg with
          | false =>
            have h4 : decide (b.toNat / 4 % 2 = 1) = (((b.toNat : Nat) : Int) / 4 % 2 == 1) := by
              rw [Bool.eq_iff_iff, decide_eq_true_iff, beq_iff_eq]; omega
            unfold hdr
            simp only [Bool.not_false, Bool.true_and, h4]
            exact refGet_ok_s _ _ _ _ _ b sp ty ve le _ _ _ hp hl2 rfl b0 b1 hre _ k1 k4 kE (Lib.hid hA) (by rw [hrl]; exact hs) (by rw [hrl]; omega) (hbi.1 rfl).symm X1 X2 CB w
          | true =>
            unfold hdr
            simp only [Bool.not_true, Bool.false_and]
            exact refGet_ok_l _ _ _ _ _ b sp ty ve le _ _ _ hp hl2 rfl b0 b1 hre _ k1 k4 kE (Lib.hid hA) (by rw [hrl]; exact hs) (by rw [hrl]; omega) (hbi.2 rfl).symm X1 X2 CB w
theorem Place_ref (l : List UInt8) (w : World) (hl : l.length ≤ 140737488351232) :
    Calls Tryd.prog 12 #[.string ⟨l.toArray⟩] w fun e w' => e = .returned (.tuple #[.int .i64 (plN l), .int .i64 (plE l)]) ∧ Below w.heap.size w w' := by
  have hA := fun w => ahead_any l w hl
  have hl2 : (⟨l.toArray⟩ : ByteArray).size ≤ 140737488351232 := by rw [sv_size]; exact hl
  cases ha : ahO l with
  | none =>
    have e1 : plN l = 0 := by unfold plN; rw [ha]
    have e2 : plE l = 40 := by unfold plE; rw [ha]
    rw [e1, e2]
    rw [ahV_none ha] at hA
    exact refPlace_none _ (Lib.hid hA) w
  | some p =>
    have hlen := ahO_len ha
    have e1 : plN l = (((⟨l.toArray⟩ : ByteArray).size : Nat) : Int) - (((⟨p.re.toArray⟩ : ByteArray).size : Nat) : Int) := by unfold plN; rw [ha, sv_size, sv_size]
    have e2 : plE l = 0 := by unfold plE; rw [ha]
    rw [e1, e2]
    rw [ahV_some ha] at hA
    have hre : (⟨p.re.toArray⟩ : ByteArray).size ≤ 140737488351232 := by rw [sv_size]; omega
    obtain ⟨lg, sp, ty, ve, dc, sc, tk, le, re⟩ := p
    simp only at hA hre
    cases lg with
    | false => exact refPlace_ok_s _ _ sp ty ve le _ _ _ hl2 hre (Lib.hid hA) w
    | true => exact refPlace_ok_l _ _ sp ty ve le _ _ _ hl2 hre (Lib.hid hA) w
end Go.Proofs.YtabikljimndliaaDoor.Hd
