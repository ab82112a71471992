/- The walks of layer 4: Unmask, the program's. · The walks of layer 4: Put in one word; the law's bound; the small case that must go well -/
import Derived.Test.YtojoalmldapboaaGreatDoorJa39
namespace Go.Proofs.YtojoalmldapboaaGreatDoor.Hd
set_option maxRecDepth 20000
open Go.RowKit Vm
set_option linter.unusedVariables false
set_option linter.unusedSimpArgs false

set_option maxHeartbeats 1000000 in
theorem Unmask_five (l m : List UInt8) (w : World) (hm : (((m.length : Nat) : Int) != 5) = true) :
    Calls Tryz.prog 99 #[.string ⟨l.toArray⟩, .string ⟨m.toArray⟩] w fun e w' => e = .returned (.tuple #[.string ⟨#[]⟩, .int .i64 1]) ∧ Below w.heap.size w w' := by
  go_enter Tryz.func99, Tryz.ntmps99
  go_wp2
  go_ret2
  exact ⟨rfl, Below.refl _ _⟩
set_option maxHeartbeats 1000000 in
theorem Unmask_none (l m : List UInt8) (w : World) (ht : Tab w) (hm : (((m.length : Nat) : Int) != 5) = false) (hl : l.length ≤ 140737488351232) (hE : Hid (plE l = 40)) :
    Calls Tryz.prog 99 #[.string ⟨l.toArray⟩, .string ⟨m.toArray⟩] w fun e w' => e = .returned (.tuple #[.string ⟨#[]⟩, .int .i64 40]) ∧ Below w.heap.size w w' := by
  have HG := Lib.hid (fun w (ht : Tab w) => Place_any l w ht hl)
  have HT := Lib.hid ht
  clear ht
  rw [hE.out] at HG
  go_enter Tryz.func99, Tryz.ntmps99
  go_wp2_with fail
  refine (HG.out _ HT.out).mono ?_
  rintro e w1 ⟨rfl, hb⟩
  go_wp2
  go_ret2
  exact ⟨rfl, hb⟩
theorem first_M (l m : List UInt8) (w : World) (h0 : 0 < l.length) (h1 : 0 < m.length) (hl : l.length ≤ 140737488351232) (hm : m.length ≤ 140737488351232) :
    Calls Tryz.prog 130 #[.string ⟨l.toArray⟩, .string ⟨m.toArray⟩] w fun e w' => e = .returned (.string ⟨[fstB (l.headD 0) (m.headD 0)].toArray⟩) ∧ Below w.heap.size w w' :=
  turnedFirst_any l m _ _ w h0 h1 (head_get h0) (head_get h1) hl hm
set_option maxHeartbeats 2000000 in
theorem Unmask_short (l m : List UInt8) (p k : Nat) (w : World) (ht : Tab w) (hm : (((m.length : Nat) : Int) != 5) = false) (hm5 : Hid (m.length = 5)) (hl : l.length ≤ 140737488351232) (h0 : 0 < l.length) (hE : Hid (plE l = 0)) (hN : Hid (plN l = (p : Int))) (hK : Hid (umK l m = k)) (hp : 1 ≤ p) (hpl : p ≤ l.length) (hs : ((l.length : Nat) : Int) - (p : Int) < (k : Int)) :
    Calls Tryz.prog 99 #[.string ⟨l.toArray⟩, .string ⟨m.toArray⟩] w fun e w' => e = .returned (.tuple #[.string ⟨#[]⟩, .int .i64 40]) ∧ Below w.heap.size w w' := by
  have HG := Lib.hid (fun w (ht : Tab w) => Place_any l w ht hl)
  rw [hE.out, hN.out] at HG
  have HF := Lib.hid (fun w => first_M l m w h0 (by have := hm5.out; omega) hl (by have := hm5.out; omega))
  have HK := hK.out
  unfold umK at HK
  generalize fstB (l.headD 0) (m.headD 0) = x at HF HK
  have HW := Lib.hid (fun w => wideQ x.toNat k w x.toNat_lt (Lib.hid HK))
  have hk4 : k ≤ 4 := by omega
  replace HK := Lib.hid HK
  have hlt := ht.lt
  have HT := Lib.hid ht
  clear ht
  go_enter Tryz.func99, Tryz.ntmps99
  go_wp2_with fail
  refine (HG.out _ HT.out).mono ?_
  rintro e w1 ⟨rfl, hb1⟩
  replace HT := Lib.hid (HT.out.below hb1 hlt)
  go_wp2_with fail
  refine (HF.out _).mono ?_
  rintro e w2 ⟨rfl, hb2⟩
  have hb12 := hb1.trans (hb2.mono hb1.size)
  replace HT := Lib.hid (HT.out.below hb2 (Nat.lt_of_lt_of_le hlt hb1.size))
  clear hb1 hb2
  go_wp2_with fail
  refine (HW.out _).mono ?_
  rintro e w3 ⟨rfl, rfl⟩
  go_wp2
  go_ret2
  exact ⟨rfl, hb12⟩
theorem turnM_len (l m : List UInt8) (p k : Nat) (hp : 1 ≤ p) (hpk : p + k ≤ l.length) (hm5 : m.length = 5) (hk : k ≤ 4) : (turnM l m p k).length = l.length := by
  unfold turnM turnL xorL
  simp
  omega
set_option maxHeartbeats 2000000 in
theorem Unmask_bad (l m : List UInt8) (p k : Nat) (w : World) (ht : Tab w) (hm : (((m.length : Nat) : Int) != 5) = false) (hm5 : Hid (m.length = 5)) (hl : l.length ≤ 140737488351232) (h0 : 0 < l.length) (hE : Hid (plE l = 0)) (hN : Hid (plN l = (p : Int))) (hK : Hid (umK l m = k)) (hp : 1 ≤ p) (hpl : p ≤ l.length) (hs : p + k ≤ l.length) (hB : Hid (gEr (turnM l m p k) = 40)) :
    Calls Tryz.prog 99 #[.string ⟨l.toArray⟩, .string ⟨m.toArray⟩] w fun e w' => e = .returned (.tuple #[.string ⟨#[]⟩, .int .i64 40]) ∧ Below w.heap.size w w' := by
  have HG := Lib.hid (fun w (ht : Tab w) => Place_any l w ht hl)
  rw [hE.out, hN.out] at HG
  have HF := Lib.hid (fun w => first_M l m w h0 (by have := hm5.out; omega) hl (by have := hm5.out; omega))
  have HK := hK.out
  unfold umK at HK
  generalize fstB (l.headD 0) (m.headD 0) = x at HF HK
  have HW := Lib.hid (fun w => wideQ x.toNat k w x.toNat_lt (Lib.hid HK))
  have hk4 : k ≤ 4 := by omega
  replace HK := Lib.hid HK
  have HM := Lib.hid (fun w => turned_M l m p k w h0 hp hk4 (by omega) hm5.out hl)
  have HG2 := Lib.hid (fun w (ht : Tab w) => Get_any (turnM l m p k) w ht (by rw [turnM_len l m p k hp (by omega) hm5.out hk4]; exact hl))
  rw [hB.out] at HG2
  have hol : (turnM l m p k).length ≤ 140737488351232 := by rw [turnM_len l m p k hp (by omega) hm5.out hk4]; exact hl
  generalize turnM l m p k = o at *
  generalize gHd o = h at HG2
  generalize gRs o = rs at HG2
  obtain ⟨lg, sp, ph, ty, ve, dc, sc, tk, le, wi, nu⟩ := h
  have hlt := ht.lt
  have HT := Lib.hid ht
  clear ht
  go_enter Tryz.func99, Tryz.ntmps99
  go_wp2_with fail
  refine (HG.out _ HT.out).mono ?_
  rintro e w1 ⟨rfl, hb1⟩
  replace HT := Lib.hid (HT.out.below hb1 hlt)
  go_wp2_with fail
  refine (HF.out _).mono ?_
  rintro e w2 ⟨rfl, hb2⟩
  have hb12 := hb1.trans (hb2.mono hb1.size)
  replace HT := Lib.hid (HT.out.below hb2 (Nat.lt_of_lt_of_le hlt hb1.size))
  clear hb1 hb2
  go_wp2_with fail
  refine (HW.out _).mono ?_
  rintro e w3 ⟨rfl, rfl⟩
  have hs2 : ¬ ((l.length : Nat) : Int) - (p : Int) < (k : Int) := by omega
  go_wp2_with fail
  refine (HM.out _).mono ?_
  rintro e w4 ⟨rfl, hb4⟩
  have hb := hb12.trans (hb4.mono hb12.size)
  replace HT := Lib.hid (HT.out.below hb4 (Nat.lt_of_lt_of_le hlt hb12.size))
  clear hb12 hb4
  go_wp2_with fail
  refine (HG2.out _ HT.out).mono ?_
  rintro e w5 ⟨rfl, hb5⟩
  have hb6 := hb.trans (hb5.mono hb.size)
  go_wp2
  go_ret2
  exact ⟨rfl, hb6.alloc hb6.size _⟩
set_option maxHeartbeats 2000000 in
theorem Unmask_ok (l m : List UInt8) (p k : Nat) (w : World) (ht : Tab w) (hm : (((m.length : Nat) : Int) != 5) = false) (hm5 : Hid (m.length = 5)) (hl : l.length ≤ 140737488351232) (h0 : 0 < l.length) (hE : Hid (plE l = 0)) (hN : Hid (plN l = (p : Int))) (hK : Hid (umK l m = k)) (hp : 1 ≤ p) (hpl : p ≤ l.length) (hs : p + k ≤ l.length) (hB : Hid (gEr (turnM l m p k) = 0)) :
    Calls Tryz.prog 99 #[.string ⟨l.toArray⟩, .string ⟨m.toArray⟩] w fun e w' => e = .returned (.tuple #[.string ⟨(turnM l m p k).toArray⟩, .int .i64 0]) ∧ Below w.heap.size w w' := by
  have HG := Lib.hid (fun w (ht : Tab w) => Place_any l w ht hl)
  rw [hE.out, hN.out] at HG
  have HF := Lib.hid (fun w => first_M l m w h0 (by have := hm5.out; omega) hl (by have := hm5.out; omega))
  have HK := hK.out
  unfold umK at HK
  generalize fstB (l.headD 0) (m.headD 0) = x at HF HK
  have HW := Lib.hid (fun w => wideQ x.toNat k w x.toNat_lt (Lib.hid HK))
  have hk4 : k ≤ 4 := by omega
  replace HK := Lib.hid HK
  have HM := Lib.hid (fun w => turned_M l m p k w h0 hp hk4 (by omega) hm5.out hl)
  have HG2 := Lib.hid (fun w (ht : Tab w) => Get_any (turnM l m p k) w ht (by rw [turnM_len l m p k hp (by omega) hm5.out hk4]; exact hl))
  rw [hB.out] at HG2
  have hol : (turnM l m p k).length ≤ 140737488351232 := by rw [turnM_len l m p k hp (by omega) hm5.out hk4]; exact hl
  generalize turnM l m p k = o at *
  generalize gHd o = h at HG2
  generalize gRs o = rs at HG2
  obtain ⟨lg, sp, ph, ty, ve, dc, sc, tk, le, wi, nu⟩ := h
  have hlt := ht.lt
  have HT := Lib.hid ht
  clear ht
  go_enter Tryz.func99, Tryz.ntmps99
  go_wp2_with fail
  refine (HG.out _ HT.out).mono ?_
  rintro e w1 ⟨rfl, hb1⟩
  replace HT := Lib.hid (HT.out.below hb1 hlt)
  go_wp2_with fail
  refine (HF.out _).mono ?_
  rintro e w2 ⟨rfl, hb2⟩
  have hb12 := hb1.trans (hb2.mono hb1.size)
  replace HT := Lib.hid (HT.out.below hb2 (Nat.lt_of_lt_of_le hlt hb1.size))
  clear hb1 hb2
  go_wp2_with fail
  refine (HW.out _).mono ?_
  rintro e w3 ⟨rfl, rfl⟩
  have hs2 : ¬ ((l.length : Nat) : Int) - (p : Int) < (k : Int) := by omega
  go_wp2_with fail
  refine (HM.out _).mono ?_
  rintro e w4 ⟨rfl, hb4⟩
  have hb := hb12.trans (hb4.mono hb12.size)
  replace HT := Lib.hid (HT.out.below hb4 (Nat.lt_of_lt_of_le hlt hb12.size))
  clear hb12 hb4
  go_wp2_with fail
  refine (HG2.out _ HT.out).mono ?_
  rintro e w5 ⟨rfl, hb5⟩
  have hb6 := hb.trans (hb5.mono hb.size)
  go_wp2
  go_ret2
  exact ⟨rfl, hb6.alloc hb6.size _⟩
theorem Unmask_any (l m : List UInt8) (w : World) (ht : Tab w) (hl : l.length ≤ 140737488351232) :
    Calls Tryz.prog 99 #[.string ⟨l.toArray⟩, .string ⟨m.toArray⟩] w fun e w' => e = .returned (.tuple #[.string ⟨(umL l m).toArray⟩, .int .i64 (umE l m)]) ∧ Below w.heap.size w w' := by
  by_cases h5 : m.length = 5
  · have e1 : umE l m = match umO l m with
      | some x => 0
      | none => 40 := if_pos h5
    have e2 : umL l m = match umO l m with
      | some x => x
      | none => [] := if_pos h5
    cases l with
    | nil =>
      have e3 : umO [] m = none := rfl
      rw [e1, e2, e3]
      exact Unmask_none [] m w ht (ne5 h5) hl (Lib.hid rfl)
    | cons b t =>
      cases ha : ahO (b :: t) with
      | none =>
        have e3 : umO (b :: t) m = none := by unfold umO; rw [ha]
        rw [e1, e2, e3]
        exact Unmask_none _ m w ht (ne5 h5) hl (Lib.hid (by unfold plE; rw [ha]))
      | some p =>
        obtain ⟨pre, hf⟩ := ahO_local ha
        have hlen := len_parts hf
        have hE : plE (b :: t) = 0 := by unfold plE; rw [ha]
        have hN : plN (b :: t) = ((1 + pre.length : Nat) : Int) := by unfold plN; rw [ha]; simp only; omega
        have hpl : (b :: t).length - p.re.length = 1 + pre.length := by omega
        have h0 : 0 < (b :: t).length := by simp
        generalize b :: t = l at *
        have e3 : umO l m = if p.re.length < umK l m then none else match getO (turnM l m (1 + pre.length) (umK l m)) with
          | none => none
          | some _ => some (turnM l m (1 + pre.length) (umK l m)) := by unfold umO; rw [ha]; simp only; rw [hpl]; cases getO (turnM l m (1 + pre.length) (umK l m)) <;> rfl
        by_cases hs : p.re.length < umK l m
        · rw [e1, e2, e3, if_pos hs]
          exact Unmask_short l m (1 + pre.length) (umK l m) w ht (ne5 h5) (Lib.hid h5) hl h0 (Lib.hid hE) (Lib.hid hN) (Lib.hid rfl) (by omega) (by omega) (by omega)
        · rw [e1, e2, e3, if_neg hs]
          cases hg : getO (turnM l m (1 + pre.length) (umK l m)) with
          | none => exact Unmask_bad l m (1 + pre.length) (umK l m) w ht (ne5 h5) (Lib.hid h5) hl h0 (Lib.hid hE) (Lib.hid hN) (Lib.hid rfl) (by omega) (by omega) (by omega) (Lib.hid (by unfold gEr; rw [hg]))
          | some x => exact Unmask_ok l m (1 + pre.length) (umK l m) w ht (ne5 h5) (Lib.hid h5) hl h0 (Lib.hid hE) (Lib.hid hN) (Lib.hid rfl) (by omega) (by omega) (by omega) (Lib.hid (by unfold gEr; rw [hg]))
  · have e1 : umE l m = 1 := if_neg h5
    have e2 : umL l m = [] := if_neg h5
    rw [e1, e2]
    exact Unmask_five l m w (ne5' h5)
end Go.Proofs.YtojoalmldapboaaGreatDoor.Hd
namespace Go.Proofs.YtojoalmldapboaaGreatDoor.Hd
set_option maxRecDepth 20000
open Go.RowKit Vm
set_option linter.unusedVariables false
set_option linter.unusedSimpArgs false

/-- A header's bytes. -/
def putL (lg sp ph : Bool) (ty ve : Int) (dc sc tk : List UInt8) (le wi nu : Int) : List UInt8 :=
  by1 (fbN lg sp ph ty wi) :: (if lg then lpL ty ve dc sc tk le else dc) ++ fx nu.toNat wi.toNat
theorem may_parts {lg sp ph : Bool} {ty ve : Int} {dc sc tk : List UInt8} {le wi nu : Int} (h : mayB lg sp ph ty ve dc sc tk le wi nu = true) : keptB lg sp ph ty ve sc tk le = true ∧ bndB lg ty dc sc tk le = true ∧ 1 ≤ wi ∧ wi ≤ 4 ∧ nu < 256 ^ wi.toNat := by
  unfold mayB at h
  simp only [Bool.and_eq_true] at h
  have h2 := h.2
  unfold numB at h2
  have := of_decide_eq_true h2
  exact ⟨h.1.1, h.1.2, this⟩
theorem bnd_parts {ty : Int} {dc sc tk : List UInt8} {le : Int} (h : bndB true ty dc sc tk le = true) : 0 ≤ ty ∧ ty ≤ 2 ∧ dc.length ≤ 20 ∧ sc.length ≤ 20 ∧ tk.length ≤ 1000 ∧ le ≤ 4611686018427387903 := by
  unfold bndB at h; rw [if_pos rfl] at h; exact of_decide_eq_true h
theorem bnd_short {ty : Int} {dc sc tk : List UInt8} {le : Int} (h : bndB false ty dc sc tk le = true) : dc.length = 8 := by
  unfold bndB at h; rw [if_neg (by decide)] at h; exact of_decide_eq_true h
theorem Put_yes (lg sp ph : Bool) (ty ve : Int) (dc sc tk : List UInt8) (le wi nu : Int) (w : World) (ht : Tab w) (wty : -9223372036854775808 ≤ ty) (wty2 : ty ≤ 9223372036854775807) (wve : 0 ≤ ve) (wve2 : ve ≤ 4294967295) (wdc : dc.length ≤ 9223372036854775807) (wsc : sc.length ≤ 9223372036854775807) (wtk : tk.length ≤ 9223372036854775807) (wle : 0 ≤ le) (wle2 : le ≤ 18446744073709551615) (wwi : -9223372036854775808 ≤ wi) (wwi2 : wi ≤ 9223372036854775807) (wnu : 0 ≤ nu) (wnu2 : nu ≤ 18446744073709551615) (EM : mayB lg sp ph ty ve dc sc tk le wi nu = true) :
    Calls Tryz.prog 54 #[.agg #[.bool lg, .bool sp, .bool ph, .int .i64 ty, .int .u32 ve, .string ⟨dc.toArray⟩, .string ⟨sc.toArray⟩, .string ⟨tk.toArray⟩, .int .u64 le, .int .i64 wi, .int .u64 nu]] w fun e w' => e = .returned (.tuple #[.string ⟨(putL lg sp ph ty ve dc sc tk le wi nu).toArray⟩, .int .i64 0]) ∧ Below w.heap.size w w' := by
  have hp := may_parts EM
  cases lg with
  | true =>
    have hb := bnd_parts hp.2.1
    exact put_l sp ph ty ve dc sc tk le wi nu w ht wty wty2 wve wve2 wdc wsc wtk wle wle2 wwi wwi2 wnu wnu2 (Lib.hid EM) hp.2.2.1 hp.2.2.2.1 hb.1 hb.2.1 hb.2.2.1 hb.2.2.2.1 hb.2.2.2.2.1
  | false =>
    have hb := bnd_short hp.2.1
    exact put_s sp ph ty ve dc sc tk le wi nu w ht wty wty2 wve wve2 wdc wsc wtk wle wle2 wwi wwi2 wnu wnu2 (Lib.hid EM) hp.2.2.1 hp.2.2.2.1 (by omega)
end Go.Proofs.YtojoalmldapboaaGreatDoor.Hd
