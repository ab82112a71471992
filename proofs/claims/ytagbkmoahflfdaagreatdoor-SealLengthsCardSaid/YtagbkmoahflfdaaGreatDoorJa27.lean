/- The walks of layer 4: Unmask, the program's. · The walks of layer 4: Put in one word; the law's bound; the small case that must go well · Plain mathematics of headers: what is put is got back; what is masked is unmasked; what is cut. · The walks of layer 2's small functions: windows. -/
import Derived.Test.YtagbkmoahflfdaaGreatDoorJa26
import Derived.Test.YtagbkmoahflfdaaGreatDoorRows
import Derived.WalkKit
import Derived.WalkSpells
import Derived.WalkLawsBesides
import Derived.Lib.Hide
import Derived.Below
namespace Go.Proofs.YtagbkmoahflfdaaGreatDoor.Hd
set_option maxRecDepth 20000
open Go.RowKit Vm
set_option linter.unusedVariables false
set_option linter.unusedSimpArgs false

set_option maxHeartbeats 1000000 in
theorem Unmask_five (l m : List UInt8) (w : World) (hm : (((m.length : Nat) : Int) != 5) = true) :
    Calls Tryz.prog 99 #[.string ⟨l.toArray⟩, .string ⟨m.toArray⟩] w fun e w' => e = .returned (.tuple #[.string ⟨#[]⟩, .int .i64 1]) ∧ Below w.heap.size w w' := by
  go_enter Tryz.func99, Tryz.ntmps99
  go_wp2
  go_ret2
  exact ⟨rfl, Below.refl _ _⟩
set_option maxHeartbeats 1000000 in
theorem Unmask_none (l m : List UInt8) (w : World) (ht : Tab w) (hm : (((m.length : Nat) : Int) != 5) = false) (hl : l.length ≤ 140737488351232) (hE : Hid (plE l = 40)) :
    Calls Tryz.prog 99 #[.string ⟨l.toArray⟩, .string ⟨m.toArray⟩] w fun e w' => e = .returned (.tuple #[.string ⟨#[]⟩, .int .i64 40]) ∧ Below w.heap.size w w' := by
  have HG := Lib.hid (fun w (ht : Tab w) => Place_any l w ht hl)
  have HT := Lib.hid ht
  clear ht
  rw [hE.out] at HG
  go_enter Tryz.func99, Tryz.ntmps99
  go_wp2_with fail
  refine (HG.out _ HT.out).mono ?_
  rintro e w1 ⟨rfl, hb⟩
  go_wp2
  go_ret2
  exact ⟨rfl, hb⟩
theorem first_M (l m : List UInt8) (w : World) (h0 : 0 < l.length) (h1 : 0 < m.length) (hl : l.length ≤ 140737488351232) (hm : m.length ≤ 140737488351232) :
    Calls Tryz.prog 130 #[.string ⟨l.toArray⟩, .string ⟨m.toArray⟩] w fun e w' => e = .returned (.string ⟨[fstB (l.headD 0) (m.headD 0)].toArray⟩) ∧ Below w.heap.size w w' :=
  turnedFirst_any l m _ _ w h0 h1 (head_get h0) (head_get h1) hl hm
set_option maxHeartbeats 2000000 in
theorem Unmask_short (l m : List UInt8) (p k : Nat) (w : World) (ht : Tab w) (hm : (((m.length : Nat) : Int) != 5) = false) (hm5 : Hid (m.length = 5)) (hl : l.length ≤ 140737488351232) (h0 : 0 < l.length) (hE : Hid (plE l = 0)) (hN : Hid (plN l = (p : Int))) (hK : Hid (umK l m = k)) (hp : 1 ≤ p) (hpl : p ≤ l.length) (hs : ((l.length : Nat) : Int) - (p : Int) < (k : Int)) :
    Calls Tryz.prog 99 #[.string ⟨l.toArray⟩, .string ⟨m.toArray⟩] w fun e w' => e = .returned (.tuple #[.string ⟨#[]⟩, .int .i64 40]) ∧ Below w.heap.size w w' := by
  have HG := Lib.hid (fun w (ht : Tab w) => Place_any l w ht hl)
  rw [hE.out, hN.out] at HG
  have HF := Lib.hid (fun w => first_M l m w h0 (by have := hm5.out; omega) hl (by have := hm5.out; omega))
  have HK := hK.out
  unfold umK at HK
  generalize fstB (l.headD 0) (m.headD 0) = x at HF HK
  have HW := Lib.hid (fun w => wideQ x.toNat k w x.toNat_lt (Lib.hid HK))
  have hk4 : k ≤ 4 := by omega
  replace HK := Lib.hid HK
  have hlt := ht.lt
  have HT := Lib.hid ht
  clear ht
  go_enter Tryz.func99, Tryz.ntmps99
  go_wp2_with fail
  refine (HG.out _ HT.out).mono ?_
  rintro e w1 ⟨rfl, hb1⟩
  replace HT := Lib.hid (HT.out.below hb1 hlt)
  go_wp2_with fail
  refine (HF.out _).mono ?_
  rintro e w2 ⟨rfl, hb2⟩
  have hb12 := hb1.trans (hb2.mono hb1.size)
  replace HT := Lib.hid (HT.out.below hb2 (Nat.lt_of_lt_of_le hlt hb1.size))
  clear hb1 hb2
  go_wp2_with fail
  refine (HW.out _).mono ?_
  rintro e w3 ⟨rfl, rfl⟩
  go_wp2
  go_ret2
  exact ⟨rfl, hb12⟩
theorem turnM_len (l m : List UInt8) (p k : Nat) (hp : 1 ≤ p) (hpk : p + k ≤ l.length) (hm5 : m.length = 5) (hk : k ≤ 4) : (turnM l m p k).length = l.length := by
  unfold turnM turnL xorL
  simp
  omega
set_option maxHeartbeats 2000000 in
theorem Unmask_bad (l m : List UInt8) (p k : Nat) (w : World) (ht : Tab w) (hm : (((m.length : Nat) : Int) != 5) = false) (hm5 : Hid (m.length = 5)) (hl : l.length ≤ 140737488351232) (h0 : 0 < l.length) (hE : Hid (plE l = 0)) (hN : Hid (plN l = (p : Int))) (hK : Hid (umK l m = k)) (hp : 1 ≤ p) (hpl : p ≤ l.length) (hs : p + k ≤ l.length) (hB : Hid (gEr (turnM l m p k) = 40)) :
    Calls Tryz.prog 99 #[.string ⟨l.toArray⟩, .string ⟨m.toArray⟩] w fun e w' => e = .returned (.tuple #[.string ⟨#[]⟩, .int .i64 40]) ∧ Below w.heap.size w w' := by
  have HG := Lib.hid (fun w (ht : Tab w) => Place_any l w ht hl)
  rw [hE.out, hN.out] at HG
  have HF := Lib.hid (fun w => first_M l m w h0 (by have := hm5.out; omega) hl (by have := hm5.out; omega))
  have HK := hK.out
  unfold umK at HK
  generalize fstB (l.headD 0) (m.headD 0) = x at HF HK
  have HW := Lib.hid (fun w => wideQ x.toNat k w x.toNat_lt (Lib.hid HK))
  have hk4 : k ≤ 4 := by omega
  replace HK := Lib.hid HK
  have HM := Lib.hid (fun w => turned_M l m p k w h0 hp hk4 (by omega) hm5.out hl)
  have HG2 := Lib.hid (fun w (ht : Tab w) => Get_any (turnM l m p k) w ht (by rw [turnM_len l m p k hp (by omega) hm5.out hk4]; exact hl))
  rw [hB.out] at HG2
  have hol : (turnM l m p k).length ≤ 140737488351232 := by rw [turnM_len l m p k hp (by omega) hm5.out hk4]; exact hl
  generalize turnM l m p k = o at *
  generalize gHd o = h at HG2
  generalize gRs o = rs at HG2
  obtain ⟨lg, sp, ph, ty, ve, dc, sc, tk, le, wi, nu⟩ := h
  have hlt := ht.lt
  have HT := Lib.hid ht
  clear ht
  go_enter Tryz.func99, Tryz.ntmps99
  go_wp2_with fail
  refine (HG.out _ HT.out).mono ?_
  rintro e w1 ⟨rfl, hb1⟩
  replace HT := Lib.hid (HT.out.below hb1 hlt)
  go_wp2_with fail
  refine (HF.out _).mono ?_
  rintro e w2 ⟨rfl, hb2⟩
  have hb12 := hb1.trans (hb2.mono hb1.size)
  replace HT := Lib.hid (HT.out.below hb2 (Nat.lt_of_lt_of_le hlt hb1.size))
  clear hb1 hb2
  go_wp2_with fail
  refine (HW.out _).mono ?_
  rintro e w3 ⟨rfl, rfl⟩
  have hs2 : ¬ ((l.length : Nat) : Int) - (p : Int) < (k : Int) := by omega
  go_wp2_with fail
  refine (HM.out _).mono ?_
  rintro e w4 ⟨rfl, hb4⟩
  have hb := hb12.trans (hb4.mono hb12.size)
  replace HT := Lib.hid (HT.out.below hb4 (Nat.lt_of_lt_of_le hlt hb12.size))
  clear hb12 hb4
  go_wp2_with fail
  refine (HG2.out _ HT.out).mono ?_
  rintro e w5 ⟨rfl, hb5⟩
  have hb6 := hb.trans (hb5.mono hb.size)
  go_wp2
  go_ret2
  exact ⟨rfl, hb6.alloc hb6.size _⟩
set_option maxHeartbeats 2000000 in
theorem Unmask_ok (l m : List UInt8) (p k : Nat) (w : World) (ht : Tab w) (hm : (((m.length : Nat) : Int) != 5) = false) (hm5 : Hid (m.length = 5)) (hl : l.length ≤ 140737488351232) (h0 : 0 < l.length) (hE : Hid (plE l = 0)) (hN : Hid (plN l = (p : Int))) (hK : Hid (umK l m = k)) (hp : 1 ≤ p) (hpl : p ≤ l.length) (hs : p + k ≤ l.length) (hB : Hid (gEr (turnM l m p k) = 0)) :
    Calls Tryz.prog 99 #[.string ⟨l.toArray⟩, .string ⟨m.toArray⟩] w fun e w' => e = .returned (.tuple #[.string ⟨(turnM l m p k).toArray⟩, .int .i64 0]) ∧ Below w.heap.size w w' := by
  have HG := Lib.hid (fun w (ht : Tab w) => Place_any l w ht hl)
  rw [hE.out, hN.out] at HG
  have HF := Lib.hid (fun w => first_M l m w h0 (by have := hm5.out; omega) hl (by have := hm5.out; omega))
  have HK := hK.out
  unfold umK at HK
  generalize fstB (l.headD 0) (m.headD 0) = x at HF HK
  have HW := Lib.hid (fun w => wideQ x.toNat k w x.toNat_lt (Lib.hid HK))
  have hk4 : k ≤ 4 := by omega
  replace HK := Lib.hid HK
  have HM := Lib.hid (fun w => turned_M l m p k w h0 hp hk4 (by omega) hm5.out hl)
  have HG2 := Lib.hid (fun w (ht : Tab w) => Get_any (turnM l m p k) w ht (by rw [turnM_len l m p k hp (by omega) hm5.out hk4]; exact hl))
  rw [hB.out] at HG2
  have hol : (turnM l m p k).length ≤ 140737488351232 := by rw [turnM_len l m p k hp (by omega) hm5.out hk4]; exact hl
  generalize turnM l m p k = o at *
  generalize gHd o = h at HG2
  generalize gRs o = rs at HG2
  obtain ⟨lg, sp, ph, ty, ve, dc, sc, tk, le, wi, nu⟩ := h
  have hlt := ht.lt
  have HT := Lib.hid ht
  clear ht
  go_enter Tryz.func99, Tryz.ntmps99
  go_wp2_with fail
  refine (HG.out _ HT.out).mono ?_
  rintro e w1 ⟨rfl, hb1⟩
  replace HT := Lib.hid (HT.out.below hb1 hlt)
  go_wp2_with fail
  refine (HF.out _).mono ?_
  rintro e w2 ⟨rfl, hb2⟩
  have hb12 := hb1.trans (hb2.mono hb1.size)
  replace HT := Lib.hid (HT.out.below hb2 (Nat.lt_of_lt_of_le hlt hb1.size))
  clear hb1 hb2
  go_wp2_with fail
  refine (HW.out _).mono ?_
  rintro e w3 ⟨rfl, rfl⟩
  have hs2 : ¬ ((l.length : Nat) : Int) - (p : Int) < (k : Int) := by omega
  go_wp2_with fail
  refine (HM.out _).mono ?_
  rintro e w4 ⟨rfl, hb4⟩
  have hb := hb12.trans (hb4.mono hb12.size)
  replace HT := Lib.hid (HT.out.below hb4 (Nat.lt_of_lt_of_le hlt hb12.size))
  clear hb12 hb4
  go_wp2_with fail
  refine (HG2.out _ HT.out).mono ?_
  rintro e w5 ⟨rfl, hb5⟩
  have hb6 := hb.trans (hb5.mono hb.size)
  go_wp2
  go_ret2
  exact ⟨rfl, hb6.alloc hb6.size _⟩
theorem Unmask_any (l m : List UInt8) (w : World) (ht : Tab w) (hl : l.length ≤ 140737488351232) :
    Calls Tryz.prog 99 #[.string ⟨l.toArray⟩, .string ⟨m.toArray⟩] w fun e w' => e = .returned (.tuple #[.string ⟨(umL l m).toArray⟩, .int .i64 (umE l m)]) ∧ Below w.heap.size w w' := by
  by_cases h5 : m.length = 5
  · have e1 : umE l m = match umO l m with
      | some x => 0
      | none => 40 := if_pos h5
    have e2 : umL l m = match umO l m with
      | some x => x
      | none => [] := if_pos h5
    cases l with
    | nil =>
      have e3 : umO [] m = none := rfl
      rw [e1, e2, e3]
      exact Unmask_none [] m w ht (ne5 h5) hl (Lib.hid rfl)
    | cons b t =>
      cases ha : ahO (b :: t) with
      | none =>
        have e3 : umO (b :: t) m = none := by unfold umO; rw [ha]
        rw [e1, e2, e3]
        exact Unmask_none _ m w ht (ne5 h5) hl (Lib.hid (by unfold plE; rw [ha]))
      | some p =>
        obtain ⟨pre, hf⟩ := ahO_local ha
        have hlen := len_parts hf
        have hE : plE (b :: t) = 0 := by unfold plE; rw [ha]
        have hN : plN (b :: t) = ((1 + pre.length : Nat) : Int) := by unfold plN; rw [ha]; simp only; omega
        have hpl : (b :: t).length - p.re.length = 1 + pre.length := by omega
        have h0 : 0 < (b :: t).length := by simp
        generalize b :: t = l at *
        have e3 : umO l m = if p.re.length < umK l m then none else match getO (turnM l m (1 + pre.length) (umK l m)) with
          | none => none
          | some _ => some (turnM l m (1 + pre.length) (umK l m)) := by unfold umO; rw [ha]; simp only; rw [hpl]; cases getO (turnM l m (1 + pre.length) (umK l m)) <;> rfl
        by_cases hs : p.re.length < umK l m
        · rw [e1, e2, e3, if_pos hs]
          exact Unmask_short l m (1 + pre.length) (umK l m) w ht (ne5 h5) (Lib.hid h5) hl h0 (Lib.hid hE) (Lib.hid hN) (Lib.hid rfl) (by omega) (by omega) (by omega)
        · rw [e1, e2, e3, if_neg hs]
          cases hg : getO (turnM l m (1 + pre.length) (umK l m)) with
          | none => exact Unmask_bad l m (1 + pre.length) (umK l m) w ht (ne5 h5) (Lib.hid h5) hl h0 (Lib.hid hE) (Lib.hid hN) (Lib.hid rfl) (by omega) (by omega) (by omega) (Lib.hid (by unfold gEr; rw [hg]))
          | some x => exact Unmask_ok l m (1 + pre.length) (umK l m) w ht (ne5 h5) (Lib.hid h5) hl h0 (Lib.hid hE) (Lib.hid hN) (Lib.hid rfl) (by omega) (by omega) (by omega) (Lib.hid (by unfold gEr; rw [hg]))
  · have e1 : umE l m = 1 := if_neg h5
    have e2 : umL l m = [] := if_neg h5
    rw [e1, e2]
    exact Unmask_five l m w (ne5' h5)
end Go.Proofs.YtagbkmoahflfdaaGreatDoor.Hd
namespace Go.Proofs.YtagbkmoahflfdaaGreatDoor.Hd
set_option maxRecDepth 20000
open Go.RowKit Vm
set_option linter.unusedVariables false
set_option linter.unusedSimpArgs false

/-- A header's bytes. -/
def putL (lg sp ph : Bool) (ty ve : Int) (dc sc tk : List UInt8) (le wi nu : Int) : List UInt8 :=
  by1 (fbN lg sp ph ty wi) :: (if lg then lpL ty ve dc sc tk le else dc) ++ fx nu.toNat wi.toNat
theorem may_parts {lg sp ph : Bool} {ty ve : Int} {dc sc tk : List UInt8} {le wi nu : Int} (h : mayB lg sp ph ty ve dc sc tk le wi nu = true) : keptB lg sp ph ty ve sc tk le = true ∧ bndB lg ty dc sc tk le = true ∧ 1 ≤ wi ∧ wi ≤ 4 ∧ nu < 256 ^ wi.toNat := by
  unfold mayB at h
  simp only [Bool.and_eq_true] at h
  have h2 := h.2
  unfold numB at h2
  have := of_decide_eq_true h2
  exact ⟨h.1.1, h.1.2, this⟩
theorem bnd_parts {ty : Int} {dc sc tk : List UInt8} {le : Int} (h : bndB true ty dc sc tk le = true) : 0 ≤ ty ∧ ty ≤ 2 ∧ dc.length ≤ 20 ∧ sc.length ≤ 20 ∧ tk.length ≤ 1000 ∧ le ≤ 4611686018427387903 := by
  unfold bndB at h; rw [if_pos rfl] at h; exact of_decide_eq_true h
theorem bnd_short {ty : Int} {dc sc tk : List UInt8} {le : Int} (h : bndB false ty dc sc tk le = true) : dc.length = 8 := by
  unfold bndB at h; rw [if_neg (by decide)] at h; exact of_decide_eq_true h
theorem Put_yes (lg sp ph : Bool) (ty ve : Int) (dc sc tk : List UInt8) (le wi nu : Int) (w : World) (ht : Tab w) (wty : -9223372036854775808 ≤ ty) (wty2 : ty ≤ 9223372036854775807) (wve : 0 ≤ ve) (wve2 : ve ≤ 4294967295) (wdc : dc.length ≤ 9223372036854775807) (wsc : sc.length ≤ 9223372036854775807) (wtk : tk.length ≤ 9223372036854775807) (wle : 0 ≤ le) (wle2 : le ≤ 18446744073709551615) (wwi : -9223372036854775808 ≤ wi) (wwi2 : wi ≤ 9223372036854775807) (wnu : 0 ≤ nu) (wnu2 : nu ≤ 18446744073709551615) (EM : mayB lg sp ph ty ve dc sc tk le wi nu = true) :
    Calls Tryz.prog 54 #[.agg #[.bool lg, .bool sp, .bool ph, .int .i64 ty, .int .u32 ve, .string ⟨dc.toArray⟩, .string ⟨sc.toArray⟩, .string ⟨tk.toArray⟩, .int .u64 le, .int .i64 wi, .int .u64 nu]] w fun e w' => e = .returned (.tuple #[.string ⟨(putL lg sp ph ty ve dc sc tk le wi nu).toArray⟩, .int .i64 0]) ∧ Below w.heap.size w w' := by
  have hp := may_parts EM
  cases lg with
  | true =>
    have hb := bnd_parts hp.2.1
    exact put_l sp ph ty ve dc sc tk le wi nu w ht wty wty2 wve wve2 wdc wsc wtk wle wle2 wwi wwi2 wnu wnu2 (Lib.hid EM) hp.2.2.1 hp.2.2.2.1 hb.1 hb.2.1 hb.2.2.1 hb.2.2.2.1 hb.2.2.2.2.1
  | false =>
    have hb := bnd_short hp.2.1
    exact put_s sp ph ty ve dc sc tk le wi nu w ht wty wty2 wve wve2 wdc wsc wtk wle wle2 wwi wwi2 wnu wnu2 (Lib.hid EM) hp.2.2.1 hp.2.2.2.1 (by omega)
end Go.Proofs.YtagbkmoahflfdaaGreatDoor.Hd
namespace Go.Proofs.YtagbkmoahflfdaaGreatDoor.Hd
set_option maxRecDepth 20000
open Go.RowKit Vm
set_option linter.unusedVariables false

theorem by1_nat {n : Nat} (h : n < 256) : (by1 n).toNat = n := by
  show (UInt8.ofNat n).toNat = n
  rw [UInt8.toNat_ofNat']; omega
theorem bk_fx_take (n k : Nat) (s : List UInt8) (h : n < 256 ^ k) : bk ((fx n k ++ s).take k) = n := by
  have e : (fx n k).length = k := fx_length n k
  rw [List.take_append_of_le_length (by omega), List.take_of_length_le (by omega), bk_fx, Nat.mod_eq_of_lt h]
theorem drop_fx (n k : Nat) (s : List UInt8) : (fx n k ++ s).drop k = s := by
  have e : (fx n k).length = k := fx_length n k
  rw [List.drop_append_of_le_length (by omega), List.drop_of_length_le (by omega), List.nil_append]
theorem idO_put (d r : List UInt8) (h : d.length ≤ 20) : idO (by1 d.length :: (d ++ r)) = some (d, r) := by
  have e := by1_nat (n := d.length) (by omega)
  simp only [idO]
  rw [e, if_pos ⟨h, by simp⟩]
  simp
theorem vO_put (n : Nat) (r : List UInt8) (h : n < 4611686018427387904) : vO (ps n ++ r) = some (n, r) := by
  have hp := pl_lt n (by omega)
  rw [(ps_ok hp).1]
  have hg := back_get n hp r
  by_cases hk : gk (pt n ++ r) ≤ (pt n ++ r).length
  · have ho := g_ok hk
    unfold vO
    rw [if_pos hk, ← ho.1, ← ho.2.1, hg.1, hg.2.1]
  · have ho := g_no (l := pt n ++ r) (by omega)
    rw [ho.2.2] at hg
    exact absurd hg.2.2 (by decide)
theorem tokO_put (t r : List UInt8) (h : t.length ≤ 1000) : tokO 0 (ps t.length ++ (t ++ r)) = some (t, r) := by
  unfold tokO
  rw [if_pos rfl, vO_put t.length (t ++ r) (by omega)]
  simp only
  rw [if_pos ⟨h, by simp⟩]
  simp
theorem pow_le4 {wi nu : Int} (h1 : 1 ≤ wi) (h2 : wi ≤ 4) (h0 : 0 ≤ nu) (h3 : nu < 256 ^ wi.toNat) : nu.toNat < 256 ^ wi.toNat := by
  have : ((256 ^ wi.toNat : Nat) : Int) = (256 : Int) ^ wi.toNat := by rw [Int.natCast_pow]; rfl
  omega
/-- What stands ahead of the number of a header that is put. -/
def preOf (lg sp : Bool) (ty ve : Int) (dc sc tk : List UInt8) (le : Int) (re : List UInt8) : Pre := ⟨lg, if lg then false else sp, ty.toNat, ve.toNat, dc, sc, tk, le.toNat, re⟩
theorem fb_long {ty wi : Int} (h0 : 0 ≤ ty) (h1 : ty ≤ 2) (h2 : 1 ≤ wi) (h3 : wi ≤ 4) (sp ph : Bool) : fbN true sp ph ty wi < 256 ∧ fbN true sp ph ty wi / 64 % 2 = 1 ∧ 128 ≤ fbN true sp ph ty wi ∧ fbN true sp ph ty wi / 16 % 4 = ty.toNat ∧ fbN true sp ph ty wi / 4 % 4 = 0 ∧ 1 + fbN true sp ph ty wi % 4 = wi.toNat := by
  have e : fbN true sp ph ty wi = (191 + wi + 16 * ty).toNat := rfl
  rw [e]; omega
theorem fb_short {wi : Int} (h2 : 1 ≤ wi) (h3 : wi ≤ 4) (sp ph : Bool) (ty : Int) : fbN false sp ph ty wi < 128 ∧ fbN false sp ph ty wi / 64 % 2 = 1 ∧ decide (fbN false sp ph ty wi / 32 % 2 = 1) = sp ∧ decide (fbN false sp ph ty wi / 4 % 2 = 1) = ph ∧ fbN false sp ph ty wi / 8 % 4 = 0 ∧ 1 + fbN false sp ph ty wi % 4 = wi.toNat := by
  have hw : wi = 1 ∨ wi = 2 ∨ wi = 3 ∨ wi = 4 := by omega
  have e : fbN false sp ph ty wi = fbN false sp ph 0 wi := rfl
  rw [e]
  clear e h2 h3 ty
  cases sp <;> cases ph <;> rcases hw with rfl | rfl | rfl | rfl <;> decide
theorem ah_put {lg sp ph : Bool} {ty ve : Int} {dc sc tk : List UInt8} {le wi nu : Int} (EM : mayB lg sp ph ty ve dc sc tk le wi nu = true) (h0 : 0 ≤ ve) (h1 : ve ≤ 4294967295) (h2 : 0 ≤ le) (s : List UInt8) :
    ahO (putL lg sp ph ty ve dc sc tk le wi nu ++ s) = some (preOf lg sp ty ve dc sc tk le (fx nu.toNat wi.toNat ++ s)) := by
  obtain ⟨hk, hb, w1, w2, w3⟩ := may_parts EM
  cases lg with
  | true =>
    obtain ⟨b1, b2, b3, b4, b5, b6⟩ := bnd_parts hb
    obtain ⟨f1, f2, f3, f4, f5, f6⟩ := fb_long b1 b2 w1 w2 sp ph
    have hbb := by1_nat f1
    have ht : ty ≠ 0 → tk = [] := by
      unfold keptB at hk; rw [if_pos rfl] at hk; exact (of_decide_eq_true hk).2.2
    unfold putL preOf
    rw [if_pos rfl, if_pos rfl]
    have e : by1 (fbN true sp ph ty wi) :: lpL ty ve dc sc tk le ++ fx nu.toNat wi.toNat ++ s = by1 (fbN true sp ph ty wi) :: (fx ve.toNat 4 ++ (by1 dc.length :: (dc ++ (by1 sc.length :: (sc ++ ((if ty = 0 then ps tk.length ++ tk else []) ++ (ps le.toNat ++ (fx nu.toNat wi.toNat ++ s)))))))) := by
      unfold lpL; simp
    rw [e]
    simp only [ahO]
    rw [hbb, if_neg (by omega), if_neg (by omega)]
    unfold ahL
    rw [hbb]
    have l4 : (fx ve.toNat 4).length = 4 := fx_length _ _
    rw [if_neg (by simp only [List.length_append, l4]; omega), drop_fx, idO_put _ _ b3]
    simp only
    rw [idO_put _ _ b4]
    simp only
    rw [f4]
    have etok : tokO ty.toNat ((if ty = 0 then ps tk.length ++ tk else []) ++ (ps le.toNat ++ (fx nu.toNat wi.toNat ++ s))) = some (tk, ps le.toNat ++ (fx nu.toNat wi.toNat ++ s)) := by
      by_cases h : ty = 0
      · rw [if_pos h, h, List.append_assoc]; exact tokO_put _ _ b5
      · rw [if_neg h, List.nil_append, ht h]; unfold tokO; rw [if_neg (by omega)]
    rw [etok]
    simp only
    rw [vO_put _ _ (by omega), bk_fx_take _ _ _ (show ve.toNat < 256 ^ 4 by omega)]
  | false =>
    have b1 := bnd_short hb
    obtain ⟨f1, f2, f3, f4, f5, f6⟩ := fb_short w1 w2 sp ph ty
    have hbb := by1_nat (n := fbN false sp ph ty wi) (by omega)
    obtain ⟨k1, k2, k3, k4, k5⟩ : ty = 0 ∧ ve = 0 ∧ sc = [] ∧ tk = [] ∧ le = 0 := by
      unfold keptB at hk; rw [if_neg (by decide)] at hk; exact of_decide_eq_true hk
    unfold putL preOf
    rw [if_neg (by decide), if_neg (by decide)]
    rw [List.cons_append, List.cons_append, List.append_assoc]
    simp only [ahO]
    rw [hbb, if_neg (by omega), if_pos f1, if_neg (by simp; omega), f3, List.take_append_of_le_length (by omega), List.drop_append_of_le_length (by omega), List.take_of_length_le (by omega), List.drop_of_length_le (by omega), List.nil_append, k1, k2, k3, k4, k5]
    rfl
theorem get_put {lg sp ph : Bool} {ty ve : Int} {dc sc tk : List UInt8} {le wi nu : Int} (EM : mayB lg sp ph ty ve dc sc tk le wi nu = true) (h0 : 0 ≤ ve) (h1 : ve ≤ 4294967295) (h2 : 0 ≤ le) (h3 : 0 ≤ nu) (s : List UInt8) :
    getO (putL lg sp ph ty ve dc sc tk le wi nu ++ s) = some (⟨lg, sp, ph, ty, ve, dc, sc, tk, le, wi, nu⟩, s) := by
  have ha := ah_put EM h0 h1 h2 s
  obtain ⟨hk, hb, w1, w2, w3⟩ := may_parts EM
  have hn := pow_le4 w1 w2 h3 w3
  have ep : putL lg sp ph ty ve dc sc tk le wi nu ++ s = by1 (fbN lg sp ph ty wi) :: ((if lg then lpL ty ve dc sc tk le else dc) ++ fx nu.toNat wi.toNat ++ s) := by unfold putL; simp
  rw [ep] at ha ⊢
  have eg : ∀ b r p, ahO (b :: r) = some p → getO (b :: r) = if p.re.length < wideB b ∨ badB b = true then none else some (hdr b p, p.re.drop (wideB b)) := fun b r p h => by simp only [getO, h]
  rw [eg _ _ _ ha]
  have l4 : (fx nu.toNat wi.toNat).length = wi.toNat := fx_length _ _
  cases lg with
  | true =>
    obtain ⟨b1, b2, b3, b4, b5, b6⟩ := bnd_parts hb
    obtain ⟨f1, f2, f3, f4, f5, f6⟩ := fb_long b1 b2 w1 w2 sp ph
    have hbb := by1_nat f1
    obtain ⟨k1, k2, _⟩ : sp = false ∧ ph = false ∧ (ty ≠ 0 → tk = []) := by
      unfold keptB at hk; rw [if_pos rfl] at hk; exact of_decide_eq_true hk
    have ew : wideB (by1 (fbN true sp ph ty wi)) = wi.toNat := by unfold wideB; rw [hbb]; exact f6
    have eb : badB (by1 (fbN true sp ph ty wi)) = false := by unfold badB; rw [hbb, if_neg (by omega), f5]; rfl
    rw [ew, eb, if_neg (by simp [preOf, l4]; omega)]
    unfold hdr preOf
    rw [ew]
    simp only [drop_fx, bk_fx_take _ _ _ hn]
    rw [k1, k2]
    simp only [Option.some.injEq, Prod.mk.injEq, Hdr.mk.injEq]
    simp
    omega
  | false =>
    obtain ⟨f1, f2, f3, f4, f5, f6⟩ := fb_short w1 w2 sp ph ty
    have hbb := by1_nat (n := fbN false sp ph ty wi) (by omega)
    obtain ⟨k1, k2, k3, k4, k5⟩ : ty = 0 ∧ ve = 0 ∧ sc = [] ∧ tk = [] ∧ le = 0 := by
      unfold keptB at hk; rw [if_neg (by decide)] at hk; exact of_decide_eq_true hk
    have ew : wideB (by1 (fbN false sp ph ty wi)) = wi.toNat := by unfold wideB; rw [hbb]; exact f6
    have eb : badB (by1 (fbN false sp ph ty wi)) = false := by unfold badB; rw [hbb, if_pos f1, f5]; rfl
    rw [ew, eb, if_neg (by simp [preOf, l4]; omega)]
    unfold hdr preOf
    rw [ew, hbb, f4]
    simp only [drop_fx, bk_fx_take _ _ _ hn]
    rw [k1, k2, k3, k4, k5]
    simp only [Option.some.injEq, Prod.mk.injEq, Hdr.mk.injEq]
    simp
    omega
/-- A mask on a first byte turns none of its highest bits; laid on again it comes to nothing. -/
theorem hid_lt (c b : UInt8) : (c &&& hidB b).toNat < (if b.toNat < 128 then 32 else 16) := by
  rw [UInt8.toNat_and]
  unfold hidB
  split
  · rw [if_neg (by omega)]
    exact Nat.lt_of_le_of_lt Nat.and_le_right (by decide)
  · rw [if_pos (by omega)]
    exact Nat.lt_of_le_of_lt Nat.and_le_right (by decide)
theorem xor_high (a c k : Nat) (h : c < 2 ^ k) : (a ^^^ c) / 2 ^ k = a / 2 ^ k := by
  rw [Nat.xor_div_two_pow, Nat.div_eq_of_lt h, Nat.xor_zero]
theorem fst_high (b c : UInt8) : if b.toNat < 128 then (fstB b c).toNat / 32 = b.toNat / 32 else (fstB b c).toNat / 16 = b.toNat / 16 := by
  have h := hid_lt c b
  unfold fstB
  rw [UInt8.toNat_xor]
  split
  · rename_i hb
    rw [if_pos hb] at h
    exact xor_high b.toNat _ 5 h
  · rename_i hb
    rw [if_neg hb] at h
    exact xor_high b.toNat _ 4 h
theorem fst_hid (b c : UInt8) : hidB (fstB b c) = hidB b := by
  have h := fst_high b c
  have hb := b.toNat_lt
  unfold hidB
  split at h
  · rw [if_neg (by omega), if_neg (by omega)]
  · rw [if_pos (by omega), if_pos (by omega)]
theorem fst_fst (b c : UInt8) : fstB (fstB b c) c = b := by
  have h := fst_hid b c
  have e : fstB (fstB b c) c = fstB b c ^^^ (c &&& hidB (fstB b c)) := rfl
  rw [e, h]
  unfold fstB
  rw [UInt8.xor_assoc, UInt8.xor_self, UInt8.xor_zero]
theorem xorL_xorL (a m : List UInt8) (h : a.length ≤ m.length) : xorL (xorL a m) m = a := by
  unfold xorL
  induction a generalizing m with
  | nil => simp
  | cons x a ih =>
    cases m with
    | nil => simp at h
    | cons y m =>
      simp only [List.zipWith_cons_cons]
      rw [ih m (by simpa using h), UInt8.xor_assoc, UInt8.xor_self, UInt8.xor_zero]
theorem xorL_length (a m : List UInt8) (h : a.length ≤ m.length) : (xorL a m).length = a.length := by unfold xorL; simp; omega
/-- Bytes that begin by a header, in parts. -/
structure Parts (l : List UInt8) (b : UInt8) (pre num rest : List UInt8) (p : Pre) : Prop where
  eq : l = b :: (pre ++ (num ++ rest))
  ah : ahO l = some p
  re : p.re = num ++ rest
  fit : Fits b (pre ++ (num ++ rest)) p pre
  wide : num.length = wideB b
  bad : badB b = false
theorem parts_of {l : List UInt8} {x : Hdr × List UInt8} (h : getO l = some x) : ∃ b pre num p, Parts l b pre num x.2 p ∧ x.1 = hdr b p := by
  obtain ⟨b, t, p, pre, e, ha, hf, hb, hw, hx⟩ := get_parts h
  have hx2 : x.2 = p.re.drop (wideB b) := by rw [hx]
  have hre : p.re = p.re.take (wideB b) ++ x.2 := by rw [hx2, List.take_append_drop]
  refine ⟨b, pre, p.re.take (wideB b), p, ⟨?_, ha, hre, ?_, by rw [List.length_take]; omega, hb⟩, by rw [hx]⟩
  · rw [e, hf.cut, ← hre]
  · rw [← hre, ← hf.cut]; exact hf
theorem wide_4 (b : UInt8) : 1 ≤ wideB b ∧ wideB b ≤ 4 := by unfold wideB; omega
theorem turn_parts {l m : List UInt8} {b : UInt8} {pre num rest : List UInt8} {p : Pre} (h : Parts l b pre num rest p) (hm : m.length = 5) :
    turnM l m (1 + pre.length) (wideB b) = fstB b (m.headD 0) :: (pre ++ (xorL num (m.drop 1) ++ rest)) := by
  have hw := h.wide
  unfold turnM turnL
  rw [h.eq]
  have e1 : ((b :: (pre ++ (num ++ rest))).take (1 + pre.length)).drop 1 = pre := by
    rw [Nat.add_comm 1]; simp
  have e2 : ((b :: (pre ++ (num ++ rest))).drop (1 + pre.length)).take (wideB b) = num := by
    rw [Nat.add_comm 1]; simp [← hw]
  have e3 : (b :: (pre ++ (num ++ rest))).drop (1 + pre.length + wideB b) = rest := by
    rw [show 1 + pre.length + wideB b = (pre.length + wideB b) + 1 by omega, List.drop_succ_cons, ← List.drop_drop]; simp [← hw]
  rw [e1, e2, e3]
  simp
theorem turn_ah {l m : List UInt8} {b : UInt8} {pre num rest : List UInt8} {p : Pre} (h : Parts l b pre num rest p) (c : UInt8) (re : List UInt8) :
    ahO (fstB b c :: (pre ++ re)) = some ⟨p.lg, p.sp, p.ty, p.ve, p.dc, p.sc, p.tk, p.le, re⟩ := h.fit.go (fstB b c) re (fst_high b c)
theorem msk_parts {l m : List UInt8} {x : Hdr × List UInt8} {b : UInt8} {pre num : List UInt8} {p : Pre} (hg : getO l = some x) (h : Parts l b pre num x.2 p) (hx : x.1 = hdr b p) (hm : m.length = 5) :
    mskE l m = 0 ∧ mskL l m = fstB b (m.headD 0) :: (pre ++ (xorL num (m.drop 1) ++ x.2)) := by
  have hl : l.length = 1 + pre.length + num.length + x.2.length := by rw [h.eq]; simp; omega
  have hw : x.1.wi = ((wideB b : Nat) : Int) := by rw [hx]; rfl
  have hw2 := h.wide
  constructor
  · unfold mskE; rw [if_pos hm]; unfold gEr; rw [hg]
  · rw [← turn_parts h hm]
    unfold mskL
    rw [if_pos hm, hg]
    simp only
    rw [hw, Int.toNat_natCast]
    congr 1
    omega
/-- What is masked is unmasked by the same mask. -/
theorem um_parts {l m : List UInt8} {x : Hdr × List UInt8} {b : UInt8} {pre num : List UInt8} {p : Pre} (hg : getO l = some x) (h : Parts l b pre num x.2 p) (hm : m.length = 5) :
    umE (fstB b (m.headD 0) :: (pre ++ (xorL num (m.drop 1) ++ x.2))) m = 0 ∧ umL (fstB b (m.headD 0) :: (pre ++ (xorL num (m.drop 1) ++ x.2))) m = l := by
  have hmd : (m.drop 1).length = 4 := by rw [List.length_drop]; omega
  have hw := h.wide
  have hw4 := wide_4 b
  have hxl := xorL_length num (m.drop 1) (by omega)
  have ha := turn_ah (m := m) h (m.headD 0) (xorL num (m.drop 1) ++ x.2)
  have hk : umK (fstB b (m.headD 0) :: (pre ++ (xorL num (m.drop 1) ++ x.2))) m = wideB b := by
    unfold umK
    rw [show (fstB b (m.headD 0) :: (pre ++ (xorL num (m.drop 1) ++ x.2))).headD 0 = fstB b (m.headD 0) from rfl, fst_fst]
    rfl
  have ht : turnM (fstB b (m.headD 0) :: (pre ++ (xorL num (m.drop 1) ++ x.2))) m (1 + pre.length) (wideB b) = l := by
    unfold turnM turnL
    rw [show (fstB b (m.headD 0) :: (pre ++ (xorL num (m.drop 1) ++ x.2))).headD 0 = fstB b (m.headD 0) from rfl, fst_fst]
    have e1 : ((fstB b (m.headD 0) :: (pre ++ (xorL num (m.drop 1) ++ x.2))).take (1 + pre.length)).drop 1 = pre := by rw [Nat.add_comm 1]; simp
    have e2 : ((fstB b (m.headD 0) :: (pre ++ (xorL num (m.drop 1) ++ x.2))).drop (1 + pre.length)).take (wideB b) = xorL num (m.drop 1) := by rw [Nat.add_comm 1, ← hw, ← hxl]; simp [-List.drop_one]
    have e3 : (fstB b (m.headD 0) :: (pre ++ (xorL num (m.drop 1) ++ x.2))).drop (1 + pre.length + wideB b) = x.2 := by
      rw [show 1 + pre.length + wideB b = (pre.length + wideB b) + 1 by omega, List.drop_succ_cons, ← List.drop_drop, ← hw, ← hxl]; simp [-List.drop_one]
    rw [e1, e2, e3, xorL_xorL _ _ (by omega), h.eq]
    simp
  have ho : umO (fstB b (m.headD 0) :: (pre ++ (xorL num (m.drop 1) ++ x.2))) m = some l := by
    unfold umO
    rw [ha]
    simp only
    have hlen : (fstB b (m.headD 0) :: (pre ++ (xorL num (m.drop 1) ++ x.2))).length - (xorL num (m.drop 1) ++ x.2).length = 1 + pre.length := by simp; omega
    rw [hk, hlen, ht, hg, if_neg (by rw [List.length_append]; omega)]
  unfold umE umL
  rw [if_pos hm, if_pos hm, ho]
  exact ⟨rfl, rfl⟩
end Go.Proofs.YtagbkmoahflfdaaGreatDoor.Hd
namespace Go.Proofs.YtagbkmoahflfdaaGreatDoor.Pn
set_option maxRecDepth 20000
open Go.RowKit
set_option linter.unusedVariables false

/-- A width, brought into 1 to 4. -/
def cl (k : Int) : Int := if k < 1 then 1 else if 4 < k then 4 else k
/-- The window of a width. -/
def wn (c : Int) : Int := ((256 ^ c.toNat : Nat) : Int)
theorem cl_low {k : Int} (h : k < 1) : cl k = 1 := by unfold cl; rw [if_pos h]
theorem cl_high {k : Int} (h : 4 < k) : cl k = 4 := by unfold cl; rw [if_neg (by omega), if_pos h]
theorem cl_mid {k : Int} (h : 1 ≤ k) (h4 : k ≤ 4) : cl k = k := by unfold cl; rw [if_neg (by omega), if_neg (by omega)]
theorem cl_range (k : Int) : 1 ≤ cl k ∧ cl k ≤ 4 := by unfold cl; split <;> (try split) <;> omega
theorem wn_1 : wn 1 = 256 := by decide
theorem wn_2 : wn 2 = 65536 := by decide
theorem wn_3 : wn 3 = 16777216 := by decide
theorem wn_4 : wn 4 = 4294967296 := by decide
theorem four {c : Int} (h : 1 ≤ c) (h4 : c ≤ 4) : c = 1 ∨ c = 2 ∨ c = 3 ∨ c = 4 := by omega
theorem wn_cases {c : Int} (h : 1 ≤ c) (h4 : c ≤ 4) : wn c = 256 ∨ wn c = 65536 ∨ wn c = 16777216 ∨ wn c = 4294967296 := by
  rcases four h h4 with rfl | rfl | rfl | rfl
  · exact .inl wn_1
  · exact .inr (.inl wn_2)
  · exact .inr (.inr (.inl wn_3))
  · exact .inr (.inr (.inr wn_4))
theorem wn_range {c : Int} (h : 1 ≤ c) (h4 : c ≤ 4) : 256 ≤ wn c ∧ wn c ≤ 4294967296 := by
  have := wn_cases h h4; omega

theorem bcell {W w1 : World} (hb : Below W.heap.size W w1) : (∀ b o, b < W.heap.size → w1.cell? ⟨b, o, none⟩ = W.cell? ⟨b, o, none⟩) ∧ (∀ b o, b < W.heap.size → w1.frozen? ⟨b, o, none⟩ = W.frozen? ⟨b, o, none⟩) :=
  ⟨fun b o h => hb.cell (p := ⟨b, o, none⟩) h, fun b o h => hb.frozen (p := ⟨b, o, none⟩) h⟩

set_option maxHeartbeats 400000 in
theorem windowOf_low (k : Int) (w : World) (h0 : k < 1) (h1 : -9223372036854775808 ≤ k) :
    Calls Tryz.prog 83 #[.int .i64 k] w fun e w' => e = .returned (.agg #[.int .i64 1]) ∧ Below w.heap.size w w' := by
  go_enter Tryz.func83, Tryz.ntmps83
  go_wp2
  exact bodyPost_ret (v := .agg #[.int .i64 1]) (by simp [results, Tryz.results83, go_sem]; try omega) rfl ⟨rfl, (Below.refl _ _).alloc (Nat.le_refl _) _⟩
set_option maxHeartbeats 400000 in
theorem windowOf_mid (k : Int) (w : World) (h0 : 1 ≤ k) (h1 : k ≤ 4) :
    Calls Tryz.prog 83 #[.int .i64 k] w fun e w' => e = .returned (.agg #[.int .i64 k]) ∧ Below w.heap.size w w' := by
  go_enter Tryz.func83, Tryz.ntmps83
  go_wp2
  all_goals exact bodyPost_ret (v := .agg #[.int .i64 _]) (by simp [results, Tryz.results83, go_sem]; try omega) rfl ⟨rfl, (Below.refl _ _).alloc (Nat.le_refl _) _⟩
set_option maxHeartbeats 400000 in
theorem windowOf_high (k : Int) (w : World) (h0 : 4 < k) (h1 : k ≤ 9223372036854775807) :
    Calls Tryz.prog 83 #[.int .i64 k] w fun e w' => e = .returned (.agg #[.int .i64 4]) ∧ Below w.heap.size w w' := by
  go_enter Tryz.func83, Tryz.ntmps83
  go_wp2
  exact bodyPost_ret (v := .agg #[.int .i64 4]) (by simp [results, Tryz.results83, go_sem]; try omega) rfl ⟨rfl, (Below.refl _ _).alloc (Nat.le_refl _) _⟩
theorem windowOf_any (k : Int) (w : World) (h0 : -9223372036854775808 ≤ k) (h1 : k ≤ 9223372036854775807) :
    Calls Tryz.prog 83 #[.int .i64 k] w fun e w' => e = .returned (.agg #[.int .i64 (cl k)]) ∧ Below w.heap.size w w' := by
  by_cases h : k < 1
  · rw [cl_low h]; exact windowOf_low k w h h0
  · by_cases h4 : 4 < k
    · rw [cl_high h4]; exact windowOf_high k w h4 h1
    · rw [cl_mid (by omega) (by omega)]; exact windowOf_mid k w (by omega) (by omega)

set_option maxHeartbeats 400000 in
theorem size_any (c : Int) (w : World) (h0 : 1 ≤ c) (h1 : c ≤ 4) :
    Calls Tryz.prog 118 #[.agg #[.int .i64 c]] w fun e w' => e = .returned (.int .u64 (wn c)) ∧ Below w.heap.size w w' := by
  rcases four h0 h1 with rfl | rfl | rfl | rfl
  all_goals
    first | rw [wn_1] | rw [wn_2] | rw [wn_3] | rw [wn_4]
    go_enter Tryz.func118, Tryz.ntmps118
    go_wp2
    go_ret
    exact ⟨rfl, (Below.refl _ _).alloc (Nat.le_refl _) _⟩

set_option maxHeartbeats 400000 in
theorem half_any (c : Int) (w : World) (h0 : 1 ≤ c) (h1 : c ≤ 4) :
    Calls Tryz.prog 132 #[.agg #[.int .i64 c]] w fun e w' => e = .returned (.int .u64 (wn c / 2)) ∧ Below w.heap.size w w' := by
  have hr := wn_range h0 h1
  go_enter Tryz.func132, Tryz.ntmps132
  go_wp2_with fail
  refine (size_any _ _ h0 h1).mono ?_
  rintro e w1 ⟨rfl, hb⟩
  go_wp2
  go_ret
  exact ⟨rfl, ((Below.refl _ _).alloc (Nat.le_refl _) _).trans (hb.mono (by simp))⟩

set_option maxHeartbeats 400000 in
theorem low_any (c n : Int) (w : World) (h0 : 1 ≤ c) (h1 : c ≤ 4) (hn : 0 ≤ n) (hn1 : n ≤ 18446744073709551615) :
    Calls Tryz.prog 89 #[.agg #[.int .i64 c], .int .u64 n] w fun e w' => e = .returned (.int .u64 (n % wn c)) ∧ Below w.heap.size w w' := by
  have hr := wn_range h0 h1
  go_enter Tryz.func89, Tryz.ntmps89
  go_wp2_with fail
  refine (size_any _ _ h0 h1).mono ?_
  rintro e w1 ⟨rfl, hb⟩
  go_wp2
  go_ret
  exact ⟨rfl, ((Below.refl _ _).alloc (Nat.le_refl _) _).trans (hb.mono (by simp))⟩

set_option maxHeartbeats 400000 in
theorem spans_any (c n : Int) (w : World) (h0 : 1 ≤ c) (h1 : c ≤ 4) (hn : 0 ≤ n) (hn1 : n ≤ 4611686018427387904) :
    Calls Tryz.prog 84 #[.agg #[.int .i64 c], .int .u64 n] w fun e w' => e = .returned (.bool (decide (2 * n < wn c))) ∧ Below w.heap.size w w' := by
  have hr := wn_range h0 h1
  go_enter Tryz.func84, Tryz.ntmps84
  go_wp2_with fail
  refine (size_any _ _ h0 h1).mono ?_
  rintro e w1 ⟨rfl, hb⟩
  go_wp2
  go_ret
  exact ⟨rfl, ((Below.refl _ _).alloc (Nat.le_refl _) _).trans (hb.mono (by simp))⟩
end Go.Proofs.YtagbkmoahflfdaaGreatDoor.Pn
