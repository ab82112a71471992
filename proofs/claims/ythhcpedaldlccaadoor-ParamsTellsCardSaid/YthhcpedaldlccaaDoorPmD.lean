/- The walks of layer 5: a pair is taken, a pair is put. By tools/gen-params-4.py. -/
import Derived.Test.YthhcpedaldlccaaDoorPmB
import Derived.Test.YthhcpedaldlccaaDoorVmP
import Derived.Test.YthhcpedaldlccaaDoorItL
namespace Go.Proofs.YthhcpedaldlccaaDoor.Pm
open Go.RowKit Vm
set_option linter.unusedVariables false
set_option linter.unusedSimpArgs false

/-- The parameters with a value at a number. -/
def setF (p : Prm) : Nat → Int → Prm
  | 1, v => { p with idle := v }
  | 3, v => { p with size := v }
  | 4, v => { p with data := v }
  | 5, v => { p with bl := v }
  | 6, v => { p with br := v }
  | 7, v => { p with uni := v }
  | 8, v => { p with bidis := v }
  | 9, v => { p with unis := v }
  | 10, v => { p with expo := v }
  | 11, v => { p with delay := v }
  | 14, v => { p with ids := v }
  | _, _ => p
/-- What is left of parameters that took a pair, and whether it is one of its kind. -/
def tkP (p : Prm) (n : Nat) (l : List UInt8) : Prm := if n = 2 then { p with tok := l } else match fld p n with
  | some _ => setF p n (gN l : Nat)
  | none => p
def tkB (p : Prm) (n : Nat) (l : List UInt8) : Bool := if n = 2 then decide (l.length = 16) else match fld p n with
  | some _ => decide (gk l ≤ l.length) && (gR l).isEmpty
  | none => true
theorem tl_eq (l : List UInt8) : (⟨l.toArray⟩ : ByteArray).toList.isEmpty = l.isEmpty := by
  cases l with
  | nil => exact empty_yes _ rfl
  | cons b r => rw [empty_no _ (by rw [size_len]; simp)]; rfl
set_option maxHeartbeats 1000000 in
theorem take_0 (b : Nat) (p : Prm) (l : List UInt8) (w : World) (ht : Tab w) (h0 : PBk b p w) (hl : l.length ≤ 140737488351232) : Calls Tryd.prog 24 #[.pointer (some ⟨b, 0, none⟩), .agg #[.int .u64 0, .string ⟨l.toArray⟩]] w fun e w' => e = .returned (.bool true) ∧ PBk b p w' ∧ It.Only (fun k => k = b) w w' := by
  have hlt := h0.lt
  have hlt2 := ht.lt
  have HB := Lib.hid h0
  have HT := Lib.hid ht
  have hne : w.heap.size ≠ b := by omega
  have HA := Lib.hid ((Below.refl w.heap.size w).alloc (Nat.le_refl _) (.cells #[.int .u64 0, .string ⟨l.toArray⟩] 54))
  have HB1 := Lib.hid (h0.keep HA.out)
  clear h0 ht
  go_enter Tryd.func24, Tryd.ntmps24
  go_wp2_with fail
  refine (place_0 b _ (by simp; omega)).mono ?_
  rintro e w1 ⟨rfl, hb1⟩
  go_wp2
  go_ret
  exact ⟨rfl, HB1.out.keep hb1, It.Only.of_all (HA.out.trans (hb1.mono (by simp))) _⟩
set_option maxHeartbeats 2000000 in
theorem take_1_ok (b : Nat) (p : Prm) (l : List UInt8) (w : World) (ht : Tab w) (h0 : PBk b p w) (hl : l.length ≤ 140737488351232) (hE : Hid (gE l = 0)) : Calls Tryd.prog 24 #[.pointer (some ⟨b, 0, none⟩), .agg #[.int .u64 1, .string ⟨l.toArray⟩]] w fun e w' => e = .returned (.bool ((gR l).isEmpty)) ∧ PBk b { p with idle := (gN l : Nat) } w' ∧ It.Only (fun k => k = b) w w' := by
  have CG := Lib.hid (fun w (ht : Tab w) => vget ⟨l.toArray⟩ w ht (by rw [size_len]; show l.length ≤ _; omega))
  have EQ : (⟨l.toArray⟩ : ByteArray).data.toList = l := rfl
  rw [EQ, hE.out] at CG
  have TL := tl_eq (gR l)
  clear EQ
  have hlt := h0.lt
  have hlt2 := ht.lt
  have HB := Lib.hid h0
  have HT := Lib.hid ht
  have hne : w.heap.size ≠ b := by omega
  have HA := Lib.hid ((Below.refl w.heap.size w).alloc (Nat.le_refl _) (.cells #[.int .u64 1, .string ⟨l.toArray⟩] 54))
  have HB1 := Lib.hid (h0.keep HA.out)
  clear h0 ht
  go_enter Tryd.func24, Tryd.ntmps24
  go_wp2_with fail
  refine (place_1 b _ (by simp; omega)).mono ?_
  rintro e w1 ⟨rfl, hb1⟩
  replace HB1 := Lib.hid (HB1.out.keep hb1)
  have HA1 := Lib.hid (HA.out.trans (hb1.mono (by simp)))
  have HT1 := Lib.hid (HT.out.below HA1.out hlt2)
  have x0 := hb1.cell (p := ⟨w.heap.size, 1, none⟩) (by simp)
  simp [go_sem] at x0
  clear hb1
  go_wp2_with fail
  refine (CG.out _ HT1.out).mono ?_
  rintro e w2 ⟨rfl, m, rfl⟩
  have HB2 := Lib.hid (HB1.out.keep (below_drewN (Below.refl _ _) m))
  have HA2 := Lib.hid (below_drewN HA1.out m)
  have ci := HB2.out.cell0
  have fi := HB2.out.fz 0
  go_wp2
  go_ret
  exact ⟨by first | rfl | (rw [TL]), HB2.out.set0 _, (It.Only.of_all HA2.out _).trans (It.Only.setCell (O := fun k => k = b) (p := ⟨b, 0, none⟩) rfl _ _)⟩
set_option maxHeartbeats 2000000 in
theorem take_1_no (b : Nat) (p : Prm) (l : List UInt8) (w : World) (ht : Tab w) (h0 : PBk b p w) (hl : l.length ≤ 140737488351232) (hE : Hid (gE l = 10)) : Calls Tryd.prog 24 #[.pointer (some ⟨b, 0, none⟩), .agg #[.int .u64 1, .string ⟨l.toArray⟩]] w fun e w' => e = .returned (.bool (false)) ∧ PBk b { p with idle := (gN l : Nat) } w' ∧ It.Only (fun k => k = b) w w' := by
  have CG := Lib.hid (fun w (ht : Tab w) => vget ⟨l.toArray⟩ w ht (by rw [size_len]; show l.length ≤ _; omega))
  have EQ : (⟨l.toArray⟩ : ByteArray).data.toList = l := rfl
  rw [EQ, hE.out] at CG
  have TL := tl_eq (gR l)
  clear EQ
  have hlt := h0.lt
  have hlt2 := ht.lt
  have HB := Lib.hid h0
  have HT := Lib.hid ht
  have hne : w.heap.size ≠ b := by omega
  have HA := Lib.hid ((Below.refl w.heap.size w).alloc (Nat.le_refl _) (.cells #[.int .u64 1, .string ⟨l.toArray⟩] 54))
  have HB1 := Lib.hid (h0.keep HA.out)
  clear h0 ht
  go_enter Tryd.func24, Tryd.ntmps24
  go_wp2_with fail
  refine (place_1 b _ (by simp; omega)).mono ?_
  rintro e w1 ⟨rfl, hb1⟩
  replace HB1 := Lib.hid (HB1.out.keep hb1)
  have HA1 := Lib.hid (HA.out.trans (hb1.mono (by simp)))
  have HT1 := Lib.hid (HT.out.below HA1.out hlt2)
  have x0 := hb1.cell (p := ⟨w.heap.size, 1, none⟩) (by simp)
  simp [go_sem] at x0
  clear hb1
  go_wp2_with fail
  refine (CG.out _ HT1.out).mono ?_
  rintro e w2 ⟨rfl, m, rfl⟩
  have HB2 := Lib.hid (HB1.out.keep (below_drewN (Below.refl _ _) m))
  have HA2 := Lib.hid (below_drewN HA1.out m)
  have ci := HB2.out.cell0
  have fi := HB2.out.fz 0
  go_wp2
  go_ret
  exact ⟨rfl, HB2.out.set0 _, (It.Only.of_all HA2.out _).trans (It.Only.setCell (O := fun k => k = b) (p := ⟨b, 0, none⟩) rfl _ _)⟩
set_option maxHeartbeats 1000000 in
theorem take_2_true (b : Nat) (p : Prm) (l : List UInt8) (w : World) (ht : Tab w) (h0 : PBk b p w) (hl : l.length ≤ 140737488351232) (h16 : (((l.length : Nat) : Int) == 16) = true) : Calls Tryd.prog 24 #[.pointer (some ⟨b, 0, none⟩), .agg #[.int .u64 2, .string ⟨l.toArray⟩]] w fun e w' => e = .returned (.bool true) ∧ PBk b { p with tok := l } w' ∧ It.Only (fun k => k = b) w w' := by
  have c11 := h0.cell11
  have f11 := h0.fz 11
  have hlt := h0.lt
  have hlt2 := ht.lt
  have HB := Lib.hid h0
  have HT := Lib.hid ht
  have hne : w.heap.size ≠ b := by omega
  have HA := Lib.hid ((Below.refl w.heap.size w).alloc (Nat.le_refl _) (.cells #[.int .u64 2, .string ⟨l.toArray⟩] 54))
  have HB1 := Lib.hid (h0.keep HA.out)
  clear h0 ht
  go_enter Tryd.func24, Tryd.ntmps24
  go_wp2
  go_ret
  exact ⟨rfl, (HB.out.set11 l).keep ((Below.refl _ _).alloc (Nat.le_refl _) _), (It.Only.setCell (O := fun k => k = b) (p := ⟨b, 11, none⟩) rfl w _).trans (It.Only.alloc _ _ _)⟩
set_option maxHeartbeats 1000000 in
theorem take_2_false (b : Nat) (p : Prm) (l : List UInt8) (w : World) (ht : Tab w) (h0 : PBk b p w) (hl : l.length ≤ 140737488351232) (h16 : (((l.length : Nat) : Int) == 16) = false) : Calls Tryd.prog 24 #[.pointer (some ⟨b, 0, none⟩), .agg #[.int .u64 2, .string ⟨l.toArray⟩]] w fun e w' => e = .returned (.bool false) ∧ PBk b { p with tok := l } w' ∧ It.Only (fun k => k = b) w w' := by
  have c11 := h0.cell11
  have f11 := h0.fz 11
  have hlt := h0.lt
  have hlt2 := ht.lt
  have HB := Lib.hid h0
  have HT := Lib.hid ht
  have hne : w.heap.size ≠ b := by omega
  have HA := Lib.hid ((Below.refl w.heap.size w).alloc (Nat.le_refl _) (.cells #[.int .u64 2, .string ⟨l.toArray⟩] 54))
  have HB1 := Lib.hid (h0.keep HA.out)
  clear h0 ht
  go_enter Tryd.func24, Tryd.ntmps24
  go_wp2
  go_ret
  exact ⟨rfl, (HB.out.set11 l).keep ((Below.refl _ _).alloc (Nat.le_refl _) _), (It.Only.setCell (O := fun k => k = b) (p := ⟨b, 11, none⟩) rfl w _).trans (It.Only.alloc _ _ _)⟩
set_option maxHeartbeats 2000000 in
theorem take_3_ok (b : Nat) (p : Prm) (l : List UInt8) (w : World) (ht : Tab w) (h0 : PBk b p w) (hl : l.length ≤ 140737488351232) (hE : Hid (gE l = 0)) : Calls Tryd.prog 24 #[.pointer (some ⟨b, 0, none⟩), .agg #[.int .u64 3, .string ⟨l.toArray⟩]] w fun e w' => e = .returned (.bool ((gR l).isEmpty)) ∧ PBk b { p with size := (gN l : Nat) } w' ∧ It.Only (fun k => k = b) w w' := by
  have CG := Lib.hid (fun w (ht : Tab w) => vget ⟨l.toArray⟩ w ht (by rw [size_len]; show l.length ≤ _; omega))
  have EQ : (⟨l.toArray⟩ : ByteArray).data.toList = l := rfl
  rw [EQ, hE.out] at CG
  have TL := tl_eq (gR l)
  clear EQ
  have hlt := h0.lt
  have hlt2 := ht.lt
  have HB := Lib.hid h0
  have HT := Lib.hid ht
  have hne : w.heap.size ≠ b := by omega
  have HA := Lib.hid ((Below.refl w.heap.size w).alloc (Nat.le_refl _) (.cells #[.int .u64 3, .string ⟨l.toArray⟩] 54))
  have HB1 := Lib.hid (h0.keep HA.out)
  clear h0 ht
  go_enter Tryd.func24, Tryd.ntmps24
  go_wp2_with fail
  refine (place_3 b _ (by simp; omega)).mono ?_
  rintro e w1 ⟨rfl, hb1⟩
  replace HB1 := Lib.hid (HB1.out.keep hb1)
  have HA1 := Lib.hid (HA.out.trans (hb1.mono (by simp)))
  have HT1 := Lib.hid (HT.out.below HA1.out hlt2)
  have x0 := hb1.cell (p := ⟨w.heap.size, 1, none⟩) (by simp)
  simp [go_sem] at x0
  clear hb1
  go_wp2_with fail
  refine (CG.out _ HT1.out).mono ?_
  rintro e w2 ⟨rfl, m, rfl⟩
  have HB2 := Lib.hid (HB1.out.keep (below_drewN (Below.refl _ _) m))
  have HA2 := Lib.hid (below_drewN HA1.out m)
  have ci := HB2.out.cell1
  have fi := HB2.out.fz 1
  go_wp2
  go_ret
  exact ⟨by first | rfl | (rw [TL]), HB2.out.set1 _, (It.Only.of_all HA2.out _).trans (It.Only.setCell (O := fun k => k = b) (p := ⟨b, 1, none⟩) rfl _ _)⟩
set_option maxHeartbeats 2000000 in
theorem take_3_no (b : Nat) (p : Prm) (l : List UInt8) (w : World) (ht : Tab w) (h0 : PBk b p w) (hl : l.length ≤ 140737488351232) (hE : Hid (gE l = 10)) : Calls Tryd.prog 24 #[.pointer (some ⟨b, 0, none⟩), .agg #[.int .u64 3, .string ⟨l.toArray⟩]] w fun e w' => e = .returned (.bool (false)) ∧ PBk b { p with size := (gN l : Nat) } w' ∧ It.Only (fun k => k = b) w w' := by
  have CG := Lib.hid (fun w (ht : Tab w) => vget ⟨l.toArray⟩ w ht (by rw [size_len]; show l.length ≤ _; omega))
  have EQ : (⟨l.toArray⟩ : ByteArray).data.toList = l := rfl
  rw [EQ, hE.out] at CG
  have TL := tl_eq (gR l)
  clear EQ
  have hlt := h0.lt
  have hlt2 := ht.lt
  have HB := Lib.hid h0
  have HT := Lib.hid ht
  have hne : w.heap.size ≠ b := by omega
  have HA := Lib.hid ((Below.refl w.heap.size w).alloc (Nat.le_refl _) (.cells #[.int .u64 3, .string ⟨l.toArray⟩] 54))
  have HB1 := Lib.hid (h0.keep HA.out)
  clear h0 ht
  go_enter Tryd.func24, Tryd.ntmps24
  go_wp2_with fail
  refine (place_3 b _ (by simp; omega)).mono ?_
  rintro e w1 ⟨rfl, hb1⟩
  replace HB1 := Lib.hid (HB1.out.keep hb1)
  have HA1 := Lib.hid (HA.out.trans (hb1.mono (by simp)))
  have HT1 := Lib.hid (HT.out.below HA1.out hlt2)
  have x0 := hb1.cell (p := ⟨w.heap.size, 1, none⟩) (by simp)
  simp [go_sem] at x0
  clear hb1
  go_wp2_with fail
  refine (CG.out _ HT1.out).mono ?_
  rintro e w2 ⟨rfl, m, rfl⟩
  have HB2 := Lib.hid (HB1.out.keep (below_drewN (Below.refl _ _) m))
  have HA2 := Lib.hid (below_drewN HA1.out m)
  have ci := HB2.out.cell1
  have fi := HB2.out.fz 1
  go_wp2
  go_ret
  exact ⟨rfl, HB2.out.set1 _, (It.Only.of_all HA2.out _).trans (It.Only.setCell (O := fun k => k = b) (p := ⟨b, 1, none⟩) rfl _ _)⟩
set_option maxHeartbeats 2000000 in
theorem take_4_ok (b : Nat) (p : Prm) (l : List UInt8) (w : World) (ht : Tab w) (h0 : PBk b p w) (hl : l.length ≤ 140737488351232) (hE : Hid (gE l = 0)) : Calls Tryd.prog 24 #[.pointer (some ⟨b, 0, none⟩), .agg #[.int .u64 4, .string ⟨l.toArray⟩]] w fun e w' => e = .returned (.bool ((gR l).isEmpty)) ∧ PBk b { p with data := (gN l : Nat) } w' ∧ It.Only (fun k => k = b) w w' := by
  have CG := Lib.hid (fun w (ht : Tab w) => vget ⟨l.toArray⟩ w ht (by rw [size_len]; show l.length ≤ _; omega))
  have EQ : (⟨l.toArray⟩ : ByteArray).data.toList = l := rfl
  rw [EQ, hE.out] at CG
  have TL := tl_eq (gR l)
  clear EQ
  have hlt := h0.lt
  have hlt2 := ht.lt
  have HB := Lib.hid h0
  have HT := Lib.hid ht
  have hne : w.heap.size ≠ b := by omega
  have HA := Lib.hid ((Below.refl w.heap.size w).alloc (Nat.le_refl _) (.cells #[.int .u64 4, .string ⟨l.toArray⟩] 54))
  have HB1 := Lib.hid (h0.keep HA.out)
  clear h0 ht
  go_enter Tryd.func24, Tryd.ntmps24
  go_wp2_with fail
  refine (place_4 b _ (by simp; omega)).mono ?_
  rintro e w1 ⟨rfl, hb1⟩
  replace HB1 := Lib.hid (HB1.out.keep hb1)
  have HA1 := Lib.hid (HA.out.trans (hb1.mono (by simp)))
  have HT1 := Lib.hid (HT.out.below HA1.out hlt2)
  have x0 := hb1.cell (p := ⟨w.heap.size, 1, none⟩) (by simp)
  simp [go_sem] at x0
  clear hb1
  go_wp2_with fail
  refine (CG.out _ HT1.out).mono ?_
  rintro e w2 ⟨rfl, m, rfl⟩
  have HB2 := Lib.hid (HB1.out.keep (below_drewN (Below.refl _ _) m))
  have HA2 := Lib.hid (below_drewN HA1.out m)
  have ci := HB2.out.cell2
  have fi := HB2.out.fz 2
  go_wp2
  go_ret
  exact ⟨by first | rfl | (rw [TL]), HB2.out.set2 _, (It.Only.of_all HA2.out _).trans (It.Only.setCell (O := fun k => k = b) (p := ⟨b, 2, none⟩) rfl _ _)⟩
set_option maxHeartbeats 2000000 in
theorem take_4_no (b : Nat) (p : Prm) (l : List UInt8) (w : World) (ht : Tab w) (h0 : PBk b p w) (hl : l.length ≤ 140737488351232) (hE : Hid (gE l = 10)) : Calls Tryd.prog 24 #[.pointer (some ⟨b, 0, none⟩), .agg #[.int .u64 4, .string ⟨l.toArray⟩]] w fun e w' => e = .returned (.bool (false)) ∧ PBk b { p with data := (gN l : Nat) } w' ∧ It.Only (fun k => k = b) w w' := by
  have CG := Lib.hid (fun w (ht : Tab w) => vget ⟨l.toArray⟩ w ht (by rw [size_len]; show l.length ≤ _; omega))
  have EQ : (⟨l.toArray⟩ : ByteArray).data.toList = l := rfl
  rw [EQ, hE.out] at CG
  have TL := tl_eq (gR l)
  clear EQ
  have hlt := h0.lt
  have hlt2 := ht.lt
  have HB := Lib.hid h0
  have HT := Lib.hid ht
  have hne : w.heap.size ≠ b := by omega
  have HA := Lib.hid ((Below.refl w.heap.size w).alloc (Nat.le_refl _) (.cells #[.int .u64 4, .string ⟨l.toArray⟩] 54))
  have HB1 := Lib.hid (h0.keep HA.out)
  clear h0 ht
  go_enter Tryd.func24, Tryd.ntmps24
  go_wp2_with fail
  refine (place_4 b _ (by simp; omega)).mono ?_
  rintro e w1 ⟨rfl, hb1⟩
  replace HB1 := Lib.hid (HB1.out.keep hb1)
  have HA1 := Lib.hid (HA.out.trans (hb1.mono (by simp)))
  have HT1 := Lib.hid (HT.out.below HA1.out hlt2)
  have x0 := hb1.cell (p := ⟨w.heap.size, 1, none⟩) (by simp)
  simp [go_sem] at x0
  clear hb1
  go_wp2_with fail
  refine (CG.out _ HT1.out).mono ?_
  rintro e w2 ⟨rfl, m, rfl⟩
  have HB2 := Lib.hid (HB1.out.keep (below_drewN (Below.refl _ _) m))
  have HA2 := Lib.hid (below_drewN HA1.out m)
  have ci := HB2.out.cell2
  have fi := HB2.out.fz 2
  go_wp2
  go_ret
  exact ⟨rfl, HB2.out.set2 _, (It.Only.of_all HA2.out _).trans (It.Only.setCell (O := fun k => k = b) (p := ⟨b, 2, none⟩) rfl _ _)⟩
set_option maxHeartbeats 2000000 in
theorem take_5_ok (b : Nat) (p : Prm) (l : List UInt8) (w : World) (ht : Tab w) (h0 : PBk b p w) (hl : l.length ≤ 140737488351232) (hE : Hid (gE l = 0)) : Calls Tryd.prog 24 #[.pointer (some ⟨b, 0, none⟩), .agg #[.int .u64 5, .string ⟨l.toArray⟩]] w fun e w' => e = .returned (.bool ((gR l).isEmpty)) ∧ PBk b { p with bl := (gN l : Nat) } w' ∧ It.Only (fun k => k = b) w w' := by
  have CG := Lib.hid (fun w (ht : Tab w) => vget ⟨l.toArray⟩ w ht (by rw [size_len]; show l.length ≤ _; omega))
  have EQ : (⟨l.toArray⟩ : ByteArray).data.toList = l := rfl
  rw [EQ, hE.out] at CG
  have TL := tl_eq (gR l)
  clear EQ
  have hlt := h0.lt
  have hlt2 := ht.lt
  have HB := Lib.hid h0
  have HT := Lib.hid ht
  have hne : w.heap.size ≠ b := by omega
  have HA := Lib.hid ((Below.refl w.heap.size w).alloc (Nat.le_refl _) (.cells #[.int .u64 5, .string ⟨l.toArray⟩] 54))
  have HB1 := Lib.hid (h0.keep HA.out)
  clear h0 ht
  go_enter Tryd.func24, Tryd.ntmps24
  go_wp2_with fail
  refine (place_5 b _ (by simp; omega)).mono ?_
  rintro e w1 ⟨rfl, hb1⟩
  replace HB1 := Lib.hid (HB1.out.keep hb1)
  have HA1 := Lib.hid (HA.out.trans (hb1.mono (by simp)))
  have HT1 := Lib.hid (HT.out.below HA1.out hlt2)
  have x0 := hb1.cell (p := ⟨w.heap.size, 1, none⟩) (by simp)
  simp [go_sem] at x0
  clear hb1
  go_wp2_with fail
  refine (CG.out _ HT1.out).mono ?_
  rintro e w2 ⟨rfl, m, rfl⟩
  have HB2 := Lib.hid (HB1.out.keep (below_drewN (Below.refl _ _) m))
  have HA2 := Lib.hid (below_drewN HA1.out m)
  have ci := HB2.out.cell3
  have fi := HB2.out.fz 3
  go_wp2
  go_ret
  exact ⟨by first | rfl | (rw [TL]), HB2.out.set3 _, (It.Only.of_all HA2.out _).trans (It.Only.setCell (O := fun k => k = b) (p := ⟨b, 3, none⟩) rfl _ _)⟩
set_option maxHeartbeats 2000000 in
theorem take_5_no (b : Nat) (p : Prm) (l : List UInt8) (w : World) (ht : Tab w) (h0 : PBk b p w) (hl : l.length ≤ 140737488351232) (hE : Hid (gE l = 10)) : Calls Tryd.prog 24 #[.pointer (some ⟨b, 0, none⟩), .agg #[.int .u64 5, .string ⟨l.toArray⟩]] w fun e w' => e = .returned (.bool (false)) ∧ PBk b { p with bl := (gN l : Nat) } w' ∧ It.Only (fun k => k = b) w w' := by
  have CG := Lib.hid (fun w (ht : Tab w) => vget ⟨l.toArray⟩ w ht (by rw [size_len]; show l.length ≤ _; omega))
  have EQ : (⟨l.toArray⟩ : ByteArray).data.toList = l := rfl
  rw [EQ, hE.out] at CG
  have TL := tl_eq (gR l)
  clear EQ
  have hlt := h0.lt
  have hlt2 := ht.lt
  have HB := Lib.hid h0
  have HT := Lib.hid ht
  have hne : w.heap.size ≠ b := by omega
  have HA := Lib.hid ((Below.refl w.heap.size w).alloc (Nat.le_refl _) (.cells #[.int .u64 5, .string ⟨l.toArray⟩] 54))
  have HB1 := Lib.hid (h0.keep HA.out)
  clear h0 ht
  go_enter Tryd.func24, Tryd.ntmps24
  go_wp2_with fail
  refine (place_5 b _ (by simp; omega)).mono ?_
  rintro e w1 ⟨rfl, hb1⟩
  replace HB1 := Lib.hid (HB1.out.keep hb1)
  have HA1 := Lib.hid (HA.out.trans (hb1.mono (by simp)))
  have HT1 := Lib.hid (HT.out.below HA1.out hlt2)
  have x0 := hb1.cell (p := ⟨w.heap.size, 1, none⟩) (by simp)
  simp [go_sem] at x0
  clear hb1
  go_wp2_with fail
  refine (CG.out _ HT1.out).mono ?_
  rintro e w2 ⟨rfl, m, rfl⟩
  have HB2 := Lib.hid (HB1.out.keep (below_drewN (Below.refl _ _) m))
  have HA2 := Lib.hid (below_drewN HA1.out m)
  have ci := HB2.out.cell3
  have fi := HB2.out.fz 3
  go_wp2
  go_ret
  exact ⟨rfl, HB2.out.set3 _, (It.Only.of_all HA2.out _).trans (It.Only.setCell (O := fun k => k = b) (p := ⟨b, 3, none⟩) rfl _ _)⟩
set_option maxHeartbeats 2000000 in
theorem take_6_ok (b : Nat) (p : Prm) (l : List UInt8) (w : World) (ht : Tab w) (h0 : PBk b p w) (hl : l.length ≤ 140737488351232) (hE : Hid (gE l = 0)) : Calls Tryd.prog 24 #[.pointer (some ⟨b, 0, none⟩), .agg #[.int .u64 6, .string ⟨l.toArray⟩]] w fun e w' => e = .returned (.bool ((gR l).isEmpty)) ∧ PBk b { p with br := (gN l : Nat) } w' ∧ It.Only (fun k => k = b) w w' := by
  have CG := Lib.hid (fun w (ht : Tab w) => vget ⟨l.toArray⟩ w ht (by rw [size_len]; show l.length ≤ _; omega))
  have EQ : (⟨l.toArray⟩ : ByteArray).data.toList = l := rfl
  rw [EQ, hE.out] at CG
  have TL := tl_eq (gR l)
  clear EQ
  have hlt := h0.lt
  have hlt2 := ht.lt
  have HB := Lib.hid h0
  have HT := Lib.hid ht
  have hne : w.heap.size ≠ b := by omega
  have HA := Lib.hid ((Below.refl w.heap.size w).alloc (Nat.le_refl _) (.cells #[.int .u64 6, .string ⟨l.toArray⟩] 54))
  have HB1 := Lib.hid (h0.keep HA.out)
  clear h0 ht
  go_enter Tryd.func24, Tryd.ntmps24
  go_wp2_with fail
  refine (place_6 b _ (by simp; omega)).mono ?_
  rintro e w1 ⟨rfl, hb1⟩
  replace HB1 := Lib.hid (HB1.out.keep hb1)
  have HA1 := Lib.hid (HA.out.trans (hb1.mono (by simp)))
  have HT1 := Lib.hid (HT.out.below HA1.out hlt2)
  have x0 := hb1.cell (p := ⟨w.heap.size, 1, none⟩) (by simp)
  simp [go_sem] at x0
  clear hb1
  go_wp2_with fail
  refine (CG.out _ HT1.out).mono ?_
  rintro e w2 ⟨rfl, m, rfl⟩
  have HB2 := Lib.hid (HB1.out.keep (below_drewN (Below.refl _ _) m))
  have HA2 := Lib.hid (below_drewN HA1.out m)
  have ci := HB2.out.cell4
  have fi := HB2.out.fz 4
  go_wp2
  go_ret
  exact ⟨by first | rfl | (rw [TL]), HB2.out.set4 _, (It.Only.of_all HA2.out _).trans (It.Only.setCell (O := fun k => k = b) (p := ⟨b, 4, none⟩) rfl _ _)⟩
set_option maxHeartbeats 2000000 in
theorem take_6_no (b : Nat) (p : Prm) (l : List UInt8) (w : World) (ht : Tab w) (h0 : PBk b p w) (hl : l.length ≤ 140737488351232) (hE : Hid (gE l = 10)) : Calls Tryd.prog 24 #[.pointer (some ⟨b, 0, none⟩), .agg #[.int .u64 6, .string ⟨l.toArray⟩]] w fun e w' => e = .returned (.bool (false)) ∧ PBk b { p with br := (gN l : Nat) } w' ∧ It.Only (fun k => k = b) w w' := by
  have CG := Lib.hid (fun w (ht : Tab w) => vget ⟨l.toArray⟩ w ht (by rw [size_len]; show l.length ≤ _; omega))
  have EQ : (⟨l.toArray⟩ : ByteArray).data.toList = l := rfl
  rw [EQ, hE.out] at CG
  have TL := tl_eq (gR l)
  clear EQ
  have hlt := h0.lt
  have hlt2 := ht.lt
  have HB := Lib.hid h0
  have HT := Lib.hid ht
  have hne : w.heap.size ≠ b := by omega
  have HA := Lib.hid ((Below.refl w.heap.size w).alloc (Nat.le_refl _) (.cells #[.int .u64 6, .string ⟨l.toArray⟩] 54))
  have HB1 := Lib.hid (h0.keep HA.out)
  clear h0 ht
  go_enter Tryd.func24, Tryd.ntmps24
  go_wp2_with fail
  refine (place_6 b _ (by simp; omega)).mono ?_
  rintro e w1 ⟨rfl, hb1⟩
  replace HB1 := Lib.hid (HB1.out.keep hb1)
  have HA1 := Lib.hid (HA.out.trans (hb1.mono (by simp)))
  have HT1 := Lib.hid (HT.out.below HA1.out hlt2)
  have x0 := hb1.cell (p := ⟨w.heap.size, 1, none⟩) (by simp)
  simp [go_sem] at x0
  clear hb1
  go_wp2_with fail
  refine (CG.out _ HT1.out).mono ?_
  rintro e w2 ⟨rfl, m, rfl⟩
  have HB2 := Lib.hid (HB1.out.keep (below_drewN (Below.refl _ _) m))
  have HA2 := Lib.hid (below_drewN HA1.out m)
  have ci := HB2.out.cell4
  have fi := HB2.out.fz 4
  go_wp2
  go_ret
  exact ⟨rfl, HB2.out.set4 _, (It.Only.of_all HA2.out _).trans (It.Only.setCell (O := fun k => k = b) (p := ⟨b, 4, none⟩) rfl _ _)⟩
set_option maxHeartbeats 2000000 in
theorem take_7_ok (b : Nat) (p : Prm) (l : List UInt8) (w : World) (ht : Tab w) (h0 : PBk b p w) (hl : l.length ≤ 140737488351232) (hE : Hid (gE l = 0)) : Calls Tryd.prog 24 #[.pointer (some ⟨b, 0, none⟩), .agg #[.int .u64 7, .string ⟨l.toArray⟩]] w fun e w' => e = .returned (.bool ((gR l).isEmpty)) ∧ PBk b { p with uni := (gN l : Nat) } w' ∧ It.Only (fun k => k = b) w w' := by
  have CG := Lib.hid (fun w (ht : Tab w) => vget ⟨l.toArray⟩ w ht (by rw [size_len]; show l.length ≤ _; omega))
  have EQ : (⟨l.toArray⟩ : ByteArray).data.toList = l := rfl
  rw [EQ, hE.out] at CG
  have TL := tl_eq (gR l)
  clear EQ
  have hlt := h0.lt
  have hlt2 := ht.lt
  have HB := Lib.hid h0
  have HT := Lib.hid ht
  have hne : w.heap.size ≠ b := by omega
  have HA := Lib.hid ((Below.refl w.heap.size w).alloc (Nat.le_refl _) (.cells #[.int .u64 7, .string ⟨l.toArray⟩] 54))
  have HB1 := Lib.hid (h0.keep HA.out)
  clear h0 ht
  go_enter Tryd.func24, Tryd.ntmps24
  go_wp2_with fail
  refine (place_7 b _ (by simp; omega)).mono ?_
  rintro e w1 ⟨rfl, hb1⟩
  replace HB1 := Lib.hid (HB1.out.keep hb1)
  have HA1 := Lib.hid (HA.out.trans (hb1.mono (by simp)))
  have HT1 := Lib.hid (HT.out.below HA1.out hlt2)
  have x0 := hb1.cell (p := ⟨w.heap.size, 1, none⟩) (by simp)
  simp [go_sem] at x0
  clear hb1
  go_wp2_with fail
  refine (CG.out _ HT1.out).mono ?_
  rintro e w2 ⟨rfl, m, rfl⟩
  have HB2 := Lib.hid (HB1.out.keep (below_drewN (Below.refl _ _) m))
  have HA2 := Lib.hid (below_drewN HA1.out m)
  have ci := HB2.out.cell5
  have fi := HB2.out.fz 5
  go_wp2
  go_ret
  exact ⟨by first | rfl | (rw [TL]), HB2.out.set5 _, (It.Only.of_all HA2.out _).trans (It.Only.setCell (O := fun k => k = b) (p := ⟨b, 5, none⟩) rfl _ _)⟩
set_option maxHeartbeats 2000000 in
theorem take_7_no (b : Nat) (p : Prm) (l : List UInt8) (w : World) (ht : Tab w) (h0 : PBk b p w) (hl : l.length ≤ 140737488351232) (hE : Hid (gE l = 10)) : Calls Tryd.prog 24 #[.pointer (some ⟨b, 0, none⟩), .agg #[.int .u64 7, .string ⟨l.toArray⟩]] w fun e w' => e = .returned (.bool (false)) ∧ PBk b { p with uni := (gN l : Nat) } w' ∧ It.Only (fun k => k = b) w w' := by
  have CG := Lib.hid (fun w (ht : Tab w) => vget ⟨l.toArray⟩ w ht (by rw [size_len]; show l.length ≤ _; omega))
  have EQ : (⟨l.toArray⟩ : ByteArray).data.toList = l := rfl
  rw [EQ, hE.out] at CG
  have TL := tl_eq (gR l)
  clear EQ
  have hlt := h0.lt
  have hlt2 := ht.lt
  have HB := Lib.hid h0
  have HT := Lib.hid ht
  have hne : w.heap.size ≠ b := by omega
  have HA := Lib.hid ((Below.refl w.heap.size w).alloc (Nat.le_refl _) (.cells #[.int .u64 7, .string ⟨l.toArray⟩] 54))
  have HB1 := Lib.hid (h0.keep HA.out)
  clear h0 ht
  go_enter Tryd.func24, Tryd.ntmps24
  go_wp2_with fail
  refine (place_7 b _ (by simp; omega)).mono ?_
  rintro e w1 ⟨rfl, hb1⟩
  replace HB1 := Lib.hid (HB1.out.keep hb1)
  have HA1 := Lib.hid (HA.out.trans (hb1.mono (by simp)))
  have HT1 := Lib.hid (HT.out.below HA1.out hlt2)
  have x0 := hb1.cell (p := ⟨w.heap.size, 1, none⟩) (by simp)
  simp [go_sem] at x0
  clear hb1
  go_wp2_with fail
  refine (CG.out _ HT1.out).mono ?_
  rintro e w2 ⟨rfl, m, rfl⟩
  have HB2 := Lib.hid (HB1.out.keep (below_drewN (Below.refl _ _) m))
  have HA2 := Lib.hid (below_drewN HA1.out m)
  have ci := HB2.out.cell5
  have fi := HB2.out.fz 5
  go_wp2
  go_ret
  exact ⟨rfl, HB2.out.set5 _, (It.Only.of_all HA2.out _).trans (It.Only.setCell (O := fun k => k = b) (p := ⟨b, 5, none⟩) rfl _ _)⟩
set_option maxHeartbeats 2000000 in
theorem take_8_ok (b : Nat) (p : Prm) (l : List UInt8) (w : World) (ht : Tab w) (h0 : PBk b p w) (hl : l.length ≤ 140737488351232) (hE : Hid (gE l = 0)) : Calls Tryd.prog 24 #[.pointer (some ⟨b, 0, none⟩), .agg #[.int .u64 8, .string ⟨l.toArray⟩]] w fun e w' => e = .returned (.bool ((gR l).isEmpty)) ∧ PBk b { p with bidis := (gN l : Nat) } w' ∧ It.Only (fun k => k = b) w w' := by
  have CG := Lib.hid (fun w (ht : Tab w) => vget ⟨l.toArray⟩ w ht (by rw [size_len]; show l.length ≤ _; omega))
  have EQ : (⟨l.toArray⟩ : ByteArray).data.toList = l := rfl
  rw [EQ, hE.out] at CG
  have TL := tl_eq (gR l)
  clear EQ
  have hlt := h0.lt
  have hlt2 := ht.lt
  have HB := Lib.hid h0
  have HT := Lib.hid ht
  have hne : w.heap.size ≠ b := by omega
  have HA := Lib.hid ((Below.refl w.heap.size w).alloc (Nat.le_refl _) (.cells #[.int .u64 8, .string ⟨l.toArray⟩] 54))
  have HB1 := Lib.hid (h0.keep HA.out)
  clear h0 ht
  go_enter Tryd.func24, Tryd.ntmps24
  go_wp2_with fail
  refine (place_8 b _ (by simp; omega)).mono ?_
  rintro e w1 ⟨rfl, hb1⟩
  replace HB1 := Lib.hid (HB1.out.keep hb1)
  have HA1 := Lib.hid (HA.out.trans (hb1.mono (by simp)))
  have HT1 := Lib.hid (HT.out.below HA1.out hlt2)
  have x0 := hb1.cell (p := ⟨w.heap.size, 1, none⟩) (by simp)
  simp [go_sem] at x0
  clear hb1
  go_wp2_with fail
  refine (CG.out _ HT1.out).mono ?_
  rintro e w2 ⟨rfl, m, rfl⟩
  have HB2 := Lib.hid (HB1.out.keep (below_drewN (Below.refl _ _) m))
  have HA2 := Lib.hid (below_drewN HA1.out m)
  have ci := HB2.out.cell6
  have fi := HB2.out.fz 6
  go_wp2
  go_ret
  exact ⟨by first | rfl | (rw [TL]), HB2.out.set6 _, (It.Only.of_all HA2.out _).trans (It.Only.setCell (O := fun k => k = b) (p := ⟨b, 6, none⟩) rfl _ _)⟩
set_option maxHeartbeats 2000000 in
theorem take_8_no (b : Nat) (p : Prm) (l : List UInt8) (w : World) (ht : Tab w) (h0 : PBk b p w) (hl : l.length ≤ 140737488351232) (hE : Hid (gE l = 10)) : Calls Tryd.prog 24 #[.pointer (some ⟨b, 0, none⟩), .agg #[.int .u64 8, .string ⟨l.toArray⟩]] w fun e w' => e = .returned (.bool (false)) ∧ PBk b { p with bidis := (gN l : Nat) } w' ∧ It.Only (fun k => k = b) w w' := by
  have CG := Lib.hid (fun w (ht : Tab w) => vget ⟨l.toArray⟩ w ht (by rw [size_len]; show l.length ≤ _; omega))
  have EQ : (⟨l.toArray⟩ : ByteArray).data.toList = l := rfl
  rw [EQ, hE.out] at CG
  have TL := tl_eq (gR l)
  clear EQ
  have hlt := h0.lt
  have hlt2 := ht.lt
  have HB := Lib.hid h0
  have HT := Lib.hid ht
  have hne : w.heap.size ≠ b := by omega
  have HA := Lib.hid ((Below.refl w.heap.size w).alloc (Nat.le_refl _) (.cells #[.int .u64 8, .string ⟨l.toArray⟩] 54))
  have HB1 := Lib.hid (h0.keep HA.out)
  clear h0 ht
  go_enter Tryd.func24, Tryd.ntmps24
  go_wp2_with fail
  refine (place_8 b _ (by simp; omega)).mono ?_
  rintro e w1 ⟨rfl, hb1⟩
  replace HB1 := Lib.hid (HB1.out.keep hb1)
  have HA1 := Lib.hid (HA.out.trans (hb1.mono (by simp)))
  have HT1 := Lib.hid (HT.out.below HA1.out hlt2)
  have x0 := hb1.cell (p := ⟨w.heap.size, 1, none⟩) (by simp)
  simp [go_sem] at x0
  clear hb1
  go_wp2_with fail
  refine (CG.out _ HT1.out).mono ?_
  rintro e w2 ⟨rfl, m, rfl⟩
  have HB2 := Lib.hid (HB1.out.keep (below_drewN (Below.refl _ _) m))
  have HA2 := Lib.hid (below_drewN HA1.out m)
  have ci := HB2.out.cell6
  have fi := HB2.out.fz 6
  go_wp2
  go_ret
  exact ⟨rfl, HB2.out.set6 _, (It.Only.of_all HA2.out _).trans (It.Only.setCell (O := fun k => k = b) (p := ⟨b, 6, none⟩) rfl _ _)⟩
set_option maxHeartbeats 2000000 in
theorem take_9_ok (b : Nat) (p : Prm) (l : List UInt8) (w : World) (ht : Tab w) (h0 : PBk b p w) (hl : l.length ≤ 140737488351232) (hE : Hid (gE l = 0)) : Calls Tryd.prog 24 #[.pointer (some ⟨b, 0, none⟩), .agg #[.int .u64 9, .string ⟨l.toArray⟩]] w fun e w' => e = .returned (.bool ((gR l).isEmpty)) ∧ PBk b { p with unis := (gN l : Nat) } w' ∧ It.Only (fun k => k = b) w w' := by
  have CG := Lib.hid (fun w (ht : Tab w) => vget ⟨l.toArray⟩ w ht (by rw [size_len]; show l.length ≤ _; omega))
  have EQ : (⟨l.toArray⟩ : ByteArray).data.toList = l := rfl
  rw [EQ, hE.out] at CG
  have TL := tl_eq (gR l)
  clear EQ
  have hlt := h0.lt
  have hlt2 := ht.lt
  have HB := Lib.hid h0
  have HT := Lib.hid ht
  have hne : w.heap.size ≠ b := by omega
  have HA := Lib.hid ((Below.refl w.heap.size w).alloc (Nat.le_refl _) (.cells #[.int .u64 9, .string ⟨l.toArray⟩] 54))
  have HB1 := Lib.hid (h0.keep HA.out)
  clear h0 ht
  go_enter Tryd.func24, Tryd.ntmps24
  go_wp2_with fail
  refine (place_9 b _ (by simp; omega)).mono ?_
  rintro e w1 ⟨rfl, hb1⟩
  replace HB1 := Lib.hid (HB1.out.keep hb1)
  have HA1 := Lib.hid (HA.out.trans (hb1.mono (by simp)))
  have HT1 := Lib.hid (HT.out.below HA1.out hlt2)
  have x0 := hb1.cell (p := ⟨w.heap.size, 1, none⟩) (by simp)
  simp [go_sem] at x0
  clear hb1
  go_wp2_with fail
  refine (CG.out _ HT1.out).mono ?_
  rintro e w2 ⟨rfl, m, rfl⟩
  have HB2 := Lib.hid (HB1.out.keep (below_drewN (Below.refl _ _) m))
  have HA2 := Lib.hid (below_drewN HA1.out m)
  have ci := HB2.out.cell7
  have fi := HB2.out.fz 7
  go_wp2
  go_ret
  exact ⟨by first | rfl | (rw [TL]), HB2.out.set7 _, (It.Only.of_all HA2.out _).trans (It.Only.setCell (O := fun k => k = b) (p := ⟨b, 7, none⟩) rfl _ _)⟩
set_option maxHeartbeats 2000000 in
theorem take_9_no (b : Nat) (p : Prm) (l : List UInt8) (w : World) (ht : Tab w) (h0 : PBk b p w) (hl : l.length ≤ 140737488351232) (hE : Hid (gE l = 10)) : Calls Tryd.prog 24 #[.pointer (some ⟨b, 0, none⟩), .agg #[.int .u64 9, .string ⟨l.toArray⟩]] w fun e w' => e = .returned (.bool (false)) ∧ PBk b { p with unis := (gN l : Nat) } w' ∧ It.Only (fun k => k = b) w w' := by
  have CG := Lib.hid (fun w (ht : Tab w) => vget ⟨l.toArray⟩ w ht (by rw [size_len]; show l.length ≤ _; omega))
  have EQ : (⟨l.toArray⟩ : ByteArray).data.toList = l := rfl
  rw [EQ, hE.out] at CG
  have TL := tl_eq (gR l)
  clear EQ
  have hlt := h0.lt
  have hlt2 := ht.lt
  have HB := Lib.hid h0
  have HT := Lib.hid ht
  have hne : w.heap.size ≠ b := by omega
  have HA := Lib.hid ((Below.refl w.heap.size w).alloc (Nat.le_refl _) (.cells #[.int .u64 9, .string ⟨l.toArray⟩] 54))
  have HB1 := Lib.hid (h0.keep HA.out)
  clear h0 ht
  go_enter Tryd.func24, Tryd.ntmps24
  go_wp2_with fail
  refine (place_9 b _ (by simp; omega)).mono ?_
  rintro e w1 ⟨rfl, hb1⟩
  replace HB1 := Lib.hid (HB1.out.keep hb1)
  have HA1 := Lib.hid (HA.out.trans (hb1.mono (by simp)))
  have HT1 := Lib.hid (HT.out.below HA1.out hlt2)
  have x0 := hb1.cell (p := ⟨w.heap.size, 1, none⟩) (by simp)
  simp [go_sem] at x0
  clear hb1
  go_wp2_with fail
  refine (CG.out _ HT1.out).mono ?_
  rintro e w2 ⟨rfl, m, rfl⟩
  have HB2 := Lib.hid (HB1.out.keep (below_drewN (Below.refl _ _) m))
  have HA2 := Lib.hid (below_drewN HA1.out m)
  have ci := HB2.out.cell7
  have fi := HB2.out.fz 7
  go_wp2
  go_ret
  exact ⟨rfl, HB2.out.set7 _, (It.Only.of_all HA2.out _).trans (It.Only.setCell (O := fun k => k = b) (p := ⟨b, 7, none⟩) rfl _ _)⟩
set_option maxHeartbeats 2000000 in
theorem take_10_ok (b : Nat) (p : Prm) (l : List UInt8) (w : World) (ht : Tab w) (h0 : PBk b p w) (hl : l.length ≤ 140737488351232) (hE : Hid (gE l = 0)) : Calls Tryd.prog 24 #[.pointer (some ⟨b, 0, none⟩), .agg #[.int .u64 10, .string ⟨l.toArray⟩]] w fun e w' => e = .returned (.bool ((gR l).isEmpty)) ∧ PBk b { p with expo := (gN l : Nat) } w' ∧ It.Only (fun k => k = b) w w' := by
  have CG := Lib.hid (fun w (ht : Tab w) => vget ⟨l.toArray⟩ w ht (by rw [size_len]; show l.length ≤ _; omega))
  have EQ : (⟨l.toArray⟩ : ByteArray).data.toList = l := rfl
  rw [EQ, hE.out] at CG
  have TL := tl_eq (gR l)
  clear EQ
  have hlt := h0.lt
  have hlt2 := ht.lt
  have HB := Lib.hid h0
  have HT := Lib.hid ht
  have hne : w.heap.size ≠ b := by omega
  have HA := Lib.hid ((Below.refl w.heap.size w).alloc (Nat.le_refl _) (.cells #[.int .u64 10, .string ⟨l.toArray⟩] 54))
  have HB1 := Lib.hid (h0.keep HA.out)
  clear h0 ht
  go_enter Tryd.func24, Tryd.ntmps24
  go_wp2_with fail
  refine (place_10 b _ (by simp; omega)).mono ?_
  rintro e w1 ⟨rfl, hb1⟩
  replace HB1 := Lib.hid (HB1.out.keep hb1)
  have HA1 := Lib.hid (HA.out.trans (hb1.mono (by simp)))
  have HT1 := Lib.hid (HT.out.below HA1.out hlt2)
  have x0 := hb1.cell (p := ⟨w.heap.size, 1, none⟩) (by simp)
  simp [go_sem] at x0
  clear hb1
  go_wp2_with fail
  refine (CG.out _ HT1.out).mono ?_
  rintro e w2 ⟨rfl, m, rfl⟩
  have HB2 := Lib.hid (HB1.out.keep (below_drewN (Below.refl _ _) m))
  have HA2 := Lib.hid (below_drewN HA1.out m)
  have ci := HB2.out.cell8
  have fi := HB2.out.fz 8
  go_wp2
  go_ret
  exact ⟨by first | rfl | (rw [TL]), HB2.out.set8 _, (It.Only.of_all HA2.out _).trans (It.Only.setCell (O := fun k => k = b) (p := ⟨b, 8, none⟩) rfl _ _)⟩
set_option maxHeartbeats 2000000 in
theorem take_10_no (b : Nat) (p : Prm) (l : List UInt8) (w : World) (ht : Tab w) (h0 : PBk b p w) (hl : l.length ≤ 140737488351232) (hE : Hid (gE l = 10)) : Calls Tryd.prog 24 #[.pointer (some ⟨b, 0, none⟩), .agg #[.int .u64 10, .string ⟨l.toArray⟩]] w fun e w' => e = .returned (.bool (false)) ∧ PBk b { p with expo := (gN l : Nat) } w' ∧ It.Only (fun k => k = b) w w' := by
  have CG := Lib.hid (fun w (ht : Tab w) => vget ⟨l.toArray⟩ w ht (by rw [size_len]; show l.length ≤ _; omega))
  have EQ : (⟨l.toArray⟩ : ByteArray).data.toList = l := rfl
  rw [EQ, hE.out] at CG
  have TL := tl_eq (gR l)
  clear EQ
  have hlt := h0.lt
  have hlt2 := ht.lt
  have HB := Lib.hid h0
  have HT := Lib.hid ht
  have hne : w.heap.size ≠ b := by omega
  have HA := Lib.hid ((Below.refl w.heap.size w).alloc (Nat.le_refl _) (.cells #[.int .u64 10, .string ⟨l.toArray⟩] 54))
  have HB1 := Lib.hid (h0.keep HA.out)
  clear h0 ht
  go_enter Tryd.func24, Tryd.ntmps24
  go_wp2_with fail
  refine (place_10 b _ (by simp; omega)).mono ?_
  rintro e w1 ⟨rfl, hb1⟩
  replace HB1 := Lib.hid (HB1.out.keep hb1)
  have HA1 := Lib.hid (HA.out.trans (hb1.mono (by simp)))
  have HT1 := Lib.hid (HT.out.below HA1.out hlt2)
  have x0 := hb1.cell (p := ⟨w.heap.size, 1, none⟩) (by simp)
  simp [go_sem] at x0
  clear hb1
  go_wp2_with fail
  refine (CG.out _ HT1.out).mono ?_
  rintro e w2 ⟨rfl, m, rfl⟩
  have HB2 := Lib.hid (HB1.out.keep (below_drewN (Below.refl _ _) m))
  have HA2 := Lib.hid (below_drewN HA1.out m)
  have ci := HB2.out.cell8
  have fi := HB2.out.fz 8
  go_wp2
  go_ret
  exact ⟨rfl, HB2.out.set8 _, (It.Only.of_all HA2.out _).trans (It.Only.setCell (O := fun k => k = b) (p := ⟨b, 8, none⟩) rfl _ _)⟩
set_option maxHeartbeats 2000000 in
theorem take_11_ok (b : Nat) (p : Prm) (l : List UInt8) (w : World) (ht : Tab w) (h0 : PBk b p w) (hl : l.length ≤ 140737488351232) (hE : Hid (gE l = 0)) : Calls Tryd.prog 24 #[.pointer (some ⟨b, 0, none⟩), .agg #[.int .u64 11, .string ⟨l.toArray⟩]] w fun e w' => e = .returned (.bool ((gR l).isEmpty)) ∧ PBk b { p with delay := (gN l : Nat) } w' ∧ It.Only (fun k => k = b) w w' := by
  have CG := Lib.hid (fun w (ht : Tab w) => vget ⟨l.toArray⟩ w ht (by rw [size_len]; show l.length ≤ _; omega))
  have EQ : (⟨l.toArray⟩ : ByteArray).data.toList = l := rfl
  rw [EQ, hE.out] at CG
  have TL := tl_eq (gR l)
  clear EQ
  have hlt := h0.lt
  have hlt2 := ht.lt
  have HB := Lib.hid h0
  have HT := Lib.hid ht
  have hne : w.heap.size ≠ b := by omega
  have HA := Lib.hid ((Below.refl w.heap.size w).alloc (Nat.le_refl _) (.cells #[.int .u64 11, .string ⟨l.toArray⟩] 54))
  have HB1 := Lib.hid (h0.keep HA.out)
  clear h0 ht
  go_enter Tryd.func24, Tryd.ntmps24
  go_wp2_with fail
  refine (place_11 b _ (by simp; omega)).mono ?_
  rintro e w1 ⟨rfl, hb1⟩
  replace HB1 := Lib.hid (HB1.out.keep hb1)
  have HA1 := Lib.hid (HA.out.trans (hb1.mono (by simp)))
  have HT1 := Lib.hid (HT.out.below HA1.out hlt2)
  have x0 := hb1.cell (p := ⟨w.heap.size, 1, none⟩) (by simp)
  simp [go_sem] at x0
  clear hb1
  go_wp2_with fail
  refine (CG.out _ HT1.out).mono ?_
  rintro e w2 ⟨rfl, m, rfl⟩
  have HB2 := Lib.hid (HB1.out.keep (below_drewN (Below.refl _ _) m))
  have HA2 := Lib.hid (below_drewN HA1.out m)
  have ci := HB2.out.cell9
  have fi := HB2.out.fz 9
  go_wp2
  go_ret
  exact ⟨by first | rfl | (rw [TL]), HB2.out.set9 _, (It.Only.of_all HA2.out _).trans (It.Only.setCell (O := fun k => k = b) (p := ⟨b, 9, none⟩) rfl _ _)⟩
set_option maxHeartbeats 2000000 in
theorem take_11_no (b : Nat) (p : Prm) (l : List UInt8) (w : World) (ht : Tab w) (h0 : PBk b p w) (hl : l.length ≤ 140737488351232) (hE : Hid (gE l = 10)) : Calls Tryd.prog 24 #[.pointer (some ⟨b, 0, none⟩), .agg #[.int .u64 11, .string ⟨l.toArray⟩]] w fun e w' => e = .returned (.bool (false)) ∧ PBk b { p with delay := (gN l : Nat) } w' ∧ It.Only (fun k => k = b) w w' := by
  have CG := Lib.hid (fun w (ht : Tab w) => vget ⟨l.toArray⟩ w ht (by rw [size_len]; show l.length ≤ _; omega))
  have EQ : (⟨l.toArray⟩ : ByteArray).data.toList = l := rfl
  rw [EQ, hE.out] at CG
  have TL := tl_eq (gR l)
  clear EQ
  have hlt := h0.lt
  have hlt2 := ht.lt
  have HB := Lib.hid h0
  have HT := Lib.hid ht
  have hne : w.heap.size ≠ b := by omega
  have HA := Lib.hid ((Below.refl w.heap.size w).alloc (Nat.le_refl _) (.cells #[.int .u64 11, .string ⟨l.toArray⟩] 54))
  have HB1 := Lib.hid (h0.keep HA.out)
  clear h0 ht
  go_enter Tryd.func24, Tryd.ntmps24
  go_wp2_with fail
  refine (place_11 b _ (by simp; omega)).mono ?_
  rintro e w1 ⟨rfl, hb1⟩
  replace HB1 := Lib.hid (HB1.out.keep hb1)
  have HA1 := Lib.hid (HA.out.trans (hb1.mono (by simp)))
  have HT1 := Lib.hid (HT.out.below HA1.out hlt2)
  have x0 := hb1.cell (p := ⟨w.heap.size, 1, none⟩) (by simp)
  simp [go_sem] at x0
  clear hb1
  go_wp2_with fail
  refine (CG.out _ HT1.out).mono ?_
  rintro e w2 ⟨rfl, m, rfl⟩
  have HB2 := Lib.hid (HB1.out.keep (below_drewN (Below.refl _ _) m))
  have HA2 := Lib.hid (below_drewN HA1.out m)
  have ci := HB2.out.cell9
  have fi := HB2.out.fz 9
  go_wp2
  go_ret
  exact ⟨rfl, HB2.out.set9 _, (It.Only.of_all HA2.out _).trans (It.Only.setCell (O := fun k => k = b) (p := ⟨b, 9, none⟩) rfl _ _)⟩
set_option maxHeartbeats 1000000 in
theorem take_12 (b : Nat) (p : Prm) (l : List UInt8) (w : World) (ht : Tab w) (h0 : PBk b p w) (hl : l.length ≤ 140737488351232) : Calls Tryd.prog 24 #[.pointer (some ⟨b, 0, none⟩), .agg #[.int .u64 12, .string ⟨l.toArray⟩]] w fun e w' => e = .returned (.bool true) ∧ PBk b p w' ∧ It.Only (fun k => k = b) w w' := by
  have hlt := h0.lt
  have hlt2 := ht.lt
  have HB := Lib.hid h0
  have HT := Lib.hid ht
  have hne : w.heap.size ≠ b := by omega
  have HA := Lib.hid ((Below.refl w.heap.size w).alloc (Nat.le_refl _) (.cells #[.int .u64 12, .string ⟨l.toArray⟩] 54))
  have HB1 := Lib.hid (h0.keep HA.out)
  clear h0 ht
  go_enter Tryd.func24, Tryd.ntmps24
  go_wp2_with fail
  refine (place_12 b _ (by simp; omega)).mono ?_
  rintro e w1 ⟨rfl, hb1⟩
  go_wp2
  go_ret
  exact ⟨rfl, HB1.out.keep hb1, It.Only.of_all (HA.out.trans (hb1.mono (by simp))) _⟩
set_option maxHeartbeats 1000000 in
theorem take_13 (b : Nat) (p : Prm) (l : List UInt8) (w : World) (ht : Tab w) (h0 : PBk b p w) (hl : l.length ≤ 140737488351232) : Calls Tryd.prog 24 #[.pointer (some ⟨b, 0, none⟩), .agg #[.int .u64 13, .string ⟨l.toArray⟩]] w fun e w' => e = .returned (.bool true) ∧ PBk b p w' ∧ It.Only (fun k => k = b) w w' := by
  have hlt := h0.lt
  have hlt2 := ht.lt
  have HB := Lib.hid h0
  have HT := Lib.hid ht
  have hne : w.heap.size ≠ b := by omega
  have HA := Lib.hid ((Below.refl w.heap.size w).alloc (Nat.le_refl _) (.cells #[.int .u64 13, .string ⟨l.toArray⟩] 54))
  have HB1 := Lib.hid (h0.keep HA.out)
  clear h0 ht
  go_enter Tryd.func24, Tryd.ntmps24
  go_wp2_with fail
  refine (place_13 b _ (by simp; omega)).mono ?_
  rintro e w1 ⟨rfl, hb1⟩
  go_wp2
  go_ret
  exact ⟨rfl, HB1.out.keep hb1, It.Only.of_all (HA.out.trans (hb1.mono (by simp))) _⟩
set_option maxHeartbeats 2000000 in
theorem take_14_ok (b : Nat) (p : Prm) (l : List UInt8) (w : World) (ht : Tab w) (h0 : PBk b p w) (hl : l.length ≤ 140737488351232) (hE : Hid (gE l = 0)) : Calls Tryd.prog 24 #[.pointer (some ⟨b, 0, none⟩), .agg #[.int .u64 14, .string ⟨l.toArray⟩]] w fun e w' => e = .returned (.bool ((gR l).isEmpty)) ∧ PBk b { p with ids := (gN l : Nat) } w' ∧ It.Only (fun k => k = b) w w' := by
  have CG := Lib.hid (fun w (ht : Tab w) => vget ⟨l.toArray⟩ w ht (by rw [size_len]; show l.length ≤ _; omega))
  have EQ : (⟨l.toArray⟩ : ByteArray).data.toList = l := rfl
  rw [EQ, hE.out] at CG
  have TL := tl_eq (gR l)
  clear EQ
  have hlt := h0.lt
  have hlt2 := ht.lt
  have HB := Lib.hid h0
  have HT := Lib.hid ht
  have hne : w.heap.size ≠ b := by omega
  have HA := Lib.hid ((Below.refl w.heap.size w).alloc (Nat.le_refl _) (.cells #[.int .u64 14, .string ⟨l.toArray⟩] 54))
  have HB1 := Lib.hid (h0.keep HA.out)
  clear h0 ht
  go_enter Tryd.func24, Tryd.ntmps24
  go_wp2_with fail
  refine (place_14 b _ (by simp; omega)).mono ?_
  rintro e w1 ⟨rfl, hb1⟩
  replace HB1 := Lib.hid (HB1.out.keep hb1)
  have HA1 := Lib.hid (HA.out.trans (hb1.mono (by simp)))
  have HT1 := Lib.hid (HT.out.below HA1.out hlt2)
  have x0 := hb1.cell (p := ⟨w.heap.size, 1, none⟩) (by simp)
  simp [go_sem] at x0
  clear hb1
  go_wp2_with fail
  refine (CG.out _ HT1.out).mono ?_
  rintro e w2 ⟨rfl, m, rfl⟩
  have HB2 := Lib.hid (HB1.out.keep (below_drewN (Below.refl _ _) m))
  have HA2 := Lib.hid (below_drewN HA1.out m)
  have ci := HB2.out.cell10
  have fi := HB2.out.fz 10
  go_wp2
  go_ret
  exact ⟨by first | rfl | (rw [TL]), HB2.out.set10 _, (It.Only.of_all HA2.out _).trans (It.Only.setCell (O := fun k => k = b) (p := ⟨b, 10, none⟩) rfl _ _)⟩
set_option maxHeartbeats 2000000 in
theorem take_14_no (b : Nat) (p : Prm) (l : List UInt8) (w : World) (ht : Tab w) (h0 : PBk b p w) (hl : l.length ≤ 140737488351232) (hE : Hid (gE l = 10)) : Calls Tryd.prog 24 #[.pointer (some ⟨b, 0, none⟩), .agg #[.int .u64 14, .string ⟨l.toArray⟩]] w fun e w' => e = .returned (.bool (false)) ∧ PBk b { p with ids := (gN l : Nat) } w' ∧ It.Only (fun k => k = b) w w' := by
  have CG := Lib.hid (fun w (ht : Tab w) => vget ⟨l.toArray⟩ w ht (by rw [size_len]; show l.length ≤ _; omega))
  have EQ : (⟨l.toArray⟩ : ByteArray).data.toList = l := rfl
  rw [EQ, hE.out] at CG
  have TL := tl_eq (gR l)
  clear EQ
  have hlt := h0.lt
  have hlt2 := ht.lt
  have HB := Lib.hid h0
  have HT := Lib.hid ht
  have hne : w.heap.size ≠ b := by omega
  have HA := Lib.hid ((Below.refl w.heap.size w).alloc (Nat.le_refl _) (.cells #[.int .u64 14, .string ⟨l.toArray⟩] 54))
  have HB1 := Lib.hid (h0.keep HA.out)
  clear h0 ht
  go_enter Tryd.func24, Tryd.ntmps24
  go_wp2_with fail
  refine (place_14 b _ (by simp; omega)).mono ?_
  rintro e w1 ⟨rfl, hb1⟩
  replace HB1 := Lib.hid (HB1.out.keep hb1)
  have HA1 := Lib.hid (HA.out.trans (hb1.mono (by simp)))
  have HT1 := Lib.hid (HT.out.below HA1.out hlt2)
  have x0 := hb1.cell (p := ⟨w.heap.size, 1, none⟩) (by simp)
  simp [go_sem] at x0
  clear hb1
  go_wp2_with fail
  refine (CG.out _ HT1.out).mono ?_
  rintro e w2 ⟨rfl, m, rfl⟩
  have HB2 := Lib.hid (HB1.out.keep (below_drewN (Below.refl _ _) m))
  have HA2 := Lib.hid (below_drewN HA1.out m)
  have ci := HB2.out.cell10
  have fi := HB2.out.fz 10
  go_wp2
  go_ret
  exact ⟨rfl, HB2.out.set10 _, (It.Only.of_all HA2.out _).trans (It.Only.setCell (O := fun k => k = b) (p := ⟨b, 10, none⟩) rfl _ _)⟩
set_option maxHeartbeats 1000000 in
theorem take_15 (b : Nat) (p : Prm) (l : List UInt8) (n : Int) (h : 15 ≤ n) (w : World) (ht : Tab w) (h0 : PBk b p w) (hl : l.length ≤ 140737488351232) : Calls Tryd.prog 24 #[.pointer (some ⟨b, 0, none⟩), .agg #[.int .u64 n, .string ⟨l.toArray⟩]] w fun e w' => e = .returned (.bool true) ∧ PBk b p w' ∧ It.Only (fun k => k = b) w w' := by
  have hlt := h0.lt
  have hlt2 := ht.lt
  have HB := Lib.hid h0
  have HT := Lib.hid ht
  have hne : w.heap.size ≠ b := by omega
  have HA := Lib.hid ((Below.refl w.heap.size w).alloc (Nat.le_refl _) (.cells #[.int .u64 n, .string ⟨l.toArray⟩] 54))
  have HB1 := Lib.hid (h0.keep HA.out)
  clear h0 ht
  go_enter Tryd.func24, Tryd.ntmps24
  go_wp2_with fail
  refine (place_great b n _ h).mono ?_
  rintro e w1 ⟨rfl, hb1⟩
  go_wp2
  go_ret
  exact ⟨rfl, HB1.out.keep hb1, It.Only.of_all (HA.out.trans (hb1.mono (by simp))) _⟩
/-- take, in one word. -/
theorem take_any (b : Nat) (p : Prm) (n : Nat) (l : List UInt8) (w : World) (ht : Tab w) (h0 : PBk b p w) (hl : l.length ≤ 140737488351232) : Calls Tryd.prog 24 #[.pointer (some ⟨b, 0, none⟩), .agg #[.int .u64 (n : Nat), .string ⟨l.toArray⟩]] w fun e w' => e = .returned (.bool (tkB p n l)) ∧ PBk b (tkP p n l) w' ∧ It.Only (fun k => k = b) w w' := by
  match n with
  | 2 =>
    by_cases h : l.length = 16
    · have e : tkB p 2 l = true := decide_eq_true h
      rw [e]
      exact take_2_true b p l w ht h0 hl (by rw [h]; rfl)
    · have e : tkB p 2 l = false := decide_eq_false h
      rw [e]
      exact take_2_false b p l w ht h0 hl (by rw [beq_eq_false_iff_ne]; omega)
  | 0 => exact take_0 b p l w ht h0 hl
  | 1 =>
    by_cases h : gk l ≤ l.length
    · have e : tkB p 1 l = (gR l).isEmpty := by
        show (decide (gk l ≤ l.length) && (gR l).isEmpty) = _
        rw [decide_eq_true h]; rfl
      rw [e]
      exact take_1_ok b p l w ht h0 hl (Lib.hid (g_ok h).2.2)
    · have e : tkB p 1 l = false := by
        show (decide (gk l ≤ l.length) && (gR l).isEmpty) = _
        rw [decide_eq_false h]; rfl
      rw [e]
      exact take_1_no b p l w ht h0 hl (Lib.hid (g_no (by omega)).2.2)
  | 3 =>
    by_cases h : gk l ≤ l.length
    · have e : tkB p 3 l = (gR l).isEmpty := by
        show (decide (gk l ≤ l.length) && (gR l).isEmpty) = _
        rw [decide_eq_true h]; rfl
      rw [e]
      exact take_3_ok b p l w ht h0 hl (Lib.hid (g_ok h).2.2)
    · have e : tkB p 3 l = false := by
        show (decide (gk l ≤ l.length) && (gR l).isEmpty) = _
        rw [decide_eq_false h]; rfl
      rw [e]
      exact take_3_no b p l w ht h0 hl (Lib.hid (g_no (by omega)).2.2)
  | 4 =>
    by_cases h : gk l ≤ l.length
    · have e : tkB p 4 l = (gR l).isEmpty := by
        show (decide (gk l ≤ l.length) && (gR l).isEmpty) = _
        rw [decide_eq_true h]; rfl
      rw [e]
      exact take_4_ok b p l w ht h0 hl (Lib.hid (g_ok h).2.2)
    · have e : tkB p 4 l = false := by
        show (decide (gk l ≤ l.length) && (gR l).isEmpty) = _
        rw [decide_eq_false h]; rfl
      rw [e]
      exact take_4_no b p l w ht h0 hl (Lib.hid (g_no (by omega)).2.2)
  | 5 =>
    by_cases h : gk l ≤ l.length
    · have e : tkB p 5 l = (gR l).isEmpty := by
        show (decide (gk l ≤ l.length) && (gR l).isEmpty) = _
        rw [decide_eq_true h]; rfl
      rw [e]
      exact take_5_ok b p l w ht h0 hl (Lib.hid (g_ok h).2.2)
    · have e : tkB p 5 l = false := by
        show (decide (gk l ≤ l.length) && (gR l).isEmpty) = _
        rw [decide_eq_false h]; rfl
      rw [e]
      exact take_5_no b p l w ht h0 hl (Lib.hid (g_no (by omega)).2.2)
  | 6 =>
    by_cases h : gk l ≤ l.length
    · have e : tkB p 6 l = (gR l).isEmpty := by
        show (decide (gk l ≤ l.length) && (gR l).isEmpty) = _
        rw [decide_eq_true h]; rfl
      rw [e]
      exact take_6_ok b p l w ht h0 hl (Lib.hid (g_ok h).2.2)
    · have e : tkB p 6 l = false := by
        show (decide (gk l ≤ l.length) && (gR l).isEmpty) = _
        rw [decide_eq_false h]; rfl
      rw [e]
      exact take_6_no b p l w ht h0 hl (Lib.hid (g_no (by omega)).2.2)
  | 7 =>
    by_cases h : gk l ≤ l.length
    · have e : tkB p 7 l = (gR l).isEmpty := by
        show (decide (gk l ≤ l.length) && (gR l).isEmpty) = _
        rw [decide_eq_true h]; rfl
      rw [e]
      exact take_7_ok b p l w ht h0 hl (Lib.hid (g_ok h).2.2)
    · have e : tkB p 7 l = false := by
        show (decide (gk l ≤ l.length) && (gR l).isEmpty) = _
        rw [decide_eq_false h]; rfl
      rw [e]
      exact take_7_no b p l w ht h0 hl (Lib.hid (g_no (by omega)).2.2)
  | 8 =>
    by_cases h : gk l ≤ l.length
    · have e : tkB p 8 l = (gR l).isEmpty := by
        show (decide (gk l ≤ l.length) && (gR l).isEmpty) = _
        rw [decide_eq_true h]; rfl
      rw [e]
      exact take_8_ok b p l w ht h0 hl (Lib.hid (g_ok h).2.2)
    · have e : tkB p 8 l = false := by
        show (decide (gk l ≤ l.length) && (gR l).isEmpty) = _
        rw [decide_eq_false h]; rfl
      rw [e]
      exact take_8_no b p l w ht h0 hl (Lib.hid (g_no (by omega)).2.2)
  | 9 =>
    by_cases h : gk l ≤ l.length
    · have e : tkB p 9 l = (gR l).isEmpty := by
        show (decide (gk l ≤ l.length) && (gR l).isEmpty) = _
        rw [decide_eq_true h]; rfl
      rw [e]
      exact take_9_ok b p l w ht h0 hl (Lib.hid (g_ok h).2.2)
    · have e : tkB p 9 l = false := by
        show (decide (gk l ≤ l.length) && (gR l).isEmpty) = _
        rw [decide_eq_false h]; rfl
      rw [e]
      exact take_9_no b p l w ht h0 hl (Lib.hid (g_no (by omega)).2.2)
  | 10 =>
    by_cases h : gk l ≤ l.length
    · have e : tkB p 10 l = (gR l).isEmpty := by
        show (decide (gk l ≤ l.length) && (gR l).isEmpty) = _
        rw [decide_eq_true h]; rfl
      rw [e]
      exact take_10_ok b p l w ht h0 hl (Lib.hid (g_ok h).2.2)
    · have e : tkB p 10 l = false := by
        show (decide (gk l ≤ l.length) && (gR l).isEmpty) = _
        rw [decide_eq_false h]; rfl
      rw [e]
      exact take_10_no b p l w ht h0 hl (Lib.hid (g_no (by omega)).2.2)
  | 11 =>
    by_cases h : gk l ≤ l.length
    · have e : tkB p 11 l = (gR l).isEmpty := by
        show (decide (gk l ≤ l.length) && (gR l).isEmpty) = _
        rw [decide_eq_true h]; rfl
      rw [e]
      exact take_11_ok b p l w ht h0 hl (Lib.hid (g_ok h).2.2)
    · have e : tkB p 11 l = false := by
        show (decide (gk l ≤ l.length) && (gR l).isEmpty) = _
        rw [decide_eq_false h]; rfl
      rw [e]
      exact take_11_no b p l w ht h0 hl (Lib.hid (g_no (by omega)).2.2)
  | 12 => exact take_12 b p l w ht h0 hl
  | 13 => exact take_13 b p l w ht h0 hl
  | 14 =>
    by_cases h : gk l ≤ l.length
    · have e : tkB p 14 l = (gR l).isEmpty := by
        show (decide (gk l ≤ l.length) && (gR l).isEmpty) = _
        rw [decide_eq_true h]; rfl
      rw [e]
      exact take_14_ok b p l w ht h0 hl (Lib.hid (g_ok h).2.2)
    · have e : tkB p 14 l = false := by
        show (decide (gk l ≤ l.length) && (gR l).isEmpty) = _
        rw [decide_eq_false h]; rfl
      rw [e]
      exact take_14_no b p l w ht h0 hl (Lib.hid (g_no (by omega)).2.2)
  | k + 15 => exact take_15 b p l _ (by omega) w ht h0 hl
end Go.Proofs.YthhcpedaldlccaaDoor.Pm
