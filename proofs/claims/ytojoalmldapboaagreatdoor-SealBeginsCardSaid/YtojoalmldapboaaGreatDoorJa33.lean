/- The walks of layer 4: Get and Place, the program's -/
import Derived.Test.YtojoalmldapboaaGreatDoorJa32
import Derived.OpenShut
namespace Go.Proofs.YtojoalmldapboaaGreatDoor.Hd
set_option maxRecDepth 20000
open Go.RowKit Vm
set_option linter.unusedVariables false
set_option linter.unusedSimpArgs false

/-- A block that holds a header, known whole. -/
def HBk (b : Nat) (x0 x1 x2 x3 x4 x5 x6 x7 x8 x9 x10 : Value) (w : World) : Prop := w.heap[b]? = some (.cells #[x0, x1, x2, x3, x4, x5, x6, x7, x8, x9, x10] 101 (0, 0))
theorem HBk.made (w : World) (x0 x1 x2 x3 x4 x5 x6 x7 x8 x9 x10 : Value) : HBk w.heap.size x0 x1 x2 x3 x4 x5 x6 x7 x8 x9 x10 (w.alloc (.cells #[x0, x1, x2, x3, x4, x5, x6, x7, x8, x9, x10] 101)) := by
  unfold HBk World.alloc
  simp
theorem HBk.up {b : Nat} {x0 x1 x2 x3 x4 x5 x6 x7 x8 x9 x10 : Value} {w w' : World} (h : HBk b x0 x1 x2 x3 x4 x5 x6 x7 x8 x9 x10 w) {n : Nat} (hb : Below n w w') (hn : b < n) : HBk b x0 x1 x2 x3 x4 x5 x6 x7 x8 x9 x10 w' := by
  unfold HBk at *
  rw [hb.block b hn]; exact h
theorem HBk.lt {b : Nat} {x0 x1 x2 x3 x4 x5 x6 x7 x8 x9 x10 : Value} {w : World} (h : HBk b x0 x1 x2 x3 x4 x5 x6 x7 x8 x9 x10 w) : b < w.heap.size := by
  rcases Nat.lt_or_ge b w.heap.size with h1 | h1
  · exact h1
  · unfold HBk at h; rw [Array.getElem?_eq_none h1] at h; cases h
theorem HBk.keep {b : Nat} {x0 x1 x2 x3 x4 x5 x6 x7 x8 x9 x10 : Value} {w w' : World} (h : HBk b x0 x1 x2 x3 x4 x5 x6 x7 x8 x9 x10 w) (hb : Below w.heap.size w w') : HBk b x0 x1 x2 x3 x4 x5 x6 x7 x8 x9 x10 w' := h.up hb h.lt
theorem HBk.cell {b : Nat} {x0 x1 x2 x3 x4 x5 x6 x7 x8 x9 x10 : Value} {w : World} (h : HBk b x0 x1 x2 x3 x4 x5 x6 x7 x8 x9 x10 w) (j : Nat) : w.cell? ⟨b, j, none⟩ = (#[x0, x1, x2, x3, x4, x5, x6, x7, x8, x9, x10] : Array Value)[j]? := Lib.cell_of_heap h j
theorem HBk.fz {b : Nat} {x0 x1 x2 x3 x4 x5 x6 x7 x8 x9 x10 : Value} {w : World} (h : HBk b x0 x1 x2 x3 x4 x5 x6 x7 x8 x9 x10 w) (j : Nat) : w.frozen? ⟨b, j, none⟩ = false := Lib.frozen_of_heap h j
set_option maxHeartbeats 4000000 in
theorem get_g (l s0 : List UInt8) (wr lg sp : Bool) (ty ve le n : Nat) (dc sc tk : List UInt8) (k v : Nat) (rest : List UInt8) (bad : Bool) (w : World) (ht : Tab w) (ER : Hid (ra l = ⟨⟨s0, wr⟩, lg, sp, ty, ve, dc, sc, tk, le, n⟩)) (EK : Hid (1 + n % 4 = k)) (EV : Hid (rnV n ⟨s0, wr⟩ = v)) (ES : Hid (rnS n ⟨s0, wr⟩ = ⟨rest, bad⟩)) (HB : Hid (Bnd (ra l) l.length)) (hl : l.length ≤ 140737488351232)
    (EG : Hid ((!bad && mayB lg sp (decide (n / 4 % 2 = 1)) (ty : Nat) (ve : Nat) dc sc tk (le : Nat) (k : Nat) (v : Nat)) = true)) (EK4 : k ≤ 4) (EV4 : ((v : Nat) : Int) < 4294967296) :
    Calls Tryz.prog 100 #[.string ⟨l.toArray⟩] w fun e w' => e = .returned (.tuple #[.agg #[.bool lg, .bool sp, .bool (decide (n / 4 % 2 = 1)), .int .i64 (ty : Nat), .int .u32 (ve : Nat), .string ⟨dc.toArray⟩, .string ⟨sc.toArray⟩, .string ⟨tk.toArray⟩, .int .u64 (le : Nat), .int .i64 (k : Nat), .int .u64 (v : Nat)], .string ⟨rest.toArray⟩, .int .i64 0]) ∧ Below w.heap.size w w' := by
  have HR := Lib.hid (fun (w : World) (ht : Tab w) => readAhead_any l w ht (by omega))
  rw [ER.out] at HR HB
  have bn := HB.out.n
  have bl := HB.out.st
  have hty : ((ty : Nat) : Int) ≤ 3 := Int.ofNat_le.2 HB.out.ty
  have hve : ((ve : Nat) : Int) ≤ 4294967295 := Int.ofNat_le.2 HB.out.ve
  have hdc := HB.out.dc
  have hsc := HB.out.sc
  have htk := HB.out.tk
  have hle : ((le : Nat) : Int) < 4611686018427387904 := Int.ofNat_lt.2 HB.out.le
  simp only at bn bl hdc hsc htk
  have hlt := ht.lt
  have HT := Lib.hid ht
  clear ht ER HB
  go_enter Tryz.func100, Tryz.ntmps100
  go_wp2_with fail
  refine (HR.out _ ?_).mono ?_
  · exact HT.out.below ((Below.refl _ _).alloc (Nat.le_refl _) _) hlt
  rintro e w1 ⟨rfl, hb1⟩
  have R := Lib.hid ((HBk.made w (.bool false) (.bool false) (.bool false) (.int .i64 0) (.int .u32 0) (.string ⟨#[]⟩) (.string ⟨#[]⟩) (.string ⟨#[]⟩) (.int .u64 0) (.int .i64 0) (.int .u64 0)).keep hb1)
  have HBL := Lib.hid (((Below.refl w.heap.size w).alloc (Nat.le_refl _) (.cells #[.bool false, .bool false, .bool false, .int .i64 0, .int .u32 0, .string ⟨#[]⟩, .string ⟨#[]⟩, .string ⟨#[]⟩, .int .u64 0, .int .i64 0, .int .u64 0] 101)).trans (hb1.mono (by simp)))
  have hz1 := R.out.lt
  go_wp2_with fail
  refine (readNumber_any w1.heap.size n ⟨s0, wr⟩ (.bool lg) (.bool sp) (.int .i64 (ty : Nat)) (.int .u32 (ve : Nat)) (.string ⟨dc.toArray⟩) (.string ⟨sc.toArray⟩) (.string ⟨tk.toArray⟩) (.int .u64 (le : Nat)) _ (Blk.made w1 ⟨s0, wr⟩ (.bool lg) (.bool sp) (.bool false) (.int .i64 (ty : Nat)) (.int .u32 (ve : Nat)) (.string ⟨dc.toArray⟩) (.string ⟨sc.toArray⟩) (.string ⟨tk.toArray⟩) (.int .u64 (le : Nat)) (.int .i64 0) (.int .u64 0) (.int .u8 (n : Nat))) (by show s0.length ≤ _; omega) bn).mono ?_
  rintro e w2 ⟨rfl, h2, hb2⟩
  rw [EK.out, EV.out, ES.out] at h2
  replace R := Lib.hid ((R.out.keep ((Below.refl _ _).alloc (Nat.le_refl _) (.cells #[.string ⟨s0.toArray⟩, .bool wr, .bool lg, .bool sp, .bool false, .int .i64 (ty : Nat), .int .u32 (ve : Nat), .string ⟨dc.toArray⟩, .string ⟨sc.toArray⟩, .string ⟨tk.toArray⟩, .int .u64 (le : Nat), .int .i64 0, .int .u64 0, .int .u8 (n : Nat)] 172))).up hb2 hz1)
  have hz2 := hb2.size
  simp at hz2
  replace HBL := Lib.hid ((HBL.out.alloc (by omega) (.cells #[.string ⟨s0.toArray⟩, .bool wr, .bool lg, .bool sp, .bool false, .int .i64 (ty : Nat), .int .u32 (ve : Nat), .string ⟨dc.toArray⟩, .string ⟨sc.toArray⟩, .string ⟨tk.toArray⟩, .int .u64 (le : Nat), .int .i64 0, .int .u64 0, .int .u8 (n : Nat)] 172)).trans (hb2.mono (by omega)))
  have H := Lib.hid h2
  clear h2 hb2
  go_wp2_with fail
  refine (good_any w1.heap.size n ⟨rest, bad⟩ (lg) (sp) ((decide (n / 4 % 2 = 1))) ((ty : Nat)) ((ve : Nat)) (dc) (sc) (tk) ((le : Nat)) ((k : Nat)) ((v : Nat)) _ H.out (by omega) (by omega) (by omega) (by omega) (by omega) (by omega) (by omega) (by omega) (by omega) (by omega) (by omega) (by omega) (by omega)).mono ?_
  rintro e w3 ⟨rfl, hb3⟩
  rw [EG.out]
  replace H := Lib.hid (H.out.below hb3)
  replace R := Lib.hid (R.out.keep hb3)
  replace HBL := Lib.hid (HBL.out.trans (hb3.mono (by omega)))
  clear hb1 hb3
  have r0 := R.out.cell 0
  simp only [List.getElem?_toArray, List.getElem?_cons_succ, List.getElem?_cons_zero] at r0
  have r1 := R.out.cell 1
  simp only [List.getElem?_toArray, List.getElem?_cons_succ, List.getElem?_cons_zero] at r1
  have r2 := R.out.cell 2
  simp only [List.getElem?_toArray, List.getElem?_cons_succ, List.getElem?_cons_zero] at r2
  have r3 := R.out.cell 3
  simp only [List.getElem?_toArray, List.getElem?_cons_succ, List.getElem?_cons_zero] at r3
  have r4 := R.out.cell 4
  simp only [List.getElem?_toArray, List.getElem?_cons_succ, List.getElem?_cons_zero] at r4
  have r5 := R.out.cell 5
  simp only [List.getElem?_toArray, List.getElem?_cons_succ, List.getElem?_cons_zero] at r5
  have r6 := R.out.cell 6
  simp only [List.getElem?_toArray, List.getElem?_cons_succ, List.getElem?_cons_zero] at r6
  have r7 := R.out.cell 7
  simp only [List.getElem?_toArray, List.getElem?_cons_succ, List.getElem?_cons_zero] at r7
  have r8 := R.out.cell 8
  simp only [List.getElem?_toArray, List.getElem?_cons_succ, List.getElem?_cons_zero] at r8
  have r9 := R.out.cell 9
  simp only [List.getElem?_toArray, List.getElem?_cons_succ, List.getElem?_cons_zero] at r9
  have r10 := R.out.cell 10
  simp only [List.getElem?_toArray, List.getElem?_cons_succ, List.getElem?_cons_zero] at r10
  have q0 := R.out.fz 0
  have q1 := R.out.fz 1
  have q2 := R.out.fz 2
  have q3 := R.out.fz 3
  have q4 := R.out.fz 4
  have q5 := R.out.fz 5
  have q6 := R.out.fz 6
  have q7 := R.out.fz 7
  have q8 := R.out.fz 8
  have q9 := R.out.fz 9
  have q10 := R.out.fz 10
  have g0 := H.out.cell 0
  simp only [List.getElem?_toArray, List.getElem?_cons_succ, List.getElem?_cons_zero] at g0
  have g1 := H.out.cell 1
  simp only [List.getElem?_toArray, List.getElem?_cons_succ, List.getElem?_cons_zero] at g1
  have g2 := H.out.cell 2
  simp only [List.getElem?_toArray, List.getElem?_cons_succ, List.getElem?_cons_zero] at g2
  have g3 := H.out.cell 3
  simp only [List.getElem?_toArray, List.getElem?_cons_succ, List.getElem?_cons_zero] at g3
  have g4 := H.out.cell 4
  simp only [List.getElem?_toArray, List.getElem?_cons_succ, List.getElem?_cons_zero] at g4
  have g5 := H.out.cell 5
  simp only [List.getElem?_toArray, List.getElem?_cons_succ, List.getElem?_cons_zero] at g5
  have g6 := H.out.cell 6
  simp only [List.getElem?_toArray, List.getElem?_cons_succ, List.getElem?_cons_zero] at g6
  have g7 := H.out.cell 7
  simp only [List.getElem?_toArray, List.getElem?_cons_succ, List.getElem?_cons_zero] at g7
  have g8 := H.out.cell 8
  simp only [List.getElem?_toArray, List.getElem?_cons_succ, List.getElem?_cons_zero] at g8
  have g9 := H.out.cell 9
  simp only [List.getElem?_toArray, List.getElem?_cons_succ, List.getElem?_cons_zero] at g9
  have g10 := H.out.cell 10
  simp only [List.getElem?_toArray, List.getElem?_cons_succ, List.getElem?_cons_zero] at g10
  have g11 := H.out.cell 11
  simp only [List.getElem?_toArray, List.getElem?_cons_succ, List.getElem?_cons_zero] at g11
  have g12 := H.out.cell 12
  simp only [List.getElem?_toArray, List.getElem?_cons_succ, List.getElem?_cons_zero] at g12
  go_wp2_with fail
  go_region
  all_goals go_wp2
  all_goals
    refine bodyPost_ret (v := .tuple #[.agg #[.bool lg, .bool sp, .bool (decide (n / 4 % 2 = 1)), .int .i64 (ty : Nat), .int .u32 (ve : Nat), .string ⟨dc.toArray⟩, .string ⟨sc.toArray⟩, .string ⟨tk.toArray⟩, .int .u64 (le : Nat), .int .i64 (k : Nat), .int .u64 (v : Nat)], .string ⟨rest.toArray⟩, .int .i64 0]) (by simp [results, Tryz.results100, go_sem, *]) rfl ⟨rfl, ?_⟩
    refine below_drew ?_
    iterate 11 (refine Below.setCell ?_ (by exact Nat.le_refl _) _)
    exact HBL.out
set_option maxHeartbeats 4000000 in
theorem get_b (l s0 : List UInt8) (wr lg sp : Bool) (ty ve le n : Nat) (dc sc tk : List UInt8) (k v : Nat) (rest : List UInt8) (bad : Bool) (w : World) (ht : Tab w) (ER : Hid (ra l = ⟨⟨s0, wr⟩, lg, sp, ty, ve, dc, sc, tk, le, n⟩)) (EK : Hid (1 + n % 4 = k)) (EV : Hid (rnV n ⟨s0, wr⟩ = v)) (ES : Hid (rnS n ⟨s0, wr⟩ = ⟨rest, bad⟩)) (HB : Hid (Bnd (ra l) l.length)) (hl : l.length ≤ 140737488351232)
    (EG : Hid ((!bad && mayB lg sp (decide (n / 4 % 2 = 1)) (ty : Nat) (ve : Nat) dc sc tk (le : Nat) (k : Nat) (v : Nat)) = false)) (EK4 : k ≤ 4) (EV4 : ((v : Nat) : Int) < 4294967296) :
    Calls Tryz.prog 100 #[.string ⟨l.toArray⟩] w fun e w' => e = .returned (.tuple #[.agg #[.bool false, .bool false, .bool false, .int .i64 0, .int .u32 0, .string ⟨#[]⟩, .string ⟨#[]⟩, .string ⟨#[]⟩, .int .u64 0, .int .i64 0, .int .u64 0], .string ⟨#[]⟩, .int .i64 40]) ∧ Below w.heap.size w w' := by
  have HR := Lib.hid (fun (w : World) (ht : Tab w) => readAhead_any l w ht (by omega))
  rw [ER.out] at HR HB
  have bn := HB.out.n
  have bl := HB.out.st
  have hty : ((ty : Nat) : Int) ≤ 3 := Int.ofNat_le.2 HB.out.ty
  have hve : ((ve : Nat) : Int) ≤ 4294967295 := Int.ofNat_le.2 HB.out.ve
  have hdc := HB.out.dc
  have hsc := HB.out.sc
  have htk := HB.out.tk
  have hle : ((le : Nat) : Int) < 4611686018427387904 := Int.ofNat_lt.2 HB.out.le
  simp only at bn bl hdc hsc htk
  have hlt := ht.lt
  have HT := Lib.hid ht
  clear ht ER HB
  go_enter Tryz.func100, Tryz.ntmps100
  go_wp2_with fail
  refine (HR.out _ ?_).mono ?_
  · exact HT.out.below ((Below.refl _ _).alloc (Nat.le_refl _) _) hlt
  rintro e w1 ⟨rfl, hb1⟩
  have R := Lib.hid ((HBk.made w (.bool false) (.bool false) (.bool false) (.int .i64 0) (.int .u32 0) (.string ⟨#[]⟩) (.string ⟨#[]⟩) (.string ⟨#[]⟩) (.int .u64 0) (.int .i64 0) (.int .u64 0)).keep hb1)
  have HBL := Lib.hid (((Below.refl w.heap.size w).alloc (Nat.le_refl _) (.cells #[.bool false, .bool false, .bool false, .int .i64 0, .int .u32 0, .string ⟨#[]⟩, .string ⟨#[]⟩, .string ⟨#[]⟩, .int .u64 0, .int .i64 0, .int .u64 0] 101)).trans (hb1.mono (by simp)))
  have hz1 := R.out.lt
  go_wp2_with fail
  refine (readNumber_any w1.heap.size n ⟨s0, wr⟩ (.bool lg) (.bool sp) (.int .i64 (ty : Nat)) (.int .u32 (ve : Nat)) (.string ⟨dc.toArray⟩) (.string ⟨sc.toArray⟩) (.string ⟨tk.toArray⟩) (.int .u64 (le : Nat)) _ (Blk.made w1 ⟨s0, wr⟩ (.bool lg) (.bool sp) (.bool false) (.int .i64 (ty : Nat)) (.int .u32 (ve : Nat)) (.string ⟨dc.toArray⟩) (.string ⟨sc.toArray⟩) (.string ⟨tk.toArray⟩) (.int .u64 (le : Nat)) (.int .i64 0) (.int .u64 0) (.int .u8 (n : Nat))) (by show s0.length ≤ _; omega) bn).mono ?_
  rintro e w2 ⟨rfl, h2, hb2⟩
  rw [EK.out, EV.out, ES.out] at h2
  replace R := Lib.hid ((R.out.keep ((Below.refl _ _).alloc (Nat.le_refl _) (.cells #[.string ⟨s0.toArray⟩, .bool wr, .bool lg, .bool sp, .bool false, .int .i64 (ty : Nat), .int .u32 (ve : Nat), .string ⟨dc.toArray⟩, .string ⟨sc.toArray⟩, .string ⟨tk.toArray⟩, .int .u64 (le : Nat), .int .i64 0, .int .u64 0, .int .u8 (n : Nat)] 172))).up hb2 hz1)
  have hz2 := hb2.size
  simp at hz2
  replace HBL := Lib.hid ((HBL.out.alloc (by omega) (.cells #[.string ⟨s0.toArray⟩, .bool wr, .bool lg, .bool sp, .bool false, .int .i64 (ty : Nat), .int .u32 (ve : Nat), .string ⟨dc.toArray⟩, .string ⟨sc.toArray⟩, .string ⟨tk.toArray⟩, .int .u64 (le : Nat), .int .i64 0, .int .u64 0, .int .u8 (n : Nat)] 172)).trans (hb2.mono (by omega)))
  have H := Lib.hid h2
  clear h2 hb2
  go_wp2_with fail
  refine (good_any w1.heap.size n ⟨rest, bad⟩ (lg) (sp) ((decide (n / 4 % 2 = 1))) ((ty : Nat)) ((ve : Nat)) (dc) (sc) (tk) ((le : Nat)) ((k : Nat)) ((v : Nat)) _ H.out (by omega) (by omega) (by omega) (by omega) (by omega) (by omega) (by omega) (by omega) (by omega) (by omega) (by omega) (by omega) (by omega)).mono ?_
  rintro e w3 ⟨rfl, hb3⟩
  rw [EG.out]
  replace H := Lib.hid (H.out.below hb3)
  replace R := Lib.hid (R.out.keep hb3)
  replace HBL := Lib.hid (HBL.out.trans (hb3.mono (by omega)))
  clear hb1 hb3
  have r0 := R.out.cell 0
  simp only [List.getElem?_toArray, List.getElem?_cons_succ, List.getElem?_cons_zero] at r0
  have r1 := R.out.cell 1
  simp only [List.getElem?_toArray, List.getElem?_cons_succ, List.getElem?_cons_zero] at r1
  have r2 := R.out.cell 2
  simp only [List.getElem?_toArray, List.getElem?_cons_succ, List.getElem?_cons_zero] at r2
  have r3 := R.out.cell 3
  simp only [List.getElem?_toArray, List.getElem?_cons_succ, List.getElem?_cons_zero] at r3
  have r4 := R.out.cell 4
  simp only [List.getElem?_toArray, List.getElem?_cons_succ, List.getElem?_cons_zero] at r4
  have r5 := R.out.cell 5
  simp only [List.getElem?_toArray, List.getElem?_cons_succ, List.getElem?_cons_zero] at r5
  have r6 := R.out.cell 6
  simp only [List.getElem?_toArray, List.getElem?_cons_succ, List.getElem?_cons_zero] at r6
  have r7 := R.out.cell 7
  simp only [List.getElem?_toArray, List.getElem?_cons_succ, List.getElem?_cons_zero] at r7
  have r8 := R.out.cell 8
  simp only [List.getElem?_toArray, List.getElem?_cons_succ, List.getElem?_cons_zero] at r8
  have r9 := R.out.cell 9
  simp only [List.getElem?_toArray, List.getElem?_cons_succ, List.getElem?_cons_zero] at r9
  have r10 := R.out.cell 10
  simp only [List.getElem?_toArray, List.getElem?_cons_succ, List.getElem?_cons_zero] at r10
  have q0 := R.out.fz 0
  have q1 := R.out.fz 1
  have q2 := R.out.fz 2
  have q3 := R.out.fz 3
  have q4 := R.out.fz 4
  have q5 := R.out.fz 5
  have q6 := R.out.fz 6
  have q7 := R.out.fz 7
  have q8 := R.out.fz 8
  have q9 := R.out.fz 9
  have q10 := R.out.fz 10
  have g0 := H.out.cell 0
  simp only [List.getElem?_toArray, List.getElem?_cons_succ, List.getElem?_cons_zero] at g0
  have g1 := H.out.cell 1
  simp only [List.getElem?_toArray, List.getElem?_cons_succ, List.getElem?_cons_zero] at g1
  have g2 := H.out.cell 2
  simp only [List.getElem?_toArray, List.getElem?_cons_succ, List.getElem?_cons_zero] at g2
  have g3 := H.out.cell 3
  simp only [List.getElem?_toArray, List.getElem?_cons_succ, List.getElem?_cons_zero] at g3
  have g4 := H.out.cell 4
  simp only [List.getElem?_toArray, List.getElem?_cons_succ, List.getElem?_cons_zero] at g4
  have g5 := H.out.cell 5
  simp only [List.getElem?_toArray, List.getElem?_cons_succ, List.getElem?_cons_zero] at g5
  have g6 := H.out.cell 6
  simp only [List.getElem?_toArray, List.getElem?_cons_succ, List.getElem?_cons_zero] at g6
  have g7 := H.out.cell 7
  simp only [List.getElem?_toArray, List.getElem?_cons_succ, List.getElem?_cons_zero] at g7
  have g8 := H.out.cell 8
  simp only [List.getElem?_toArray, List.getElem?_cons_succ, List.getElem?_cons_zero] at g8
  have g9 := H.out.cell 9
  simp only [List.getElem?_toArray, List.getElem?_cons_succ, List.getElem?_cons_zero] at g9
  have g10 := H.out.cell 10
  simp only [List.getElem?_toArray, List.getElem?_cons_succ, List.getElem?_cons_zero] at g10
  have g11 := H.out.cell 11
  simp only [List.getElem?_toArray, List.getElem?_cons_succ, List.getElem?_cons_zero] at g11
  have g12 := H.out.cell 12
  simp only [List.getElem?_toArray, List.getElem?_cons_succ, List.getElem?_cons_zero] at g12
  go_wp2_with fail
  all_goals
    refine bodyPost_ret (v := .tuple #[.agg #[.bool false, .bool false, .bool false, .int .i64 0, .int .u32 0, .string ⟨#[]⟩, .string ⟨#[]⟩, .string ⟨#[]⟩, .int .u64 0, .int .i64 0, .int .u64 0], .string ⟨#[]⟩, .int .i64 40]) (by simp [results, Tryz.results100, go_sem, *]) rfl ⟨rfl, ?_⟩
    skip
    iterate 11 (refine Below.setCell ?_ (by exact Nat.le_refl _) _)
    exact HBL.out
set_option maxHeartbeats 4000000 in
theorem place_g (l s0 : List UInt8) (wr lg sp : Bool) (ty ve le n : Nat) (dc sc tk : List UInt8)  (w : World) (ht : Tab w) (ER : Hid (ra l = ⟨⟨s0, wr⟩, lg, sp, ty, ve, dc, sc, tk, le, n⟩))  (HB : Hid (Bnd (ra l) l.length)) (hl : l.length ≤ 140737488351232)
    (EG : Hid ((!wr && mayB lg sp false (ty : Nat) (ve : Nat) dc sc tk (le : Nat) 1 0) = true))  :
    Calls Tryz.prog 98 #[.string ⟨l.toArray⟩] w fun e w' => e = .returned (.tuple #[.int .i64 ((l.length : Int) - (s0.length : Int)), .int .i64 0]) ∧ Below w.heap.size w w' := by
  have HR := Lib.hid (fun (w : World) (ht : Tab w) => readAhead_any l w ht (by omega))
  rw [ER.out] at HR HB
  have bn := HB.out.n
  have bl := HB.out.st
  have hty : ((ty : Nat) : Int) ≤ 3 := Int.ofNat_le.2 HB.out.ty
  have hve : ((ve : Nat) : Int) ≤ 4294967295 := Int.ofNat_le.2 HB.out.ve
  have hdc := HB.out.dc
  have hsc := HB.out.sc
  have htk := HB.out.tk
  have hle : ((le : Nat) : Int) < 4611686018427387904 := Int.ofNat_lt.2 HB.out.le
  simp only at bn bl hdc hsc htk
  have hlt := ht.lt
  have HT := Lib.hid ht
  clear ht ER HB
  go_enter Tryz.func98, Tryz.ntmps98
  go_wp2_with fail
  refine (HR.out _ HT.out).mono ?_
  rintro e w1 ⟨rfl, hb1⟩
  have hz1 := hb1.size
  have HBL := Lib.hid (hb1.trans (((Below.refl w1.heap.size w1).alloc (Nat.le_refl _) (.cells #[.string ⟨s0.toArray⟩, .bool wr, .bool lg, .bool sp, .bool false, .int .i64 (ty : Nat), .int .u32 (ve : Nat), .string ⟨dc.toArray⟩, .string ⟨sc.toArray⟩, .string ⟨tk.toArray⟩, .int .u64 (le : Nat), .int .i64 1, .int .u64 0, .int .u8 (n : Nat)] 172)).mono hz1))
  have H := Lib.hid (Blk.made w1 ⟨s0, wr⟩ (.bool lg) (.bool sp) (.bool false) (.int .i64 (ty : Nat)) (.int .u32 (ve : Nat)) (.string ⟨dc.toArray⟩) (.string ⟨sc.toArray⟩) (.string ⟨tk.toArray⟩) (.int .u64 (le : Nat)) (.int .i64 1) (.int .u64 0) (.int .u8 (n : Nat)))
  clear hb1
  go_wp2_with fail
  refine (good_any w1.heap.size n ⟨s0, wr⟩ lg sp false (ty : Nat) (ve : Nat) dc sc tk (le : Nat) 1 0 _ H.out (by omega) (by omega) (by omega) (by omega) (by omega) (by omega) (by omega) (by omega) (by omega) (by omega) (by omega) (by omega) (by omega)).mono ?_
  rintro e w3 ⟨rfl, hb3⟩
  rw [EG.out]
  replace HBL := Lib.hid (HBL.out.trans (hb3.mono (by simp; omega)))
  replace H := Lib.hid (H.out.below hb3)
  clear hb3
  have h0 := H.out.cell 0
  simp only [List.getElem?_toArray, List.getElem?_cons_succ, List.getElem?_cons_zero] at h0
  go_wp2
  go_ret2
  exact ⟨rfl, HBL.out⟩
set_option maxHeartbeats 4000000 in
theorem place_b (l s0 : List UInt8) (wr lg sp : Bool) (ty ve le n : Nat) (dc sc tk : List UInt8)  (w : World) (ht : Tab w) (ER : Hid (ra l = ⟨⟨s0, wr⟩, lg, sp, ty, ve, dc, sc, tk, le, n⟩))  (HB : Hid (Bnd (ra l) l.length)) (hl : l.length ≤ 140737488351232)
    (EG : Hid ((!wr && mayB lg sp false (ty : Nat) (ve : Nat) dc sc tk (le : Nat) 1 0) = false))  :
    Calls Tryz.prog 98 #[.string ⟨l.toArray⟩] w fun e w' => e = .returned (.tuple #[.int .i64 0, .int .i64 40]) ∧ Below w.heap.size w w' := by
  have HR := Lib.hid (fun (w : World) (ht : Tab w) => readAhead_any l w ht (by omega))
  rw [ER.out] at HR HB
  have bn := HB.out.n
  have bl := HB.out.st
  have hty : ((ty : Nat) : Int) ≤ 3 := Int.ofNat_le.2 HB.out.ty
  have hve : ((ve : Nat) : Int) ≤ 4294967295 := Int.ofNat_le.2 HB.out.ve
  have hdc := HB.out.dc
  have hsc := HB.out.sc
  have htk := HB.out.tk
  have hle : ((le : Nat) : Int) < 4611686018427387904 := Int.ofNat_lt.2 HB.out.le
  simp only at bn bl hdc hsc htk
  have hlt := ht.lt
  have HT := Lib.hid ht
  clear ht ER HB
  go_enter Tryz.func98, Tryz.ntmps98
  go_wp2_with fail
  refine (HR.out _ HT.out).mono ?_
  rintro e w1 ⟨rfl, hb1⟩
  have hz1 := hb1.size
  have HBL := Lib.hid (hb1.trans (((Below.refl w1.heap.size w1).alloc (Nat.le_refl _) (.cells #[.string ⟨s0.toArray⟩, .bool wr, .bool lg, .bool sp, .bool false, .int .i64 (ty : Nat), .int .u32 (ve : Nat), .string ⟨dc.toArray⟩, .string ⟨sc.toArray⟩, .string ⟨tk.toArray⟩, .int .u64 (le : Nat), .int .i64 1, .int .u64 0, .int .u8 (n : Nat)] 172)).mono hz1))
  have H := Lib.hid (Blk.made w1 ⟨s0, wr⟩ (.bool lg) (.bool sp) (.bool false) (.int .i64 (ty : Nat)) (.int .u32 (ve : Nat)) (.string ⟨dc.toArray⟩) (.string ⟨sc.toArray⟩) (.string ⟨tk.toArray⟩) (.int .u64 (le : Nat)) (.int .i64 1) (.int .u64 0) (.int .u8 (n : Nat)))
  clear hb1
  go_wp2_with fail
  refine (good_any w1.heap.size n ⟨s0, wr⟩ lg sp false (ty : Nat) (ve : Nat) dc sc tk (le : Nat) 1 0 _ H.out (by omega) (by omega) (by omega) (by omega) (by omega) (by omega) (by omega) (by omega) (by omega) (by omega) (by omega) (by omega) (by omega)).mono ?_
  rintro e w3 ⟨rfl, hb3⟩
  rw [EG.out]
  replace HBL := Lib.hid (HBL.out.trans (hb3.mono (by simp; omega)))
  replace H := Lib.hid (H.out.below hb3)
  clear hb3
  have h0 := H.out.cell 0
  simp only [List.getElem?_toArray, List.getElem?_cons_succ, List.getElem?_cons_zero] at h0
  go_wp2
  go_ret2
  exact ⟨rfl, HBL.out⟩
end Go.Proofs.YtojoalmldapboaaGreatDoor.Hd
