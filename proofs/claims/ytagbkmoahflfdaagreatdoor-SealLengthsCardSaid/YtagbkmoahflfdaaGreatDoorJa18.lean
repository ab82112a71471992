/- The walks of layer 4: what stands ahead of a number is read -/
import Derived.Test.YtagbkmoahflfdaaGreatDoorJa17
import Derived.OpenShut
namespace Go.Proofs.YtagbkmoahflfdaaGreatDoor.Hd
set_option maxRecDepth 20000
open Go.RowKit Vm
set_option linter.unusedVariables false
set_option linter.unusedSimpArgs false

theorem t64 : ∀ n : Nat, n < 256 → (bits .and .u8 (n : Int) 64 == 0) = decide (n / 64 % 2 = 0) := by decide +kernel
theorem t128 : ∀ n : Nat, n < 256 → (bits .and .u8 (n : Int) 128 != 0) = decide (128 ≤ n) := by decide +kernel
theorem t32 : ∀ n : Nat, n < 256 → (bits .and .u8 (n : Int) 32 != 0) = decide (n / 32 % 2 = 1) := by decide +kernel
theorem bk1 (l : List UInt8) (h : l.length ≤ 1) : bk l < 256 := by
  have h1 := bk_lt l
  have h2 : 256 ^ l.length ≤ 256 ^ 1 := Nat.pow_le_pow_right (by decide) h
  omega
theorem Blk.made (w : World) (st : St) (x2 x3 x4 x5 x6 x7 x8 x9 xa xb xc xd : Value) : Blk w.heap.size st x2 x3 x4 x5 x6 x7 x8 x9 xa xb xc xd (w.alloc (.cells #[.string ⟨st.s.toArray⟩, .bool st.w, x2, x3, x4, x5, x6, x7, x8, x9, xa, xb, xc, xd] 172)) := by
  unfold Blk World.alloc
  simp
theorem Blk.up {b : Nat} {st : St} {x2 x3 x4 x5 x6 x7 x8 x9 xa xb xc xd : Value} {w w' : World} (h : Blk b st x2 x3 x4 x5 x6 x7 x8 x9 xa xb xc xd w) {n : Nat} (hb : Below n w w') (hn : b < n) : Blk b st x2 x3 x4 x5 x6 x7 x8 x9 xa xb xc xd w' := by
  unfold Blk at *
  rw [hb.block b hn]; exact h
theorem Blk.lt {b : Nat} {st : St} {x2 x3 x4 x5 x6 x7 x8 x9 xa xb xc xd : Value} {w : World} (h : Blk b st x2 x3 x4 x5 x6 x7 x8 x9 xa xb xc xd w) : b < w.heap.size := by
  rcases Nat.lt_or_ge b w.heap.size with h1 | h1
  · exact h1
  · unfold Blk at h; rw [Array.getElem?_eq_none h1] at h; cases h
theorem take_8E (b : Nat) (st st' : St) (v : List UInt8) (x2 x3 x4 x5 x6 x7 x8 x9 xa xb xc xd : Value) (w : World) (e : Hid (st.take 8 = v ∧ st.skip 8 = st')) (h : Hid (Blk b st x2 x3 x4 x5 x6 x7 x8 x9 xa xb xc xd w)) (hl : st.s.length ≤ 9223372036854775807) :
    Calls Tryz.prog 154 #[.pointer (some ⟨b, 0, none⟩), .int .u64 8] w fun e w' => e = .returned (.string ⟨v.toArray⟩) ∧ Blk b st' x2 x3 x4 x5 x6 x7 x8 x9 xa xb xc xd w' ∧ Below b w w' := by
  obtain ⟨rfl, rfl⟩ := e.out
  exact take_8 b st x2 x3 x4 x5 x6 x7 x8 x9 xa xb xc xd w h.out hl
set_option maxHeartbeats 4000000 in
theorem ahead_ss (l : List UInt8) (n : Nat) (s1 : List UInt8) (s3 : St) (c : Bool) (y7 : List UInt8) (sp : Bool) (G32 : (bits .and .u8 (n : Int) 32 != 0) = sp) (HL : Hid (St.take ⟨s1, c⟩ 8 = y7 ∧ St.skip ⟨s1, c⟩ 8 = s3)) (w : World) (ht : Tab w) (E1 : Hid (bk (St.take ⟨l, false⟩ 1) = n ∧ St.skip ⟨l, false⟩ 1 = ⟨s1, false⟩)) (G64 : (bits .and .u8 (n : Int) 64 == 0) = c) (G128 : (bits .and .u8 (n : Int) 128 != 0) = false) (hl : l.length ≤ 9223372036854775807) (hl1 : s1.length ≤ 9223372036854775807) (hn0 : (0:Int) ≤ (n : Nat)) (hn : ((n : Nat) : Int) ≤ 255) :
    Calls Tryz.prog 127 #[.string ⟨l.toArray⟩] w fun e w' => e = .returned (.agg #[.string ⟨s3.s.toArray⟩, .bool s3.w, .bool false, .bool sp, .bool false, .int .i64 0, .int .u32 0, .string ⟨y7.toArray⟩, .string ⟨#[]⟩, .string ⟨#[]⟩, .int .u64 0, .int .i64 0, .int .u64 0, .int .u8 n]) ∧ Below w.heap.size w w' := by
  have hlt := ht.lt
  have HT := Lib.hid ht
  clear ht
  have H := Lib.hid (Blk.made (w.alloc (.cells #[.string ⟨#[]⟩, .bool false, .bool false, .bool false, .bool false, .int .i64 0, .int .u32 0, .string ⟨#[]⟩, .string ⟨#[]⟩, .string ⟨#[]⟩, .int .u64 0, .int .i64 0, .int .u64 0, .int .u8 0] 172)) ⟨l, false⟩ (.bool false) (.bool false) (.bool false) (.int .i64 0) (.int .u32 0) (.string ⟨#[]⟩) (.string ⟨#[]⟩) (.string ⟨#[]⟩) (.int .u64 0) (.int .i64 0) (.int .u64 0) (.int .u8 0))
  have R := Lib.hid ((Blk.made w ⟨[], false⟩ (.bool false) (.bool false) (.bool false) (.int .i64 0) (.int .u32 0) (.string ⟨#[]⟩) (.string ⟨#[]⟩) (.string ⟨#[]⟩) (.int .u64 0) (.int .i64 0) (.int .u64 0) (.int .u8 0)).below ((Below.refl _ (w.alloc (.cells #[.string ⟨#[]⟩, .bool false, .bool false, .bool false, .bool false, .int .i64 0, .int .u32 0, .string ⟨#[]⟩, .string ⟨#[]⟩, .string ⟨#[]⟩, .int .u64 0, .int .i64 0, .int .u64 0, .int .u8 0] 172))).alloc (Nat.le_refl _) (.cells #[.string ⟨l.toArray⟩, .bool false, .bool false, .bool false, .bool false, .int .i64 0, .int .u32 0, .string ⟨#[]⟩, .string ⟨#[]⟩, .string ⟨#[]⟩, .int .u64 0, .int .i64 0, .int .u64 0, .int .u8 0] 172)))
  have HB := Lib.hid (((Below.refl w.heap.size w).alloc (Nat.le_refl _) (.cells #[.string ⟨#[]⟩, .bool false, .bool false, .bool false, .bool false, .int .i64 0, .int .u32 0, .string ⟨#[]⟩, .string ⟨#[]⟩, .string ⟨#[]⟩, .int .u64 0, .int .i64 0, .int .u64 0, .int .u8 0] 172)).alloc (by simp) (.cells #[.string ⟨l.toArray⟩, .bool false, .bool false, .bool false, .bool false, .int .i64 0, .int .u32 0, .string ⟨#[]⟩, .string ⟨#[]⟩, .string ⟨#[]⟩, .int .u64 0, .int .i64 0, .int .u64 0, .int .u8 0] 172))
  rw [show (w.alloc (.cells #[.string ⟨#[]⟩, .bool false, .bool false, .bool false, .bool false, .int .i64 0, .int .u32 0, .string ⟨#[]⟩, .string ⟨#[]⟩, .string ⟨#[]⟩, .int .u64 0, .int .i64 0, .int .u64 0, .int .u8 0] 172)).heap.size = w.heap.size + 1 by simp] at H
  go_enter Tryz.func127, Tryz.ntmps127
  go_wp2_with fail
  refine (numberE1 (w.heap.size + 1) ⟨l, false⟩ ⟨s1, false⟩ n _ _ _ _ _ _ _ _ _ _ _ _ _ E1 H hl).mono ?_
  rintro e w1 ⟨rfl, h1, hb1⟩
  replace R := Lib.hid (R.out.up hb1 (Nat.lt_succ_self _))
  replace HB := Lib.hid (HB.out.trans (hb1.mono (Nat.le_succ _)))
  replace H := Lib.hid ((h1.set13 (.int .u8 n)).set1 c)
  have cd : w1.cell? ⟨w.heap.size + 1, 13, none⟩ = some (.int .u8 0) := h1.cell 13
  have fd := h1.fz 13
  have c1 : w1.cell? ⟨w.heap.size + 1, 1, none⟩ = some (.bool false) := h1.cell 1
  have f1 := h1.fz 1
  have c2 : w1.cell? ⟨w.heap.size + 1, 2, none⟩ = some (.bool false) := h1.cell 2
  have f2 := h1.fz 2
  have c3 : w1.cell? ⟨w.heap.size + 1, 3, none⟩ = some (.bool false) := h1.cell 3
  have f3 := h1.fz 3
  replace R := Lib.hid ((((R.out.up ((Below.refl (w.heap.size + 1) w1).setCell (p := ⟨w.heap.size + 1, 13, none⟩) (Nat.le_refl _) (.int .u8 n)) (Nat.lt_succ_self _)).up ((Below.refl (w.heap.size + 1) _).setCell (p := ⟨w.heap.size + 1, 1, none⟩) (Nat.le_refl _) (.bool c)) (Nat.lt_succ_self _)).up ((Below.refl (w.heap.size + 1) _).setCell (p := ⟨w.heap.size + 1, 2, none⟩) (Nat.le_refl _) (.bool false)) (Nat.lt_succ_self _)).up ((Below.refl (w.heap.size + 1) _).setCell (p := ⟨w.heap.size + 1, 3, none⟩) (Nat.le_refl _) (.bool sp)) (Nat.lt_succ_self _))
  replace HB := Lib.hid ((((HB.out.setCell (p := ⟨w.heap.size + 1, 13, none⟩) (Nat.le_succ _) (.int .u8 n)).setCell (p := ⟨w.heap.size + 1, 1, none⟩) (Nat.le_succ _) (.bool c)).setCell (p := ⟨w.heap.size + 1, 2, none⟩) (Nat.le_succ _) (.bool false)).setCell (p := ⟨w.heap.size + 1, 3, none⟩) (Nat.le_succ _) (.bool sp))
  replace H := Lib.hid ((H.out.set2 (.bool false)).set3 (.bool sp))
  clear h1 hb1
  go_wp2_with fail
  refine (take_8E (w.heap.size + 1) ⟨s1, c⟩ s3 y7 _ _ _ _ _ _ _ _ _ _ _ _ _ HL H hl1).mono ?_
  clear cd fd c1 f1 c2 f2 c3 f3
  rintro e w2 ⟨rfl, h2, hb2⟩
  have c7 : w2.cell? ⟨w.heap.size + 1, 7, none⟩ = some (.string ⟨#[]⟩) := h2.cell 7
  have f7 := h2.fz 7
  replace R := Lib.hid (R.out.up hb2 (Nat.lt_succ_self _))
  replace HB := Lib.hid (HB.out.trans (hb2.mono (Nat.le_succ _)))
  replace H := Lib.hid h2
  clear h2 hb2
  clear c7
  have g0 := H.out.cell 0
  simp only [List.getElem?_toArray, List.getElem?_cons_succ, List.getElem?_cons_zero] at g0
  have r0 := R.out.cell 0
  simp only [List.getElem?_toArray, List.getElem?_cons_succ, List.getElem?_cons_zero] at r0
  have q0 := R.out.fz 0
  have g1 := H.out.cell 1
  simp only [List.getElem?_toArray, List.getElem?_cons_succ, List.getElem?_cons_zero] at g1
  have r1 := R.out.cell 1
  simp only [List.getElem?_toArray, List.getElem?_cons_succ, List.getElem?_cons_zero] at r1
  have q1 := R.out.fz 1
  have g2 := H.out.cell 2
  simp only [List.getElem?_toArray, List.getElem?_cons_succ, List.getElem?_cons_zero] at g2
  have r2 := R.out.cell 2
  simp only [List.getElem?_toArray, List.getElem?_cons_succ, List.getElem?_cons_zero] at r2
  have q2 := R.out.fz 2
  have g3 := H.out.cell 3
  simp only [List.getElem?_toArray, List.getElem?_cons_succ, List.getElem?_cons_zero] at g3
  have r3 := R.out.cell 3
  simp only [List.getElem?_toArray, List.getElem?_cons_succ, List.getElem?_cons_zero] at r3
  have q3 := R.out.fz 3
  have g4 := H.out.cell 4
  simp only [List.getElem?_toArray, List.getElem?_cons_succ, List.getElem?_cons_zero] at g4
  have r4 := R.out.cell 4
  simp only [List.getElem?_toArray, List.getElem?_cons_succ, List.getElem?_cons_zero] at r4
  have q4 := R.out.fz 4
  have g5 := H.out.cell 5
  simp only [List.getElem?_toArray, List.getElem?_cons_succ, List.getElem?_cons_zero] at g5
  have r5 := R.out.cell 5
  simp only [List.getElem?_toArray, List.getElem?_cons_succ, List.getElem?_cons_zero] at r5
  have q5 := R.out.fz 5
  have g6 := H.out.cell 6
  simp only [List.getElem?_toArray, List.getElem?_cons_succ, List.getElem?_cons_zero] at g6
  have r6 := R.out.cell 6
  simp only [List.getElem?_toArray, List.getElem?_cons_succ, List.getElem?_cons_zero] at r6
  have q6 := R.out.fz 6
  have g7 := H.out.cell 7
  simp only [List.getElem?_toArray, List.getElem?_cons_succ, List.getElem?_cons_zero] at g7
  have r7 := R.out.cell 7
  simp only [List.getElem?_toArray, List.getElem?_cons_succ, List.getElem?_cons_zero] at r7
  have q7 := R.out.fz 7
  have g8 := H.out.cell 8
  simp only [List.getElem?_toArray, List.getElem?_cons_succ, List.getElem?_cons_zero] at g8
  have r8 := R.out.cell 8
  simp only [List.getElem?_toArray, List.getElem?_cons_succ, List.getElem?_cons_zero] at r8
  have q8 := R.out.fz 8
  have g9 := H.out.cell 9
  simp only [List.getElem?_toArray, List.getElem?_cons_succ, List.getElem?_cons_zero] at g9
  have r9 := R.out.cell 9
  simp only [List.getElem?_toArray, List.getElem?_cons_succ, List.getElem?_cons_zero] at r9
  have q9 := R.out.fz 9
  have g10 := H.out.cell 10
  simp only [List.getElem?_toArray, List.getElem?_cons_succ, List.getElem?_cons_zero] at g10
  have r10 := R.out.cell 10
  simp only [List.getElem?_toArray, List.getElem?_cons_succ, List.getElem?_cons_zero] at r10
  have q10 := R.out.fz 10
  have g11 := H.out.cell 11
  simp only [List.getElem?_toArray, List.getElem?_cons_succ, List.getElem?_cons_zero] at g11
  have r11 := R.out.cell 11
  simp only [List.getElem?_toArray, List.getElem?_cons_succ, List.getElem?_cons_zero] at r11
  have q11 := R.out.fz 11
  have g12 := H.out.cell 12
  simp only [List.getElem?_toArray, List.getElem?_cons_succ, List.getElem?_cons_zero] at g12
  have r12 := R.out.cell 12
  simp only [List.getElem?_toArray, List.getElem?_cons_succ, List.getElem?_cons_zero] at r12
  have q12 := R.out.fz 12
  have g13 := H.out.cell 13
  simp only [List.getElem?_toArray, List.getElem?_cons_succ, List.getElem?_cons_zero] at g13
  have r13 := R.out.cell 13
  simp only [List.getElem?_toArray, List.getElem?_cons_succ, List.getElem?_cons_zero] at r13
  have q13 := R.out.fz 13
  go_wp2
  refine bodyPost_ret (v := .agg #[.string ⟨s3.s.toArray⟩, .bool s3.w, .bool false, .bool sp, .bool false, .int .i64 0, .int .u32 0, .string ⟨y7.toArray⟩, .string ⟨#[]⟩, .string ⟨#[]⟩, .int .u64 0, .int .i64 0, .int .u64 0, .int .u8 n]) (by simp [results, Tryz.results127, go_sem, *]) rfl ⟨rfl, ?_⟩
  iterate 14 (refine Below.setCell ?_ (by exact Nat.le_refl _) _)
  refine Below.setCell ?_ (by exact Nat.le_succ _) _
  exact HB.out
set_option maxHeartbeats 4000000 in
theorem ahead_sw (l : List UInt8) (n : Nat) (s1 : List UInt8) (s3 : St) (c : Bool) (y7 : List UInt8) (sp : Bool) (G32 : (bits .and .u8 (n : Int) 32 != 0) = sp) (HL : Hid (St.take ⟨s1, true⟩ 8 = y7 ∧ St.skip ⟨s1, true⟩ 8 = s3)) (w : World) (ht : Tab w) (E1 : Hid (bk (St.take ⟨l, false⟩ 1) = n ∧ St.skip ⟨l, false⟩ 1 = ⟨s1, true⟩)) (G64 : (bits .and .u8 (n : Int) 64 == 0) = c) (G128 : (bits .and .u8 (n : Int) 128 != 0) = false) (hl : l.length ≤ 9223372036854775807) (hl1 : s1.length ≤ 9223372036854775807) (hn0 : (0:Int) ≤ (n : Nat)) (hn : ((n : Nat) : Int) ≤ 255) :
    Calls Tryz.prog 127 #[.string ⟨l.toArray⟩] w fun e w' => e = .returned (.agg #[.string ⟨s3.s.toArray⟩, .bool s3.w, .bool false, .bool sp, .bool false, .int .i64 0, .int .u32 0, .string ⟨y7.toArray⟩, .string ⟨#[]⟩, .string ⟨#[]⟩, .int .u64 0, .int .i64 0, .int .u64 0, .int .u8 n]) ∧ Below w.heap.size w w' := by
  have hlt := ht.lt
  have HT := Lib.hid ht
  clear ht
  have H := Lib.hid (Blk.made (w.alloc (.cells #[.string ⟨#[]⟩, .bool false, .bool false, .bool false, .bool false, .int .i64 0, .int .u32 0, .string ⟨#[]⟩, .string ⟨#[]⟩, .string ⟨#[]⟩, .int .u64 0, .int .i64 0, .int .u64 0, .int .u8 0] 172)) ⟨l, false⟩ (.bool false) (.bool false) (.bool false) (.int .i64 0) (.int .u32 0) (.string ⟨#[]⟩) (.string ⟨#[]⟩) (.string ⟨#[]⟩) (.int .u64 0) (.int .i64 0) (.int .u64 0) (.int .u8 0))
  have R := Lib.hid ((Blk.made w ⟨[], false⟩ (.bool false) (.bool false) (.bool false) (.int .i64 0) (.int .u32 0) (.string ⟨#[]⟩) (.string ⟨#[]⟩) (.string ⟨#[]⟩) (.int .u64 0) (.int .i64 0) (.int .u64 0) (.int .u8 0)).below ((Below.refl _ (w.alloc (.cells #[.string ⟨#[]⟩, .bool false, .bool false, .bool false, .bool false, .int .i64 0, .int .u32 0, .string ⟨#[]⟩, .string ⟨#[]⟩, .string ⟨#[]⟩, .int .u64 0, .int .i64 0, .int .u64 0, .int .u8 0] 172))).alloc (Nat.le_refl _) (.cells #[.string ⟨l.toArray⟩, .bool false, .bool false, .bool false, .bool false, .int .i64 0, .int .u32 0, .string ⟨#[]⟩, .string ⟨#[]⟩, .string ⟨#[]⟩, .int .u64 0, .int .i64 0, .int .u64 0, .int .u8 0] 172)))
  have HB := Lib.hid (((Below.refl w.heap.size w).alloc (Nat.le_refl _) (.cells #[.string ⟨#[]⟩, .bool false, .bool false, .bool false, .bool false, .int .i64 0, .int .u32 0, .string ⟨#[]⟩, .string ⟨#[]⟩, .string ⟨#[]⟩, .int .u64 0, .int .i64 0, .int .u64 0, .int .u8 0] 172)).alloc (by simp) (.cells #[.string ⟨l.toArray⟩, .bool false, .bool false, .bool false, .bool false, .int .i64 0, .int .u32 0, .string ⟨#[]⟩, .string ⟨#[]⟩, .string ⟨#[]⟩, .int .u64 0, .int .i64 0, .int .u64 0, .int .u8 0] 172))
  rw [show (w.alloc (.cells #[.string ⟨#[]⟩, .bool false, .bool false, .bool false, .bool false, .int .i64 0, .int .u32 0, .string ⟨#[]⟩, .string ⟨#[]⟩, .string ⟨#[]⟩, .int .u64 0, .int .i64 0, .int .u64 0, .int .u8 0] 172)).heap.size = w.heap.size + 1 by simp] at H
  go_enter Tryz.func127, Tryz.ntmps127
  go_wp2_with fail
  refine (numberE1 (w.heap.size + 1) ⟨l, false⟩ ⟨s1, true⟩ n _ _ _ _ _ _ _ _ _ _ _ _ _ E1 H hl).mono ?_
  rintro e w1 ⟨rfl, h1, hb1⟩
  replace R := Lib.hid (R.out.up hb1 (Nat.lt_succ_self _))
  replace HB := Lib.hid (HB.out.trans (hb1.mono (Nat.le_succ _)))
  replace H := Lib.hid ((h1.set13 (.int .u8 n)).set1 true)
  have cd : w1.cell? ⟨w.heap.size + 1, 13, none⟩ = some (.int .u8 0) := h1.cell 13
  have fd := h1.fz 13
  have c1 : w1.cell? ⟨w.heap.size + 1, 1, none⟩ = some (.bool true) := h1.cell 1
  have f1 := h1.fz 1
  have c2 : w1.cell? ⟨w.heap.size + 1, 2, none⟩ = some (.bool false) := h1.cell 2
  have f2 := h1.fz 2
  have c3 : w1.cell? ⟨w.heap.size + 1, 3, none⟩ = some (.bool false) := h1.cell 3
  have f3 := h1.fz 3
  replace R := Lib.hid ((((R.out.up ((Below.refl (w.heap.size + 1) w1).setCell (p := ⟨w.heap.size + 1, 13, none⟩) (Nat.le_refl _) (.int .u8 n)) (Nat.lt_succ_self _)).up ((Below.refl (w.heap.size + 1) _).setCell (p := ⟨w.heap.size + 1, 1, none⟩) (Nat.le_refl _) (.bool true)) (Nat.lt_succ_self _)).up ((Below.refl (w.heap.size + 1) _).setCell (p := ⟨w.heap.size + 1, 2, none⟩) (Nat.le_refl _) (.bool false)) (Nat.lt_succ_self _)).up ((Below.refl (w.heap.size + 1) _).setCell (p := ⟨w.heap.size + 1, 3, none⟩) (Nat.le_refl _) (.bool sp)) (Nat.lt_succ_self _))
  replace HB := Lib.hid ((((HB.out.setCell (p := ⟨w.heap.size + 1, 13, none⟩) (Nat.le_succ _) (.int .u8 n)).setCell (p := ⟨w.heap.size + 1, 1, none⟩) (Nat.le_succ _) (.bool true)).setCell (p := ⟨w.heap.size + 1, 2, none⟩) (Nat.le_succ _) (.bool false)).setCell (p := ⟨w.heap.size + 1, 3, none⟩) (Nat.le_succ _) (.bool sp))
  replace H := Lib.hid ((H.out.set2 (.bool false)).set3 (.bool sp))
  clear h1 hb1
  go_wp2_with fail
  refine (take_8E (w.heap.size + 1) ⟨s1, true⟩ s3 y7 _ _ _ _ _ _ _ _ _ _ _ _ _ HL H hl1).mono ?_
  clear cd fd c1 f1 c2 f2 c3 f3
  rintro e w2 ⟨rfl, h2, hb2⟩
  have c7 : w2.cell? ⟨w.heap.size + 1, 7, none⟩ = some (.string ⟨#[]⟩) := h2.cell 7
  have f7 := h2.fz 7
  replace R := Lib.hid (R.out.up hb2 (Nat.lt_succ_self _))
  replace HB := Lib.hid (HB.out.trans (hb2.mono (Nat.le_succ _)))
  replace H := Lib.hid h2
  clear h2 hb2
  clear c7
  have g0 := H.out.cell 0
  simp only [List.getElem?_toArray, List.getElem?_cons_succ, List.getElem?_cons_zero] at g0
  have r0 := R.out.cell 0
  simp only [List.getElem?_toArray, List.getElem?_cons_succ, List.getElem?_cons_zero] at r0
  have q0 := R.out.fz 0
  have g1 := H.out.cell 1
  simp only [List.getElem?_toArray, List.getElem?_cons_succ, List.getElem?_cons_zero] at g1
  have r1 := R.out.cell 1
  simp only [List.getElem?_toArray, List.getElem?_cons_succ, List.getElem?_cons_zero] at r1
  have q1 := R.out.fz 1
  have g2 := H.out.cell 2
  simp only [List.getElem?_toArray, List.getElem?_cons_succ, List.getElem?_cons_zero] at g2
  have r2 := R.out.cell 2
  simp only [List.getElem?_toArray, List.getElem?_cons_succ, List.getElem?_cons_zero] at r2
  have q2 := R.out.fz 2
  have g3 := H.out.cell 3
  simp only [List.getElem?_toArray, List.getElem?_cons_succ, List.getElem?_cons_zero] at g3
  have r3 := R.out.cell 3
  simp only [List.getElem?_toArray, List.getElem?_cons_succ, List.getElem?_cons_zero] at r3
  have q3 := R.out.fz 3
  have g4 := H.out.cell 4
  simp only [List.getElem?_toArray, List.getElem?_cons_succ, List.getElem?_cons_zero] at g4
  have r4 := R.out.cell 4
  simp only [List.getElem?_toArray, List.getElem?_cons_succ, List.getElem?_cons_zero] at r4
  have q4 := R.out.fz 4
  have g5 := H.out.cell 5
  simp only [List.getElem?_toArray, List.getElem?_cons_succ, List.getElem?_cons_zero] at g5
  have r5 := R.out.cell 5
  simp only [List.getElem?_toArray, List.getElem?_cons_succ, List.getElem?_cons_zero] at r5
  have q5 := R.out.fz 5
  have g6 := H.out.cell 6
  simp only [List.getElem?_toArray, List.getElem?_cons_succ, List.getElem?_cons_zero] at g6
  have r6 := R.out.cell 6
  simp only [List.getElem?_toArray, List.getElem?_cons_succ, List.getElem?_cons_zero] at r6
  have q6 := R.out.fz 6
  have g7 := H.out.cell 7
  simp only [List.getElem?_toArray, List.getElem?_cons_succ, List.getElem?_cons_zero] at g7
  have r7 := R.out.cell 7
  simp only [List.getElem?_toArray, List.getElem?_cons_succ, List.getElem?_cons_zero] at r7
  have q7 := R.out.fz 7
  have g8 := H.out.cell 8
  simp only [List.getElem?_toArray, List.getElem?_cons_succ, List.getElem?_cons_zero] at g8
  have r8 := R.out.cell 8
  simp only [List.getElem?_toArray, List.getElem?_cons_succ, List.getElem?_cons_zero] at r8
  have q8 := R.out.fz 8
  have g9 := H.out.cell 9
  simp only [List.getElem?_toArray, List.getElem?_cons_succ, List.getElem?_cons_zero] at g9
  have r9 := R.out.cell 9
  simp only [List.getElem?_toArray, List.getElem?_cons_succ, List.getElem?_cons_zero] at r9
  have q9 := R.out.fz 9
  have g10 := H.out.cell 10
  simp only [List.getElem?_toArray, List.getElem?_cons_succ, List.getElem?_cons_zero] at g10
  have r10 := R.out.cell 10
  simp only [List.getElem?_toArray, List.getElem?_cons_succ, List.getElem?_cons_zero] at r10
  have q10 := R.out.fz 10
  have g11 := H.out.cell 11
  simp only [List.getElem?_toArray, List.getElem?_cons_succ, List.getElem?_cons_zero] at g11
  have r11 := R.out.cell 11
  simp only [List.getElem?_toArray, List.getElem?_cons_succ, List.getElem?_cons_zero] at r11
  have q11 := R.out.fz 11
  have g12 := H.out.cell 12
  simp only [List.getElem?_toArray, List.getElem?_cons_succ, List.getElem?_cons_zero] at g12
  have r12 := R.out.cell 12
  simp only [List.getElem?_toArray, List.getElem?_cons_succ, List.getElem?_cons_zero] at r12
  have q12 := R.out.fz 12
  have g13 := H.out.cell 13
  simp only [List.getElem?_toArray, List.getElem?_cons_succ, List.getElem?_cons_zero] at g13
  have r13 := R.out.cell 13
  simp only [List.getElem?_toArray, List.getElem?_cons_succ, List.getElem?_cons_zero] at r13
  have q13 := R.out.fz 13
  go_wp2
  refine bodyPost_ret (v := .agg #[.string ⟨s3.s.toArray⟩, .bool s3.w, .bool false, .bool sp, .bool false, .int .i64 0, .int .u32 0, .string ⟨y7.toArray⟩, .string ⟨#[]⟩, .string ⟨#[]⟩, .int .u64 0, .int .i64 0, .int .u64 0, .int .u8 n]) (by simp [results, Tryz.results127, go_sem, *]) rfl ⟨rfl, ?_⟩
  iterate 14 (refine Below.setCell ?_ (by exact Nat.le_refl _) _)
  refine Below.setCell ?_ (by exact Nat.le_succ _) _
  exact HB.out
set_option maxHeartbeats 4000000 in
theorem ahead_ls (l : List UInt8) (n : Nat) (s1 : List UInt8) (s3 : St) (c : Bool) (y5 y6 ya : Int) (y7 y8 y9 : List UInt8)
    (HL : Hid (∀ (b : Nat) (w : World), Tab w → 0 < b → Blk b ⟨s1, c⟩ (.bool true) (.bool false) (.bool false) (.int .i64 0) (.int .u32 0) (.string ⟨#[]⟩) (.string ⟨#[]⟩) (.string ⟨#[]⟩) (.int .u64 0) (.int .i64 0) (.int .u64 0) (.int .u8 n) w →
      Calls Tryz.prog 153 #[.pointer (some ⟨b, 0, none⟩)] w fun e w' => e = .returned (.tuple #[]) ∧ Blk b s3 (.bool true) (.bool false) (.bool false) (.int .i64 y5) (.int .u32 y6) (.string ⟨y7.toArray⟩) (.string ⟨y8.toArray⟩) (.string ⟨y9.toArray⟩) (.int .u64 ya) (.int .i64 0) (.int .u64 0) (.int .u8 n) w' ∧ Below b w w')) (w : World) (ht : Tab w) (E1 : Hid (bk (St.take ⟨l, false⟩ 1) = n ∧ St.skip ⟨l, false⟩ 1 = ⟨s1, false⟩)) (G64 : (bits .and .u8 (n : Int) 64 == 0) = c) (G128 : (bits .and .u8 (n : Int) 128 != 0) = true) (hl : l.length ≤ 9223372036854775807) (hl1 : s1.length ≤ 9223372036854775807) (hn0 : (0:Int) ≤ (n : Nat)) (hn : ((n : Nat) : Int) ≤ 255) :
    Calls Tryz.prog 127 #[.string ⟨l.toArray⟩] w fun e w' => e = .returned (.agg #[.string ⟨s3.s.toArray⟩, .bool s3.w, .bool true, .bool false, .bool false, .int .i64 y5, .int .u32 y6, .string ⟨y7.toArray⟩, .string ⟨y8.toArray⟩, .string ⟨y9.toArray⟩, .int .u64 ya, .int .i64 0, .int .u64 0, .int .u8 n]) ∧ Below w.heap.size w w' := by
  have hlt := ht.lt
  have HT := Lib.hid ht
  clear ht
  have H := Lib.hid (Blk.made (w.alloc (.cells #[.string ⟨#[]⟩, .bool false, .bool false, .bool false, .bool false, .int .i64 0, .int .u32 0, .string ⟨#[]⟩, .string ⟨#[]⟩, .string ⟨#[]⟩, .int .u64 0, .int .i64 0, .int .u64 0, .int .u8 0] 172)) ⟨l, false⟩ (.bool false) (.bool false) (.bool false) (.int .i64 0) (.int .u32 0) (.string ⟨#[]⟩) (.string ⟨#[]⟩) (.string ⟨#[]⟩) (.int .u64 0) (.int .i64 0) (.int .u64 0) (.int .u8 0))
  have R := Lib.hid ((Blk.made w ⟨[], false⟩ (.bool false) (.bool false) (.bool false) (.int .i64 0) (.int .u32 0) (.string ⟨#[]⟩) (.string ⟨#[]⟩) (.string ⟨#[]⟩) (.int .u64 0) (.int .i64 0) (.int .u64 0) (.int .u8 0)).below ((Below.refl _ (w.alloc (.cells #[.string ⟨#[]⟩, .bool false, .bool false, .bool false, .bool false, .int .i64 0, .int .u32 0, .string ⟨#[]⟩, .string ⟨#[]⟩, .string ⟨#[]⟩, .int .u64 0, .int .i64 0, .int .u64 0, .int .u8 0] 172))).alloc (Nat.le_refl _) (.cells #[.string ⟨l.toArray⟩, .bool false, .bool false, .bool false, .bool false, .int .i64 0, .int .u32 0, .string ⟨#[]⟩, .string ⟨#[]⟩, .string ⟨#[]⟩, .int .u64 0, .int .i64 0, .int .u64 0, .int .u8 0] 172)))
  have HB := Lib.hid (((Below.refl w.heap.size w).alloc (Nat.le_refl _) (.cells #[.string ⟨#[]⟩, .bool false, .bool false, .bool false, .bool false, .int .i64 0, .int .u32 0, .string ⟨#[]⟩, .string ⟨#[]⟩, .string ⟨#[]⟩, .int .u64 0, .int .i64 0, .int .u64 0, .int .u8 0] 172)).alloc (by simp) (.cells #[.string ⟨l.toArray⟩, .bool false, .bool false, .bool false, .bool false, .int .i64 0, .int .u32 0, .string ⟨#[]⟩, .string ⟨#[]⟩, .string ⟨#[]⟩, .int .u64 0, .int .i64 0, .int .u64 0, .int .u8 0] 172))
  rw [show (w.alloc (.cells #[.string ⟨#[]⟩, .bool false, .bool false, .bool false, .bool false, .int .i64 0, .int .u32 0, .string ⟨#[]⟩, .string ⟨#[]⟩, .string ⟨#[]⟩, .int .u64 0, .int .i64 0, .int .u64 0, .int .u8 0] 172)).heap.size = w.heap.size + 1 by simp] at H
  go_enter Tryz.func127, Tryz.ntmps127
  go_wp2_with fail
  refine (numberE1 (w.heap.size + 1) ⟨l, false⟩ ⟨s1, false⟩ n _ _ _ _ _ _ _ _ _ _ _ _ _ E1 H hl).mono ?_
  rintro e w1 ⟨rfl, h1, hb1⟩
  replace R := Lib.hid (R.out.up hb1 (Nat.lt_succ_self _))
  replace HB := Lib.hid (HB.out.trans (hb1.mono (Nat.le_succ _)))
  replace H := Lib.hid ((h1.set13 (.int .u8 n)).set1 c)
  have cd : w1.cell? ⟨w.heap.size + 1, 13, none⟩ = some (.int .u8 0) := h1.cell 13
  have fd := h1.fz 13
  have c1 : w1.cell? ⟨w.heap.size + 1, 1, none⟩ = some (.bool false) := h1.cell 1
  have f1 := h1.fz 1
  have c2 : w1.cell? ⟨w.heap.size + 1, 2, none⟩ = some (.bool false) := h1.cell 2
  have f2 := h1.fz 2
  replace R := Lib.hid (((R.out.up ((Below.refl (w.heap.size + 1) w1).setCell (p := ⟨w.heap.size + 1, 13, none⟩) (Nat.le_refl _) (.int .u8 n)) (Nat.lt_succ_self _)).up ((Below.refl (w.heap.size + 1) _).setCell (p := ⟨w.heap.size + 1, 1, none⟩) (Nat.le_refl _) (.bool c)) (Nat.lt_succ_self _)).up ((Below.refl (w.heap.size + 1) _).setCell (p := ⟨w.heap.size + 1, 2, none⟩) (Nat.le_refl _) (.bool true)) (Nat.lt_succ_self _))
  replace HB := Lib.hid (((HB.out.setCell (p := ⟨w.heap.size + 1, 13, none⟩) (Nat.le_succ _) (.int .u8 n)).setCell (p := ⟨w.heap.size + 1, 1, none⟩) (Nat.le_succ _) (.bool c)).setCell (p := ⟨w.heap.size + 1, 2, none⟩) (Nat.le_succ _) (.bool true))
  replace H := Lib.hid (H.out.set2 (.bool true))
  have HT1 := Lib.hid (HT.out.below HB.out hlt)
  clear h1 hb1
  go_wp2_with fail
  refine (HL.out (w.heap.size + 1) _ HT1.out (Nat.lt_succ_of_lt hlt) H.out).mono ?_
  clear cd fd c1 f1 c2 f2
  rintro e w2 ⟨rfl, h2, hb2⟩
  replace R := Lib.hid (R.out.up hb2 (Nat.lt_succ_self _))
  replace HB := Lib.hid (HB.out.trans (hb2.mono (Nat.le_succ _)))
  replace H := Lib.hid h2
  clear h2 hb2
  have g0 := H.out.cell 0
  simp only [List.getElem?_toArray, List.getElem?_cons_succ, List.getElem?_cons_zero] at g0
  have r0 := R.out.cell 0
  simp only [List.getElem?_toArray, List.getElem?_cons_succ, List.getElem?_cons_zero] at r0
  have q0 := R.out.fz 0
  have g1 := H.out.cell 1
  simp only [List.getElem?_toArray, List.getElem?_cons_succ, List.getElem?_cons_zero] at g1
  have r1 := R.out.cell 1
  simp only [List.getElem?_toArray, List.getElem?_cons_succ, List.getElem?_cons_zero] at r1
  have q1 := R.out.fz 1
  have g2 := H.out.cell 2
  simp only [List.getElem?_toArray, List.getElem?_cons_succ, List.getElem?_cons_zero] at g2
  have r2 := R.out.cell 2
  simp only [List.getElem?_toArray, List.getElem?_cons_succ, List.getElem?_cons_zero] at r2
  have q2 := R.out.fz 2
  have g3 := H.out.cell 3
  simp only [List.getElem?_toArray, List.getElem?_cons_succ, List.getElem?_cons_zero] at g3
  have r3 := R.out.cell 3
  simp only [List.getElem?_toArray, List.getElem?_cons_succ, List.getElem?_cons_zero] at r3
  have q3 := R.out.fz 3
  have g4 := H.out.cell 4
  simp only [List.getElem?_toArray, List.getElem?_cons_succ, List.getElem?_cons_zero] at g4
  have r4 := R.out.cell 4
  simp only [List.getElem?_toArray, List.getElem?_cons_succ, List.getElem?_cons_zero] at r4
  have q4 := R.out.fz 4
  have g5 := H.out.cell 5
  simp only [List.getElem?_toArray, List.getElem?_cons_succ, List.getElem?_cons_zero] at g5
  have r5 := R.out.cell 5
  simp only [List.getElem?_toArray, List.getElem?_cons_succ, List.getElem?_cons_zero] at r5
  have q5 := R.out.fz 5
  have g6 := H.out.cell 6
  simp only [List.getElem?_toArray, List.getElem?_cons_succ, List.getElem?_cons_zero] at g6
  have r6 := R.out.cell 6
  simp only [List.getElem?_toArray, List.getElem?_cons_succ, List.getElem?_cons_zero] at r6
  have q6 := R.out.fz 6
  have g7 := H.out.cell 7
  simp only [List.getElem?_toArray, List.getElem?_cons_succ, List.getElem?_cons_zero] at g7
  have r7 := R.out.cell 7
  simp only [List.getElem?_toArray, List.getElem?_cons_succ, List.getElem?_cons_zero] at r7
  have q7 := R.out.fz 7
  have g8 := H.out.cell 8
  simp only [List.getElem?_toArray, List.getElem?_cons_succ, List.getElem?_cons_zero] at g8
  have r8 := R.out.cell 8
  simp only [List.getElem?_toArray, List.getElem?_cons_succ, List.getElem?_cons_zero] at r8
  have q8 := R.out.fz 8
  have g9 := H.out.cell 9
  simp only [List.getElem?_toArray, List.getElem?_cons_succ, List.getElem?_cons_zero] at g9
  have r9 := R.out.cell 9
  simp only [List.getElem?_toArray, List.getElem?_cons_succ, List.getElem?_cons_zero] at r9
  have q9 := R.out.fz 9
  have g10 := H.out.cell 10
  simp only [List.getElem?_toArray, List.getElem?_cons_succ, List.getElem?_cons_zero] at g10
  have r10 := R.out.cell 10
  simp only [List.getElem?_toArray, List.getElem?_cons_succ, List.getElem?_cons_zero] at r10
  have q10 := R.out.fz 10
  have g11 := H.out.cell 11
  simp only [List.getElem?_toArray, List.getElem?_cons_succ, List.getElem?_cons_zero] at g11
  have r11 := R.out.cell 11
  simp only [List.getElem?_toArray, List.getElem?_cons_succ, List.getElem?_cons_zero] at r11
  have q11 := R.out.fz 11
  have g12 := H.out.cell 12
  simp only [List.getElem?_toArray, List.getElem?_cons_succ, List.getElem?_cons_zero] at g12
  have r12 := R.out.cell 12
  simp only [List.getElem?_toArray, List.getElem?_cons_succ, List.getElem?_cons_zero] at r12
  have q12 := R.out.fz 12
  have g13 := H.out.cell 13
  simp only [List.getElem?_toArray, List.getElem?_cons_succ, List.getElem?_cons_zero] at g13
  have r13 := R.out.cell 13
  simp only [List.getElem?_toArray, List.getElem?_cons_succ, List.getElem?_cons_zero] at r13
  have q13 := R.out.fz 13
  go_wp2
  refine bodyPost_ret (v := .agg #[.string ⟨s3.s.toArray⟩, .bool s3.w, .bool true, .bool false, .bool false, .int .i64 y5, .int .u32 y6, .string ⟨y7.toArray⟩, .string ⟨y8.toArray⟩, .string ⟨y9.toArray⟩, .int .u64 ya, .int .i64 0, .int .u64 0, .int .u8 n]) (by simp [results, Tryz.results127, go_sem, *]) rfl ⟨rfl, ?_⟩
  iterate 14 (refine Below.setCell ?_ (by exact Nat.le_refl _) _)
  exact HB.out
set_option maxHeartbeats 4000000 in
theorem ahead_lw (l : List UInt8) (n : Nat) (s1 : List UInt8) (s3 : St) (c : Bool) (y5 y6 ya : Int) (y7 y8 y9 : List UInt8)
    (HL : Hid (∀ (b : Nat) (w : World), Tab w → 0 < b → Blk b ⟨s1, true⟩ (.bool true) (.bool false) (.bool false) (.int .i64 0) (.int .u32 0) (.string ⟨#[]⟩) (.string ⟨#[]⟩) (.string ⟨#[]⟩) (.int .u64 0) (.int .i64 0) (.int .u64 0) (.int .u8 n) w →
      Calls Tryz.prog 153 #[.pointer (some ⟨b, 0, none⟩)] w fun e w' => e = .returned (.tuple #[]) ∧ Blk b s3 (.bool true) (.bool false) (.bool false) (.int .i64 y5) (.int .u32 y6) (.string ⟨y7.toArray⟩) (.string ⟨y8.toArray⟩) (.string ⟨y9.toArray⟩) (.int .u64 ya) (.int .i64 0) (.int .u64 0) (.int .u8 n) w' ∧ Below b w w')) (w : World) (ht : Tab w) (E1 : Hid (bk (St.take ⟨l, false⟩ 1) = n ∧ St.skip ⟨l, false⟩ 1 = ⟨s1, true⟩)) (G64 : (bits .and .u8 (n : Int) 64 == 0) = c) (G128 : (bits .and .u8 (n : Int) 128 != 0) = true) (hl : l.length ≤ 9223372036854775807) (hl1 : s1.length ≤ 9223372036854775807) (hn0 : (0:Int) ≤ (n : Nat)) (hn : ((n : Nat) : Int) ≤ 255) :
    Calls Tryz.prog 127 #[.string ⟨l.toArray⟩] w fun e w' => e = .returned (.agg #[.string ⟨s3.s.toArray⟩, .bool s3.w, .bool true, .bool false, .bool false, .int .i64 y5, .int .u32 y6, .string ⟨y7.toArray⟩, .string ⟨y8.toArray⟩, .string ⟨y9.toArray⟩, .int .u64 ya, .int .i64 0, .int .u64 0, .int .u8 n]) ∧ Below w.heap.size w w' := by
  have hlt := ht.lt
  have HT := Lib.hid ht
  clear ht
  have H := Lib.hid (Blk.made (w.alloc (.cells #[.string ⟨#[]⟩, .bool false, .bool false, .bool false, .bool false, .int .i64 0, .int .u32 0, .string ⟨#[]⟩, .string ⟨#[]⟩, .string ⟨#[]⟩, .int .u64 0, .int .i64 0, .int .u64 0, .int .u8 0] 172)) ⟨l, false⟩ (.bool false) (.bool false) (.bool false) (.int .i64 0) (.int .u32 0) (.string ⟨#[]⟩) (.string ⟨#[]⟩) (.string ⟨#[]⟩) (.int .u64 0) (.int .i64 0) (.int .u64 0) (.int .u8 0))
  have R := Lib.hid ((Blk.made w ⟨[], false⟩ (.bool false) (.bool false) (.bool false) (.int .i64 0) (.int .u32 0) (.string ⟨#[]⟩) (.string ⟨#[]⟩) (.string ⟨#[]⟩) (.int .u64 0) (.int .i64 0) (.int .u64 0) (.int .u8 0)).below ((Below.refl _ (w.alloc (.cells #[.string ⟨#[]⟩, .bool false, .bool false, .bool false, .bool false, .int .i64 0, .int .u32 0, .string ⟨#[]⟩, .string ⟨#[]⟩, .string ⟨#[]⟩, .int .u64 0, .int .i64 0, .int .u64 0, .int .u8 0] 172))).alloc (Nat.le_refl _) (.cells #[.string ⟨l.toArray⟩, .bool false, .bool false, .bool false, .bool false, .int .i64 0, .int .u32 0, .string ⟨#[]⟩, .string ⟨#[]⟩, .string ⟨#[]⟩, .int .u64 0, .int .i64 0, .int .u64 0, .int .u8 0] 172)))
  have HB := Lib.hid (((Below.refl w.heap.size w).alloc (Nat.le_refl _) (.cells #[.string ⟨#[]⟩, .bool false, .bool false, .bool false, .bool false, .int .i64 0, .int .u32 0, .string ⟨#[]⟩, .string ⟨#[]⟩, .string ⟨#[]⟩, .int .u64 0, .int .i64 0, .int .u64 0, .int .u8 0] 172)).alloc (by simp) (.cells #[.string ⟨l.toArray⟩, .bool false, .bool false, .bool false, .bool false, .int .i64 0, .int .u32 0, .string ⟨#[]⟩, .string ⟨#[]⟩, .string ⟨#[]⟩, .int .u64 0, .int .i64 0, .int .u64 0, .int .u8 0] 172))
  rw [show (w.alloc (.cells #[.string ⟨#[]⟩, .bool false, .bool false, .bool false, .bool false, .int .i64 0, .int .u32 0, .string ⟨#[]⟩, .string ⟨#[]⟩, .string ⟨#[]⟩, .int .u64 0, .int .i64 0, .int .u64 0, .int .u8 0] 172)).heap.size = w.heap.size + 1 by simp] at H
  go_enter Tryz.func127, Tryz.ntmps127
  go_wp2_with fail
  refine (numberE1 (w.heap.size + 1) ⟨l, false⟩ ⟨s1, true⟩ n _ _ _ _ _ _ _ _ _ _ _ _ _ E1 H hl).mono ?_
  rintro e w1 ⟨rfl, h1, hb1⟩
  replace R := Lib.hid (R.out.up hb1 (Nat.lt_succ_self _))
  replace HB := Lib.hid (HB.out.trans (hb1.mono (Nat.le_succ _)))
  replace H := Lib.hid ((h1.set13 (.int .u8 n)).set1 true)
  have cd : w1.cell? ⟨w.heap.size + 1, 13, none⟩ = some (.int .u8 0) := h1.cell 13
  have fd := h1.fz 13
  have c1 : w1.cell? ⟨w.heap.size + 1, 1, none⟩ = some (.bool true) := h1.cell 1
  have f1 := h1.fz 1
  have c2 : w1.cell? ⟨w.heap.size + 1, 2, none⟩ = some (.bool false) := h1.cell 2
  have f2 := h1.fz 2
  replace R := Lib.hid (((R.out.up ((Below.refl (w.heap.size + 1) w1).setCell (p := ⟨w.heap.size + 1, 13, none⟩) (Nat.le_refl _) (.int .u8 n)) (Nat.lt_succ_self _)).up ((Below.refl (w.heap.size + 1) _).setCell (p := ⟨w.heap.size + 1, 1, none⟩) (Nat.le_refl _) (.bool true)) (Nat.lt_succ_self _)).up ((Below.refl (w.heap.size + 1) _).setCell (p := ⟨w.heap.size + 1, 2, none⟩) (Nat.le_refl _) (.bool true)) (Nat.lt_succ_self _))
  replace HB := Lib.hid (((HB.out.setCell (p := ⟨w.heap.size + 1, 13, none⟩) (Nat.le_succ _) (.int .u8 n)).setCell (p := ⟨w.heap.size + 1, 1, none⟩) (Nat.le_succ _) (.bool true)).setCell (p := ⟨w.heap.size + 1, 2, none⟩) (Nat.le_succ _) (.bool true))
  replace H := Lib.hid (H.out.set2 (.bool true))
  have HT1 := Lib.hid (HT.out.below HB.out hlt)
  clear h1 hb1
  go_wp2_with fail
  refine (HL.out (w.heap.size + 1) _ HT1.out (Nat.lt_succ_of_lt hlt) H.out).mono ?_
  clear cd fd c1 f1 c2 f2
  rintro e w2 ⟨rfl, h2, hb2⟩
  replace R := Lib.hid (R.out.up hb2 (Nat.lt_succ_self _))
  replace HB := Lib.hid (HB.out.trans (hb2.mono (Nat.le_succ _)))
  replace H := Lib.hid h2
  clear h2 hb2
  have g0 := H.out.cell 0
  simp only [List.getElem?_toArray, List.getElem?_cons_succ, List.getElem?_cons_zero] at g0
  have r0 := R.out.cell 0
  simp only [List.getElem?_toArray, List.getElem?_cons_succ, List.getElem?_cons_zero] at r0
  have q0 := R.out.fz 0
  have g1 := H.out.cell 1
  simp only [List.getElem?_toArray, List.getElem?_cons_succ, List.getElem?_cons_zero] at g1
  have r1 := R.out.cell 1
  simp only [List.getElem?_toArray, List.getElem?_cons_succ, List.getElem?_cons_zero] at r1
  have q1 := R.out.fz 1
  have g2 := H.out.cell 2
  simp only [List.getElem?_toArray, List.getElem?_cons_succ, List.getElem?_cons_zero] at g2
  have r2 := R.out.cell 2
  simp only [List.getElem?_toArray, List.getElem?_cons_succ, List.getElem?_cons_zero] at r2
  have q2 := R.out.fz 2
  have g3 := H.out.cell 3
  simp only [List.getElem?_toArray, List.getElem?_cons_succ, List.getElem?_cons_zero] at g3
  have r3 := R.out.cell 3
  simp only [List.getElem?_toArray, List.getElem?_cons_succ, List.getElem?_cons_zero] at r3
  have q3 := R.out.fz 3
  have g4 := H.out.cell 4
  simp only [List.getElem?_toArray, List.getElem?_cons_succ, List.getElem?_cons_zero] at g4
  have r4 := R.out.cell 4
  simp only [List.getElem?_toArray, List.getElem?_cons_succ, List.getElem?_cons_zero] at r4
  have q4 := R.out.fz 4
  have g5 := H.out.cell 5
  simp only [List.getElem?_toArray, List.getElem?_cons_succ, List.getElem?_cons_zero] at g5
  have r5 := R.out.cell 5
  simp only [List.getElem?_toArray, List.getElem?_cons_succ, List.getElem?_cons_zero] at r5
  have q5 := R.out.fz 5
  have g6 := H.out.cell 6
  simp only [List.getElem?_toArray, List.getElem?_cons_succ, List.getElem?_cons_zero] at g6
  have r6 := R.out.cell 6
  simp only [List.getElem?_toArray, List.getElem?_cons_succ, List.getElem?_cons_zero] at r6
  have q6 := R.out.fz 6
  have g7 := H.out.cell 7
  simp only [List.getElem?_toArray, List.getElem?_cons_succ, List.getElem?_cons_zero] at g7
  have r7 := R.out.cell 7
  simp only [List.getElem?_toArray, List.getElem?_cons_succ, List.getElem?_cons_zero] at r7
  have q7 := R.out.fz 7
  have g8 := H.out.cell 8
  simp only [List.getElem?_toArray, List.getElem?_cons_succ, List.getElem?_cons_zero] at g8
  have r8 := R.out.cell 8
  simp only [List.getElem?_toArray, List.getElem?_cons_succ, List.getElem?_cons_zero] at r8
  have q8 := R.out.fz 8
  have g9 := H.out.cell 9
  simp only [List.getElem?_toArray, List.getElem?_cons_succ, List.getElem?_cons_zero] at g9
  have r9 := R.out.cell 9
  simp only [List.getElem?_toArray, List.getElem?_cons_succ, List.getElem?_cons_zero] at r9
  have q9 := R.out.fz 9
  have g10 := H.out.cell 10
  simp only [List.getElem?_toArray, List.getElem?_cons_succ, List.getElem?_cons_zero] at g10
  have r10 := R.out.cell 10
  simp only [List.getElem?_toArray, List.getElem?_cons_succ, List.getElem?_cons_zero] at r10
  have q10 := R.out.fz 10
  have g11 := H.out.cell 11
  simp only [List.getElem?_toArray, List.getElem?_cons_succ, List.getElem?_cons_zero] at g11
  have r11 := R.out.cell 11
  simp only [List.getElem?_toArray, List.getElem?_cons_succ, List.getElem?_cons_zero] at r11
  have q11 := R.out.fz 11
  have g12 := H.out.cell 12
  simp only [List.getElem?_toArray, List.getElem?_cons_succ, List.getElem?_cons_zero] at g12
  have r12 := R.out.cell 12
  simp only [List.getElem?_toArray, List.getElem?_cons_succ, List.getElem?_cons_zero] at r12
  have q12 := R.out.fz 12
  have g13 := H.out.cell 13
  simp only [List.getElem?_toArray, List.getElem?_cons_succ, List.getElem?_cons_zero] at g13
  have r13 := R.out.cell 13
  simp only [List.getElem?_toArray, List.getElem?_cons_succ, List.getElem?_cons_zero] at r13
  have q13 := R.out.fz 13
  go_wp2
  refine bodyPost_ret (v := .agg #[.string ⟨s3.s.toArray⟩, .bool s3.w, .bool true, .bool false, .bool false, .int .i64 y5, .int .u32 y6, .string ⟨y7.toArray⟩, .string ⟨y8.toArray⟩, .string ⟨y9.toArray⟩, .int .u64 ya, .int .i64 0, .int .u64 0, .int .u8 n]) (by simp [results, Tryz.results127, go_sem, *]) rfl ⟨rfl, ?_⟩
  iterate 14 (refine Below.setCell ?_ (by exact Nat.le_refl _) _)
  exact HB.out
end Go.Proofs.YtagbkmoahflfdaaGreatDoor.Hd
