/- The walks of layer 4: the document's Get and Place, a walk for each way out. By tools/gen-header-ref4.py. -/
import Derived.Test.YtabikljimndliaaDoorHrE
namespace Go.Proofs.YtabikljimndliaaDoor.Hd
open Go.RowKit Vm
set_option linter.unusedVariables false
set_option linter.unusedSimpArgs false

set_option maxHeartbeats 4000000 in
theorem refGet_none (s : ByteArray) (C1 : Hid (∀ w : World, Calls Tryd.prog 28 #[.string s] w fun e w' => e = .returned (.tuple #[.agg #[.bool false, .bool false, .bool false, .int .i64 0, .int .u32 0, .string ⟨#[]⟩, .string ⟨#[]⟩, .string ⟨#[]⟩, .int .u64 0, .int .i64 0, .int .u64 0], .string ⟨#[]⟩, .bool false]) ∧ Below w.heap.size w w')) (w : World) :
    Calls Tryd.prog 10 #[.string s] w fun e w' => e = .returned (.tuple #[.agg #[.bool false, .bool false, .bool false, .int .i64 0, .int .u32 0, .string ⟨#[]⟩, .string ⟨#[]⟩, .string ⟨#[]⟩, .int .u64 0, .int .i64 0, .int .u64 0], .string ⟨#[]⟩, .int .i64 40]) ∧ Below w.heap.size w w' := by
  go_enter Tryd.func10, Tryd.ntmps10
  go_wp2_with fail
  refine (C1.out _).mono ?_
  rintro e w1 ⟨rfl, hb1⟩
  have R := Lib.hid ((RBk.made w (.bool false) (.bool false) (.bool false) (.int .i64 0) (.int .u32 0) (.string ⟨#[]⟩) (.string ⟨#[]⟩) (.string ⟨#[]⟩) (.int .u64 0) (.int .i64 0) (.int .u64 0)).up hb1 (by simp))
  have hz1 : w.heap.size < w1.heap.size := R.out.lt
  have HB := Lib.hid (((Below.refl w.heap.size w).alloc (Nat.le_refl _) (.cells #[.bool false, .bool false, .bool false, .int .i64 0, .int .u32 0, .string ⟨#[]⟩, .string ⟨#[]⟩, .string ⟨#[]⟩, .int .u64 0, .int .i64 0, .int .u64 0] 28)).trans (hb1.mono (by simp)))
  have hz2 : w.heap.size ≤ w1.heap.size := Nat.le_of_lt hz1
  clear hb1
  have r0 := R.out.cell 0
  simp only [List.getElem?_toArray, List.getElem?_cons_succ, List.getElem?_cons_zero] at r0
  have q0 := R.out.fz 0
  have r1 := R.out.cell 1
  simp only [List.getElem?_toArray, List.getElem?_cons_succ, List.getElem?_cons_zero] at r1
  have q1 := R.out.fz 1
  have r2 := R.out.cell 2
  simp only [List.getElem?_toArray, List.getElem?_cons_succ, List.getElem?_cons_zero] at r2
  have q2 := R.out.fz 2
  have r3 := R.out.cell 3
  simp only [List.getElem?_toArray, List.getElem?_cons_succ, List.getElem?_cons_zero] at r3
  have q3 := R.out.fz 3
  have r4 := R.out.cell 4
  simp only [List.getElem?_toArray, List.getElem?_cons_succ, List.getElem?_cons_zero] at r4
  have q4 := R.out.fz 4
  have r5 := R.out.cell 5
  simp only [List.getElem?_toArray, List.getElem?_cons_succ, List.getElem?_cons_zero] at r5
  have q5 := R.out.fz 5
  have r6 := R.out.cell 6
  simp only [List.getElem?_toArray, List.getElem?_cons_succ, List.getElem?_cons_zero] at r6
  have q6 := R.out.fz 6
  have r7 := R.out.cell 7
  simp only [List.getElem?_toArray, List.getElem?_cons_succ, List.getElem?_cons_zero] at r7
  have q7 := R.out.fz 7
  have r8 := R.out.cell 8
  simp only [List.getElem?_toArray, List.getElem?_cons_succ, List.getElem?_cons_zero] at r8
  have q8 := R.out.fz 8
  have r9 := R.out.cell 9
  simp only [List.getElem?_toArray, List.getElem?_cons_succ, List.getElem?_cons_zero] at r9
  have q9 := R.out.fz 9
  have r10 := R.out.cell 10
  simp only [List.getElem?_toArray, List.getElem?_cons_succ, List.getElem?_cons_zero] at r10
  have q10 := R.out.fz 10
  go_wp2
  all_goals refine bodyPost_ret (v := .tuple #[.agg #[.bool false, .bool false, .bool false, .int .i64 0, .int .u32 0, .string ⟨#[]⟩, .string ⟨#[]⟩, .string ⟨#[]⟩, .int .u64 0, .int .i64 0, .int .u64 0], .string ⟨#[]⟩, .int .i64 40]) (by simp [results, Tryd.results10, go_sem, *]) rfl ⟨rfl, ?_⟩
  all_goals repeat (first | with_reducible exact HB.out | (with_reducible refine Below.alloc ?_ ?hsz _; case hsz => simp; omega) | (with_reducible refine Below.setCell ?_ ?hcl _; case hcl => simp; done) | (with_reducible refine below_drew ?_))
set_option maxHeartbeats 4000000 in
theorem refGet_few_s (s re : ByteArray) (b : UInt8) (sp : Bool) (ty ve le : Nat) (dc sc tk : ByteArray) (hp : 0 < s.size) (hl : s.size ≤ 140737488351232) (I0 : s[0]'hp = b) (hb0 : (0 : Int) ≤ ((b.toNat : Nat) : Int)) (hb : ((b.toNat : Nat) : Int) ≤ 255) (hre : re.size ≤ 140737488351232) (k : Nat) (hk1 : 1 ≤ k) (hk4 : k ≤ 4) (Ek : 1 + ((b.toNat : Nat) : Int) % 4 = (k : Int)) (C1 : Hid (∀ w : World, Calls Tryd.prog 28 #[.string s] w fun e w' => e = .returned (.tuple #[.agg #[.bool false, .bool sp, .bool false, .int .i64 (ty : Nat), .int .u32 (ve : Nat), .string dc, .string sc, .string tk, .int .u64 (le : Nat), .int .i64 0, .int .u64 0], .string re, .bool true]) ∧ Below w.heap.size w w')) (hf : re.size < k) (w : World) :
    Calls Tryd.prog 10 #[.string s] w fun e w' => e = .returned (.tuple #[.agg #[.bool false, .bool false, .bool false, .int .i64 0, .int .u32 0, .string ⟨#[]⟩, .string ⟨#[]⟩, .string ⟨#[]⟩, .int .u64 0, .int .i64 0, .int .u64 0], .string ⟨#[]⟩, .int .i64 40]) ∧ Below w.heap.size w w' := by
  go_enter Tryd.func10, Tryd.ntmps10
  go_wp2_with fail
  refine (C1.out _).mono ?_
  rintro e w1 ⟨rfl, hb1⟩
  have R := Lib.hid ((RBk.made w (.bool false) (.bool false) (.bool false) (.int .i64 0) (.int .u32 0) (.string ⟨#[]⟩) (.string ⟨#[]⟩) (.string ⟨#[]⟩) (.int .u64 0) (.int .i64 0) (.int .u64 0)).up hb1 (by simp))
  have hz1 : w.heap.size < w1.heap.size := R.out.lt
  have HB := Lib.hid (((Below.refl w.heap.size w).alloc (Nat.le_refl _) (.cells #[.bool false, .bool false, .bool false, .int .i64 0, .int .u32 0, .string ⟨#[]⟩, .string ⟨#[]⟩, .string ⟨#[]⟩, .int .u64 0, .int .i64 0, .int .u64 0] 28)).trans (hb1.mono (by simp)))
  have hz2 : w.heap.size ≤ w1.heap.size := Nat.le_of_lt hz1
  clear hb1
  have r0 := R.out.cell 0
  simp only [List.getElem?_toArray, List.getElem?_cons_succ, List.getElem?_cons_zero] at r0
  have q0 := R.out.fz 0
  have r1 := R.out.cell 1
  simp only [List.getElem?_toArray, List.getElem?_cons_succ, List.getElem?_cons_zero] at r1
  have q1 := R.out.fz 1
  have r2 := R.out.cell 2
  simp only [List.getElem?_toArray, List.getElem?_cons_succ, List.getElem?_cons_zero] at r2
  have q2 := R.out.fz 2
  have r3 := R.out.cell 3
  simp only [List.getElem?_toArray, List.getElem?_cons_succ, List.getElem?_cons_zero] at r3
  have q3 := R.out.fz 3
  have r4 := R.out.cell 4
  simp only [List.getElem?_toArray, List.getElem?_cons_succ, List.getElem?_cons_zero] at r4
  have q4 := R.out.fz 4
  have r5 := R.out.cell 5
  simp only [List.getElem?_toArray, List.getElem?_cons_succ, List.getElem?_cons_zero] at r5
  have q5 := R.out.fz 5
  have r6 := R.out.cell 6
  simp only [List.getElem?_toArray, List.getElem?_cons_succ, List.getElem?_cons_zero] at r6
  have q6 := R.out.fz 6
  have r7 := R.out.cell 7
  simp only [List.getElem?_toArray, List.getElem?_cons_succ, List.getElem?_cons_zero] at r7
  have q7 := R.out.fz 7
  have r8 := R.out.cell 8
  simp only [List.getElem?_toArray, List.getElem?_cons_succ, List.getElem?_cons_zero] at r8
  have q8 := R.out.fz 8
  have r9 := R.out.cell 9
  simp only [List.getElem?_toArray, List.getElem?_cons_succ, List.getElem?_cons_zero] at r9
  have q9 := R.out.fz 9
  have r10 := R.out.cell 10
  simp only [List.getElem?_toArray, List.getElem?_cons_succ, List.getElem?_cons_zero] at r10
  have q10 := R.out.fz 10
  go_wp2
  all_goals refine bodyPost_ret (v := .tuple #[.agg #[.bool false, .bool false, .bool false, .int .i64 0, .int .u32 0, .string ⟨#[]⟩, .string ⟨#[]⟩, .string ⟨#[]⟩, .int .u64 0, .int .i64 0, .int .u64 0], .string ⟨#[]⟩, .int .i64 40]) (by simp [results, Tryd.results10, go_sem, *]) rfl ⟨rfl, ?_⟩
  all_goals repeat (first | with_reducible exact HB.out | (with_reducible refine Below.alloc ?_ ?hsz _; case hsz => simp; omega) | (with_reducible refine Below.setCell ?_ ?hcl _; case hcl => simp; done) | (with_reducible refine below_drew ?_))
set_option maxHeartbeats 4000000 in
theorem refGet_bad_s (s re : ByteArray) (b : UInt8) (sp : Bool) (ty ve le : Nat) (dc sc tk : ByteArray) (hp : 0 < s.size) (hl : s.size ≤ 140737488351232) (I0 : s[0]'hp = b) (hb0 : (0 : Int) ≤ ((b.toNat : Nat) : Int)) (hb : ((b.toNat : Nat) : Int) ≤ 255) (hre : re.size ≤ 140737488351232) (k : Nat) (hk1 : 1 ≤ k) (hk4 : k ≤ 4) (Ek : 1 + ((b.toNat : Nat) : Int) % 4 = (k : Int)) (C1 : Hid (∀ w : World, Calls Tryd.prog 28 #[.string s] w fun e w' => e = .returned (.tuple #[.agg #[.bool false, .bool sp, .bool false, .int .i64 (ty : Nat), .int .u32 (ve : Nat), .string dc, .string sc, .string tk, .int .u64 (le : Nat), .int .i64 0, .int .u64 0], .string re, .bool true]) ∧ Below w.heap.size w w')) (hf : ¬ re.size < k) (hbad : (((b.toNat : Nat) : Int) / 8 % 4 != 0) = true) (w : World) :
    Calls Tryd.prog 10 #[.string s] w fun e w' => e = .returned (.tuple #[.agg #[.bool false, .bool false, .bool false, .int .i64 0, .int .u32 0, .string ⟨#[]⟩, .string ⟨#[]⟩, .string ⟨#[]⟩, .int .u64 0, .int .i64 0, .int .u64 0], .string ⟨#[]⟩, .int .i64 40]) ∧ Below w.heap.size w w' := by
  go_enter Tryd.func10, Tryd.ntmps10
  go_wp2_with fail
  refine (C1.out _).mono ?_
  rintro e w1 ⟨rfl, hb1⟩
  have R := Lib.hid ((RBk.made w (.bool false) (.bool false) (.bool false) (.int .i64 0) (.int .u32 0) (.string ⟨#[]⟩) (.string ⟨#[]⟩) (.string ⟨#[]⟩) (.int .u64 0) (.int .i64 0) (.int .u64 0)).up hb1 (by simp))
  have hz1 : w.heap.size < w1.heap.size := R.out.lt
  have HB := Lib.hid (((Below.refl w.heap.size w).alloc (Nat.le_refl _) (.cells #[.bool false, .bool false, .bool false, .int .i64 0, .int .u32 0, .string ⟨#[]⟩, .string ⟨#[]⟩, .string ⟨#[]⟩, .int .u64 0, .int .i64 0, .int .u64 0] 28)).trans (hb1.mono (by simp)))
  have hz2 : w.heap.size ≤ w1.heap.size := Nat.le_of_lt hz1
  clear hb1
  have r0 := R.out.cell 0
  simp only [List.getElem?_toArray, List.getElem?_cons_succ, List.getElem?_cons_zero] at r0
  have q0 := R.out.fz 0
  have r1 := R.out.cell 1
  simp only [List.getElem?_toArray, List.getElem?_cons_succ, List.getElem?_cons_zero] at r1
  have q1 := R.out.fz 1
  have r2 := R.out.cell 2
  simp only [List.getElem?_toArray, List.getElem?_cons_succ, List.getElem?_cons_zero] at r2
  have q2 := R.out.fz 2
  have r3 := R.out.cell 3
  simp only [List.getElem?_toArray, List.getElem?_cons_succ, List.getElem?_cons_zero] at r3
  have q3 := R.out.fz 3
  have r4 := R.out.cell 4
  simp only [List.getElem?_toArray, List.getElem?_cons_succ, List.getElem?_cons_zero] at r4
  have q4 := R.out.fz 4
  have r5 := R.out.cell 5
  simp only [List.getElem?_toArray, List.getElem?_cons_succ, List.getElem?_cons_zero] at r5
  have q5 := R.out.fz 5
  have r6 := R.out.cell 6
  simp only [List.getElem?_toArray, List.getElem?_cons_succ, List.getElem?_cons_zero] at r6
  have q6 := R.out.fz 6
  have r7 := R.out.cell 7
  simp only [List.getElem?_toArray, List.getElem?_cons_succ, List.getElem?_cons_zero] at r7
  have q7 := R.out.fz 7
  have r8 := R.out.cell 8
  simp only [List.getElem?_toArray, List.getElem?_cons_succ, List.getElem?_cons_zero] at r8
  have q8 := R.out.fz 8
  have r9 := R.out.cell 9
  simp only [List.getElem?_toArray, List.getElem?_cons_succ, List.getElem?_cons_zero] at r9
  have q9 := R.out.fz 9
  have r10 := R.out.cell 10
  simp only [List.getElem?_toArray, List.getElem?_cons_succ, List.getElem?_cons_zero] at r10
  have q10 := R.out.fz 10
  go_wp2
  all_goals refine bodyPost_ret (v := .tuple #[.agg #[.bool false, .bool false, .bool false, .int .i64 0, .int .u32 0, .string ⟨#[]⟩, .string ⟨#[]⟩, .string ⟨#[]⟩, .int .u64 0, .int .i64 0, .int .u64 0], .string ⟨#[]⟩, .int .i64 40]) (by simp [results, Tryd.results10, go_sem, *]) rfl ⟨rfl, ?_⟩
  all_goals repeat (first | with_reducible exact HB.out | (with_reducible refine Below.alloc ?_ ?hsz _; case hsz => simp; omega) | (with_reducible refine Below.setCell ?_ ?hcl _; case hcl => simp; done) | (with_reducible refine below_drew ?_))
set_option maxHeartbeats 4000000 in
theorem refGet_ok_s (s re nm rest : ByteArray) (nu : Nat) (b : UInt8) (sp : Bool) (ty ve le : Nat) (dc sc tk : ByteArray) (hp : 0 < s.size) (hl : s.size ≤ 140737488351232) (I0 : s[0]'hp = b) (hb0 : (0 : Int) ≤ ((b.toNat : Nat) : Int)) (hb : ((b.toNat : Nat) : Int) ≤ 255) (hre : re.size ≤ 140737488351232) (k : Nat) (hk1 : 1 ≤ k) (hk4 : k ≤ 4) (Ek : 1 + ((b.toNat : Nat) : Int) % 4 = (k : Int)) (C1 : Hid (∀ w : World, Calls Tryd.prog 28 #[.string s] w fun e w' => e = .returned (.tuple #[.agg #[.bool false, .bool sp, .bool false, .int .i64 (ty : Nat), .int .u32 (ve : Nat), .string dc, .string sc, .string tk, .int .u64 (le : Nat), .int .i64 0, .int .u64 0], .string re, .bool true]) ∧ Below w.heap.size w w')) (hf : ¬ re.size < k) (hf2 : k ≤ re.size) (hbad : (((b.toNat : Nat) : Int) / 8 % 4 != 0) = false) (X1 : re.extract 0 k = nm) (X2 : re.extract k re.size = rest) (CB : Hid (∀ w : World, Calls Tryd.prog 29 #[.string nm] w fun e w' => e = .returned (.int .u64 (nu : Nat)) ∧ w = w')) (w : World) :
    Calls Tryd.prog 10 #[.string s] w fun e w' => e = .returned (.tuple #[.agg #[.bool false, .bool sp, .bool (((b.toNat : Nat) : Int) / 4 % 2 == 1), .int .i64 (ty : Nat), .int .u32 (ve : Nat), .string dc, .string sc, .string tk, .int .u64 (le : Nat), .int .i64 (k : Nat), .int .u64 (nu : Nat)], .string rest, .int .i64 0]) ∧ Below w.heap.size w w' := by
  go_enter Tryd.func10, Tryd.ntmps10
  go_wp2_with fail
  refine (C1.out _).mono ?_
  rintro e w1 ⟨rfl, hb1⟩
  have R := Lib.hid ((RBk.made w (.bool false) (.bool false) (.bool false) (.int .i64 0) (.int .u32 0) (.string ⟨#[]⟩) (.string ⟨#[]⟩) (.string ⟨#[]⟩) (.int .u64 0) (.int .i64 0) (.int .u64 0)).up hb1 (by simp))
  have hz1 : w.heap.size < w1.heap.size := R.out.lt
  have HB := Lib.hid (((Below.refl w.heap.size w).alloc (Nat.le_refl _) (.cells #[.bool false, .bool false, .bool false, .int .i64 0, .int .u32 0, .string ⟨#[]⟩, .string ⟨#[]⟩, .string ⟨#[]⟩, .int .u64 0, .int .i64 0, .int .u64 0] 28)).trans (hb1.mono (by simp)))
  have hz2 : w.heap.size ≤ w1.heap.size := Nat.le_of_lt hz1
  clear hb1
  have r0 := R.out.cell 0
  simp only [List.getElem?_toArray, List.getElem?_cons_succ, List.getElem?_cons_zero] at r0
  have q0 := R.out.fz 0
  have r1 := R.out.cell 1
  simp only [List.getElem?_toArray, List.getElem?_cons_succ, List.getElem?_cons_zero] at r1
  have q1 := R.out.fz 1
  have r2 := R.out.cell 2
  simp only [List.getElem?_toArray, List.getElem?_cons_succ, List.getElem?_cons_zero] at r2
  have q2 := R.out.fz 2
  have r3 := R.out.cell 3
  simp only [List.getElem?_toArray, List.getElem?_cons_succ, List.getElem?_cons_zero] at r3
  have q3 := R.out.fz 3
  have r4 := R.out.cell 4
  simp only [List.getElem?_toArray, List.getElem?_cons_succ, List.getElem?_cons_zero] at r4
  have q4 := R.out.fz 4
  have r5 := R.out.cell 5
  simp only [List.getElem?_toArray, List.getElem?_cons_succ, List.getElem?_cons_zero] at r5
  have q5 := R.out.fz 5
  have r6 := R.out.cell 6
  simp only [List.getElem?_toArray, List.getElem?_cons_succ, List.getElem?_cons_zero] at r6
  have q6 := R.out.fz 6
  have r7 := R.out.cell 7
  simp only [List.getElem?_toArray, List.getElem?_cons_succ, List.getElem?_cons_zero] at r7
  have q7 := R.out.fz 7
  have r8 := R.out.cell 8
  simp only [List.getElem?_toArray, List.getElem?_cons_succ, List.getElem?_cons_zero] at r8
  have q8 := R.out.fz 8
  have r9 := R.out.cell 9
  simp only [List.getElem?_toArray, List.getElem?_cons_succ, List.getElem?_cons_zero] at r9
  have q9 := R.out.fz 9
  have r10 := R.out.cell 10
  simp only [List.getElem?_toArray, List.getElem?_cons_succ, List.getElem?_cons_zero] at r10
  have q10 := R.out.fz 10
  go_wp2_with fail
  refine (CB.out _).mono ?_
  rintro e w2 ⟨rfl, rfl⟩
  go_wp2_with fail
  go_region
  all_goals go_wp2
  all_goals refine bodyPost_ret (v := .tuple #[.agg #[.bool false, .bool sp, .bool (((b.toNat : Nat) : Int) / 4 % 2 == 1), .int .i64 (ty : Nat), .int .u32 (ve : Nat), .string dc, .string sc, .string tk, .int .u64 (le : Nat), .int .i64 (k : Nat), .int .u64 (nu : Nat)], .string rest, .int .i64 0]) (by simp [results, Tryd.results10, go_sem, *]) rfl ⟨rfl, ?_⟩
  all_goals repeat (first | with_reducible exact HB.out | (with_reducible refine Below.alloc ?_ ?hsz _; case hsz => simp; omega) | (with_reducible refine Below.setCell ?_ ?hcl _; case hcl => simp; done) | (with_reducible refine below_drew ?_))
set_option maxHeartbeats 4000000 in
theorem refGet_few_l (s re : ByteArray) (b : UInt8) (sp : Bool) (ty ve le : Nat) (dc sc tk : ByteArray) (hp : 0 < s.size) (hl : s.size ≤ 140737488351232) (I0 : s[0]'hp = b) (hb0 : (0 : Int) ≤ ((b.toNat : Nat) : Int)) (hb : ((b.toNat : Nat) : Int) ≤ 255) (hre : re.size ≤ 140737488351232) (k : Nat) (hk1 : 1 ≤ k) (hk4 : k ≤ 4) (Ek : 1 + ((b.toNat : Nat) : Int) % 4 = (k : Int)) (C1 : Hid (∀ w : World, Calls Tryd.prog 28 #[.string s] w fun e w' => e = .returned (.tuple #[.agg #[.bool true, .bool sp, .bool false, .int .i64 (ty : Nat), .int .u32 (ve : Nat), .string dc, .string sc, .string tk, .int .u64 (le : Nat), .int .i64 0, .int .u64 0], .string re, .bool true]) ∧ Below w.heap.size w w')) (hf : re.size < k) (w : World) :
    Calls Tryd.prog 10 #[.string s] w fun e w' => e = .returned (.tuple #[.agg #[.bool false, .bool false, .bool false, .int .i64 0, .int .u32 0, .string ⟨#[]⟩, .string ⟨#[]⟩, .string ⟨#[]⟩, .int .u64 0, .int .i64 0, .int .u64 0], .string ⟨#[]⟩, .int .i64 40]) ∧ Below w.heap.size w w' := by
  go_enter Tryd.func10, Tryd.ntmps10
  go_wp2_with fail
  refine (C1.out _).mono ?_
  rintro e w1 ⟨rfl, hb1⟩
  have R := Lib.hid ((RBk.made w (.bool false) (.bool false) (.bool false) (.int .i64 0) (.int .u32 0) (.string ⟨#[]⟩) (.string ⟨#[]⟩) (.string ⟨#[]⟩) (.int .u64 0) (.int .i64 0) (.int .u64 0)).up hb1 (by simp))
  have hz1 : w.heap.size < w1.heap.size := R.out.lt
  have HB := Lib.hid (((Below.refl w.heap.size w).alloc (Nat.le_refl _) (.cells #[.bool false, .bool false, .bool false, .int .i64 0, .int .u32 0, .string ⟨#[]⟩, .string ⟨#[]⟩, .string ⟨#[]⟩, .int .u64 0, .int .i64 0, .int .u64 0] 28)).trans (hb1.mono (by simp)))
  have hz2 : w.heap.size ≤ w1.heap.size := Nat.le_of_lt hz1
  clear hb1
  have r0 := R.out.cell 0
  simp only [List.getElem?_toArray, List.getElem?_cons_succ, List.getElem?_cons_zero] at r0
  have q0 := R.out.fz 0
  have r1 := R.out.cell 1
  simp only [List.getElem?_toArray, List.getElem?_cons_succ, List.getElem?_cons_zero] at r1
  have q1 := R.out.fz 1
  have r2 := R.out.cell 2
  simp only [List.getElem?_toArray, List.getElem?_cons_succ, List.getElem?_cons_zero] at r2
  have q2 := R.out.fz 2
  have r3 := R.out.cell 3
  simp only [List.getElem?_toArray, List.getElem?_cons_succ, List.getElem?_cons_zero] at r3
  have q3 := R.out.fz 3
  have r4 := R.out.cell 4
  simp only [List.getElem?_toArray, List.getElem?_cons_succ, List.getElem?_cons_zero] at r4
  have q4 := R.out.fz 4
  have r5 := R.out.cell 5
  simp only [List.getElem?_toArray, List.getElem?_cons_succ, List.getElem?_cons_zero] at r5
  have q5 := R.out.fz 5
  have r6 := R.out.cell 6
  simp only [List.getElem?_toArray, List.getElem?_cons_succ, List.getElem?_cons_zero] at r6
  have q6 := R.out.fz 6
  have r7 := R.out.cell 7
  simp only [List.getElem?_toArray, List.getElem?_cons_succ, List.getElem?_cons_zero] at r7
  have q7 := R.out.fz 7
  have r8 := R.out.cell 8
  simp only [List.getElem?_toArray, List.getElem?_cons_succ, List.getElem?_cons_zero] at r8
  have q8 := R.out.fz 8
  have r9 := R.out.cell 9
  simp only [List.getElem?_toArray, List.getElem?_cons_succ, List.getElem?_cons_zero] at r9
  have q9 := R.out.fz 9
  have r10 := R.out.cell 10
  simp only [List.getElem?_toArray, List.getElem?_cons_succ, List.getElem?_cons_zero] at r10
  have q10 := R.out.fz 10
  go_wp2
  all_goals refine bodyPost_ret (v := .tuple #[.agg #[.bool false, .bool false, .bool false, .int .i64 0, .int .u32 0, .string ⟨#[]⟩, .string ⟨#[]⟩, .string ⟨#[]⟩, .int .u64 0, .int .i64 0, .int .u64 0], .string ⟨#[]⟩, .int .i64 40]) (by simp [results, Tryd.results10, go_sem, *]) rfl ⟨rfl, ?_⟩
  all_goals repeat (first | with_reducible exact HB.out | (with_reducible refine Below.alloc ?_ ?hsz _; case hsz => simp; omega) | (with_reducible refine Below.setCell ?_ ?hcl _; case hcl => simp; done) | (with_reducible refine below_drew ?_))
set_option maxHeartbeats 4000000 in
theorem refGet_bad_l (s re : ByteArray) (b : UInt8) (sp : Bool) (ty ve le : Nat) (dc sc tk : ByteArray) (hp : 0 < s.size) (hl : s.size ≤ 140737488351232) (I0 : s[0]'hp = b) (hb0 : (0 : Int) ≤ ((b.toNat : Nat) : Int)) (hb : ((b.toNat : Nat) : Int) ≤ 255) (hre : re.size ≤ 140737488351232) (k : Nat) (hk1 : 1 ≤ k) (hk4 : k ≤ 4) (Ek : 1 + ((b.toNat : Nat) : Int) % 4 = (k : Int)) (C1 : Hid (∀ w : World, Calls Tryd.prog 28 #[.string s] w fun e w' => e = .returned (.tuple #[.agg #[.bool true, .bool sp, .bool false, .int .i64 (ty : Nat), .int .u32 (ve : Nat), .string dc, .string sc, .string tk, .int .u64 (le : Nat), .int .i64 0, .int .u64 0], .string re, .bool true]) ∧ Below w.heap.size w w')) (hf : ¬ re.size < k) (hbad : (((b.toNat : Nat) : Int) / 4 % 4 != 0) = true) (w : World) :
    Calls Tryd.prog 10 #[.string s] w fun e w' => e = .returned (.tuple #[.agg #[.bool false, .bool false, .bool false, .int .i64 0, .int .u32 0, .string ⟨#[]⟩, .string ⟨#[]⟩, .string ⟨#[]⟩, .int .u64 0, .int .i64 0, .int .u64 0], .string ⟨#[]⟩, .int .i64 40]) ∧ Below w.heap.size w w' := by
  go_enter Tryd.func10, Tryd.ntmps10
  go_wp2_with fail
  refine (C1.out _).mono ?_
  rintro e w1 ⟨rfl, hb1⟩
  have R := Lib.hid ((RBk.made w (.bool false) (.bool false) (.bool false) (.int .i64 0) (.int .u32 0) (.string ⟨#[]⟩) (.string ⟨#[]⟩) (.string ⟨#[]⟩) (.int .u64 0) (.int .i64 0) (.int .u64 0)).up hb1 (by simp))
  have hz1 : w.heap.size < w1.heap.size := R.out.lt
  have HB := Lib.hid (((Below.refl w.heap.size w).alloc (Nat.le_refl _) (.cells #[.bool false, .bool false, .bool false, .int .i64 0, .int .u32 0, .string ⟨#[]⟩, .string ⟨#[]⟩, .string ⟨#[]⟩, .int .u64 0, .int .i64 0, .int .u64 0] 28)).trans (hb1.mono (by simp)))
  have hz2 : w.heap.size ≤ w1.heap.size := Nat.le_of_lt hz1
  clear hb1
  have r0 := R.out.cell 0
  simp only [List.getElem?_toArray, List.getElem?_cons_succ, List.getElem?_cons_zero] at r0
  have q0 := R.out.fz 0
  have r1 := R.out.cell 1
  simp only [List.getElem?_toArray, List.getElem?_cons_succ, List.getElem?_cons_zero] at r1
  have q1 := R.out.fz 1
  have r2 := R.out.cell 2
  simp only [List.getElem?_toArray, List.getElem?_cons_succ, List.getElem?_cons_zero] at r2
  have q2 := R.out.fz 2
  have r3 := R.out.cell 3
  simp only [List.getElem?_toArray, List.getElem?_cons_succ, List.getElem?_cons_zero] at r3
  have q3 := R.out.fz 3
  have r4 := R.out.cell 4
  simp only [List.getElem?_toArray, List.getElem?_cons_succ, List.getElem?_cons_zero] at r4
  have q4 := R.out.fz 4
  have r5 := R.out.cell 5
  simp only [List.getElem?_toArray, List.getElem?_cons_succ, List.getElem?_cons_zero] at r5
  have q5 := R.out.fz 5
  have r6 := R.out.cell 6
  simp only [List.getElem?_toArray, List.getElem?_cons_succ, List.getElem?_cons_zero] at r6
  have q6 := R.out.fz 6
  have r7 := R.out.cell 7
  simp only [List.getElem?_toArray, List.getElem?_cons_succ, List.getElem?_cons_zero] at r7
  have q7 := R.out.fz 7
  have r8 := R.out.cell 8
  simp only [List.getElem?_toArray, List.getElem?_cons_succ, List.getElem?_cons_zero] at r8
  have q8 := R.out.fz 8
  have r9 := R.out.cell 9
  simp only [List.getElem?_toArray, List.getElem?_cons_succ, List.getElem?_cons_zero] at r9
  have q9 := R.out.fz 9
  have r10 := R.out.cell 10
  simp only [List.getElem?_toArray, List.getElem?_cons_succ, List.getElem?_cons_zero] at r10
  have q10 := R.out.fz 10
  go_wp2
  all_goals refine bodyPost_ret (v := .tuple #[.agg #[.bool false, .bool false, .bool false, .int .i64 0, .int .u32 0, .string ⟨#[]⟩, .string ⟨#[]⟩, .string ⟨#[]⟩, .int .u64 0, .int .i64 0, .int .u64 0], .string ⟨#[]⟩, .int .i64 40]) (by simp [results, Tryd.results10, go_sem, *]) rfl ⟨rfl, ?_⟩
  all_goals repeat (first | with_reducible exact HB.out | (with_reducible refine Below.alloc ?_ ?hsz _; case hsz => simp; omega) | (with_reducible refine Below.setCell ?_ ?hcl _; case hcl => simp; done) | (with_reducible refine below_drew ?_))
set_option maxHeartbeats 4000000 in
theorem refGet_ok_l (s re nm rest : ByteArray) (nu : Nat) (b : UInt8) (sp : Bool) (ty ve le : Nat) (dc sc tk : ByteArray) (hp : 0 < s.size) (hl : s.size ≤ 140737488351232) (I0 : s[0]'hp = b) (hb0 : (0 : Int) ≤ ((b.toNat : Nat) : Int)) (hb : ((b.toNat : Nat) : Int) ≤ 255) (hre : re.size ≤ 140737488351232) (k : Nat) (hk1 : 1 ≤ k) (hk4 : k ≤ 4) (Ek : 1 + ((b.toNat : Nat) : Int) % 4 = (k : Int)) (C1 : Hid (∀ w : World, Calls Tryd.prog 28 #[.string s] w fun e w' => e = .returned (.tuple #[.agg #[.bool true, .bool sp, .bool false, .int .i64 (ty : Nat), .int .u32 (ve : Nat), .string dc, .string sc, .string tk, .int .u64 (le : Nat), .int .i64 0, .int .u64 0], .string re, .bool true]) ∧ Below w.heap.size w w')) (hf : ¬ re.size < k) (hf2 : k ≤ re.size) (hbad : (((b.toNat : Nat) : Int) / 4 % 4 != 0) = false) (X1 : re.extract 0 k = nm) (X2 : re.extract k re.size = rest) (CB : Hid (∀ w : World, Calls Tryd.prog 29 #[.string nm] w fun e w' => e = .returned (.int .u64 (nu : Nat)) ∧ w = w')) (w : World) :
    Calls Tryd.prog 10 #[.string s] w fun e w' => e = .returned (.tuple #[.agg #[.bool true, .bool sp, .bool false, .int .i64 (ty : Nat), .int .u32 (ve : Nat), .string dc, .string sc, .string tk, .int .u64 (le : Nat), .int .i64 (k : Nat), .int .u64 (nu : Nat)], .string rest, .int .i64 0]) ∧ Below w.heap.size w w' := by
  go_enter Tryd.func10, Tryd.ntmps10
  go_wp2_with fail
  refine (C1.out _).mono ?_
  rintro e w1 ⟨rfl, hb1⟩
  have R := Lib.hid ((RBk.made w (.bool false) (.bool false) (.bool false) (.int .i64 0) (.int .u32 0) (.string ⟨#[]⟩) (.string ⟨#[]⟩) (.string ⟨#[]⟩) (.int .u64 0) (.int .i64 0) (.int .u64 0)).up hb1 (by simp))
  have hz1 : w.heap.size < w1.heap.size := R.out.lt
  have HB := Lib.hid (((Below.refl w.heap.size w).alloc (Nat.le_refl _) (.cells #[.bool false, .bool false, .bool false, .int .i64 0, .int .u32 0, .string ⟨#[]⟩, .string ⟨#[]⟩, .string ⟨#[]⟩, .int .u64 0, .int .i64 0, .int .u64 0] 28)).trans (hb1.mono (by simp)))
  have hz2 : w.heap.size ≤ w1.heap.size := Nat.le_of_lt hz1
  clear hb1
  have r0 := R.out.cell 0
  simp only [List.getElem?_toArray, List.getElem?_cons_succ, List.getElem?_cons_zero] at r0
  have q0 := R.out.fz 0
  have r1 := R.out.cell 1
  simp only [List.getElem?_toArray, List.getElem?_cons_succ, List.getElem?_cons_zero] at r1
  have q1 := R.out.fz 1
  have r2 := R.out.cell 2
  simp only [List.getElem?_toArray, List.getElem?_cons_succ, List.getElem?_cons_zero] at r2
  have q2 := R.out.fz 2
  have r3 := R.out.cell 3
  simp only [List.getElem?_toArray, List.getElem?_cons_succ, List.getElem?_cons_zero] at r3
  have q3 := R.out.fz 3
  have r4 := R.out.cell 4
  simp only [List.getElem?_toArray, List.getElem?_cons_succ, List.getElem?_cons_zero] at r4
  have q4 := R.out.fz 4
  have r5 := R.out.cell 5
  simp only [List.getElem?_toArray, List.getElem?_cons_succ, List.getElem?_cons_zero] at r5
  have q5 := R.out.fz 5
  have r6 := R.out.cell 6
  simp only [List.getElem?_toArray, List.getElem?_cons_succ, List.getElem?_cons_zero] at r6
  have q6 := R.out.fz 6
  have r7 := R.out.cell 7
  simp only [List.getElem?_toArray, List.getElem?_cons_succ, List.getElem?_cons_zero] at r7
  have q7 := R.out.fz 7
  have r8 := R.out.cell 8
  simp only [List.getElem?_toArray, List.getElem?_cons_succ, List.getElem?_cons_zero] at r8
  have q8 := R.out.fz 8
  have r9 := R.out.cell 9
  simp only [List.getElem?_toArray, List.getElem?_cons_succ, List.getElem?_cons_zero] at r9
  have q9 := R.out.fz 9
  have r10 := R.out.cell 10
  simp only [List.getElem?_toArray, List.getElem?_cons_succ, List.getElem?_cons_zero] at r10
  have q10 := R.out.fz 10
  go_wp2_with fail
  refine (CB.out _).mono ?_
  rintro e w2 ⟨rfl, rfl⟩
  go_wp2_with fail
  go_region
  all_goals go_wp2
  all_goals refine bodyPost_ret (v := .tuple #[.agg #[.bool true, .bool sp, .bool false, .int .i64 (ty : Nat), .int .u32 (ve : Nat), .string dc, .string sc, .string tk, .int .u64 (le : Nat), .int .i64 (k : Nat), .int .u64 (nu : Nat)], .string rest, .int .i64 0]) (by simp [results, Tryd.results10, go_sem, *]) rfl ⟨rfl, ?_⟩
  all_goals repeat (first | with_reducible exact HB.out | (with_reducible refine Below.alloc ?_ ?hsz _; case hsz => simp; omega) | (with_reducible refine Below.setCell ?_ ?hcl _; case hcl => simp; done) | (with_reducible refine below_drew ?_))
set_option maxHeartbeats 4000000 in
theorem refPlace_none (s : ByteArray) (C1 : Hid (∀ w : World, Calls Tryd.prog 28 #[.string s] w fun e w' => e = .returned (.tuple #[.agg #[.bool false, .bool false, .bool false, .int .i64 0, .int .u32 0, .string ⟨#[]⟩, .string ⟨#[]⟩, .string ⟨#[]⟩, .int .u64 0, .int .i64 0, .int .u64 0], .string ⟨#[]⟩, .bool false]) ∧ Below w.heap.size w w')) (w : World) :
    Calls Tryd.prog 12 #[.string s] w fun e w' => e = .returned (.tuple #[.int .i64 0, .int .i64 40]) ∧ Below w.heap.size w w' := by
  go_enter Tryd.func12, Tryd.ntmps12
  go_wp2_with fail
  refine (C1.out _).mono ?_
  rintro e w1 ⟨rfl, hb1⟩
  go_wp2
  go_ret2
  exact ⟨rfl, hb1.alloc hb1.size _⟩
set_option maxHeartbeats 4000000 in
theorem refPlace_ok_s (s re : ByteArray) (sp : Bool) (ty ve le : Nat) (dc sc tk : ByteArray) (hl : s.size ≤ 140737488351232) (hre : re.size ≤ 140737488351232) (C1 : Hid (∀ w : World, Calls Tryd.prog 28 #[.string s] w fun e w' => e = .returned (.tuple #[.agg #[.bool false, .bool sp, .bool false, .int .i64 (ty : Nat), .int .u32 (ve : Nat), .string dc, .string sc, .string tk, .int .u64 (le : Nat), .int .i64 0, .int .u64 0], .string re, .bool true]) ∧ Below w.heap.size w w')) (w : World) :
    Calls Tryd.prog 12 #[.string s] w fun e w' => e = .returned (.tuple #[.int .i64 ((s.size : Int) - (re.size : Int)), .int .i64 0]) ∧ Below w.heap.size w w' := by
  go_enter Tryd.func12, Tryd.ntmps12
  go_wp2_with fail
  refine (C1.out _).mono ?_
  rintro e w1 ⟨rfl, hb1⟩
  go_wp2
  go_ret2
  exact ⟨rfl, hb1.alloc hb1.size _⟩
set_option maxHeartbeats 4000000 in
theorem refPlace_ok_l (s re : ByteArray) (sp : Bool) (ty ve le : Nat) (dc sc tk : ByteArray) (hl : s.size ≤ 140737488351232) (hre : re.size ≤ 140737488351232) (C1 : Hid (∀ w : World, Calls Tryd.prog 28 #[.string s] w fun e w' => e = .returned (.tuple #[.agg #[.bool true, .bool sp, .bool false, .int .i64 (ty : Nat), .int .u32 (ve : Nat), .string dc, .string sc, .string tk, .int .u64 (le : Nat), .int .i64 0, .int .u64 0], .string re, .bool true]) ∧ Below w.heap.size w w')) (w : World) :
    Calls Tryd.prog 12 #[.string s] w fun e w' => e = .returned (.tuple #[.int .i64 ((s.size : Int) - (re.size : Int)), .int .i64 0]) ∧ Below w.heap.size w w' := by
  go_enter Tryd.func12, Tryd.ntmps12
  go_wp2_with fail
  refine (C1.out _).mono ?_
  rintro e w1 ⟨rfl, hb1⟩
  go_wp2
  go_ret2
  exact ⟨rfl, hb1.alloc hb1.size _⟩
end Go.Proofs.YtabikljimndliaaDoor.Hd
