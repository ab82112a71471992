/- The walks of layer 4: the document's ahead, the long ways out (ahead_i1|ahead_i2|ahead_g0|ahead_g1|ahead_g2|ahead_v0|ahead_v1|ahead_ok0|ahead_ok1). By tools/gen-header-ref3.py. -/
import Derived.Test.YtabikljimndliaaDoorHrE
namespace Go.Proofs.YtabikljimndliaaDoor.Hd
open Go.RowKit Vm
set_option linter.unusedVariables false
set_option linter.unusedSimpArgs false

set_option maxHeartbeats 4000000 in
theorem ahead_i1 (s : ByteArray) (v s0 : ByteArray) (b : UInt8) (ve : Nat) (hp : 0 < s.size) (hl : s.size ≤ 9223372036854775807) (I0 : s[0]'hp = b) (hb0 : (0 : Int) ≤ ((b.toNat : Nat) : Int)) (hb : ((b.toNat : Nat) : Int) ≤ 255) (h64 : (((b.toNat : Nat) : Int) / 64 % 2 == 0) = false) (h128 : decide (128 ≤ ((b.toNat : Nat) : Int)) = true) (hve : ((ve : Nat) : Int) ≤ 4294967295) (hf : ¬ ((s.size : Nat) : Int) < 5) (hf5 : 5 ≤ s.size) (ty : Int) (hty0 : 0 ≤ ty) (hty : ty ≤ 2) (Ety : ((b.toNat : Nat) : Int) / 16 % 4 = ty) (h3 : (ty == 3) = false) (X1 : s.extract 1 5 = v) (X2 : s.extract 5 s.size = s0) (CB : Hid (∀ w : World, Calls Tryd.prog 29 #[.string v] w fun e w' => e = .returned (.int .u64 (ve : Nat)) ∧ w = w')) (C1 : Hid (∀ w : World, Calls Tryd.prog 49 #[.string s0] w fun e w' => e = .returned (.tuple #[.string ⟨#[]⟩, .string ⟨#[]⟩, .bool false]) ∧ Below w.heap.size w w')) (w : World) :
    Calls Tryd.prog 28 #[.string s] w fun e w' => e = .returned (.tuple #[.agg #[.bool false, .bool false, .bool false, .int .i64 0, .int .u32 0, .string ⟨#[]⟩, .string ⟨#[]⟩, .string ⟨#[]⟩, .int .u64 0, .int .i64 0, .int .u64 0], .string ⟨#[]⟩, .bool false]) ∧ Below w.heap.size w w' := by
  have he := empty_no s hp
  go_enter Tryd.func28, Tryd.ntmps28
  go_wp2_with fail
  refine (CB.out _).mono ?_
  rintro e w1 ⟨rfl, rfl⟩
  go_wp2_with fail
  refine (C1.out _).mono ?_
  rintro e w1 ⟨rfl, hb1⟩
  have R := Lib.hid (((RBk.made w (.bool false) (.bool false) (.bool false) (.int .i64 0) (.int .u32 0) (.string ⟨#[]⟩) (.string ⟨#[]⟩) (.string ⟨#[]⟩) (.int .u64 0) (.int .i64 0) (.int .u64 0)).up (n := w.heap.size + 1) ((Below.refl _ _).alloc (by simp) (.cells #[.bool true, .bool false, .bool false, .int .i64 ty, .int .u32 (ve : Nat), .string ⟨#[]⟩, .string ⟨#[]⟩, .string ⟨#[]⟩, .int .u64 0, .int .i64 0, .int .u64 0] 28)) (Nat.lt_succ_self _)).up hb1 (by simp; omega))
  have H := Lib.hid ((RBk.made2 w (.cells #[.bool false, .bool false, .bool false, .int .i64 0, .int .u32 0, .string ⟨#[]⟩, .string ⟨#[]⟩, .string ⟨#[]⟩, .int .u64 0, .int .i64 0, .int .u64 0] 28) (.bool true) (.bool false) (.bool false) (.int .i64 ty) (.int .u32 (ve : Nat)) (.string ⟨#[]⟩) (.string ⟨#[]⟩) (.string ⟨#[]⟩) (.int .u64 0) (.int .i64 0) (.int .u64 0)).keep hb1)
  have HB := Lib.hid ((((Below.refl w.heap.size w).alloc (Nat.le_refl _) (.cells #[.bool false, .bool false, .bool false, .int .i64 0, .int .u32 0, .string ⟨#[]⟩, .string ⟨#[]⟩, .string ⟨#[]⟩, .int .u64 0, .int .i64 0, .int .u64 0] 28)).alloc (by simp) (.cells #[.bool true, .bool false, .bool false, .int .i64 ty, .int .u32 (ve : Nat), .string ⟨#[]⟩, .string ⟨#[]⟩, .string ⟨#[]⟩, .int .u64 0, .int .i64 0, .int .u64 0] 28)).trans (hb1.mono (by simp; omega)))
  clear hb1
  have r0 := R.out.cell 0
  simp only [List.getElem?_toArray, List.getElem?_cons_succ, List.getElem?_cons_zero] at r0
  have q0 := R.out.fz 0
  have h0 := H.out.cell 0
  simp only [List.getElem?_toArray, List.getElem?_cons_succ, List.getElem?_cons_zero] at h0
  have g0 := H.out.fz 0
  have r1 := R.out.cell 1
  simp only [List.getElem?_toArray, List.getElem?_cons_succ, List.getElem?_cons_zero] at r1
  have q1 := R.out.fz 1
  have h1 := H.out.cell 1
  simp only [List.getElem?_toArray, List.getElem?_cons_succ, List.getElem?_cons_zero] at h1
  have g1 := H.out.fz 1
  have r2 := R.out.cell 2
  simp only [List.getElem?_toArray, List.getElem?_cons_succ, List.getElem?_cons_zero] at r2
  have q2 := R.out.fz 2
  have h2 := H.out.cell 2
  simp only [List.getElem?_toArray, List.getElem?_cons_succ, List.getElem?_cons_zero] at h2
  have g2 := H.out.fz 2
  have r3 := R.out.cell 3
  simp only [List.getElem?_toArray, List.getElem?_cons_succ, List.getElem?_cons_zero] at r3
  have q3 := R.out.fz 3
  have h3 := H.out.cell 3
  simp only [List.getElem?_toArray, List.getElem?_cons_succ, List.getElem?_cons_zero] at h3
  have g3 := H.out.fz 3
  have r4 := R.out.cell 4
  simp only [List.getElem?_toArray, List.getElem?_cons_succ, List.getElem?_cons_zero] at r4
  have q4 := R.out.fz 4
  have h4 := H.out.cell 4
  simp only [List.getElem?_toArray, List.getElem?_cons_succ, List.getElem?_cons_zero] at h4
  have g4 := H.out.fz 4
  have r5 := R.out.cell 5
  simp only [List.getElem?_toArray, List.getElem?_cons_succ, List.getElem?_cons_zero] at r5
  have q5 := R.out.fz 5
  have h5 := H.out.cell 5
  simp only [List.getElem?_toArray, List.getElem?_cons_succ, List.getElem?_cons_zero] at h5
  have g5 := H.out.fz 5
  have r6 := R.out.cell 6
  simp only [List.getElem?_toArray, List.getElem?_cons_succ, List.getElem?_cons_zero] at r6
  have q6 := R.out.fz 6
  have h6 := H.out.cell 6
  simp only [List.getElem?_toArray, List.getElem?_cons_succ, List.getElem?_cons_zero] at h6
  have g6 := H.out.fz 6
  have r7 := R.out.cell 7
  simp only [List.getElem?_toArray, List.getElem?_cons_succ, List.getElem?_cons_zero] at r7
  have q7 := R.out.fz 7
  have h7 := H.out.cell 7
  simp only [List.getElem?_toArray, List.getElem?_cons_succ, List.getElem?_cons_zero] at h7
  have g7 := H.out.fz 7
  have r8 := R.out.cell 8
  simp only [List.getElem?_toArray, List.getElem?_cons_succ, List.getElem?_cons_zero] at r8
  have q8 := R.out.fz 8
  have h8 := H.out.cell 8
  simp only [List.getElem?_toArray, List.getElem?_cons_succ, List.getElem?_cons_zero] at h8
  have g8 := H.out.fz 8
  have r9 := R.out.cell 9
  simp only [List.getElem?_toArray, List.getElem?_cons_succ, List.getElem?_cons_zero] at r9
  have q9 := R.out.fz 9
  have h9 := H.out.cell 9
  simp only [List.getElem?_toArray, List.getElem?_cons_succ, List.getElem?_cons_zero] at h9
  have g9 := H.out.fz 9
  have r10 := R.out.cell 10
  simp only [List.getElem?_toArray, List.getElem?_cons_succ, List.getElem?_cons_zero] at r10
  have q10 := R.out.fz 10
  have h10 := H.out.cell 10
  simp only [List.getElem?_toArray, List.getElem?_cons_succ, List.getElem?_cons_zero] at h10
  have g10 := H.out.fz 10
  go_wp2
  all_goals refine bodyPost_ret (v := .tuple #[.agg #[.bool false, .bool false, .bool false, .int .i64 0, .int .u32 0, .string ⟨#[]⟩, .string ⟨#[]⟩, .string ⟨#[]⟩, .int .u64 0, .int .i64 0, .int .u64 0], .string ⟨#[]⟩, .bool false]) (by simp [results, Tryd.results28, go_sem, *]) rfl ⟨rfl, ?_⟩
  all_goals repeat (first | with_reducible exact HB.out | refine Below.setCell ?_ (by simp) _ | refine below_drew ?_)
set_option maxHeartbeats 4000000 in
theorem ahead_i2 (s : ByteArray) (v s0 d s1 : ByteArray) (b : UInt8) (ve : Nat) (hp : 0 < s.size) (hl : s.size ≤ 9223372036854775807) (I0 : s[0]'hp = b) (hb0 : (0 : Int) ≤ ((b.toNat : Nat) : Int)) (hb : ((b.toNat : Nat) : Int) ≤ 255) (h64 : (((b.toNat : Nat) : Int) / 64 % 2 == 0) = false) (h128 : decide (128 ≤ ((b.toNat : Nat) : Int)) = true) (hve : ((ve : Nat) : Int) ≤ 4294967295) (hf : ¬ ((s.size : Nat) : Int) < 5) (hf5 : 5 ≤ s.size) (ty : Int) (hty0 : 0 ≤ ty) (hty : ty ≤ 2) (Ety : ((b.toNat : Nat) : Int) / 16 % 4 = ty) (h3 : (ty == 3) = false) (X1 : s.extract 1 5 = v) (X2 : s.extract 5 s.size = s0) (CB : Hid (∀ w : World, Calls Tryd.prog 29 #[.string v] w fun e w' => e = .returned (.int .u64 (ve : Nat)) ∧ w = w')) (C1 : Hid (∀ w : World, Calls Tryd.prog 49 #[.string s0] w fun e w' => e = .returned (.tuple #[.string d, .string s1, .bool true]) ∧ Below w.heap.size w w')) (C2 : Hid (∀ w : World, Calls Tryd.prog 49 #[.string s1] w fun e w' => e = .returned (.tuple #[.string ⟨#[]⟩, .string ⟨#[]⟩, .bool false]) ∧ Below w.heap.size w w')) (w : World) :
    Calls Tryd.prog 28 #[.string s] w fun e w' => e = .returned (.tuple #[.agg #[.bool false, .bool false, .bool false, .int .i64 0, .int .u32 0, .string ⟨#[]⟩, .string ⟨#[]⟩, .string ⟨#[]⟩, .int .u64 0, .int .i64 0, .int .u64 0], .string ⟨#[]⟩, .bool false]) ∧ Below w.heap.size w w' := by
  have he := empty_no s hp
  go_enter Tryd.func28, Tryd.ntmps28
  go_wp2_with fail
  refine (CB.out _).mono ?_
  rintro e w1 ⟨rfl, rfl⟩
  go_wp2_with fail
  refine (C1.out _).mono ?_
  rintro e w1 ⟨rfl, hb1⟩
  have R := Lib.hid (((RBk.made w (.bool false) (.bool false) (.bool false) (.int .i64 0) (.int .u32 0) (.string ⟨#[]⟩) (.string ⟨#[]⟩) (.string ⟨#[]⟩) (.int .u64 0) (.int .i64 0) (.int .u64 0)).up (n := w.heap.size + 1) ((Below.refl _ _).alloc (by simp) (.cells #[.bool true, .bool false, .bool false, .int .i64 ty, .int .u32 (ve : Nat), .string ⟨#[]⟩, .string ⟨#[]⟩, .string ⟨#[]⟩, .int .u64 0, .int .i64 0, .int .u64 0] 28)) (Nat.lt_succ_self _)).up hb1 (by simp; omega))
  have H := Lib.hid ((RBk.made2 w (.cells #[.bool false, .bool false, .bool false, .int .i64 0, .int .u32 0, .string ⟨#[]⟩, .string ⟨#[]⟩, .string ⟨#[]⟩, .int .u64 0, .int .i64 0, .int .u64 0] 28) (.bool true) (.bool false) (.bool false) (.int .i64 ty) (.int .u32 (ve : Nat)) (.string ⟨#[]⟩) (.string ⟨#[]⟩) (.string ⟨#[]⟩) (.int .u64 0) (.int .i64 0) (.int .u64 0)).keep hb1)
  have HB := Lib.hid ((((Below.refl w.heap.size w).alloc (Nat.le_refl _) (.cells #[.bool false, .bool false, .bool false, .int .i64 0, .int .u32 0, .string ⟨#[]⟩, .string ⟨#[]⟩, .string ⟨#[]⟩, .int .u64 0, .int .i64 0, .int .u64 0] 28)).alloc (by simp) (.cells #[.bool true, .bool false, .bool false, .int .i64 ty, .int .u32 (ve : Nat), .string ⟨#[]⟩, .string ⟨#[]⟩, .string ⟨#[]⟩, .int .u64 0, .int .i64 0, .int .u64 0] 28)).trans (hb1.mono (by simp; omega)))
  clear hb1
  have r0 := R.out.cell 0
  simp only [List.getElem?_toArray, List.getElem?_cons_succ, List.getElem?_cons_zero] at r0
  have q0 := R.out.fz 0
  have h0 := H.out.cell 0
  simp only [List.getElem?_toArray, List.getElem?_cons_succ, List.getElem?_cons_zero] at h0
  have g0 := H.out.fz 0
  have r1 := R.out.cell 1
  simp only [List.getElem?_toArray, List.getElem?_cons_succ, List.getElem?_cons_zero] at r1
  have q1 := R.out.fz 1
  have h1 := H.out.cell 1
  simp only [List.getElem?_toArray, List.getElem?_cons_succ, List.getElem?_cons_zero] at h1
  have g1 := H.out.fz 1
  have r2 := R.out.cell 2
  simp only [List.getElem?_toArray, List.getElem?_cons_succ, List.getElem?_cons_zero] at r2
  have q2 := R.out.fz 2
  have h2 := H.out.cell 2
  simp only [List.getElem?_toArray, List.getElem?_cons_succ, List.getElem?_cons_zero] at h2
  have g2 := H.out.fz 2
  have r3 := R.out.cell 3
  simp only [List.getElem?_toArray, List.getElem?_cons_succ, List.getElem?_cons_zero] at r3
  have q3 := R.out.fz 3
  have h3 := H.out.cell 3
  simp only [List.getElem?_toArray, List.getElem?_cons_succ, List.getElem?_cons_zero] at h3
  have g3 := H.out.fz 3
  have r4 := R.out.cell 4
  simp only [List.getElem?_toArray, List.getElem?_cons_succ, List.getElem?_cons_zero] at r4
  have q4 := R.out.fz 4
  have h4 := H.out.cell 4
  simp only [List.getElem?_toArray, List.getElem?_cons_succ, List.getElem?_cons_zero] at h4
  have g4 := H.out.fz 4
  have r5 := R.out.cell 5
  simp only [List.getElem?_toArray, List.getElem?_cons_succ, List.getElem?_cons_zero] at r5
  have q5 := R.out.fz 5
  have h5 := H.out.cell 5
  simp only [List.getElem?_toArray, List.getElem?_cons_succ, List.getElem?_cons_zero] at h5
  have g5 := H.out.fz 5
  have r6 := R.out.cell 6
  simp only [List.getElem?_toArray, List.getElem?_cons_succ, List.getElem?_cons_zero] at r6
  have q6 := R.out.fz 6
  have h6 := H.out.cell 6
  simp only [List.getElem?_toArray, List.getElem?_cons_succ, List.getElem?_cons_zero] at h6
  have g6 := H.out.fz 6
  have r7 := R.out.cell 7
  simp only [List.getElem?_toArray, List.getElem?_cons_succ, List.getElem?_cons_zero] at r7
  have q7 := R.out.fz 7
  have h7 := H.out.cell 7
  simp only [List.getElem?_toArray, List.getElem?_cons_succ, List.getElem?_cons_zero] at h7
  have g7 := H.out.fz 7
  have r8 := R.out.cell 8
  simp only [List.getElem?_toArray, List.getElem?_cons_succ, List.getElem?_cons_zero] at r8
  have q8 := R.out.fz 8
  have h8 := H.out.cell 8
  simp only [List.getElem?_toArray, List.getElem?_cons_succ, List.getElem?_cons_zero] at h8
  have g8 := H.out.fz 8
  have r9 := R.out.cell 9
  simp only [List.getElem?_toArray, List.getElem?_cons_succ, List.getElem?_cons_zero] at r9
  have q9 := R.out.fz 9
  have h9 := H.out.cell 9
  simp only [List.getElem?_toArray, List.getElem?_cons_succ, List.getElem?_cons_zero] at h9
  have g9 := H.out.fz 9
  have r10 := R.out.cell 10
  simp only [List.getElem?_toArray, List.getElem?_cons_succ, List.getElem?_cons_zero] at r10
  have q10 := R.out.fz 10
  have h10 := H.out.cell 10
  simp only [List.getElem?_toArray, List.getElem?_cons_succ, List.getElem?_cons_zero] at h10
  have g10 := H.out.fz 10
  go_wp2_with fail
  refine (C2.out _).mono ?_
  rintro e w2 ⟨rfl, hbk⟩
  replace R := Lib.hid ((R.out.up (n := w.heap.size + 1) (Below.refl _ _) (Nat.lt_succ_self _)).keep hbk)
  have HBk2 := HB.out
  replace HB := Lib.hid (HBk2.trans (hbk.mono HBk2.size))
  replace H := Lib.hid ((H.out).keep hbk)
  clear HBk2 hbk
  clear r0 q0 h0 g0 r1 q1 h1 g1 r2 q2 h2 g2 r3 q3 h3 g3 r4 q4 h4 g4 r5 q5 h5 g5 r6 q6 h6 g6 r7 q7 h7 g7 r8 q8 h8 g8 r9 q9 h9 g9 r10 q10 h10 g10
  have r0 := R.out.cell 0
  simp only [List.getElem?_toArray, List.getElem?_cons_succ, List.getElem?_cons_zero] at r0
  have q0 := R.out.fz 0
  have h0 := H.out.cell 0
  simp only [List.getElem?_toArray, List.getElem?_cons_succ, List.getElem?_cons_zero] at h0
  have g0 := H.out.fz 0
  have r1 := R.out.cell 1
  simp only [List.getElem?_toArray, List.getElem?_cons_succ, List.getElem?_cons_zero] at r1
  have q1 := R.out.fz 1
  have h1 := H.out.cell 1
  simp only [List.getElem?_toArray, List.getElem?_cons_succ, List.getElem?_cons_zero] at h1
  have g1 := H.out.fz 1
  have r2 := R.out.cell 2
  simp only [List.getElem?_toArray, List.getElem?_cons_succ, List.getElem?_cons_zero] at r2
  have q2 := R.out.fz 2
  have h2 := H.out.cell 2
  simp only [List.getElem?_toArray, List.getElem?_cons_succ, List.getElem?_cons_zero] at h2
  have g2 := H.out.fz 2
  have r3 := R.out.cell 3
  simp only [List.getElem?_toArray, List.getElem?_cons_succ, List.getElem?_cons_zero] at r3
  have q3 := R.out.fz 3
  have h3 := H.out.cell 3
  simp only [List.getElem?_toArray, List.getElem?_cons_succ, List.getElem?_cons_zero] at h3
  have g3 := H.out.fz 3
  have r4 := R.out.cell 4
  simp only [List.getElem?_toArray, List.getElem?_cons_succ, List.getElem?_cons_zero] at r4
  have q4 := R.out.fz 4
  have h4 := H.out.cell 4
  simp only [List.getElem?_toArray, List.getElem?_cons_succ, List.getElem?_cons_zero] at h4
  have g4 := H.out.fz 4
  have r5 := R.out.cell 5
  simp only [List.getElem?_toArray, List.getElem?_cons_succ, List.getElem?_cons_zero] at r5
  have q5 := R.out.fz 5
  have h5 := H.out.cell 5
  simp only [List.getElem?_toArray, List.getElem?_cons_succ, List.getElem?_cons_zero] at h5
  have g5 := H.out.fz 5
  have r6 := R.out.cell 6
  simp only [List.getElem?_toArray, List.getElem?_cons_succ, List.getElem?_cons_zero] at r6
  have q6 := R.out.fz 6
  have h6 := H.out.cell 6
  simp only [List.getElem?_toArray, List.getElem?_cons_succ, List.getElem?_cons_zero] at h6
  have g6 := H.out.fz 6
  have r7 := R.out.cell 7
  simp only [List.getElem?_toArray, List.getElem?_cons_succ, List.getElem?_cons_zero] at r7
  have q7 := R.out.fz 7
  have h7 := H.out.cell 7
  simp only [List.getElem?_toArray, List.getElem?_cons_succ, List.getElem?_cons_zero] at h7
  have g7 := H.out.fz 7
  have r8 := R.out.cell 8
  simp only [List.getElem?_toArray, List.getElem?_cons_succ, List.getElem?_cons_zero] at r8
  have q8 := R.out.fz 8
  have h8 := H.out.cell 8
  simp only [List.getElem?_toArray, List.getElem?_cons_succ, List.getElem?_cons_zero] at h8
  have g8 := H.out.fz 8
  have r9 := R.out.cell 9
  simp only [List.getElem?_toArray, List.getElem?_cons_succ, List.getElem?_cons_zero] at r9
  have q9 := R.out.fz 9
  have h9 := H.out.cell 9
  simp only [List.getElem?_toArray, List.getElem?_cons_succ, List.getElem?_cons_zero] at h9
  have g9 := H.out.fz 9
  have r10 := R.out.cell 10
  simp only [List.getElem?_toArray, List.getElem?_cons_succ, List.getElem?_cons_zero] at r10
  have q10 := R.out.fz 10
  have h10 := H.out.cell 10
  simp only [List.getElem?_toArray, List.getElem?_cons_succ, List.getElem?_cons_zero] at h10
  have g10 := H.out.fz 10
  go_wp2
  all_goals refine bodyPost_ret (v := .tuple #[.agg #[.bool false, .bool false, .bool false, .int .i64 0, .int .u32 0, .string ⟨#[]⟩, .string ⟨#[]⟩, .string ⟨#[]⟩, .int .u64 0, .int .i64 0, .int .u64 0], .string ⟨#[]⟩, .bool false]) (by simp [results, Tryd.results28, go_sem, *]) rfl ⟨rfl, ?_⟩
  all_goals repeat (first | with_reducible exact HB.out | refine Below.setCell ?_ (by simp) _ | refine below_drew ?_)
set_option maxHeartbeats 4000000 in
theorem ahead_g0 (s : ByteArray) (v s0 d s1 c s2 : ByteArray) (b : UInt8) (ve : Nat) (hp : 0 < s.size) (hl : s.size ≤ 9223372036854775807) (I0 : s[0]'hp = b) (hb0 : (0 : Int) ≤ ((b.toNat : Nat) : Int)) (hb : ((b.toNat : Nat) : Int) ≤ 255) (h64 : (((b.toNat : Nat) : Int) / 64 % 2 == 0) = false) (h128 : decide (128 ≤ ((b.toNat : Nat) : Int)) = true) (hve : ((ve : Nat) : Int) ≤ 4294967295) (hf : ¬ ((s.size : Nat) : Int) < 5) (hf5 : 5 ≤ s.size) (ty : Int) (hty0 : 0 ≤ ty) (hty : ty ≤ 2) (Ety : ((b.toNat : Nat) : Int) / 16 % 4 = ty) (h3 : (ty == 3) = false) (X1 : s.extract 1 5 = v) (X2 : s.extract 5 s.size = s0) (CB : Hid (∀ w : World, Calls Tryd.prog 29 #[.string v] w fun e w' => e = .returned (.int .u64 (ve : Nat)) ∧ w = w')) (C1 : Hid (∀ w : World, Calls Tryd.prog 49 #[.string s0] w fun e w' => e = .returned (.tuple #[.string d, .string s1, .bool true]) ∧ Below w.heap.size w w')) (C2 : Hid (∀ w : World, Calls Tryd.prog 49 #[.string s1] w fun e w' => e = .returned (.tuple #[.string c, .string s2, .bool true]) ∧ Below w.heap.size w w')) (e0 : (ty == 0) = true) (C3 : Hid (∀ w : World, Calls Tryd.prog 50 #[.string s2] w fun e w' => e = .returned (.tuple #[.int .u64 0, .string ⟨#[]⟩, .int .i64 10]) ∧ Below w.heap.size w w')) (w : World) :
    Calls Tryd.prog 28 #[.string s] w fun e w' => e = .returned (.tuple #[.agg #[.bool false, .bool false, .bool false, .int .i64 0, .int .u32 0, .string ⟨#[]⟩, .string ⟨#[]⟩, .string ⟨#[]⟩, .int .u64 0, .int .i64 0, .int .u64 0], .string ⟨#[]⟩, .bool false]) ∧ Below w.heap.size w w' := by
  have he := empty_no s hp
  go_enter Tryd.func28, Tryd.ntmps28
  go_wp2_with fail
  refine (CB.out _).mono ?_
  rintro e w1 ⟨rfl, rfl⟩
  go_wp2_with fail
  refine (C1.out _).mono ?_
  rintro e w1 ⟨rfl, hb1⟩
  have R := Lib.hid (((RBk.made w (.bool false) (.bool false) (.bool false) (.int .i64 0) (.int .u32 0) (.string ⟨#[]⟩) (.string ⟨#[]⟩) (.string ⟨#[]⟩) (.int .u64 0) (.int .i64 0) (.int .u64 0)).up (n := w.heap.size + 1) ((Below.refl _ _).alloc (by simp) (.cells #[.bool true, .bool false, .bool false, .int .i64 ty, .int .u32 (ve : Nat), .string ⟨#[]⟩, .string ⟨#[]⟩, .string ⟨#[]⟩, .int .u64 0, .int .i64 0, .int .u64 0] 28)) (Nat.lt_succ_self _)).up hb1 (by simp; omega))
  have H := Lib.hid ((RBk.made2 w (.cells #[.bool false, .bool false, .bool false, .int .i64 0, .int .u32 0, .string ⟨#[]⟩, .string ⟨#[]⟩, .string ⟨#[]⟩, .int .u64 0, .int .i64 0, .int .u64 0] 28) (.bool true) (.bool false) (.bool false) (.int .i64 ty) (.int .u32 (ve : Nat)) (.string ⟨#[]⟩) (.string ⟨#[]⟩) (.string ⟨#[]⟩) (.int .u64 0) (.int .i64 0) (.int .u64 0)).keep hb1)
  have HB := Lib.hid ((((Below.refl w.heap.size w).alloc (Nat.le_refl _) (.cells #[.bool false, .bool false, .bool false, .int .i64 0, .int .u32 0, .string ⟨#[]⟩, .string ⟨#[]⟩, .string ⟨#[]⟩, .int .u64 0, .int .i64 0, .int .u64 0] 28)).alloc (by simp) (.cells #[.bool true, .bool false, .bool false, .int .i64 ty, .int .u32 (ve : Nat), .string ⟨#[]⟩, .string ⟨#[]⟩, .string ⟨#[]⟩, .int .u64 0, .int .i64 0, .int .u64 0] 28)).trans (hb1.mono (by simp; omega)))
  clear hb1
  have r0 := R.out.cell 0
  simp only [List.getElem?_toArray, List.getElem?_cons_succ, List.getElem?_cons_zero] at r0
  have q0 := R.out.fz 0
  have h0 := H.out.cell 0
  simp only [List.getElem?_toArray, List.getElem?_cons_succ, List.getElem?_cons_zero] at h0
  have g0 := H.out.fz 0
  have r1 := R.out.cell 1
  simp only [List.getElem?_toArray, List.getElem?_cons_succ, List.getElem?_cons_zero] at r1
  have q1 := R.out.fz 1
  have h1 := H.out.cell 1
  simp only [List.getElem?_toArray, List.getElem?_cons_succ, List.getElem?_cons_zero] at h1
  have g1 := H.out.fz 1
  have r2 := R.out.cell 2
  simp only [List.getElem?_toArray, List.getElem?_cons_succ, List.getElem?_cons_zero] at r2
  have q2 := R.out.fz 2
  have h2 := H.out.cell 2
  simp only [List.getElem?_toArray, List.getElem?_cons_succ, List.getElem?_cons_zero] at h2
  have g2 := H.out.fz 2
  have r3 := R.out.cell 3
  simp only [List.getElem?_toArray, List.getElem?_cons_succ, List.getElem?_cons_zero] at r3
  have q3 := R.out.fz 3
  have h3 := H.out.cell 3
  simp only [List.getElem?_toArray, List.getElem?_cons_succ, List.getElem?_cons_zero] at h3
  have g3 := H.out.fz 3
  have r4 := R.out.cell 4
  simp only [List.getElem?_toArray, List.getElem?_cons_succ, List.getElem?_cons_zero] at r4
  have q4 := R.out.fz 4
  have h4 := H.out.cell 4
  simp only [List.getElem?_toArray, List.getElem?_cons_succ, List.getElem?_cons_zero] at h4
  have g4 := H.out.fz 4
  have r5 := R.out.cell 5
  simp only [List.getElem?_toArray, List.getElem?_cons_succ, List.getElem?_cons_zero] at r5
  have q5 := R.out.fz 5
  have h5 := H.out.cell 5
  simp only [List.getElem?_toArray, List.getElem?_cons_succ, List.getElem?_cons_zero] at h5
  have g5 := H.out.fz 5
  have r6 := R.out.cell 6
  simp only [List.getElem?_toArray, List.getElem?_cons_succ, List.getElem?_cons_zero] at r6
  have q6 := R.out.fz 6
  have h6 := H.out.cell 6
  simp only [List.getElem?_toArray, List.getElem?_cons_succ, List.getElem?_cons_zero] at h6
  have g6 := H.out.fz 6
  have r7 := R.out.cell 7
  simp only [List.getElem?_toArray, List.getElem?_cons_succ, List.getElem?_cons_zero] at r7
  have q7 := R.out.fz 7
  have h7 := H.out.cell 7
  simp only [List.getElem?_toArray, List.getElem?_cons_succ, List.getElem?_cons_zero] at h7
  have g7 := H.out.fz 7
  have r8 := R.out.cell 8
  simp only [List.getElem?_toArray, List.getElem?_cons_succ, List.getElem?_cons_zero] at r8
  have q8 := R.out.fz 8
  have h8 := H.out.cell 8
  simp only [List.getElem?_toArray, List.getElem?_cons_succ, List.getElem?_cons_zero] at h8
  have g8 := H.out.fz 8
  have r9 := R.out.cell 9
  simp only [List.getElem?_toArray, List.getElem?_cons_succ, List.getElem?_cons_zero] at r9
  have q9 := R.out.fz 9
  have h9 := H.out.cell 9
  simp only [List.getElem?_toArray, List.getElem?_cons_succ, List.getElem?_cons_zero] at h9
  have g9 := H.out.fz 9
  have r10 := R.out.cell 10
  simp only [List.getElem?_toArray, List.getElem?_cons_succ, List.getElem?_cons_zero] at r10
  have q10 := R.out.fz 10
  have h10 := H.out.cell 10
  simp only [List.getElem?_toArray, List.getElem?_cons_succ, List.getElem?_cons_zero] at h10
  have g10 := H.out.fz 10
  go_wp2_with fail
  refine (C2.out _).mono ?_
  rintro e w2 ⟨rfl, hbk⟩
  replace R := Lib.hid ((R.out.up (n := w.heap.size + 1) (Below.refl _ _) (Nat.lt_succ_self _)).keep hbk)
  have HBk2 := HB.out
  replace HB := Lib.hid (HBk2.trans (hbk.mono HBk2.size))
  replace H := Lib.hid ((H.out).keep hbk)
  clear HBk2 hbk
  clear r0 q0 h0 g0 r1 q1 h1 g1 r2 q2 h2 g2 r3 q3 h3 g3 r4 q4 h4 g4 r5 q5 h5 g5 r6 q6 h6 g6 r7 q7 h7 g7 r8 q8 h8 g8 r9 q9 h9 g9 r10 q10 h10 g10
  have r0 := R.out.cell 0
  simp only [List.getElem?_toArray, List.getElem?_cons_succ, List.getElem?_cons_zero] at r0
  have q0 := R.out.fz 0
  have h0 := H.out.cell 0
  simp only [List.getElem?_toArray, List.getElem?_cons_succ, List.getElem?_cons_zero] at h0
  have g0 := H.out.fz 0
  have r1 := R.out.cell 1
  simp only [List.getElem?_toArray, List.getElem?_cons_succ, List.getElem?_cons_zero] at r1
  have q1 := R.out.fz 1
  have h1 := H.out.cell 1
  simp only [List.getElem?_toArray, List.getElem?_cons_succ, List.getElem?_cons_zero] at h1
  have g1 := H.out.fz 1
  have r2 := R.out.cell 2
  simp only [List.getElem?_toArray, List.getElem?_cons_succ, List.getElem?_cons_zero] at r2
  have q2 := R.out.fz 2
  have h2 := H.out.cell 2
  simp only [List.getElem?_toArray, List.getElem?_cons_succ, List.getElem?_cons_zero] at h2
  have g2 := H.out.fz 2
  have r3 := R.out.cell 3
  simp only [List.getElem?_toArray, List.getElem?_cons_succ, List.getElem?_cons_zero] at r3
  have q3 := R.out.fz 3
  have h3 := H.out.cell 3
  simp only [List.getElem?_toArray, List.getElem?_cons_succ, List.getElem?_cons_zero] at h3
  have g3 := H.out.fz 3
  have r4 := R.out.cell 4
  simp only [List.getElem?_toArray, List.getElem?_cons_succ, List.getElem?_cons_zero] at r4
  have q4 := R.out.fz 4
  have h4 := H.out.cell 4
  simp only [List.getElem?_toArray, List.getElem?_cons_succ, List.getElem?_cons_zero] at h4
  have g4 := H.out.fz 4
  have r5 := R.out.cell 5
  simp only [List.getElem?_toArray, List.getElem?_cons_succ, List.getElem?_cons_zero] at r5
  have q5 := R.out.fz 5
  have h5 := H.out.cell 5
  simp only [List.getElem?_toArray, List.getElem?_cons_succ, List.getElem?_cons_zero] at h5
  have g5 := H.out.fz 5
  have r6 := R.out.cell 6
  simp only [List.getElem?_toArray, List.getElem?_cons_succ, List.getElem?_cons_zero] at r6
  have q6 := R.out.fz 6
  have h6 := H.out.cell 6
  simp only [List.getElem?_toArray, List.getElem?_cons_succ, List.getElem?_cons_zero] at h6
  have g6 := H.out.fz 6
  have r7 := R.out.cell 7
  simp only [List.getElem?_toArray, List.getElem?_cons_succ, List.getElem?_cons_zero] at r7
  have q7 := R.out.fz 7
  have h7 := H.out.cell 7
  simp only [List.getElem?_toArray, List.getElem?_cons_succ, List.getElem?_cons_zero] at h7
  have g7 := H.out.fz 7
  have r8 := R.out.cell 8
  simp only [List.getElem?_toArray, List.getElem?_cons_succ, List.getElem?_cons_zero] at r8
  have q8 := R.out.fz 8
  have h8 := H.out.cell 8
  simp only [List.getElem?_toArray, List.getElem?_cons_succ, List.getElem?_cons_zero] at h8
  have g8 := H.out.fz 8
  have r9 := R.out.cell 9
  simp only [List.getElem?_toArray, List.getElem?_cons_succ, List.getElem?_cons_zero] at r9
  have q9 := R.out.fz 9
  have h9 := H.out.cell 9
  simp only [List.getElem?_toArray, List.getElem?_cons_succ, List.getElem?_cons_zero] at h9
  have g9 := H.out.fz 9
  have r10 := R.out.cell 10
  simp only [List.getElem?_toArray, List.getElem?_cons_succ, List.getElem?_cons_zero] at r10
  have q10 := R.out.fz 10
  have h10 := H.out.cell 10
  simp only [List.getElem?_toArray, List.getElem?_cons_succ, List.getElem?_cons_zero] at h10
  have g10 := H.out.fz 10
  go_wp2_with fail
  refine (C3.out _).mono ?_
  rintro e w3 ⟨rfl, hbk⟩
  replace R := Lib.hid ((R.out.up (n := w.heap.size + 1) (((((Below.refl _ _)).setCell (p := ⟨w.heap.size + 1, 5, none⟩) (Nat.le_refl _) (.string d))).setCell (p := ⟨w.heap.size + 1, 6, none⟩) (Nat.le_refl _) (.string c)) (Nat.lt_succ_self _)).keep hbk)
  have HBk2 := ((HB.out).setCell (p := ⟨w.heap.size + 1, 5, none⟩) (by simp) (.string d)).setCell (p := ⟨w.heap.size + 1, 6, none⟩) (by simp) (.string c)
  replace HB := Lib.hid (HBk2.trans (hbk.mono HBk2.size))
  replace H := Lib.hid ((((H.out).set5 (.string d)).set6 (.string c)).keep hbk)
  clear HBk2 hbk
  clear r0 q0 h0 g0 r1 q1 h1 g1 r2 q2 h2 g2 r3 q3 h3 g3 r4 q4 h4 g4 r5 q5 h5 g5 r6 q6 h6 g6 r7 q7 h7 g7 r8 q8 h8 g8 r9 q9 h9 g9 r10 q10 h10 g10
  have r0 := R.out.cell 0
  simp only [List.getElem?_toArray, List.getElem?_cons_succ, List.getElem?_cons_zero] at r0
  have q0 := R.out.fz 0
  have h0 := H.out.cell 0
  simp only [List.getElem?_toArray, List.getElem?_cons_succ, List.getElem?_cons_zero] at h0
  have g0 := H.out.fz 0
  have r1 := R.out.cell 1
  simp only [List.getElem?_toArray, List.getElem?_cons_succ, List.getElem?_cons_zero] at r1
  have q1 := R.out.fz 1
  have h1 := H.out.cell 1
  simp only [List.getElem?_toArray, List.getElem?_cons_succ, List.getElem?_cons_zero] at h1
  have g1 := H.out.fz 1
  have r2 := R.out.cell 2
  simp only [List.getElem?_toArray, List.getElem?_cons_succ, List.getElem?_cons_zero] at r2
  have q2 := R.out.fz 2
  have h2 := H.out.cell 2
  simp only [List.getElem?_toArray, List.getElem?_cons_succ, List.getElem?_cons_zero] at h2
  have g2 := H.out.fz 2
  have r3 := R.out.cell 3
  simp only [List.getElem?_toArray, List.getElem?_cons_succ, List.getElem?_cons_zero] at r3
  have q3 := R.out.fz 3
  have h3 := H.out.cell 3
  simp only [List.getElem?_toArray, List.getElem?_cons_succ, List.getElem?_cons_zero] at h3
  have g3 := H.out.fz 3
  have r4 := R.out.cell 4
  simp only [List.getElem?_toArray, List.getElem?_cons_succ, List.getElem?_cons_zero] at r4
  have q4 := R.out.fz 4
  have h4 := H.out.cell 4
  simp only [List.getElem?_toArray, List.getElem?_cons_succ, List.getElem?_cons_zero] at h4
  have g4 := H.out.fz 4
  have r5 := R.out.cell 5
  simp only [List.getElem?_toArray, List.getElem?_cons_succ, List.getElem?_cons_zero] at r5
  have q5 := R.out.fz 5
  have h5 := H.out.cell 5
  simp only [List.getElem?_toArray, List.getElem?_cons_succ, List.getElem?_cons_zero] at h5
  have g5 := H.out.fz 5
  have r6 := R.out.cell 6
  simp only [List.getElem?_toArray, List.getElem?_cons_succ, List.getElem?_cons_zero] at r6
  have q6 := R.out.fz 6
  have h6 := H.out.cell 6
  simp only [List.getElem?_toArray, List.getElem?_cons_succ, List.getElem?_cons_zero] at h6
  have g6 := H.out.fz 6
  have r7 := R.out.cell 7
  simp only [List.getElem?_toArray, List.getElem?_cons_succ, List.getElem?_cons_zero] at r7
  have q7 := R.out.fz 7
  have h7 := H.out.cell 7
  simp only [List.getElem?_toArray, List.getElem?_cons_succ, List.getElem?_cons_zero] at h7
  have g7 := H.out.fz 7
  have r8 := R.out.cell 8
  simp only [List.getElem?_toArray, List.getElem?_cons_succ, List.getElem?_cons_zero] at r8
  have q8 := R.out.fz 8
  have h8 := H.out.cell 8
  simp only [List.getElem?_toArray, List.getElem?_cons_succ, List.getElem?_cons_zero] at h8
  have g8 := H.out.fz 8
  have r9 := R.out.cell 9
  simp only [List.getElem?_toArray, List.getElem?_cons_succ, List.getElem?_cons_zero] at r9
  have q9 := R.out.fz 9
  have h9 := H.out.cell 9
  simp only [List.getElem?_toArray, List.getElem?_cons_succ, List.getElem?_cons_zero] at h9
  have g9 := H.out.fz 9
  have r10 := R.out.cell 10
  simp only [List.getElem?_toArray, List.getElem?_cons_succ, List.getElem?_cons_zero] at r10
  have q10 := R.out.fz 10
  have h10 := H.out.cell 10
  simp only [List.getElem?_toArray, List.getElem?_cons_succ, List.getElem?_cons_zero] at h10
  have g10 := H.out.fz 10
  go_wp2
  all_goals refine bodyPost_ret (v := .tuple #[.agg #[.bool false, .bool false, .bool false, .int .i64 0, .int .u32 0, .string ⟨#[]⟩, .string ⟨#[]⟩, .string ⟨#[]⟩, .int .u64 0, .int .i64 0, .int .u64 0], .string ⟨#[]⟩, .bool false]) (by simp [results, Tryd.results28, go_sem, *]) rfl ⟨rfl, ?_⟩
  all_goals repeat (first | with_reducible exact HB.out | refine Below.setCell ?_ (by simp) _ | refine below_drew ?_)
set_option maxHeartbeats 4000000 in
theorem ahead_g1 (s : ByteArray) (v s0 d s1 c s2 s3 : ByteArray) (b : UInt8) (ve : Nat) (hp : 0 < s.size) (hl : s.size ≤ 9223372036854775807) (I0 : s[0]'hp = b) (hb0 : (0 : Int) ≤ ((b.toNat : Nat) : Int)) (hb : ((b.toNat : Nat) : Int) ≤ 255) (h64 : (((b.toNat : Nat) : Int) / 64 % 2 == 0) = false) (h128 : decide (128 ≤ ((b.toNat : Nat) : Int)) = true) (hve : ((ve : Nat) : Int) ≤ 4294967295) (hf : ¬ ((s.size : Nat) : Int) < 5) (hf5 : 5 ≤ s.size) (ty : Int) (hty0 : 0 ≤ ty) (hty : ty ≤ 2) (Ety : ((b.toNat : Nat) : Int) / 16 % 4 = ty) (h3 : (ty == 3) = false) (X1 : s.extract 1 5 = v) (X2 : s.extract 5 s.size = s0) (CB : Hid (∀ w : World, Calls Tryd.prog 29 #[.string v] w fun e w' => e = .returned (.int .u64 (ve : Nat)) ∧ w = w')) (C1 : Hid (∀ w : World, Calls Tryd.prog 49 #[.string s0] w fun e w' => e = .returned (.tuple #[.string d, .string s1, .bool true]) ∧ Below w.heap.size w w')) (C2 : Hid (∀ w : World, Calls Tryd.prog 49 #[.string s1] w fun e w' => e = .returned (.tuple #[.string c, .string s2, .bool true]) ∧ Below w.heap.size w w')) (e0 : (ty == 0) = true) (n : Nat) (C3 : Hid (∀ w : World, Calls Tryd.prog 50 #[.string s2] w fun e w' => e = .returned (.tuple #[.int .u64 (n : Nat), .string s3, .int .i64 0]) ∧ Below w.heap.size w w')) (hs3 : s3.size ≤ 9223372036854775807) (hn4 : n < 4611686018427387904) (hn : (1000 : Int) < ((n : Nat) : Int)) (w : World) :
    Calls Tryd.prog 28 #[.string s] w fun e w' => e = .returned (.tuple #[.agg #[.bool false, .bool false, .bool false, .int .i64 0, .int .u32 0, .string ⟨#[]⟩, .string ⟨#[]⟩, .string ⟨#[]⟩, .int .u64 0, .int .i64 0, .int .u64 0], .string ⟨#[]⟩, .bool false]) ∧ Below w.heap.size w w' := by
  have he := empty_no s hp
  go_enter Tryd.func28, Tryd.ntmps28
  go_wp2_with fail
  refine (CB.out _).mono ?_
  rintro e w1 ⟨rfl, rfl⟩
  go_wp2_with fail
  refine (C1.out _).mono ?_
  rintro e w1 ⟨rfl, hb1⟩
  have R := Lib.hid (((RBk.made w (.bool false) (.bool false) (.bool false) (.int .i64 0) (.int .u32 0) (.string ⟨#[]⟩) (.string ⟨#[]⟩) (.string ⟨#[]⟩) (.int .u64 0) (.int .i64 0) (.int .u64 0)).up (n := w.heap.size + 1) ((Below.refl _ _).alloc (by simp) (.cells #[.bool true, .bool false, .bool false, .int .i64 ty, .int .u32 (ve : Nat), .string ⟨#[]⟩, .string ⟨#[]⟩, .string ⟨#[]⟩, .int .u64 0, .int .i64 0, .int .u64 0] 28)) (Nat.lt_succ_self _)).up hb1 (by simp; omega))
  have H := Lib.hid ((RBk.made2 w (.cells #[.bool false, .bool false, .bool false, .int .i64 0, .int .u32 0, .string ⟨#[]⟩, .string ⟨#[]⟩, .string ⟨#[]⟩, .int .u64 0, .int .i64 0, .int .u64 0] 28) (.bool true) (.bool false) (.bool false) (.int .i64 ty) (.int .u32 (ve : Nat)) (.string ⟨#[]⟩) (.string ⟨#[]⟩) (.string ⟨#[]⟩) (.int .u64 0) (.int .i64 0) (.int .u64 0)).keep hb1)
  have HB := Lib.hid ((((Below.refl w.heap.size w).alloc (Nat.le_refl _) (.cells #[.bool false, .bool false, .bool false, .int .i64 0, .int .u32 0, .string ⟨#[]⟩, .string ⟨#[]⟩, .string ⟨#[]⟩, .int .u64 0, .int .i64 0, .int .u64 0] 28)).alloc (by simp) (.cells #[.bool true, .bool false, .bool false, .int .i64 ty, .int .u32 (ve : Nat), .string ⟨#[]⟩, .string ⟨#[]⟩, .string ⟨#[]⟩, .int .u64 0, .int .i64 0, .int .u64 0] 28)).trans (hb1.mono (by simp; omega)))
  clear hb1
  have r0 := R.out.cell 0
  simp only [List.getElem?_toArray, List.getElem?_cons_succ, List.getElem?_cons_zero] at r0
  have q0 := R.out.fz 0
  have h0 := H.out.cell 0
  simp only [List.getElem?_toArray, List.getElem?_cons_succ, List.getElem?_cons_zero] at h0
  have g0 := H.out.fz 0
  have r1 := R.out.cell 1
  simp only [List.getElem?_toArray, List.getElem?_cons_succ, List.getElem?_cons_zero] at r1
  have q1 := R.out.fz 1
  have h1 := H.out.cell 1
  simp only [List.getElem?_toArray, List.getElem?_cons_succ, List.getElem?_cons_zero] at h1
  have g1 := H.out.fz 1
  have r2 := R.out.cell 2
  simp only [List.getElem?_toArray, List.getElem?_cons_succ, List.getElem?_cons_zero] at r2
  have q2 := R.out.fz 2
  have h2 := H.out.cell 2
  simp only [List.getElem?_toArray, List.getElem?_cons_succ, List.getElem?_cons_zero] at h2
  have g2 := H.out.fz 2
  have r3 := R.out.cell 3
  simp only [List.getElem?_toArray, List.getElem?_cons_succ, List.getElem?_cons_zero] at r3
  have q3 := R.out.fz 3
  have h3 := H.out.cell 3
  simp only [List.getElem?_toArray, List.getElem?_cons_succ, List.getElem?_cons_zero] at h3
  have g3 := H.out.fz 3
  have r4 := R.out.cell 4
  simp only [List.getElem?_toArray, List.getElem?_cons_succ, List.getElem?_cons_zero] at r4
  have q4 := R.out.fz 4
  have h4 := H.out.cell 4
  simp only [List.getElem?_toArray, List.getElem?_cons_succ, List.getElem?_cons_zero] at h4
  have g4 := H.out.fz 4
  have r5 := R.out.cell 5
  simp only [List.getElem?_toArray, List.getElem?_cons_succ, List.getElem?_cons_zero] at r5
  have q5 := R.out.fz 5
  have h5 := H.out.cell 5
  simp only [List.getElem?_toArray, List.getElem?_cons_succ, List.getElem?_cons_zero] at h5
  have g5 := H.out.fz 5
  have r6 := R.out.cell 6
  simp only [List.getElem?_toArray, List.getElem?_cons_succ, List.getElem?_cons_zero] at r6
  have q6 := R.out.fz 6
  have h6 := H.out.cell 6
  simp only [List.getElem?_toArray, List.getElem?_cons_succ, List.getElem?_cons_zero] at h6
  have g6 := H.out.fz 6
  have r7 := R.out.cell 7
  simp only [List.getElem?_toArray, List.getElem?_cons_succ, List.getElem?_cons_zero] at r7
  have q7 := R.out.fz 7
  have h7 := H.out.cell 7
  simp only [List.getElem?_toArray, List.getElem?_cons_succ, List.getElem?_cons_zero] at h7
  have g7 := H.out.fz 7
  have r8 := R.out.cell 8
  simp only [List.getElem?_toArray, List.getElem?_cons_succ, List.getElem?_cons_zero] at r8
  have q8 := R.out.fz 8
  have h8 := H.out.cell 8
  simp only [List.getElem?_toArray, List.getElem?_cons_succ, List.getElem?_cons_zero] at h8
  have g8 := H.out.fz 8
  have r9 := R.out.cell 9
  simp only [List.getElem?_toArray, List.getElem?_cons_succ, List.getElem?_cons_zero] at r9
  have q9 := R.out.fz 9
  have h9 := H.out.cell 9
  simp only [List.getElem?_toArray, List.getElem?_cons_succ, List.getElem?_cons_zero] at h9
  have g9 := H.out.fz 9
  have r10 := R.out.cell 10
  simp only [List.getElem?_toArray, List.getElem?_cons_succ, List.getElem?_cons_zero] at r10
  have q10 := R.out.fz 10
  have h10 := H.out.cell 10
  simp only [List.getElem?_toArray, List.getElem?_cons_succ, List.getElem?_cons_zero] at h10
  have g10 := H.out.fz 10
  go_wp2_with fail
  refine (C2.out _).mono ?_
  rintro e w2 ⟨rfl, hbk⟩
  replace R := Lib.hid ((R.out.up (n := w.heap.size + 1) (Below.refl _ _) (Nat.lt_succ_self _)).keep hbk)
  have HBk2 := HB.out
  replace HB := Lib.hid (HBk2.trans (hbk.mono HBk2.size))
  replace H := Lib.hid ((H.out).keep hbk)
  clear HBk2 hbk
  clear r0 q0 h0 g0 r1 q1 h1 g1 r2 q2 h2 g2 r3 q3 h3 g3 r4 q4 h4 g4 r5 q5 h5 g5 r6 q6 h6 g6 r7 q7 h7 g7 r8 q8 h8 g8 r9 q9 h9 g9 r10 q10 h10 g10
  have r0 := R.out.cell 0
  simp only [List.getElem?_toArray, List.getElem?_cons_succ, List.getElem?_cons_zero] at r0
  have q0 := R.out.fz 0
  have h0 := H.out.cell 0
  simp only [List.getElem?_toArray, List.getElem?_cons_succ, List.getElem?_cons_zero] at h0
  have g0 := H.out.fz 0
  have r1 := R.out.cell 1
  simp only [List.getElem?_toArray, List.getElem?_cons_succ, List.getElem?_cons_zero] at r1
  have q1 := R.out.fz 1
  have h1 := H.out.cell 1
  simp only [List.getElem?_toArray, List.getElem?_cons_succ, List.getElem?_cons_zero] at h1
  have g1 := H.out.fz 1
  have r2 := R.out.cell 2
  simp only [List.getElem?_toArray, List.getElem?_cons_succ, List.getElem?_cons_zero] at r2
  have q2 := R.out.fz 2
  have h2 := H.out.cell 2
  simp only [List.getElem?_toArray, List.getElem?_cons_succ, List.getElem?_cons_zero] at h2
  have g2 := H.out.fz 2
  have r3 := R.out.cell 3
  simp only [List.getElem?_toArray, List.getElem?_cons_succ, List.getElem?_cons_zero] at r3
  have q3 := R.out.fz 3
  have h3 := H.out.cell 3
  simp only [List.getElem?_toArray, List.getElem?_cons_succ, List.getElem?_cons_zero] at h3
  have g3 := H.out.fz 3
  have r4 := R.out.cell 4
  simp only [List.getElem?_toArray, List.getElem?_cons_succ, List.getElem?_cons_zero] at r4
  have q4 := R.out.fz 4
  have h4 := H.out.cell 4
  simp only [List.getElem?_toArray, List.getElem?_cons_succ, List.getElem?_cons_zero] at h4
  have g4 := H.out.fz 4
  have r5 := R.out.cell 5
  simp only [List.getElem?_toArray, List.getElem?_cons_succ, List.getElem?_cons_zero] at r5
  have q5 := R.out.fz 5
  have h5 := H.out.cell 5
  simp only [List.getElem?_toArray, List.getElem?_cons_succ, List.getElem?_cons_zero] at h5
  have g5 := H.out.fz 5
  have r6 := R.out.cell 6
  simp only [List.getElem?_toArray, List.getElem?_cons_succ, List.getElem?_cons_zero] at r6
  have q6 := R.out.fz 6
  have h6 := H.out.cell 6
  simp only [List.getElem?_toArray, List.getElem?_cons_succ, List.getElem?_cons_zero] at h6
  have g6 := H.out.fz 6
  have r7 := R.out.cell 7
  simp only [List.getElem?_toArray, List.getElem?_cons_succ, List.getElem?_cons_zero] at r7
  have q7 := R.out.fz 7
  have h7 := H.out.cell 7
  simp only [List.getElem?_toArray, List.getElem?_cons_succ, List.getElem?_cons_zero] at h7
  have g7 := H.out.fz 7
  have r8 := R.out.cell 8
  simp only [List.getElem?_toArray, List.getElem?_cons_succ, List.getElem?_cons_zero] at r8
  have q8 := R.out.fz 8
  have h8 := H.out.cell 8
  simp only [List.getElem?_toArray, List.getElem?_cons_succ, List.getElem?_cons_zero] at h8
  have g8 := H.out.fz 8
  have r9 := R.out.cell 9
  simp only [List.getElem?_toArray, List.getElem?_cons_succ, List.getElem?_cons_zero] at r9
  have q9 := R.out.fz 9
  have h9 := H.out.cell 9
  simp only [List.getElem?_toArray, List.getElem?_cons_succ, List.getElem?_cons_zero] at h9
  have g9 := H.out.fz 9
  have r10 := R.out.cell 10
  simp only [List.getElem?_toArray, List.getElem?_cons_succ, List.getElem?_cons_zero] at r10
  have q10 := R.out.fz 10
  have h10 := H.out.cell 10
  simp only [List.getElem?_toArray, List.getElem?_cons_succ, List.getElem?_cons_zero] at h10
  have g10 := H.out.fz 10
  go_wp2_with fail
  refine (C3.out _).mono ?_
  rintro e w3 ⟨rfl, hbk⟩
  replace R := Lib.hid ((R.out.up (n := w.heap.size + 1) (((((Below.refl _ _)).setCell (p := ⟨w.heap.size + 1, 5, none⟩) (Nat.le_refl _) (.string d))).setCell (p := ⟨w.heap.size + 1, 6, none⟩) (Nat.le_refl _) (.string c)) (Nat.lt_succ_self _)).keep hbk)
  have HBk2 := ((HB.out).setCell (p := ⟨w.heap.size + 1, 5, none⟩) (by simp) (.string d)).setCell (p := ⟨w.heap.size + 1, 6, none⟩) (by simp) (.string c)
  replace HB := Lib.hid (HBk2.trans (hbk.mono HBk2.size))
  replace H := Lib.hid ((((H.out).set5 (.string d)).set6 (.string c)).keep hbk)
  clear HBk2 hbk
  clear r0 q0 h0 g0 r1 q1 h1 g1 r2 q2 h2 g2 r3 q3 h3 g3 r4 q4 h4 g4 r5 q5 h5 g5 r6 q6 h6 g6 r7 q7 h7 g7 r8 q8 h8 g8 r9 q9 h9 g9 r10 q10 h10 g10
  have r0 := R.out.cell 0
  simp only [List.getElem?_toArray, List.getElem?_cons_succ, List.getElem?_cons_zero] at r0
  have q0 := R.out.fz 0
  have h0 := H.out.cell 0
  simp only [List.getElem?_toArray, List.getElem?_cons_succ, List.getElem?_cons_zero] at h0
  have g0 := H.out.fz 0
  have r1 := R.out.cell 1
  simp only [List.getElem?_toArray, List.getElem?_cons_succ, List.getElem?_cons_zero] at r1
  have q1 := R.out.fz 1
  have h1 := H.out.cell 1
  simp only [List.getElem?_toArray, List.getElem?_cons_succ, List.getElem?_cons_zero] at h1
  have g1 := H.out.fz 1
  have r2 := R.out.cell 2
  simp only [List.getElem?_toArray, List.getElem?_cons_succ, List.getElem?_cons_zero] at r2
  have q2 := R.out.fz 2
  have h2 := H.out.cell 2
  simp only [List.getElem?_toArray, List.getElem?_cons_succ, List.getElem?_cons_zero] at h2
  have g2 := H.out.fz 2
  have r3 := R.out.cell 3
  simp only [List.getElem?_toArray, List.getElem?_cons_succ, List.getElem?_cons_zero] at r3
  have q3 := R.out.fz 3
  have h3 := H.out.cell 3
  simp only [List.getElem?_toArray, List.getElem?_cons_succ, List.getElem?_cons_zero] at h3
  have g3 := H.out.fz 3
  have r4 := R.out.cell 4
  simp only [List.getElem?_toArray, List.getElem?_cons_succ, List.getElem?_cons_zero] at r4
  have q4 := R.out.fz 4
  have h4 := H.out.cell 4
  simp only [List.getElem?_toArray, List.getElem?_cons_succ, List.getElem?_cons_zero] at h4
  have g4 := H.out.fz 4
  have r5 := R.out.cell 5
  simp only [List.getElem?_toArray, List.getElem?_cons_succ, List.getElem?_cons_zero] at r5
  have q5 := R.out.fz 5
  have h5 := H.out.cell 5
  simp only [List.getElem?_toArray, List.getElem?_cons_succ, List.getElem?_cons_zero] at h5
  have g5 := H.out.fz 5
  have r6 := R.out.cell 6
  simp only [List.getElem?_toArray, List.getElem?_cons_succ, List.getElem?_cons_zero] at r6
  have q6 := R.out.fz 6
  have h6 := H.out.cell 6
  simp only [List.getElem?_toArray, List.getElem?_cons_succ, List.getElem?_cons_zero] at h6
  have g6 := H.out.fz 6
  have r7 := R.out.cell 7
  simp only [List.getElem?_toArray, List.getElem?_cons_succ, List.getElem?_cons_zero] at r7
  have q7 := R.out.fz 7
  have h7 := H.out.cell 7
  simp only [List.getElem?_toArray, List.getElem?_cons_succ, List.getElem?_cons_zero] at h7
  have g7 := H.out.fz 7
  have r8 := R.out.cell 8
  simp only [List.getElem?_toArray, List.getElem?_cons_succ, List.getElem?_cons_zero] at r8
  have q8 := R.out.fz 8
  have h8 := H.out.cell 8
  simp only [List.getElem?_toArray, List.getElem?_cons_succ, List.getElem?_cons_zero] at h8
  have g8 := H.out.fz 8
  have r9 := R.out.cell 9
  simp only [List.getElem?_toArray, List.getElem?_cons_succ, List.getElem?_cons_zero] at r9
  have q9 := R.out.fz 9
  have h9 := H.out.cell 9
  simp only [List.getElem?_toArray, List.getElem?_cons_succ, List.getElem?_cons_zero] at h9
  have g9 := H.out.fz 9
  have r10 := R.out.cell 10
  simp only [List.getElem?_toArray, List.getElem?_cons_succ, List.getElem?_cons_zero] at r10
  have q10 := R.out.fz 10
  have h10 := H.out.cell 10
  simp only [List.getElem?_toArray, List.getElem?_cons_succ, List.getElem?_cons_zero] at h10
  have g10 := H.out.fz 10
  go_wp2
  all_goals refine bodyPost_ret (v := .tuple #[.agg #[.bool false, .bool false, .bool false, .int .i64 0, .int .u32 0, .string ⟨#[]⟩, .string ⟨#[]⟩, .string ⟨#[]⟩, .int .u64 0, .int .i64 0, .int .u64 0], .string ⟨#[]⟩, .bool false]) (by simp [results, Tryd.results28, go_sem, *]) rfl ⟨rfl, ?_⟩
  all_goals repeat (first | with_reducible exact HB.out | refine Below.setCell ?_ (by simp) _ | refine below_drew ?_)
set_option maxHeartbeats 4000000 in
theorem ahead_g2 (s : ByteArray) (v s0 d s1 c s2 s3 : ByteArray) (b : UInt8) (ve : Nat) (hp : 0 < s.size) (hl : s.size ≤ 9223372036854775807) (I0 : s[0]'hp = b) (hb0 : (0 : Int) ≤ ((b.toNat : Nat) : Int)) (hb : ((b.toNat : Nat) : Int) ≤ 255) (h64 : (((b.toNat : Nat) : Int) / 64 % 2 == 0) = false) (h128 : decide (128 ≤ ((b.toNat : Nat) : Int)) = true) (hve : ((ve : Nat) : Int) ≤ 4294967295) (hf : ¬ ((s.size : Nat) : Int) < 5) (hf5 : 5 ≤ s.size) (ty : Int) (hty0 : 0 ≤ ty) (hty : ty ≤ 2) (Ety : ((b.toNat : Nat) : Int) / 16 % 4 = ty) (h3 : (ty == 3) = false) (X1 : s.extract 1 5 = v) (X2 : s.extract 5 s.size = s0) (CB : Hid (∀ w : World, Calls Tryd.prog 29 #[.string v] w fun e w' => e = .returned (.int .u64 (ve : Nat)) ∧ w = w')) (C1 : Hid (∀ w : World, Calls Tryd.prog 49 #[.string s0] w fun e w' => e = .returned (.tuple #[.string d, .string s1, .bool true]) ∧ Below w.heap.size w w')) (C2 : Hid (∀ w : World, Calls Tryd.prog 49 #[.string s1] w fun e w' => e = .returned (.tuple #[.string c, .string s2, .bool true]) ∧ Below w.heap.size w w')) (e0 : (ty == 0) = true) (n : Nat) (C3 : Hid (∀ w : World, Calls Tryd.prog 50 #[.string s2] w fun e w' => e = .returned (.tuple #[.int .u64 (n : Nat), .string s3, .int .i64 0]) ∧ Below w.heap.size w w')) (hs3 : s3.size ≤ 9223372036854775807) (hn4 : n < 4611686018427387904) (hn : ¬ (1000 : Int) < ((n : Nat) : Int)) (hn2 : ((s3.size : Nat) : Int) < ((n : Nat) : Int)) (w : World) :
    Calls Tryd.prog 28 #[.string s] w fun e w' => e = .returned (.tuple #[.agg #[.bool false, .bool false, .bool false, .int .i64 0, .int .u32 0, .string ⟨#[]⟩, .string ⟨#[]⟩, .string ⟨#[]⟩, .int .u64 0, .int .i64 0, .int .u64 0], .string ⟨#[]⟩, .bool false]) ∧ Below w.heap.size w w' := by
  have he := empty_no s hp
  go_enter Tryd.func28, Tryd.ntmps28
  go_wp2_with fail
  refine (CB.out _).mono ?_
  rintro e w1 ⟨rfl, rfl⟩
  go_wp2_with fail
  refine (C1.out _).mono ?_
  rintro e w1 ⟨rfl, hb1⟩
  have R := Lib.hid (((RBk.made w (.bool false) (.bool false) (.bool false) (.int .i64 0) (.int .u32 0) (.string ⟨#[]⟩) (.string ⟨#[]⟩) (.string ⟨#[]⟩) (.int .u64 0) (.int .i64 0) (.int .u64 0)).up (n := w.heap.size + 1) ((Below.refl _ _).alloc (by simp) (.cells #[.bool true, .bool false, .bool false, .int .i64 ty, .int .u32 (ve : Nat), .string ⟨#[]⟩, .string ⟨#[]⟩, .string ⟨#[]⟩, .int .u64 0, .int .i64 0, .int .u64 0] 28)) (Nat.lt_succ_self _)).up hb1 (by simp; omega))
  have H := Lib.hid ((RBk.made2 w (.cells #[.bool false, .bool false, .bool false, .int .i64 0, .int .u32 0, .string ⟨#[]⟩, .string ⟨#[]⟩, .string ⟨#[]⟩, .int .u64 0, .int .i64 0, .int .u64 0] 28) (.bool true) (.bool false) (.bool false) (.int .i64 ty) (.int .u32 (ve : Nat)) (.string ⟨#[]⟩) (.string ⟨#[]⟩) (.string ⟨#[]⟩) (.int .u64 0) (.int .i64 0) (.int .u64 0)).keep hb1)
  have HB := Lib.hid ((((Below.refl w.heap.size w).alloc (Nat.le_refl _) (.cells #[.bool false, .bool false, .bool false, .int .i64 0, .int .u32 0, .string ⟨#[]⟩, .string ⟨#[]⟩, .string ⟨#[]⟩, .int .u64 0, .int .i64 0, .int .u64 0] 28)).alloc (by simp) (.cells #[.bool true, .bool false, .bool false, .int .i64 ty, .int .u32 (ve : Nat), .string ⟨#[]⟩, .string ⟨#[]⟩, .string ⟨#[]⟩, .int .u64 0, .int .i64 0, .int .u64 0] 28)).trans (hb1.mono (by simp; omega)))
  clear hb1
  have r0 := R.out.cell 0
  simp only [List.getElem?_toArray, List.getElem?_cons_succ, List.getElem?_cons_zero] at r0
  have q0 := R.out.fz 0
  have h0 := H.out.cell 0
  simp only [List.getElem?_toArray, List.getElem?_cons_succ, List.getElem?_cons_zero] at h0
  have g0 := H.out.fz 0
  have r1 := R.out.cell 1
  simp only [List.getElem?_toArray, List.getElem?_cons_succ, List.getElem?_cons_zero] at r1
  have q1 := R.out.fz 1
  have h1 := H.out.cell 1
  simp only [List.getElem?_toArray, List.getElem?_cons_succ, List.getElem?_cons_zero] at h1
  have g1 := H.out.fz 1
  have r2 := R.out.cell 2
  simp only [List.getElem?_toArray, List.getElem?_cons_succ, List.getElem?_cons_zero] at r2
  have q2 := R.out.fz 2
  have h2 := H.out.cell 2
  simp only [List.getElem?_toArray, List.getElem?_cons_succ, List.getElem?_cons_zero] at h2
  have g2 := H.out.fz 2
  have r3 := R.out.cell 3
  simp only [List.getElem?_toArray, List.getElem?_cons_succ, List.getElem?_cons_zero] at r3
  have q3 := R.out.fz 3
  have h3 := H.out.cell 3
  simp only [List.getElem?_toArray, List.getElem?_cons_succ, List.getElem?_cons_zero] at h3
  have g3 := H.out.fz 3
  have r4 := R.out.cell 4
  simp only [List.getElem?_toArray, List.getElem?_cons_succ, List.getElem?_cons_zero] at r4
  have q4 := R.out.fz 4
  have h4 := H.out.cell 4
  simp only [List.getElem?_toArray, List.getElem?_cons_succ, List.getElem?_cons_zero] at h4
  have g4 := H.out.fz 4
  have r5 := R.out.cell 5
  simp only [List.getElem?_toArray, List.getElem?_cons_succ, List.getElem?_cons_zero] at r5
  have q5 := R.out.fz 5
  have h5 := H.out.cell 5
  simp only [List.getElem?_toArray, List.getElem?_cons_succ, List.getElem?_cons_zero] at h5
  have g5 := H.out.fz 5
  have r6 := R.out.cell 6
  simp only [List.getElem?_toArray, List.getElem?_cons_succ, List.getElem?_cons_zero] at r6
  have q6 := R.out.fz 6
  have h6 := H.out.cell 6
  simp only [List.getElem?_toArray, List.getElem?_cons_succ, List.getElem?_cons_zero] at h6
  have g6 := H.out.fz 6
  have r7 := R.out.cell 7
  simp only [List.getElem?_toArray, List.getElem?_cons_succ, List.getElem?_cons_zero] at r7
  have q7 := R.out.fz 7
  have h7 := H.out.cell 7
  simp only [List.getElem?_toArray, List.getElem?_cons_succ, List.getElem?_cons_zero] at h7
  have g7 := H.out.fz 7
  have r8 := R.out.cell 8
  simp only [List.getElem?_toArray, List.getElem?_cons_succ, List.getElem?_cons_zero] at r8
  have q8 := R.out.fz 8
  have h8 := H.out.cell 8
  simp only [List.getElem?_toArray, List.getElem?_cons_succ, List.getElem?_cons_zero] at h8
  have g8 := H.out.fz 8
  have r9 := R.out.cell 9
  simp only [List.getElem?_toArray, List.getElem?_cons_succ, List.getElem?_cons_zero] at r9
  have q9 := R.out.fz 9
  have h9 := H.out.cell 9
  simp only [List.getElem?_toArray, List.getElem?_cons_succ, List.getElem?_cons_zero] at h9
  have g9 := H.out.fz 9
  have r10 := R.out.cell 10
  simp only [List.getElem?_toArray, List.getElem?_cons_succ, List.getElem?_cons_zero] at r10
  have q10 := R.out.fz 10
  have h10 := H.out.cell 10
  simp only [List.getElem?_toArray, List.getElem?_cons_succ, List.getElem?_cons_zero] at h10
  have g10 := H.out.fz 10
  go_wp2_with fail
  refine (C2.out _).mono ?_
  rintro e w2 ⟨rfl, hbk⟩
  replace R := Lib.hid ((R.out.up (n := w.heap.size + 1) (Below.refl _ _) (Nat.lt_succ_self _)).keep hbk)
  have HBk2 := HB.out
  replace HB := Lib.hid (HBk2.trans (hbk.mono HBk2.size))
  replace H := Lib.hid ((H.out).keep hbk)
  clear HBk2 hbk
  clear r0 q0 h0 g0 r1 q1 h1 g1 r2 q2 h2 g2 r3 q3 h3 g3 r4 q4 h4 g4 r5 q5 h5 g5 r6 q6 h6 g6 r7 q7 h7 g7 r8 q8 h8 g8 r9 q9 h9 g9 r10 q10 h10 g10
  have r0 := R.out.cell 0
  simp only [List.getElem?_toArray, List.getElem?_cons_succ, List.getElem?_cons_zero] at r0
  have q0 := R.out.fz 0
  have h0 := H.out.cell 0
  simp only [List.getElem?_toArray, List.getElem?_cons_succ, List.getElem?_cons_zero] at h0
  have g0 := H.out.fz 0
  have r1 := R.out.cell 1
  simp only [List.getElem?_toArray, List.getElem?_cons_succ, List.getElem?_cons_zero] at r1
  have q1 := R.out.fz 1
  have h1 := H.out.cell 1
  simp only [List.getElem?_toArray, List.getElem?_cons_succ, List.getElem?_cons_zero] at h1
  have g1 := H.out.fz 1
  have r2 := R.out.cell 2
  simp only [List.getElem?_toArray, List.getElem?_cons_succ, List.getElem?_cons_zero] at r2
  have q2 := R.out.fz 2
  have h2 := H.out.cell 2
  simp only [List.getElem?_toArray, List.getElem?_cons_succ, List.getElem?_cons_zero] at h2
  have g2 := H.out.fz 2
  have r3 := R.out.cell 3
  simp only [List.getElem?_toArray, List.getElem?_cons_succ, List.getElem?_cons_zero] at r3
  have q3 := R.out.fz 3
  have h3 := H.out.cell 3
  simp only [List.getElem?_toArray, List.getElem?_cons_succ, List.getElem?_cons_zero] at h3
  have g3 := H.out.fz 3
  have r4 := R.out.cell 4
  simp only [List.getElem?_toArray, List.getElem?_cons_succ, List.getElem?_cons_zero] at r4
  have q4 := R.out.fz 4
  have h4 := H.out.cell 4
  simp only [List.getElem?_toArray, List.getElem?_cons_succ, List.getElem?_cons_zero] at h4
  have g4 := H.out.fz 4
  have r5 := R.out.cell 5
  simp only [List.getElem?_toArray, List.getElem?_cons_succ, List.getElem?_cons_zero] at r5
  have q5 := R.out.fz 5
  have h5 := H.out.cell 5
  simp only [List.getElem?_toArray, List.getElem?_cons_succ, List.getElem?_cons_zero] at h5
  have g5 := H.out.fz 5
  have r6 := R.out.cell 6
  simp only [List.getElem?_toArray, List.getElem?_cons_succ, List.getElem?_cons_zero] at r6
  have q6 := R.out.fz 6
  have h6 := H.out.cell 6
  simp only [List.getElem?_toArray, List.getElem?_cons_succ, List.getElem?_cons_zero] at h6
  have g6 := H.out.fz 6
  have r7 := R.out.cell 7
  simp only [List.getElem?_toArray, List.getElem?_cons_succ, List.getElem?_cons_zero] at r7
  have q7 := R.out.fz 7
  have h7 := H.out.cell 7
  simp only [List.getElem?_toArray, List.getElem?_cons_succ, List.getElem?_cons_zero] at h7
  have g7 := H.out.fz 7
  have r8 := R.out.cell 8
  simp only [List.getElem?_toArray, List.getElem?_cons_succ, List.getElem?_cons_zero] at r8
  have q8 := R.out.fz 8
  have h8 := H.out.cell 8
  simp only [List.getElem?_toArray, List.getElem?_cons_succ, List.getElem?_cons_zero] at h8
  have g8 := H.out.fz 8
  have r9 := R.out.cell 9
  simp only [List.getElem?_toArray, List.getElem?_cons_succ, List.getElem?_cons_zero] at r9
  have q9 := R.out.fz 9
  have h9 := H.out.cell 9
  simp only [List.getElem?_toArray, List.getElem?_cons_succ, List.getElem?_cons_zero] at h9
  have g9 := H.out.fz 9
  have r10 := R.out.cell 10
  simp only [List.getElem?_toArray, List.getElem?_cons_succ, List.getElem?_cons_zero] at r10
  have q10 := R.out.fz 10
  have h10 := H.out.cell 10
  simp only [List.getElem?_toArray, List.getElem?_cons_succ, List.getElem?_cons_zero] at h10
  have g10 := H.out.fz 10
  go_wp2_with fail
  refine (C3.out _).mono ?_
  rintro e w3 ⟨rfl, hbk⟩
  replace R := Lib.hid ((R.out.up (n := w.heap.size + 1) (((((Below.refl _ _)).setCell (p := ⟨w.heap.size + 1, 5, none⟩) (Nat.le_refl _) (.string d))).setCell (p := ⟨w.heap.size + 1, 6, none⟩) (Nat.le_refl _) (.string c)) (Nat.lt_succ_self _)).keep hbk)
  have HBk2 := ((HB.out).setCell (p := ⟨w.heap.size + 1, 5, none⟩) (by simp) (.string d)).setCell (p := ⟨w.heap.size + 1, 6, none⟩) (by simp) (.string c)
  replace HB := Lib.hid (HBk2.trans (hbk.mono HBk2.size))
  replace H := Lib.hid ((((H.out).set5 (.string d)).set6 (.string c)).keep hbk)
  clear HBk2 hbk
  clear r0 q0 h0 g0 r1 q1 h1 g1 r2 q2 h2 g2 r3 q3 h3 g3 r4 q4 h4 g4 r5 q5 h5 g5 r6 q6 h6 g6 r7 q7 h7 g7 r8 q8 h8 g8 r9 q9 h9 g9 r10 q10 h10 g10
  have r0 := R.out.cell 0
  simp only [List.getElem?_toArray, List.getElem?_cons_succ, List.getElem?_cons_zero] at r0
  have q0 := R.out.fz 0
  have h0 := H.out.cell 0
  simp only [List.getElem?_toArray, List.getElem?_cons_succ, List.getElem?_cons_zero] at h0
  have g0 := H.out.fz 0
  have r1 := R.out.cell 1
  simp only [List.getElem?_toArray, List.getElem?_cons_succ, List.getElem?_cons_zero] at r1
  have q1 := R.out.fz 1
  have h1 := H.out.cell 1
  simp only [List.getElem?_toArray, List.getElem?_cons_succ, List.getElem?_cons_zero] at h1
  have g1 := H.out.fz 1
  have r2 := R.out.cell 2
  simp only [List.getElem?_toArray, List.getElem?_cons_succ, List.getElem?_cons_zero] at r2
  have q2 := R.out.fz 2
  have h2 := H.out.cell 2
  simp only [List.getElem?_toArray, List.getElem?_cons_succ, List.getElem?_cons_zero] at h2
  have g2 := H.out.fz 2
  have r3 := R.out.cell 3
  simp only [List.getElem?_toArray, List.getElem?_cons_succ, List.getElem?_cons_zero] at r3
  have q3 := R.out.fz 3
  have h3 := H.out.cell 3
  simp only [List.getElem?_toArray, List.getElem?_cons_succ, List.getElem?_cons_zero] at h3
  have g3 := H.out.fz 3
  have r4 := R.out.cell 4
  simp only [List.getElem?_toArray, List.getElem?_cons_succ, List.getElem?_cons_zero] at r4
  have q4 := R.out.fz 4
  have h4 := H.out.cell 4
  simp only [List.getElem?_toArray, List.getElem?_cons_succ, List.getElem?_cons_zero] at h4
  have g4 := H.out.fz 4
  have r5 := R.out.cell 5
  simp only [List.getElem?_toArray, List.getElem?_cons_succ, List.getElem?_cons_zero] at r5
  have q5 := R.out.fz 5
  have h5 := H.out.cell 5
  simp only [List.getElem?_toArray, List.getElem?_cons_succ, List.getElem?_cons_zero] at h5
  have g5 := H.out.fz 5
  have r6 := R.out.cell 6
  simp only [List.getElem?_toArray, List.getElem?_cons_succ, List.getElem?_cons_zero] at r6
  have q6 := R.out.fz 6
  have h6 := H.out.cell 6
  simp only [List.getElem?_toArray, List.getElem?_cons_succ, List.getElem?_cons_zero] at h6
  have g6 := H.out.fz 6
  have r7 := R.out.cell 7
  simp only [List.getElem?_toArray, List.getElem?_cons_succ, List.getElem?_cons_zero] at r7
  have q7 := R.out.fz 7
  have h7 := H.out.cell 7
  simp only [List.getElem?_toArray, List.getElem?_cons_succ, List.getElem?_cons_zero] at h7
  have g7 := H.out.fz 7
  have r8 := R.out.cell 8
  simp only [List.getElem?_toArray, List.getElem?_cons_succ, List.getElem?_cons_zero] at r8
  have q8 := R.out.fz 8
  have h8 := H.out.cell 8
  simp only [List.getElem?_toArray, List.getElem?_cons_succ, List.getElem?_cons_zero] at h8
  have g8 := H.out.fz 8
  have r9 := R.out.cell 9
  simp only [List.getElem?_toArray, List.getElem?_cons_succ, List.getElem?_cons_zero] at r9
  have q9 := R.out.fz 9
  have h9 := H.out.cell 9
  simp only [List.getElem?_toArray, List.getElem?_cons_succ, List.getElem?_cons_zero] at h9
  have g9 := H.out.fz 9
  have r10 := R.out.cell 10
  simp only [List.getElem?_toArray, List.getElem?_cons_succ, List.getElem?_cons_zero] at r10
  have q10 := R.out.fz 10
  have h10 := H.out.cell 10
  simp only [List.getElem?_toArray, List.getElem?_cons_succ, List.getElem?_cons_zero] at h10
  have g10 := H.out.fz 10
  go_wp2
  all_goals refine bodyPost_ret (v := .tuple #[.agg #[.bool false, .bool false, .bool false, .int .i64 0, .int .u32 0, .string ⟨#[]⟩, .string ⟨#[]⟩, .string ⟨#[]⟩, .int .u64 0, .int .i64 0, .int .u64 0], .string ⟨#[]⟩, .bool false]) (by simp [results, Tryd.results28, go_sem, *]) rfl ⟨rfl, ?_⟩
  all_goals repeat (first | with_reducible exact HB.out | refine Below.setCell ?_ (by simp) _ | refine below_drew ?_)
set_option maxHeartbeats 4000000 in
theorem ahead_v0 (s : ByteArray) (v s0 d s1 c s2 s3 tk s4 : ByteArray) (b : UInt8) (ve : Nat) (hp : 0 < s.size) (hl : s.size ≤ 9223372036854775807) (I0 : s[0]'hp = b) (hb0 : (0 : Int) ≤ ((b.toNat : Nat) : Int)) (hb : ((b.toNat : Nat) : Int) ≤ 255) (h64 : (((b.toNat : Nat) : Int) / 64 % 2 == 0) = false) (h128 : decide (128 ≤ ((b.toNat : Nat) : Int)) = true) (hve : ((ve : Nat) : Int) ≤ 4294967295) (hf : ¬ ((s.size : Nat) : Int) < 5) (hf5 : 5 ≤ s.size) (ty : Int) (hty0 : 0 ≤ ty) (hty : ty ≤ 2) (Ety : ((b.toNat : Nat) : Int) / 16 % 4 = ty) (h3 : (ty == 3) = false) (X1 : s.extract 1 5 = v) (X2 : s.extract 5 s.size = s0) (CB : Hid (∀ w : World, Calls Tryd.prog 29 #[.string v] w fun e w' => e = .returned (.int .u64 (ve : Nat)) ∧ w = w')) (C1 : Hid (∀ w : World, Calls Tryd.prog 49 #[.string s0] w fun e w' => e = .returned (.tuple #[.string d, .string s1, .bool true]) ∧ Below w.heap.size w w')) (C2 : Hid (∀ w : World, Calls Tryd.prog 49 #[.string s1] w fun e w' => e = .returned (.tuple #[.string c, .string s2, .bool true]) ∧ Below w.heap.size w w')) (e0 : (ty == 0) = true) (n : Nat) (C3 : Hid (∀ w : World, Calls Tryd.prog 50 #[.string s2] w fun e w' => e = .returned (.tuple #[.int .u64 (n : Nat), .string s3, .int .i64 0]) ∧ Below w.heap.size w w')) (hs3 : s3.size ≤ 9223372036854775807) (hn4 : n < 4611686018427387904) (hn : ¬ (1000 : Int) < ((n : Nat) : Int)) (hn2 : ¬ ((s3.size : Nat) : Int) < ((n : Nat) : Int)) (hn3 : n ≤ s3.size) (X3 : s3.extract 0 n = tk) (X4 : s3.extract n s3.size = s4) (C4 : Hid (∀ w : World, Calls Tryd.prog 50 #[.string s4] w fun e w' => e = .returned (.tuple #[.int .u64 0, .string ⟨#[]⟩, .int .i64 10]) ∧ Below w.heap.size w w')) (w : World) :
    Calls Tryd.prog 28 #[.string s] w fun e w' => e = .returned (.tuple #[.agg #[.bool false, .bool false, .bool false, .int .i64 0, .int .u32 0, .string ⟨#[]⟩, .string ⟨#[]⟩, .string ⟨#[]⟩, .int .u64 0, .int .i64 0, .int .u64 0], .string ⟨#[]⟩, .bool false]) ∧ Below w.heap.size w w' := by
  have he := empty_no s hp
  go_enter Tryd.func28, Tryd.ntmps28
  go_wp2_with fail
  refine (CB.out _).mono ?_
  rintro e w1 ⟨rfl, rfl⟩
  go_wp2_with fail
  refine (C1.out _).mono ?_
  rintro e w1 ⟨rfl, hb1⟩
  have R := Lib.hid (((RBk.made w (.bool false) (.bool false) (.bool false) (.int .i64 0) (.int .u32 0) (.string ⟨#[]⟩) (.string ⟨#[]⟩) (.string ⟨#[]⟩) (.int .u64 0) (.int .i64 0) (.int .u64 0)).up (n := w.heap.size + 1) ((Below.refl _ _).alloc (by simp) (.cells #[.bool true, .bool false, .bool false, .int .i64 ty, .int .u32 (ve : Nat), .string ⟨#[]⟩, .string ⟨#[]⟩, .string ⟨#[]⟩, .int .u64 0, .int .i64 0, .int .u64 0] 28)) (Nat.lt_succ_self _)).up hb1 (by simp; omega))
  have H := Lib.hid ((RBk.made2 w (.cells #[.bool false, .bool false, .bool false, .int .i64 0, .int .u32 0, .string ⟨#[]⟩, .string ⟨#[]⟩, .string ⟨#[]⟩, .int .u64 0, .int .i64 0, .int .u64 0] 28) (.bool true) (.bool false) (.bool false) (.int .i64 ty) (.int .u32 (ve : Nat)) (.string ⟨#[]⟩) (.string ⟨#[]⟩) (.string ⟨#[]⟩) (.int .u64 0) (.int .i64 0) (.int .u64 0)).keep hb1)
  have HB := Lib.hid ((((Below.refl w.heap.size w).alloc (Nat.le_refl _) (.cells #[.bool false, .bool false, .bool false, .int .i64 0, .int .u32 0, .string ⟨#[]⟩, .string ⟨#[]⟩, .string ⟨#[]⟩, .int .u64 0, .int .i64 0, .int .u64 0] 28)).alloc (by simp) (.cells #[.bool true, .bool false, .bool false, .int .i64 ty, .int .u32 (ve : Nat), .string ⟨#[]⟩, .string ⟨#[]⟩, .string ⟨#[]⟩, .int .u64 0, .int .i64 0, .int .u64 0] 28)).trans (hb1.mono (by simp; omega)))
  clear hb1
  have r0 := R.out.cell 0
  simp only [List.getElem?_toArray, List.getElem?_cons_succ, List.getElem?_cons_zero] at r0
  have q0 := R.out.fz 0
  have h0 := H.out.cell 0
  simp only [List.getElem?_toArray, List.getElem?_cons_succ, List.getElem?_cons_zero] at h0
  have g0 := H.out.fz 0
  have r1 := R.out.cell 1
  simp only [List.getElem?_toArray, List.getElem?_cons_succ, List.getElem?_cons_zero] at r1
  have q1 := R.out.fz 1
  have h1 := H.out.cell 1
  simp only [List.getElem?_toArray, List.getElem?_cons_succ, List.getElem?_cons_zero] at h1
  have g1 := H.out.fz 1
  have r2 := R.out.cell 2
  simp only [List.getElem?_toArray, List.getElem?_cons_succ, List.getElem?_cons_zero] at r2
  have q2 := R.out.fz 2
  have h2 := H.out.cell 2
  simp only [List.getElem?_toArray, List.getElem?_cons_succ, List.getElem?_cons_zero] at h2
  have g2 := H.out.fz 2
  have r3 := R.out.cell 3
  simp only [List.getElem?_toArray, List.getElem?_cons_succ, List.getElem?_cons_zero] at r3
  have q3 := R.out.fz 3
  have h3 := H.out.cell 3
  simp only [List.getElem?_toArray, List.getElem?_cons_succ, List.getElem?_cons_zero] at h3
  have g3 := H.out.fz 3
  have r4 := R.out.cell 4
  simp only [List.getElem?_toArray, List.getElem?_cons_succ, List.getElem?_cons_zero] at r4
  have q4 := R.out.fz 4
  have h4 := H.out.cell 4
  simp only [List.getElem?_toArray, List.getElem?_cons_succ, List.getElem?_cons_zero] at h4
  have g4 := H.out.fz 4
  have r5 := R.out.cell 5
  simp only [List.getElem?_toArray, List.getElem?_cons_succ, List.getElem?_cons_zero] at r5
  have q5 := R.out.fz 5
  have h5 := H.out.cell 5
  simp only [List.getElem?_toArray, List.getElem?_cons_succ, List.getElem?_cons_zero] at h5
  have g5 := H.out.fz 5
  have r6 := R.out.cell 6
  simp only [List.getElem?_toArray, List.getElem?_cons_succ, List.getElem?_cons_zero] at r6
  have q6 := R.out.fz 6
  have h6 := H.out.cell 6
  simp only [List.getElem?_toArray, List.getElem?_cons_succ, List.getElem?_cons_zero] at h6
  have g6 := H.out.fz 6
  have r7 := R.out.cell 7
  simp only [List.getElem?_toArray, List.getElem?_cons_succ, List.getElem?_cons_zero] at r7
  have q7 := R.out.fz 7
  have h7 := H.out.cell 7
  simp only [List.getElem?_toArray, List.getElem?_cons_succ, List.getElem?_cons_zero] at h7
  have g7 := H.out.fz 7
  have r8 := R.out.cell 8
  simp only [List.getElem?_toArray, List.getElem?_cons_succ, List.getElem?_cons_zero] at r8
  have q8 := R.out.fz 8
  have h8 := H.out.cell 8
  simp only [List.getElem?_toArray, List.getElem?_cons_succ, List.getElem?_cons_zero] at h8
  have g8 := H.out.fz 8
  have r9 := R.out.cell 9
  simp only [List.getElem?_toArray, List.getElem?_cons_succ, List.getElem?_cons_zero] at r9
  have q9 := R.out.fz 9
  have h9 := H.out.cell 9
  simp only [List.getElem?_toArray, List.getElem?_cons_succ, List.getElem?_cons_zero] at h9
  have g9 := H.out.fz 9
  have r10 := R.out.cell 10
  simp only [List.getElem?_toArray, List.getElem?_cons_succ, List.getElem?_cons_zero] at r10
  have q10 := R.out.fz 10
  have h10 := H.out.cell 10
  simp only [List.getElem?_toArray, List.getElem?_cons_succ, List.getElem?_cons_zero] at h10
  have g10 := H.out.fz 10
  go_wp2_with fail
  refine (C2.out _).mono ?_
  rintro e w2 ⟨rfl, hbk⟩
  replace R := Lib.hid ((R.out.up (n := w.heap.size + 1) (Below.refl _ _) (Nat.lt_succ_self _)).keep hbk)
  have HBk2 := HB.out
  replace HB := Lib.hid (HBk2.trans (hbk.mono HBk2.size))
  replace H := Lib.hid ((H.out).keep hbk)
  clear HBk2 hbk
  clear r0 q0 h0 g0 r1 q1 h1 g1 r2 q2 h2 g2 r3 q3 h3 g3 r4 q4 h4 g4 r5 q5 h5 g5 r6 q6 h6 g6 r7 q7 h7 g7 r8 q8 h8 g8 r9 q9 h9 g9 r10 q10 h10 g10
  have r0 := R.out.cell 0
  simp only [List.getElem?_toArray, List.getElem?_cons_succ, List.getElem?_cons_zero] at r0
  have q0 := R.out.fz 0
  have h0 := H.out.cell 0
  simp only [List.getElem?_toArray, List.getElem?_cons_succ, List.getElem?_cons_zero] at h0
  have g0 := H.out.fz 0
  have r1 := R.out.cell 1
  simp only [List.getElem?_toArray, List.getElem?_cons_succ, List.getElem?_cons_zero] at r1
  have q1 := R.out.fz 1
  have h1 := H.out.cell 1
  simp only [List.getElem?_toArray, List.getElem?_cons_succ, List.getElem?_cons_zero] at h1
  have g1 := H.out.fz 1
  have r2 := R.out.cell 2
  simp only [List.getElem?_toArray, List.getElem?_cons_succ, List.getElem?_cons_zero] at r2
  have q2 := R.out.fz 2
  have h2 := H.out.cell 2
  simp only [List.getElem?_toArray, List.getElem?_cons_succ, List.getElem?_cons_zero] at h2
  have g2 := H.out.fz 2
  have r3 := R.out.cell 3
  simp only [List.getElem?_toArray, List.getElem?_cons_succ, List.getElem?_cons_zero] at r3
  have q3 := R.out.fz 3
  have h3 := H.out.cell 3
  simp only [List.getElem?_toArray, List.getElem?_cons_succ, List.getElem?_cons_zero] at h3
  have g3 := H.out.fz 3
  have r4 := R.out.cell 4
  simp only [List.getElem?_toArray, List.getElem?_cons_succ, List.getElem?_cons_zero] at r4
  have q4 := R.out.fz 4
  have h4 := H.out.cell 4
  simp only [List.getElem?_toArray, List.getElem?_cons_succ, List.getElem?_cons_zero] at h4
  have g4 := H.out.fz 4
  have r5 := R.out.cell 5
  simp only [List.getElem?_toArray, List.getElem?_cons_succ, List.getElem?_cons_zero] at r5
  have q5 := R.out.fz 5
  have h5 := H.out.cell 5
  simp only [List.getElem?_toArray, List.getElem?_cons_succ, List.getElem?_cons_zero] at h5
  have g5 := H.out.fz 5
  have r6 := R.out.cell 6
  simp only [List.getElem?_toArray, List.getElem?_cons_succ, List.getElem?_cons_zero] at r6
  have q6 := R.out.fz 6
  have h6 := H.out.cell 6
  simp only [List.getElem?_toArray, List.getElem?_cons_succ, List.getElem?_cons_zero] at h6
  have g6 := H.out.fz 6
  have r7 := R.out.cell 7
  simp only [List.getElem?_toArray, List.getElem?_cons_succ, List.getElem?_cons_zero] at r7
  have q7 := R.out.fz 7
  have h7 := H.out.cell 7
  simp only [List.getElem?_toArray, List.getElem?_cons_succ, List.getElem?_cons_zero] at h7
  have g7 := H.out.fz 7
  have r8 := R.out.cell 8
  simp only [List.getElem?_toArray, List.getElem?_cons_succ, List.getElem?_cons_zero] at r8
  have q8 := R.out.fz 8
  have h8 := H.out.cell 8
  simp only [List.getElem?_toArray, List.getElem?_cons_succ, List.getElem?_cons_zero] at h8
  have g8 := H.out.fz 8
  have r9 := R.out.cell 9
  simp only [List.getElem?_toArray, List.getElem?_cons_succ, List.getElem?_cons_zero] at r9
  have q9 := R.out.fz 9
  have h9 := H.out.cell 9
  simp only [List.getElem?_toArray, List.getElem?_cons_succ, List.getElem?_cons_zero] at h9
  have g9 := H.out.fz 9
  have r10 := R.out.cell 10
  simp only [List.getElem?_toArray, List.getElem?_cons_succ, List.getElem?_cons_zero] at r10
  have q10 := R.out.fz 10
  have h10 := H.out.cell 10
  simp only [List.getElem?_toArray, List.getElem?_cons_succ, List.getElem?_cons_zero] at h10
  have g10 := H.out.fz 10
  go_wp2_with fail
  refine (C3.out _).mono ?_
  rintro e w3 ⟨rfl, hbk⟩
  replace R := Lib.hid ((R.out.up (n := w.heap.size + 1) (((((Below.refl _ _)).setCell (p := ⟨w.heap.size + 1, 5, none⟩) (Nat.le_refl _) (.string d))).setCell (p := ⟨w.heap.size + 1, 6, none⟩) (Nat.le_refl _) (.string c)) (Nat.lt_succ_self _)).keep hbk)
  have HBk2 := ((HB.out).setCell (p := ⟨w.heap.size + 1, 5, none⟩) (by simp) (.string d)).setCell (p := ⟨w.heap.size + 1, 6, none⟩) (by simp) (.string c)
  replace HB := Lib.hid (HBk2.trans (hbk.mono HBk2.size))
  replace H := Lib.hid ((((H.out).set5 (.string d)).set6 (.string c)).keep hbk)
  clear HBk2 hbk
  clear r0 q0 h0 g0 r1 q1 h1 g1 r2 q2 h2 g2 r3 q3 h3 g3 r4 q4 h4 g4 r5 q5 h5 g5 r6 q6 h6 g6 r7 q7 h7 g7 r8 q8 h8 g8 r9 q9 h9 g9 r10 q10 h10 g10
  have r0 := R.out.cell 0
  simp only [List.getElem?_toArray, List.getElem?_cons_succ, List.getElem?_cons_zero] at r0
  have q0 := R.out.fz 0
  have h0 := H.out.cell 0
  simp only [List.getElem?_toArray, List.getElem?_cons_succ, List.getElem?_cons_zero] at h0
  have g0 := H.out.fz 0
  have r1 := R.out.cell 1
  simp only [List.getElem?_toArray, List.getElem?_cons_succ, List.getElem?_cons_zero] at r1
  have q1 := R.out.fz 1
  have h1 := H.out.cell 1
  simp only [List.getElem?_toArray, List.getElem?_cons_succ, List.getElem?_cons_zero] at h1
  have g1 := H.out.fz 1
  have r2 := R.out.cell 2
  simp only [List.getElem?_toArray, List.getElem?_cons_succ, List.getElem?_cons_zero] at r2
  have q2 := R.out.fz 2
  have h2 := H.out.cell 2
  simp only [List.getElem?_toArray, List.getElem?_cons_succ, List.getElem?_cons_zero] at h2
  have g2 := H.out.fz 2
  have r3 := R.out.cell 3
  simp only [List.getElem?_toArray, List.getElem?_cons_succ, List.getElem?_cons_zero] at r3
  have q3 := R.out.fz 3
  have h3 := H.out.cell 3
  simp only [List.getElem?_toArray, List.getElem?_cons_succ, List.getElem?_cons_zero] at h3
  have g3 := H.out.fz 3
  have r4 := R.out.cell 4
  simp only [List.getElem?_toArray, List.getElem?_cons_succ, List.getElem?_cons_zero] at r4
  have q4 := R.out.fz 4
  have h4 := H.out.cell 4
  simp only [List.getElem?_toArray, List.getElem?_cons_succ, List.getElem?_cons_zero] at h4
  have g4 := H.out.fz 4
  have r5 := R.out.cell 5
  simp only [List.getElem?_toArray, List.getElem?_cons_succ, List.getElem?_cons_zero] at r5
  have q5 := R.out.fz 5
  have h5 := H.out.cell 5
  simp only [List.getElem?_toArray, List.getElem?_cons_succ, List.getElem?_cons_zero] at h5
  have g5 := H.out.fz 5
  have r6 := R.out.cell 6
  simp only [List.getElem?_toArray, List.getElem?_cons_succ, List.getElem?_cons_zero] at r6
  have q6 := R.out.fz 6
  have h6 := H.out.cell 6
  simp only [List.getElem?_toArray, List.getElem?_cons_succ, List.getElem?_cons_zero] at h6
  have g6 := H.out.fz 6
  have r7 := R.out.cell 7
  simp only [List.getElem?_toArray, List.getElem?_cons_succ, List.getElem?_cons_zero] at r7
  have q7 := R.out.fz 7
  have h7 := H.out.cell 7
  simp only [List.getElem?_toArray, List.getElem?_cons_succ, List.getElem?_cons_zero] at h7
  have g7 := H.out.fz 7
  have r8 := R.out.cell 8
  simp only [List.getElem?_toArray, List.getElem?_cons_succ, List.getElem?_cons_zero] at r8
  have q8 := R.out.fz 8
  have h8 := H.out.cell 8
  simp only [List.getElem?_toArray, List.getElem?_cons_succ, List.getElem?_cons_zero] at h8
  have g8 := H.out.fz 8
  have r9 := R.out.cell 9
  simp only [List.getElem?_toArray, List.getElem?_cons_succ, List.getElem?_cons_zero] at r9
  have q9 := R.out.fz 9
  have h9 := H.out.cell 9
  simp only [List.getElem?_toArray, List.getElem?_cons_succ, List.getElem?_cons_zero] at h9
  have g9 := H.out.fz 9
  have r10 := R.out.cell 10
  simp only [List.getElem?_toArray, List.getElem?_cons_succ, List.getElem?_cons_zero] at r10
  have q10 := R.out.fz 10
  have h10 := H.out.cell 10
  simp only [List.getElem?_toArray, List.getElem?_cons_succ, List.getElem?_cons_zero] at h10
  have g10 := H.out.fz 10
  go_wp2_with fail
  refine (C4.out _).mono ?_
  rintro e w4 ⟨rfl, hbk⟩
  replace R := Lib.hid ((R.out.up (n := w.heap.size + 1) (((Below.refl _ _)).setCell (p := ⟨w.heap.size + 1, 7, none⟩) (Nat.le_refl _) (.string tk)) (Nat.lt_succ_self _)).keep hbk)
  have HBk2 := (HB.out).setCell (p := ⟨w.heap.size + 1, 7, none⟩) (by simp) (.string tk)
  replace HB := Lib.hid (HBk2.trans (hbk.mono HBk2.size))
  replace H := Lib.hid (((H.out).set7 (.string tk)).keep hbk)
  clear HBk2 hbk
  clear r0 q0 h0 g0 r1 q1 h1 g1 r2 q2 h2 g2 r3 q3 h3 g3 r4 q4 h4 g4 r5 q5 h5 g5 r6 q6 h6 g6 r7 q7 h7 g7 r8 q8 h8 g8 r9 q9 h9 g9 r10 q10 h10 g10
  have r0 := R.out.cell 0
  simp only [List.getElem?_toArray, List.getElem?_cons_succ, List.getElem?_cons_zero] at r0
  have q0 := R.out.fz 0
  have h0 := H.out.cell 0
  simp only [List.getElem?_toArray, List.getElem?_cons_succ, List.getElem?_cons_zero] at h0
  have g0 := H.out.fz 0
  have r1 := R.out.cell 1
  simp only [List.getElem?_toArray, List.getElem?_cons_succ, List.getElem?_cons_zero] at r1
  have q1 := R.out.fz 1
  have h1 := H.out.cell 1
  simp only [List.getElem?_toArray, List.getElem?_cons_succ, List.getElem?_cons_zero] at h1
  have g1 := H.out.fz 1
  have r2 := R.out.cell 2
  simp only [List.getElem?_toArray, List.getElem?_cons_succ, List.getElem?_cons_zero] at r2
  have q2 := R.out.fz 2
  have h2 := H.out.cell 2
  simp only [List.getElem?_toArray, List.getElem?_cons_succ, List.getElem?_cons_zero] at h2
  have g2 := H.out.fz 2
  have r3 := R.out.cell 3
  simp only [List.getElem?_toArray, List.getElem?_cons_succ, List.getElem?_cons_zero] at r3
  have q3 := R.out.fz 3
  have h3 := H.out.cell 3
  simp only [List.getElem?_toArray, List.getElem?_cons_succ, List.getElem?_cons_zero] at h3
  have g3 := H.out.fz 3
  have r4 := R.out.cell 4
  simp only [List.getElem?_toArray, List.getElem?_cons_succ, List.getElem?_cons_zero] at r4
  have q4 := R.out.fz 4
  have h4 := H.out.cell 4
  simp only [List.getElem?_toArray, List.getElem?_cons_succ, List.getElem?_cons_zero] at h4
  have g4 := H.out.fz 4
  have r5 := R.out.cell 5
  simp only [List.getElem?_toArray, List.getElem?_cons_succ, List.getElem?_cons_zero] at r5
  have q5 := R.out.fz 5
  have h5 := H.out.cell 5
  simp only [List.getElem?_toArray, List.getElem?_cons_succ, List.getElem?_cons_zero] at h5
  have g5 := H.out.fz 5
  have r6 := R.out.cell 6
  simp only [List.getElem?_toArray, List.getElem?_cons_succ, List.getElem?_cons_zero] at r6
  have q6 := R.out.fz 6
  have h6 := H.out.cell 6
  simp only [List.getElem?_toArray, List.getElem?_cons_succ, List.getElem?_cons_zero] at h6
  have g6 := H.out.fz 6
  have r7 := R.out.cell 7
  simp only [List.getElem?_toArray, List.getElem?_cons_succ, List.getElem?_cons_zero] at r7
  have q7 := R.out.fz 7
  have h7 := H.out.cell 7
  simp only [List.getElem?_toArray, List.getElem?_cons_succ, List.getElem?_cons_zero] at h7
  have g7 := H.out.fz 7
  have r8 := R.out.cell 8
  simp only [List.getElem?_toArray, List.getElem?_cons_succ, List.getElem?_cons_zero] at r8
  have q8 := R.out.fz 8
  have h8 := H.out.cell 8
  simp only [List.getElem?_toArray, List.getElem?_cons_succ, List.getElem?_cons_zero] at h8
  have g8 := H.out.fz 8
  have r9 := R.out.cell 9
  simp only [List.getElem?_toArray, List.getElem?_cons_succ, List.getElem?_cons_zero] at r9
  have q9 := R.out.fz 9
  have h9 := H.out.cell 9
  simp only [List.getElem?_toArray, List.getElem?_cons_succ, List.getElem?_cons_zero] at h9
  have g9 := H.out.fz 9
  have r10 := R.out.cell 10
  simp only [List.getElem?_toArray, List.getElem?_cons_succ, List.getElem?_cons_zero] at r10
  have q10 := R.out.fz 10
  have h10 := H.out.cell 10
  simp only [List.getElem?_toArray, List.getElem?_cons_succ, List.getElem?_cons_zero] at h10
  have g10 := H.out.fz 10
  go_wp2
  all_goals refine bodyPost_ret (v := .tuple #[.agg #[.bool false, .bool false, .bool false, .int .i64 0, .int .u32 0, .string ⟨#[]⟩, .string ⟨#[]⟩, .string ⟨#[]⟩, .int .u64 0, .int .i64 0, .int .u64 0], .string ⟨#[]⟩, .bool false]) (by simp [results, Tryd.results28, go_sem, *]) rfl ⟨rfl, ?_⟩
  all_goals repeat (first | with_reducible exact HB.out | refine Below.setCell ?_ (by simp) _ | refine below_drew ?_)
set_option maxHeartbeats 4000000 in
theorem ahead_v1 (s : ByteArray) (v s0 d s1 c s2 : ByteArray) (b : UInt8) (ve : Nat) (hp : 0 < s.size) (hl : s.size ≤ 9223372036854775807) (I0 : s[0]'hp = b) (hb0 : (0 : Int) ≤ ((b.toNat : Nat) : Int)) (hb : ((b.toNat : Nat) : Int) ≤ 255) (h64 : (((b.toNat : Nat) : Int) / 64 % 2 == 0) = false) (h128 : decide (128 ≤ ((b.toNat : Nat) : Int)) = true) (hve : ((ve : Nat) : Int) ≤ 4294967295) (hf : ¬ ((s.size : Nat) : Int) < 5) (hf5 : 5 ≤ s.size) (ty : Int) (hty0 : 0 ≤ ty) (hty : ty ≤ 2) (Ety : ((b.toNat : Nat) : Int) / 16 % 4 = ty) (h3 : (ty == 3) = false) (X1 : s.extract 1 5 = v) (X2 : s.extract 5 s.size = s0) (CB : Hid (∀ w : World, Calls Tryd.prog 29 #[.string v] w fun e w' => e = .returned (.int .u64 (ve : Nat)) ∧ w = w')) (C1 : Hid (∀ w : World, Calls Tryd.prog 49 #[.string s0] w fun e w' => e = .returned (.tuple #[.string d, .string s1, .bool true]) ∧ Below w.heap.size w w')) (C2 : Hid (∀ w : World, Calls Tryd.prog 49 #[.string s1] w fun e w' => e = .returned (.tuple #[.string c, .string s2, .bool true]) ∧ Below w.heap.size w w')) (e0 : (ty == 0) = false) (C4 : Hid (∀ w : World, Calls Tryd.prog 50 #[.string s2] w fun e w' => e = .returned (.tuple #[.int .u64 0, .string ⟨#[]⟩, .int .i64 10]) ∧ Below w.heap.size w w')) (w : World) :
    Calls Tryd.prog 28 #[.string s] w fun e w' => e = .returned (.tuple #[.agg #[.bool false, .bool false, .bool false, .int .i64 0, .int .u32 0, .string ⟨#[]⟩, .string ⟨#[]⟩, .string ⟨#[]⟩, .int .u64 0, .int .i64 0, .int .u64 0], .string ⟨#[]⟩, .bool false]) ∧ Below w.heap.size w w' := by
  have he := empty_no s hp
  go_enter Tryd.func28, Tryd.ntmps28
  go_wp2_with fail
  refine (CB.out _).mono ?_
  rintro e w1 ⟨rfl, rfl⟩
  go_wp2_with fail
  refine (C1.out _).mono ?_
  rintro e w1 ⟨rfl, hb1⟩
  have R := Lib.hid (((RBk.made w (.bool false) (.bool false) (.bool false) (.int .i64 0) (.int .u32 0) (.string ⟨#[]⟩) (.string ⟨#[]⟩) (.string ⟨#[]⟩) (.int .u64 0) (.int .i64 0) (.int .u64 0)).up (n := w.heap.size + 1) ((Below.refl _ _).alloc (by simp) (.cells #[.bool true, .bool false, .bool false, .int .i64 ty, .int .u32 (ve : Nat), .string ⟨#[]⟩, .string ⟨#[]⟩, .string ⟨#[]⟩, .int .u64 0, .int .i64 0, .int .u64 0] 28)) (Nat.lt_succ_self _)).up hb1 (by simp; omega))
  have H := Lib.hid ((RBk.made2 w (.cells #[.bool false, .bool false, .bool false, .int .i64 0, .int .u32 0, .string ⟨#[]⟩, .string ⟨#[]⟩, .string ⟨#[]⟩, .int .u64 0, .int .i64 0, .int .u64 0] 28) (.bool true) (.bool false) (.bool false) (.int .i64 ty) (.int .u32 (ve : Nat)) (.string ⟨#[]⟩) (.string ⟨#[]⟩) (.string ⟨#[]⟩) (.int .u64 0) (.int .i64 0) (.int .u64 0)).keep hb1)
  have HB := Lib.hid ((((Below.refl w.heap.size w).alloc (Nat.le_refl _) (.cells #[.bool false, .bool false, .bool false, .int .i64 0, .int .u32 0, .string ⟨#[]⟩, .string ⟨#[]⟩, .string ⟨#[]⟩, .int .u64 0, .int .i64 0, .int .u64 0] 28)).alloc (by simp) (.cells #[.bool true, .bool false, .bool false, .int .i64 ty, .int .u32 (ve : Nat), .string ⟨#[]⟩, .string ⟨#[]⟩, .string ⟨#[]⟩, .int .u64 0, .int .i64 0, .int .u64 0] 28)).trans (hb1.mono (by simp; omega)))
  clear hb1
  have r0 := R.out.cell 0
  simp only [List.getElem?_toArray, List.getElem?_cons_succ, List.getElem?_cons_zero] at r0
  have q0 := R.out.fz 0
  have h0 := H.out.cell 0
  simp only [List.getElem?_toArray, List.getElem?_cons_succ, List.getElem?_cons_zero] at h0
  have g0 := H.out.fz 0
  have r1 := R.out.cell 1
  simp only [List.getElem?_toArray, List.getElem?_cons_succ, List.getElem?_cons_zero] at r1
  have q1 := R.out.fz 1
  have h1 := H.out.cell 1
  simp only [List.getElem?_toArray, List.getElem?_cons_succ, List.getElem?_cons_zero] at h1
  have g1 := H.out.fz 1
  have r2 := R.out.cell 2
  simp only [List.getElem?_toArray, List.getElem?_cons_succ, List.getElem?_cons_zero] at r2
  have q2 := R.out.fz 2
  have h2 := H.out.cell 2
  simp only [List.getElem?_toArray, List.getElem?_cons_succ, List.getElem?_cons_zero] at h2
  have g2 := H.out.fz 2
  have r3 := R.out.cell 3
  simp only [List.getElem?_toArray, List.getElem?_cons_succ, List.getElem?_cons_zero] at r3
  have q3 := R.out.fz 3
  have h3 := H.out.cell 3
  simp only [List.getElem?_toArray, List.getElem?_cons_succ, List.getElem?_cons_zero] at h3
  have g3 := H.out.fz 3
  have r4 := R.out.cell 4
  simp only [List.getElem?_toArray, List.getElem?_cons_succ, List.getElem?_cons_zero] at r4
  have q4 := R.out.fz 4
  have h4 := H.out.cell 4
  simp only [List.getElem?_toArray, List.getElem?_cons_succ, List.getElem?_cons_zero] at h4
  have g4 := H.out.fz 4
  have r5 := R.out.cell 5
  simp only [List.getElem?_toArray, List.getElem?_cons_succ, List.getElem?_cons_zero] at r5
  have q5 := R.out.fz 5
  have h5 := H.out.cell 5
  simp only [List.getElem?_toArray, List.getElem?_cons_succ, List.getElem?_cons_zero] at h5
  have g5 := H.out.fz 5
  have r6 := R.out.cell 6
  simp only [List.getElem?_toArray, List.getElem?_cons_succ, List.getElem?_cons_zero] at r6
  have q6 := R.out.fz 6
  have h6 := H.out.cell 6
  simp only [List.getElem?_toArray, List.getElem?_cons_succ, List.getElem?_cons_zero] at h6
  have g6 := H.out.fz 6
  have r7 := R.out.cell 7
  simp only [List.getElem?_toArray, List.getElem?_cons_succ, List.getElem?_cons_zero] at r7
  have q7 := R.out.fz 7
  have h7 := H.out.cell 7
  simp only [List.getElem?_toArray, List.getElem?_cons_succ, List.getElem?_cons_zero] at h7
  have g7 := H.out.fz 7
  have r8 := R.out.cell 8
  simp only [List.getElem?_toArray, List.getElem?_cons_succ, List.getElem?_cons_zero] at r8
  have q8 := R.out.fz 8
  have h8 := H.out.cell 8
  simp only [List.getElem?_toArray, List.getElem?_cons_succ, List.getElem?_cons_zero] at h8
  have g8 := H.out.fz 8
  have r9 := R.out.cell 9
  simp only [List.getElem?_toArray, List.getElem?_cons_succ, List.getElem?_cons_zero] at r9
  have q9 := R.out.fz 9
  have h9 := H.out.cell 9
  simp only [List.getElem?_toArray, List.getElem?_cons_succ, List.getElem?_cons_zero] at h9
  have g9 := H.out.fz 9
  have r10 := R.out.cell 10
  simp only [List.getElem?_toArray, List.getElem?_cons_succ, List.getElem?_cons_zero] at r10
  have q10 := R.out.fz 10
  have h10 := H.out.cell 10
  simp only [List.getElem?_toArray, List.getElem?_cons_succ, List.getElem?_cons_zero] at h10
  have g10 := H.out.fz 10
  go_wp2_with fail
  refine (C2.out _).mono ?_
  rintro e w2 ⟨rfl, hbk⟩
  replace R := Lib.hid ((R.out.up (n := w.heap.size + 1) (Below.refl _ _) (Nat.lt_succ_self _)).keep hbk)
  have HBk2 := HB.out
  replace HB := Lib.hid (HBk2.trans (hbk.mono HBk2.size))
  replace H := Lib.hid ((H.out).keep hbk)
  clear HBk2 hbk
  clear r0 q0 h0 g0 r1 q1 h1 g1 r2 q2 h2 g2 r3 q3 h3 g3 r4 q4 h4 g4 r5 q5 h5 g5 r6 q6 h6 g6 r7 q7 h7 g7 r8 q8 h8 g8 r9 q9 h9 g9 r10 q10 h10 g10
  have r0 := R.out.cell 0
  simp only [List.getElem?_toArray, List.getElem?_cons_succ, List.getElem?_cons_zero] at r0
  have q0 := R.out.fz 0
  have h0 := H.out.cell 0
  simp only [List.getElem?_toArray, List.getElem?_cons_succ, List.getElem?_cons_zero] at h0
  have g0 := H.out.fz 0
  have r1 := R.out.cell 1
  simp only [List.getElem?_toArray, List.getElem?_cons_succ, List.getElem?_cons_zero] at r1
  have q1 := R.out.fz 1
  have h1 := H.out.cell 1
  simp only [List.getElem?_toArray, List.getElem?_cons_succ, List.getElem?_cons_zero] at h1
  have g1 := H.out.fz 1
  have r2 := R.out.cell 2
  simp only [List.getElem?_toArray, List.getElem?_cons_succ, List.getElem?_cons_zero] at r2
  have q2 := R.out.fz 2
  have h2 := H.out.cell 2
  simp only [List.getElem?_toArray, List.getElem?_cons_succ, List.getElem?_cons_zero] at h2
  have g2 := H.out.fz 2
  have r3 := R.out.cell 3
  simp only [List.getElem?_toArray, List.getElem?_cons_succ, List.getElem?_cons_zero] at r3
  have q3 := R.out.fz 3
  have h3 := H.out.cell 3
  simp only [List.getElem?_toArray, List.getElem?_cons_succ, List.getElem?_cons_zero] at h3
  have g3 := H.out.fz 3
  have r4 := R.out.cell 4
  simp only [List.getElem?_toArray, List.getElem?_cons_succ, List.getElem?_cons_zero] at r4
  have q4 := R.out.fz 4
  have h4 := H.out.cell 4
  simp only [List.getElem?_toArray, List.getElem?_cons_succ, List.getElem?_cons_zero] at h4
  have g4 := H.out.fz 4
  have r5 := R.out.cell 5
  simp only [List.getElem?_toArray, List.getElem?_cons_succ, List.getElem?_cons_zero] at r5
  have q5 := R.out.fz 5
  have h5 := H.out.cell 5
  simp only [List.getElem?_toArray, List.getElem?_cons_succ, List.getElem?_cons_zero] at h5
  have g5 := H.out.fz 5
  have r6 := R.out.cell 6
  simp only [List.getElem?_toArray, List.getElem?_cons_succ, List.getElem?_cons_zero] at r6
  have q6 := R.out.fz 6
  have h6 := H.out.cell 6
  simp only [List.getElem?_toArray, List.getElem?_cons_succ, List.getElem?_cons_zero] at h6
  have g6 := H.out.fz 6
  have r7 := R.out.cell 7
  simp only [List.getElem?_toArray, List.getElem?_cons_succ, List.getElem?_cons_zero] at r7
  have q7 := R.out.fz 7
  have h7 := H.out.cell 7
  simp only [List.getElem?_toArray, List.getElem?_cons_succ, List.getElem?_cons_zero] at h7
  have g7 := H.out.fz 7
  have r8 := R.out.cell 8
  simp only [List.getElem?_toArray, List.getElem?_cons_succ, List.getElem?_cons_zero] at r8
  have q8 := R.out.fz 8
  have h8 := H.out.cell 8
  simp only [List.getElem?_toArray, List.getElem?_cons_succ, List.getElem?_cons_zero] at h8
  have g8 := H.out.fz 8
  have r9 := R.out.cell 9
  simp only [List.getElem?_toArray, List.getElem?_cons_succ, List.getElem?_cons_zero] at r9
  have q9 := R.out.fz 9
  have h9 := H.out.cell 9
  simp only [List.getElem?_toArray, List.getElem?_cons_succ, List.getElem?_cons_zero] at h9
  have g9 := H.out.fz 9
  have r10 := R.out.cell 10
  simp only [List.getElem?_toArray, List.getElem?_cons_succ, List.getElem?_cons_zero] at r10
  have q10 := R.out.fz 10
  have h10 := H.out.cell 10
  simp only [List.getElem?_toArray, List.getElem?_cons_succ, List.getElem?_cons_zero] at h10
  have g10 := H.out.fz 10
  go_wp2_with fail
  refine (C4.out _).mono ?_
  rintro e w4 ⟨rfl, hbk⟩
  replace R := Lib.hid ((R.out.up (n := w.heap.size + 1) (((((Below.refl _ _)).setCell (p := ⟨w.heap.size + 1, 5, none⟩) (Nat.le_refl _) (.string d))).setCell (p := ⟨w.heap.size + 1, 6, none⟩) (Nat.le_refl _) (.string c)) (Nat.lt_succ_self _)).keep hbk)
  have HBk2 := ((HB.out).setCell (p := ⟨w.heap.size + 1, 5, none⟩) (by simp) (.string d)).setCell (p := ⟨w.heap.size + 1, 6, none⟩) (by simp) (.string c)
  replace HB := Lib.hid (HBk2.trans (hbk.mono HBk2.size))
  replace H := Lib.hid ((((H.out).set5 (.string d)).set6 (.string c)).keep hbk)
  clear HBk2 hbk
  clear r0 q0 h0 g0 r1 q1 h1 g1 r2 q2 h2 g2 r3 q3 h3 g3 r4 q4 h4 g4 r5 q5 h5 g5 r6 q6 h6 g6 r7 q7 h7 g7 r8 q8 h8 g8 r9 q9 h9 g9 r10 q10 h10 g10
  have r0 := R.out.cell 0
  simp only [List.getElem?_toArray, List.getElem?_cons_succ, List.getElem?_cons_zero] at r0
  have q0 := R.out.fz 0
  have h0 := H.out.cell 0
  simp only [List.getElem?_toArray, List.getElem?_cons_succ, List.getElem?_cons_zero] at h0
  have g0 := H.out.fz 0
  have r1 := R.out.cell 1
  simp only [List.getElem?_toArray, List.getElem?_cons_succ, List.getElem?_cons_zero] at r1
  have q1 := R.out.fz 1
  have h1 := H.out.cell 1
  simp only [List.getElem?_toArray, List.getElem?_cons_succ, List.getElem?_cons_zero] at h1
  have g1 := H.out.fz 1
  have r2 := R.out.cell 2
  simp only [List.getElem?_toArray, List.getElem?_cons_succ, List.getElem?_cons_zero] at r2
  have q2 := R.out.fz 2
  have h2 := H.out.cell 2
  simp only [List.getElem?_toArray, List.getElem?_cons_succ, List.getElem?_cons_zero] at h2
  have g2 := H.out.fz 2
  have r3 := R.out.cell 3
  simp only [List.getElem?_toArray, List.getElem?_cons_succ, List.getElem?_cons_zero] at r3
  have q3 := R.out.fz 3
  have h3 := H.out.cell 3
  simp only [List.getElem?_toArray, List.getElem?_cons_succ, List.getElem?_cons_zero] at h3
  have g3 := H.out.fz 3
  have r4 := R.out.cell 4
  simp only [List.getElem?_toArray, List.getElem?_cons_succ, List.getElem?_cons_zero] at r4
  have q4 := R.out.fz 4
  have h4 := H.out.cell 4
  simp only [List.getElem?_toArray, List.getElem?_cons_succ, List.getElem?_cons_zero] at h4
  have g4 := H.out.fz 4
  have r5 := R.out.cell 5
  simp only [List.getElem?_toArray, List.getElem?_cons_succ, List.getElem?_cons_zero] at r5
  have q5 := R.out.fz 5
  have h5 := H.out.cell 5
  simp only [List.getElem?_toArray, List.getElem?_cons_succ, List.getElem?_cons_zero] at h5
  have g5 := H.out.fz 5
  have r6 := R.out.cell 6
  simp only [List.getElem?_toArray, List.getElem?_cons_succ, List.getElem?_cons_zero] at r6
  have q6 := R.out.fz 6
  have h6 := H.out.cell 6
  simp only [List.getElem?_toArray, List.getElem?_cons_succ, List.getElem?_cons_zero] at h6
  have g6 := H.out.fz 6
  have r7 := R.out.cell 7
  simp only [List.getElem?_toArray, List.getElem?_cons_succ, List.getElem?_cons_zero] at r7
  have q7 := R.out.fz 7
  have h7 := H.out.cell 7
  simp only [List.getElem?_toArray, List.getElem?_cons_succ, List.getElem?_cons_zero] at h7
  have g7 := H.out.fz 7
  have r8 := R.out.cell 8
  simp only [List.getElem?_toArray, List.getElem?_cons_succ, List.getElem?_cons_zero] at r8
  have q8 := R.out.fz 8
  have h8 := H.out.cell 8
  simp only [List.getElem?_toArray, List.getElem?_cons_succ, List.getElem?_cons_zero] at h8
  have g8 := H.out.fz 8
  have r9 := R.out.cell 9
  simp only [List.getElem?_toArray, List.getElem?_cons_succ, List.getElem?_cons_zero] at r9
  have q9 := R.out.fz 9
  have h9 := H.out.cell 9
  simp only [List.getElem?_toArray, List.getElem?_cons_succ, List.getElem?_cons_zero] at h9
  have g9 := H.out.fz 9
  have r10 := R.out.cell 10
  simp only [List.getElem?_toArray, List.getElem?_cons_succ, List.getElem?_cons_zero] at r10
  have q10 := R.out.fz 10
  have h10 := H.out.cell 10
  simp only [List.getElem?_toArray, List.getElem?_cons_succ, List.getElem?_cons_zero] at h10
  have g10 := H.out.fz 10
  go_wp2
  all_goals refine bodyPost_ret (v := .tuple #[.agg #[.bool false, .bool false, .bool false, .int .i64 0, .int .u32 0, .string ⟨#[]⟩, .string ⟨#[]⟩, .string ⟨#[]⟩, .int .u64 0, .int .i64 0, .int .u64 0], .string ⟨#[]⟩, .bool false]) (by simp [results, Tryd.results28, go_sem, *]) rfl ⟨rfl, ?_⟩
  all_goals repeat (first | with_reducible exact HB.out | refine Below.setCell ?_ (by simp) _ | refine below_drew ?_)
set_option maxHeartbeats 4000000 in
theorem ahead_ok0 (s : ByteArray) (v s0 d s1 c s2 s3 tk s4 r : ByteArray) (b : UInt8) (ve : Nat) (hp : 0 < s.size) (hl : s.size ≤ 9223372036854775807) (I0 : s[0]'hp = b) (hb0 : (0 : Int) ≤ ((b.toNat : Nat) : Int)) (hb : ((b.toNat : Nat) : Int) ≤ 255) (h64 : (((b.toNat : Nat) : Int) / 64 % 2 == 0) = false) (h128 : decide (128 ≤ ((b.toNat : Nat) : Int)) = true) (hve : ((ve : Nat) : Int) ≤ 4294967295) (hf : ¬ ((s.size : Nat) : Int) < 5) (hf5 : 5 ≤ s.size) (ty : Int) (hty0 : 0 ≤ ty) (hty : ty ≤ 2) (Ety : ((b.toNat : Nat) : Int) / 16 % 4 = ty) (h3 : (ty == 3) = false) (X1 : s.extract 1 5 = v) (X2 : s.extract 5 s.size = s0) (CB : Hid (∀ w : World, Calls Tryd.prog 29 #[.string v] w fun e w' => e = .returned (.int .u64 (ve : Nat)) ∧ w = w')) (C1 : Hid (∀ w : World, Calls Tryd.prog 49 #[.string s0] w fun e w' => e = .returned (.tuple #[.string d, .string s1, .bool true]) ∧ Below w.heap.size w w')) (C2 : Hid (∀ w : World, Calls Tryd.prog 49 #[.string s1] w fun e w' => e = .returned (.tuple #[.string c, .string s2, .bool true]) ∧ Below w.heap.size w w')) (e0 : (ty == 0) = true) (n : Nat) (C3 : Hid (∀ w : World, Calls Tryd.prog 50 #[.string s2] w fun e w' => e = .returned (.tuple #[.int .u64 (n : Nat), .string s3, .int .i64 0]) ∧ Below w.heap.size w w')) (hs3 : s3.size ≤ 9223372036854775807) (hn4 : n < 4611686018427387904) (hn : ¬ (1000 : Int) < ((n : Nat) : Int)) (hn2 : ¬ ((s3.size : Nat) : Int) < ((n : Nat) : Int)) (hn3 : n ≤ s3.size) (X3 : s3.extract 0 n = tk) (X4 : s3.extract n s3.size = s4) (le : Nat) (C4 : Hid (∀ w : World, Calls Tryd.prog 50 #[.string s4] w fun e w' => e = .returned (.tuple #[.int .u64 (le : Nat), .string r, .int .i64 0]) ∧ Below w.heap.size w w')) (hle : le < 4611686018427387904) (w : World) :
    Calls Tryd.prog 28 #[.string s] w fun e w' => e = .returned (.tuple #[.agg #[.bool true, .bool false, .bool false, .int .i64 ty, .int .u32 (ve : Nat), .string d, .string c, .string tk, .int .u64 (le : Nat), .int .i64 0, .int .u64 0], .string r, .bool true]) ∧ Below w.heap.size w w' := by
  have he := empty_no s hp
  go_enter Tryd.func28, Tryd.ntmps28
  go_wp2_with fail
  refine (CB.out _).mono ?_
  rintro e w1 ⟨rfl, rfl⟩
  go_wp2_with fail
  refine (C1.out _).mono ?_
  rintro e w1 ⟨rfl, hb1⟩
  have R := Lib.hid (((RBk.made w (.bool false) (.bool false) (.bool false) (.int .i64 0) (.int .u32 0) (.string ⟨#[]⟩) (.string ⟨#[]⟩) (.string ⟨#[]⟩) (.int .u64 0) (.int .i64 0) (.int .u64 0)).up (n := w.heap.size + 1) ((Below.refl _ _).alloc (by simp) (.cells #[.bool true, .bool false, .bool false, .int .i64 ty, .int .u32 (ve : Nat), .string ⟨#[]⟩, .string ⟨#[]⟩, .string ⟨#[]⟩, .int .u64 0, .int .i64 0, .int .u64 0] 28)) (Nat.lt_succ_self _)).up hb1 (by simp; omega))
  have H := Lib.hid ((RBk.made2 w (.cells #[.bool false, .bool false, .bool false, .int .i64 0, .int .u32 0, .string ⟨#[]⟩, .string ⟨#[]⟩, .string ⟨#[]⟩, .int .u64 0, .int .i64 0, .int .u64 0] 28) (.bool true) (.bool false) (.bool false) (.int .i64 ty) (.int .u32 (ve : Nat)) (.string ⟨#[]⟩) (.string ⟨#[]⟩) (.string ⟨#[]⟩) (.int .u64 0) (.int .i64 0) (.int .u64 0)).keep hb1)
  have HB := Lib.hid ((((Below.refl w.heap.size w).alloc (Nat.le_refl _) (.cells #[.bool false, .bool false, .bool false, .int .i64 0, .int .u32 0, .string ⟨#[]⟩, .string ⟨#[]⟩, .string ⟨#[]⟩, .int .u64 0, .int .i64 0, .int .u64 0] 28)).alloc (by simp) (.cells #[.bool true, .bool false, .bool false, .int .i64 ty, .int .u32 (ve : Nat), .string ⟨#[]⟩, .string ⟨#[]⟩, .string ⟨#[]⟩, .int .u64 0, .int .i64 0, .int .u64 0] 28)).trans (hb1.mono (by simp; omega)))
  clear hb1
  have r0 := R.out.cell 0
  simp only [List.getElem?_toArray, List.getElem?_cons_succ, List.getElem?_cons_zero] at r0
  have q0 := R.out.fz 0
  have h0 := H.out.cell 0
  simp only [List.getElem?_toArray, List.getElem?_cons_succ, List.getElem?_cons_zero] at h0
  have g0 := H.out.fz 0
  have r1 := R.out.cell 1
  simp only [List.getElem?_toArray, List.getElem?_cons_succ, List.getElem?_cons_zero] at r1
  have q1 := R.out.fz 1
  have h1 := H.out.cell 1
  simp only [List.getElem?_toArray, List.getElem?_cons_succ, List.getElem?_cons_zero] at h1
  have g1 := H.out.fz 1
  have r2 := R.out.cell 2
  simp only [List.getElem?_toArray, List.getElem?_cons_succ, List.getElem?_cons_zero] at r2
  have q2 := R.out.fz 2
  have h2 := H.out.cell 2
  simp only [List.getElem?_toArray, List.getElem?_cons_succ, List.getElem?_cons_zero] at h2
  have g2 := H.out.fz 2
  have r3 := R.out.cell 3
  simp only [List.getElem?_toArray, List.getElem?_cons_succ, List.getElem?_cons_zero] at r3
  have q3 := R.out.fz 3
  have h3 := H.out.cell 3
  simp only [List.getElem?_toArray, List.getElem?_cons_succ, List.getElem?_cons_zero] at h3
  have g3 := H.out.fz 3
  have r4 := R.out.cell 4
  simp only [List.getElem?_toArray, List.getElem?_cons_succ, List.getElem?_cons_zero] at r4
  have q4 := R.out.fz 4
  have h4 := H.out.cell 4
  simp only [List.getElem?_toArray, List.getElem?_cons_succ, List.getElem?_cons_zero] at h4
  have g4 := H.out.fz 4
  have r5 := R.out.cell 5
  simp only [List.getElem?_toArray, List.getElem?_cons_succ, List.getElem?_cons_zero] at r5
  have q5 := R.out.fz 5
  have h5 := H.out.cell 5
  simp only [List.getElem?_toArray, List.getElem?_cons_succ, List.getElem?_cons_zero] at h5
  have g5 := H.out.fz 5
  have r6 := R.out.cell 6
  simp only [List.getElem?_toArray, List.getElem?_cons_succ, List.getElem?_cons_zero] at r6
  have q6 := R.out.fz 6
  have h6 := H.out.cell 6
  simp only [List.getElem?_toArray, List.getElem?_cons_succ, List.getElem?_cons_zero] at h6
  have g6 := H.out.fz 6
  have r7 := R.out.cell 7
  simp only [List.getElem?_toArray, List.getElem?_cons_succ, List.getElem?_cons_zero] at r7
  have q7 := R.out.fz 7
  have h7 := H.out.cell 7
  simp only [List.getElem?_toArray, List.getElem?_cons_succ, List.getElem?_cons_zero] at h7
  have g7 := H.out.fz 7
  have r8 := R.out.cell 8
  simp only [List.getElem?_toArray, List.getElem?_cons_succ, List.getElem?_cons_zero] at r8
  have q8 := R.out.fz 8
  have h8 := H.out.cell 8
  simp only [List.getElem?_toArray, List.getElem?_cons_succ, List.getElem?_cons_zero] at h8
  have g8 := H.out.fz 8
  have r9 := R.out.cell 9
  simp only [List.getElem?_toArray, List.getElem?_cons_succ, List.getElem?_cons_zero] at r9
  have q9 := R.out.fz 9
  have h9 := H.out.cell 9
  simp only [List.getElem?_toArray, List.getElem?_cons_succ, List.getElem?_cons_zero] at h9
  have g9 := H.out.fz 9
  have r10 := R.out.cell 10
  simp only [List.getElem?_toArray, List.getElem?_cons_succ, List.getElem?_cons_zero] at r10
  have q10 := R.out.fz 10
  have h10 := H.out.cell 10
  simp only [List.getElem?_toArray, List.getElem?_cons_succ, List.getElem?_cons_zero] at h10
  have g10 := H.out.fz 10
  go_wp2_with fail
  refine (C2.out _).mono ?_
  rintro e w2 ⟨rfl, hbk⟩
  replace R := Lib.hid ((R.out.up (n := w.heap.size + 1) (Below.refl _ _) (Nat.lt_succ_self _)).keep hbk)
  have HBk2 := HB.out
  replace HB := Lib.hid (HBk2.trans (hbk.mono HBk2.size))
  replace H := Lib.hid ((H.out).keep hbk)
  clear HBk2 hbk
  clear r0 q0 h0 g0 r1 q1 h1 g1 r2 q2 h2 g2 r3 q3 h3 g3 r4 q4 h4 g4 r5 q5 h5 g5 r6 q6 h6 g6 r7 q7 h7 g7 r8 q8 h8 g8 r9 q9 h9 g9 r10 q10 h10 g10
  have r0 := R.out.cell 0
  simp only [List.getElem?_toArray, List.getElem?_cons_succ, List.getElem?_cons_zero] at r0
  have q0 := R.out.fz 0
  have h0 := H.out.cell 0
  simp only [List.getElem?_toArray, List.getElem?_cons_succ, List.getElem?_cons_zero] at h0
  have g0 := H.out.fz 0
  have r1 := R.out.cell 1
  simp only [List.getElem?_toArray, List.getElem?_cons_succ, List.getElem?_cons_zero] at r1
  have q1 := R.out.fz 1
  have h1 := H.out.cell 1
  simp only [List.getElem?_toArray, List.getElem?_cons_succ, List.getElem?_cons_zero] at h1
  have g1 := H.out.fz 1
  have r2 := R.out.cell 2
  simp only [List.getElem?_toArray, List.getElem?_cons_succ, List.getElem?_cons_zero] at r2
  have q2 := R.out.fz 2
  have h2 := H.out.cell 2
  simp only [List.getElem?_toArray, List.getElem?_cons_succ, List.getElem?_cons_zero] at h2
  have g2 := H.out.fz 2
  have r3 := R.out.cell 3
  simp only [List.getElem?_toArray, List.getElem?_cons_succ, List.getElem?_cons_zero] at r3
  have q3 := R.out.fz 3
  have h3 := H.out.cell 3
  simp only [List.getElem?_toArray, List.getElem?_cons_succ, List.getElem?_cons_zero] at h3
  have g3 := H.out.fz 3
  have r4 := R.out.cell 4
  simp only [List.getElem?_toArray, List.getElem?_cons_succ, List.getElem?_cons_zero] at r4
  have q4 := R.out.fz 4
  have h4 := H.out.cell 4
  simp only [List.getElem?_toArray, List.getElem?_cons_succ, List.getElem?_cons_zero] at h4
  have g4 := H.out.fz 4
  have r5 := R.out.cell 5
  simp only [List.getElem?_toArray, List.getElem?_cons_succ, List.getElem?_cons_zero] at r5
  have q5 := R.out.fz 5
  have h5 := H.out.cell 5
  simp only [List.getElem?_toArray, List.getElem?_cons_succ, List.getElem?_cons_zero] at h5
  have g5 := H.out.fz 5
  have r6 := R.out.cell 6
  simp only [List.getElem?_toArray, List.getElem?_cons_succ, List.getElem?_cons_zero] at r6
  have q6 := R.out.fz 6
  have h6 := H.out.cell 6
  simp only [List.getElem?_toArray, List.getElem?_cons_succ, List.getElem?_cons_zero] at h6
  have g6 := H.out.fz 6
  have r7 := R.out.cell 7
  simp only [List.getElem?_toArray, List.getElem?_cons_succ, List.getElem?_cons_zero] at r7
  have q7 := R.out.fz 7
  have h7 := H.out.cell 7
  simp only [List.getElem?_toArray, List.getElem?_cons_succ, List.getElem?_cons_zero] at h7
  have g7 := H.out.fz 7
  have r8 := R.out.cell 8
  simp only [List.getElem?_toArray, List.getElem?_cons_succ, List.getElem?_cons_zero] at r8
  have q8 := R.out.fz 8
  have h8 := H.out.cell 8
  simp only [List.getElem?_toArray, List.getElem?_cons_succ, List.getElem?_cons_zero] at h8
  have g8 := H.out.fz 8
  have r9 := R.out.cell 9
  simp only [List.getElem?_toArray, List.getElem?_cons_succ, List.getElem?_cons_zero] at r9
  have q9 := R.out.fz 9
  have h9 := H.out.cell 9
  simp only [List.getElem?_toArray, List.getElem?_cons_succ, List.getElem?_cons_zero] at h9
  have g9 := H.out.fz 9
  have r10 := R.out.cell 10
  simp only [List.getElem?_toArray, List.getElem?_cons_succ, List.getElem?_cons_zero] at r10
  have q10 := R.out.fz 10
  have h10 := H.out.cell 10
  simp only [List.getElem?_toArray, List.getElem?_cons_succ, List.getElem?_cons_zero] at h10
  have g10 := H.out.fz 10
  go_wp2_with fail
  refine (C3.out _).mono ?_
  rintro e w3 ⟨rfl, hbk⟩
  replace R := Lib.hid ((R.out.up (n := w.heap.size + 1) (((((Below.refl _ _)).setCell (p := ⟨w.heap.size + 1, 5, none⟩) (Nat.le_refl _) (.string d))).setCell (p := ⟨w.heap.size + 1, 6, none⟩) (Nat.le_refl _) (.string c)) (Nat.lt_succ_self _)).keep hbk)
  have HBk2 := ((HB.out).setCell (p := ⟨w.heap.size + 1, 5, none⟩) (by simp) (.string d)).setCell (p := ⟨w.heap.size + 1, 6, none⟩) (by simp) (.string c)
  replace HB := Lib.hid (HBk2.trans (hbk.mono HBk2.size))
  replace H := Lib.hid ((((H.out).set5 (.string d)).set6 (.string c)).keep hbk)
  clear HBk2 hbk
  clear r0 q0 h0 g0 r1 q1 h1 g1 r2 q2 h2 g2 r3 q3 h3 g3 r4 q4 h4 g4 r5 q5 h5 g5 r6 q6 h6 g6 r7 q7 h7 g7 r8 q8 h8 g8 r9 q9 h9 g9 r10 q10 h10 g10
  have r0 := R.out.cell 0
  simp only [List.getElem?_toArray, List.getElem?_cons_succ, List.getElem?_cons_zero] at r0
  have q0 := R.out.fz 0
  have h0 := H.out.cell 0
  simp only [List.getElem?_toArray, List.getElem?_cons_succ, List.getElem?_cons_zero] at h0
  have g0 := H.out.fz 0
  have r1 := R.out.cell 1
  simp only [List.getElem?_toArray, List.getElem?_cons_succ, List.getElem?_cons_zero] at r1
  have q1 := R.out.fz 1
  have h1 := H.out.cell 1
  simp only [List.getElem?_toArray, List.getElem?_cons_succ, List.getElem?_cons_zero] at h1
  have g1 := H.out.fz 1
  have r2 := R.out.cell 2
  simp only [List.getElem?_toArray, List.getElem?_cons_succ, List.getElem?_cons_zero] at r2
  have q2 := R.out.fz 2
  have h2 := H.out.cell 2
  simp only [List.getElem?_toArray, List.getElem?_cons_succ, List.getElem?_cons_zero] at h2
  have g2 := H.out.fz 2
  have r3 := R.out.cell 3
  simp only [List.getElem?_toArray, List.getElem?_cons_succ, List.getElem?_cons_zero] at r3
  have q3 := R.out.fz 3
  have h3 := H.out.cell 3
  simp only [List.getElem?_toArray, List.getElem?_cons_succ, List.getElem?_cons_zero] at h3
  have g3 := H.out.fz 3
  have r4 := R.out.cell 4
  simp only [List.getElem?_toArray, List.getElem?_cons_succ, List.getElem?_cons_zero] at r4
  have q4 := R.out.fz 4
  have h4 := H.out.cell 4
  simp only [List.getElem?_toArray, List.getElem?_cons_succ, List.getElem?_cons_zero] at h4
  have g4 := H.out.fz 4
  have r5 := R.out.cell 5
  simp only [List.getElem?_toArray, List.getElem?_cons_succ, List.getElem?_cons_zero] at r5
  have q5 := R.out.fz 5
  have h5 := H.out.cell 5
  simp only [List.getElem?_toArray, List.getElem?_cons_succ, List.getElem?_cons_zero] at h5
  have g5 := H.out.fz 5
  have r6 := R.out.cell 6
  simp only [List.getElem?_toArray, List.getElem?_cons_succ, List.getElem?_cons_zero] at r6
  have q6 := R.out.fz 6
  have h6 := H.out.cell 6
  simp only [List.getElem?_toArray, List.getElem?_cons_succ, List.getElem?_cons_zero] at h6
  have g6 := H.out.fz 6
  have r7 := R.out.cell 7
  simp only [List.getElem?_toArray, List.getElem?_cons_succ, List.getElem?_cons_zero] at r7
  have q7 := R.out.fz 7
  have h7 := H.out.cell 7
  simp only [List.getElem?_toArray, List.getElem?_cons_succ, List.getElem?_cons_zero] at h7
  have g7 := H.out.fz 7
  have r8 := R.out.cell 8
  simp only [List.getElem?_toArray, List.getElem?_cons_succ, List.getElem?_cons_zero] at r8
  have q8 := R.out.fz 8
  have h8 := H.out.cell 8
  simp only [List.getElem?_toArray, List.getElem?_cons_succ, List.getElem?_cons_zero] at h8
  have g8 := H.out.fz 8
  have r9 := R.out.cell 9
  simp only [List.getElem?_toArray, List.getElem?_cons_succ, List.getElem?_cons_zero] at r9
  have q9 := R.out.fz 9
  have h9 := H.out.cell 9
  simp only [List.getElem?_toArray, List.getElem?_cons_succ, List.getElem?_cons_zero] at h9
  have g9 := H.out.fz 9
  have r10 := R.out.cell 10
  simp only [List.getElem?_toArray, List.getElem?_cons_succ, List.getElem?_cons_zero] at r10
  have q10 := R.out.fz 10
  have h10 := H.out.cell 10
  simp only [List.getElem?_toArray, List.getElem?_cons_succ, List.getElem?_cons_zero] at h10
  have g10 := H.out.fz 10
  go_wp2_with fail
  refine (C4.out _).mono ?_
  rintro e w4 ⟨rfl, hbk⟩
  replace R := Lib.hid ((R.out.up (n := w.heap.size + 1) (((Below.refl _ _)).setCell (p := ⟨w.heap.size + 1, 7, none⟩) (Nat.le_refl _) (.string tk)) (Nat.lt_succ_self _)).keep hbk)
  have HBk2 := (HB.out).setCell (p := ⟨w.heap.size + 1, 7, none⟩) (by simp) (.string tk)
  replace HB := Lib.hid (HBk2.trans (hbk.mono HBk2.size))
  replace H := Lib.hid (((H.out).set7 (.string tk)).keep hbk)
  clear HBk2 hbk
  clear r0 q0 h0 g0 r1 q1 h1 g1 r2 q2 h2 g2 r3 q3 h3 g3 r4 q4 h4 g4 r5 q5 h5 g5 r6 q6 h6 g6 r7 q7 h7 g7 r8 q8 h8 g8 r9 q9 h9 g9 r10 q10 h10 g10
  have r0 := R.out.cell 0
  simp only [List.getElem?_toArray, List.getElem?_cons_succ, List.getElem?_cons_zero] at r0
  have q0 := R.out.fz 0
  have h0 := H.out.cell 0
  simp only [List.getElem?_toArray, List.getElem?_cons_succ, List.getElem?_cons_zero] at h0
  have g0 := H.out.fz 0
  have r1 := R.out.cell 1
  simp only [List.getElem?_toArray, List.getElem?_cons_succ, List.getElem?_cons_zero] at r1
  have q1 := R.out.fz 1
  have h1 := H.out.cell 1
  simp only [List.getElem?_toArray, List.getElem?_cons_succ, List.getElem?_cons_zero] at h1
  have g1 := H.out.fz 1
  have r2 := R.out.cell 2
  simp only [List.getElem?_toArray, List.getElem?_cons_succ, List.getElem?_cons_zero] at r2
  have q2 := R.out.fz 2
  have h2 := H.out.cell 2
  simp only [List.getElem?_toArray, List.getElem?_cons_succ, List.getElem?_cons_zero] at h2
  have g2 := H.out.fz 2
  have r3 := R.out.cell 3
  simp only [List.getElem?_toArray, List.getElem?_cons_succ, List.getElem?_cons_zero] at r3
  have q3 := R.out.fz 3
  have h3 := H.out.cell 3
  simp only [List.getElem?_toArray, List.getElem?_cons_succ, List.getElem?_cons_zero] at h3
  have g3 := H.out.fz 3
  have r4 := R.out.cell 4
  simp only [List.getElem?_toArray, List.getElem?_cons_succ, List.getElem?_cons_zero] at r4
  have q4 := R.out.fz 4
  have h4 := H.out.cell 4
  simp only [List.getElem?_toArray, List.getElem?_cons_succ, List.getElem?_cons_zero] at h4
  have g4 := H.out.fz 4
  have r5 := R.out.cell 5
  simp only [List.getElem?_toArray, List.getElem?_cons_succ, List.getElem?_cons_zero] at r5
  have q5 := R.out.fz 5
  have h5 := H.out.cell 5
  simp only [List.getElem?_toArray, List.getElem?_cons_succ, List.getElem?_cons_zero] at h5
  have g5 := H.out.fz 5
  have r6 := R.out.cell 6
  simp only [List.getElem?_toArray, List.getElem?_cons_succ, List.getElem?_cons_zero] at r6
  have q6 := R.out.fz 6
  have h6 := H.out.cell 6
  simp only [List.getElem?_toArray, List.getElem?_cons_succ, List.getElem?_cons_zero] at h6
  have g6 := H.out.fz 6
  have r7 := R.out.cell 7
  simp only [List.getElem?_toArray, List.getElem?_cons_succ, List.getElem?_cons_zero] at r7
  have q7 := R.out.fz 7
  have h7 := H.out.cell 7
  simp only [List.getElem?_toArray, List.getElem?_cons_succ, List.getElem?_cons_zero] at h7
  have g7 := H.out.fz 7
  have r8 := R.out.cell 8
  simp only [List.getElem?_toArray, List.getElem?_cons_succ, List.getElem?_cons_zero] at r8
  have q8 := R.out.fz 8
  have h8 := H.out.cell 8
  simp only [List.getElem?_toArray, List.getElem?_cons_succ, List.getElem?_cons_zero] at h8
  have g8 := H.out.fz 8
  have r9 := R.out.cell 9
  simp only [List.getElem?_toArray, List.getElem?_cons_succ, List.getElem?_cons_zero] at r9
  have q9 := R.out.fz 9
  have h9 := H.out.cell 9
  simp only [List.getElem?_toArray, List.getElem?_cons_succ, List.getElem?_cons_zero] at h9
  have g9 := H.out.fz 9
  have r10 := R.out.cell 10
  simp only [List.getElem?_toArray, List.getElem?_cons_succ, List.getElem?_cons_zero] at r10
  have q10 := R.out.fz 10
  have h10 := H.out.cell 10
  simp only [List.getElem?_toArray, List.getElem?_cons_succ, List.getElem?_cons_zero] at h10
  have g10 := H.out.fz 10
  go_wp2
  all_goals refine bodyPost_ret (v := .tuple #[.agg #[.bool true, .bool false, .bool false, .int .i64 ty, .int .u32 (ve : Nat), .string d, .string c, .string tk, .int .u64 (le : Nat), .int .i64 0, .int .u64 0], .string r, .bool true]) (by simp [results, Tryd.results28, go_sem, *]) rfl ⟨rfl, ?_⟩
  all_goals repeat (first | with_reducible exact HB.out | refine Below.setCell ?_ (by simp) _ | refine below_drew ?_)
set_option maxHeartbeats 4000000 in
theorem ahead_ok1 (s : ByteArray) (v s0 d s1 c s2 r : ByteArray) (b : UInt8) (ve : Nat) (hp : 0 < s.size) (hl : s.size ≤ 9223372036854775807) (I0 : s[0]'hp = b) (hb0 : (0 : Int) ≤ ((b.toNat : Nat) : Int)) (hb : ((b.toNat : Nat) : Int) ≤ 255) (h64 : (((b.toNat : Nat) : Int) / 64 % 2 == 0) = false) (h128 : decide (128 ≤ ((b.toNat : Nat) : Int)) = true) (hve : ((ve : Nat) : Int) ≤ 4294967295) (hf : ¬ ((s.size : Nat) : Int) < 5) (hf5 : 5 ≤ s.size) (ty : Int) (hty0 : 0 ≤ ty) (hty : ty ≤ 2) (Ety : ((b.toNat : Nat) : Int) / 16 % 4 = ty) (h3 : (ty == 3) = false) (X1 : s.extract 1 5 = v) (X2 : s.extract 5 s.size = s0) (CB : Hid (∀ w : World, Calls Tryd.prog 29 #[.string v] w fun e w' => e = .returned (.int .u64 (ve : Nat)) ∧ w = w')) (C1 : Hid (∀ w : World, Calls Tryd.prog 49 #[.string s0] w fun e w' => e = .returned (.tuple #[.string d, .string s1, .bool true]) ∧ Below w.heap.size w w')) (C2 : Hid (∀ w : World, Calls Tryd.prog 49 #[.string s1] w fun e w' => e = .returned (.tuple #[.string c, .string s2, .bool true]) ∧ Below w.heap.size w w')) (e0 : (ty == 0) = false) (le : Nat) (C4 : Hid (∀ w : World, Calls Tryd.prog 50 #[.string s2] w fun e w' => e = .returned (.tuple #[.int .u64 (le : Nat), .string r, .int .i64 0]) ∧ Below w.heap.size w w')) (hle : le < 4611686018427387904) (w : World) :
    Calls Tryd.prog 28 #[.string s] w fun e w' => e = .returned (.tuple #[.agg #[.bool true, .bool false, .bool false, .int .i64 ty, .int .u32 (ve : Nat), .string d, .string c, .string ⟨#[]⟩, .int .u64 (le : Nat), .int .i64 0, .int .u64 0], .string r, .bool true]) ∧ Below w.heap.size w w' := by
  have he := empty_no s hp
  go_enter Tryd.func28, Tryd.ntmps28
  go_wp2_with fail
  refine (CB.out _).mono ?_
  rintro e w1 ⟨rfl, rfl⟩
  go_wp2_with fail
  refine (C1.out _).mono ?_
  rintro e w1 ⟨rfl, hb1⟩
  have R := Lib.hid (((RBk.made w (.bool false) (.bool false) (.bool false) (.int .i64 0) (.int .u32 0) (.string ⟨#[]⟩) (.string ⟨#[]⟩) (.string ⟨#[]⟩) (.int .u64 0) (.int .i64 0) (.int .u64 0)).up (n := w.heap.size + 1) ((Below.refl _ _).alloc (by simp) (.cells #[.bool true, .bool false, .bool false, .int .i64 ty, .int .u32 (ve : Nat), .string ⟨#[]⟩, .string ⟨#[]⟩, .string ⟨#[]⟩, .int .u64 0, .int .i64 0, .int .u64 0] 28)) (Nat.lt_succ_self _)).up hb1 (by simp; omega))
  have H := Lib.hid ((RBk.made2 w (.cells #[.bool false, .bool false, .bool false, .int .i64 0, .int .u32 0, .string ⟨#[]⟩, .string ⟨#[]⟩, .string ⟨#[]⟩, .int .u64 0, .int .i64 0, .int .u64 0] 28) (.bool true) (.bool false) (.bool false) (.int .i64 ty) (.int .u32 (ve : Nat)) (.string ⟨#[]⟩) (.string ⟨#[]⟩) (.string ⟨#[]⟩) (.int .u64 0) (.int .i64 0) (.int .u64 0)).keep hb1)
  have HB := Lib.hid ((((Below.refl w.heap.size w).alloc (Nat.le_refl _) (.cells #[.bool false, .bool false, .bool false, .int .i64 0, .int .u32 0, .string ⟨#[]⟩, .string ⟨#[]⟩, .string ⟨#[]⟩, .int .u64 0, .int .i64 0, .int .u64 0] 28)).alloc (by simp) (.cells #[.bool true, .bool false, .bool false, .int .i64 ty, .int .u32 (ve : Nat), .string ⟨#[]⟩, .string ⟨#[]⟩, .string ⟨#[]⟩, .int .u64 0, .int .i64 0, .int .u64 0] 28)).trans (hb1.mono (by simp; omega)))
  clear hb1
  have r0 := R.out.cell 0
  simp only [List.getElem?_toArray, List.getElem?_cons_succ, List.getElem?_cons_zero] at r0
  have q0 := R.out.fz 0
  have h0 := H.out.cell 0
  simp only [List.getElem?_toArray, List.getElem?_cons_succ, List.getElem?_cons_zero] at h0
  have g0 := H.out.fz 0
  have r1 := R.out.cell 1
  simp only [List.getElem?_toArray, List.getElem?_cons_succ, List.getElem?_cons_zero] at r1
  have q1 := R.out.fz 1
  have h1 := H.out.cell 1
  simp only [List.getElem?_toArray, List.getElem?_cons_succ, List.getElem?_cons_zero] at h1
  have g1 := H.out.fz 1
  have r2 := R.out.cell 2
  simp only [List.getElem?_toArray, List.getElem?_cons_succ, List.getElem?_cons_zero] at r2
  have q2 := R.out.fz 2
  have h2 := H.out.cell 2
  simp only [List.getElem?_toArray, List.getElem?_cons_succ, List.getElem?_cons_zero] at h2
  have g2 := H.out.fz 2
  have r3 := R.out.cell 3
  simp only [List.getElem?_toArray, List.getElem?_cons_succ, List.getElem?_cons_zero] at r3
  have q3 := R.out.fz 3
  have h3 := H.out.cell 3
  simp only [List.getElem?_toArray, List.getElem?_cons_succ, List.getElem?_cons_zero] at h3
  have g3 := H.out.fz 3
  have r4 := R.out.cell 4
  simp only [List.getElem?_toArray, List.getElem?_cons_succ, List.getElem?_cons_zero] at r4
  have q4 := R.out.fz 4
  have h4 := H.out.cell 4
  simp only [List.getElem?_toArray, List.getElem?_cons_succ, List.getElem?_cons_zero] at h4
  have g4 := H.out.fz 4
  have r5 := R.out.cell 5
  simp only [List.getElem?_toArray, List.getElem?_cons_succ, List.getElem?_cons_zero] at r5
  have q5 := R.out.fz 5
  have h5 := H.out.cell 5
  simp only [List.getElem?_toArray, List.getElem?_cons_succ, List.getElem?_cons_zero] at h5
  have g5 := H.out.fz 5
  have r6 := R.out.cell 6
  simp only [List.getElem?_toArray, List.getElem?_cons_succ, List.getElem?_cons_zero] at r6
  have q6 := R.out.fz 6
  have h6 := H.out.cell 6
  simp only [List.getElem?_toArray, List.getElem?_cons_succ, List.getElem?_cons_zero] at h6
  have g6 := H.out.fz 6
  have r7 := R.out.cell 7
  simp only [List.getElem?_toArray, List.getElem?_cons_succ, List.getElem?_cons_zero] at r7
  have q7 := R.out.fz 7
  have h7 := H.out.cell 7
  simp only [List.getElem?_toArray, List.getElem?_cons_succ, List.getElem?_cons_zero] at h7
  have g7 := H.out.fz 7
  have r8 := R.out.cell 8
  simp only [List.getElem?_toArray, List.getElem?_cons_succ, List.getElem?_cons_zero] at r8
  have q8 := R.out.fz 8
  have h8 := H.out.cell 8
  simp only [List.getElem?_toArray, List.getElem?_cons_succ, List.getElem?_cons_zero] at h8
  have g8 := H.out.fz 8
  have r9 := R.out.cell 9
  simp only [List.getElem?_toArray, List.getElem?_cons_succ, List.getElem?_cons_zero] at r9
  have q9 := R.out.fz 9
  have h9 := H.out.cell 9
  simp only [List.getElem?_toArray, List.getElem?_cons_succ, List.getElem?_cons_zero] at h9
  have g9 := H.out.fz 9
  have r10 := R.out.cell 10
  simp only [List.getElem?_toArray, List.getElem?_cons_succ, List.getElem?_cons_zero] at r10
  have q10 := R.out.fz 10
  have h10 := H.out.cell 10
  simp only [List.getElem?_toArray, List.getElem?_cons_succ, List.getElem?_cons_zero] at h10
  have g10 := H.out.fz 10
  go_wp2_with fail
  refine (C2.out _).mono ?_
  rintro e w2 ⟨rfl, hbk⟩
  replace R := Lib.hid ((R.out.up (n := w.heap.size + 1) (Below.refl _ _) (Nat.lt_succ_self _)).keep hbk)
  have HBk2 := HB.out
  replace HB := Lib.hid (HBk2.trans (hbk.mono HBk2.size))
  replace H := Lib.hid ((H.out).keep hbk)
  clear HBk2 hbk
  clear r0 q0 h0 g0 r1 q1 h1 g1 r2 q2 h2 g2 r3 q3 h3 g3 r4 q4 h4 g4 r5 q5 h5 g5 r6 q6 h6 g6 r7 q7 h7 g7 r8 q8 h8 g8 r9 q9 h9 g9 r10 q10 h10 g10
  have r0 := R.out.cell 0
  simp only [List.getElem?_toArray, List.getElem?_cons_succ, List.getElem?_cons_zero] at r0
  have q0 := R.out.fz 0
  have h0 := H.out.cell 0
  simp only [List.getElem?_toArray, List.getElem?_cons_succ, List.getElem?_cons_zero] at h0
  have g0 := H.out.fz 0
  have r1 := R.out.cell 1
  simp only [List.getElem?_toArray, List.getElem?_cons_succ, List.getElem?_cons_zero] at r1
  have q1 := R.out.fz 1
  have h1 := H.out.cell 1
  simp only [List.getElem?_toArray, List.getElem?_cons_succ, List.getElem?_cons_zero] at h1
  have g1 := H.out.fz 1
  have r2 := R.out.cell 2
  simp only [List.getElem?_toArray, List.getElem?_cons_succ, List.getElem?_cons_zero] at r2
  have q2 := R.out.fz 2
  have h2 := H.out.cell 2
  simp only [List.getElem?_toArray, List.getElem?_cons_succ, List.getElem?_cons_zero] at h2
  have g2 := H.out.fz 2
  have r3 := R.out.cell 3
  simp only [List.getElem?_toArray, List.getElem?_cons_succ, List.getElem?_cons_zero] at r3
  have q3 := R.out.fz 3
  have h3 := H.out.cell 3
  simp only [List.getElem?_toArray, List.getElem?_cons_succ, List.getElem?_cons_zero] at h3
  have g3 := H.out.fz 3
  have r4 := R.out.cell 4
  simp only [List.getElem?_toArray, List.getElem?_cons_succ, List.getElem?_cons_zero] at r4
  have q4 := R.out.fz 4
  have h4 := H.out.cell 4
  simp only [List.getElem?_toArray, List.getElem?_cons_succ, List.getElem?_cons_zero] at h4
  have g4 := H.out.fz 4
  have r5 := R.out.cell 5
  simp only [List.getElem?_toArray, List.getElem?_cons_succ, List.getElem?_cons_zero] at r5
  have q5 := R.out.fz 5
  have h5 := H.out.cell 5
  simp only [List.getElem?_toArray, List.getElem?_cons_succ, List.getElem?_cons_zero] at h5
  have g5 := H.out.fz 5
  have r6 := R.out.cell 6
  simp only [List.getElem?_toArray, List.getElem?_cons_succ, List.getElem?_cons_zero] at r6
  have q6 := R.out.fz 6
  have h6 := H.out.cell 6
  simp only [List.getElem?_toArray, List.getElem?_cons_succ, List.getElem?_cons_zero] at h6
  have g6 := H.out.fz 6
  have r7 := R.out.cell 7
  simp only [List.getElem?_toArray, List.getElem?_cons_succ, List.getElem?_cons_zero] at r7
  have q7 := R.out.fz 7
  have h7 := H.out.cell 7
  simp only [List.getElem?_toArray, List.getElem?_cons_succ, List.getElem?_cons_zero] at h7
  have g7 := H.out.fz 7
  have r8 := R.out.cell 8
  simp only [List.getElem?_toArray, List.getElem?_cons_succ, List.getElem?_cons_zero] at r8
  have q8 := R.out.fz 8
  have h8 := H.out.cell 8
  simp only [List.getElem?_toArray, List.getElem?_cons_succ, List.getElem?_cons_zero] at h8
  have g8 := H.out.fz 8
  have r9 := R.out.cell 9
  simp only [List.getElem?_toArray, List.getElem?_cons_succ, List.getElem?_cons_zero] at r9
  have q9 := R.out.fz 9
  have h9 := H.out.cell 9
  simp only [List.getElem?_toArray, List.getElem?_cons_succ, List.getElem?_cons_zero] at h9
  have g9 := H.out.fz 9
  have r10 := R.out.cell 10
  simp only [List.getElem?_toArray, List.getElem?_cons_succ, List.getElem?_cons_zero] at r10
  have q10 := R.out.fz 10
  have h10 := H.out.cell 10
  simp only [List.getElem?_toArray, List.getElem?_cons_succ, List.getElem?_cons_zero] at h10
  have g10 := H.out.fz 10
  go_wp2_with fail
  refine (C4.out _).mono ?_
  rintro e w4 ⟨rfl, hbk⟩
  replace R := Lib.hid ((R.out.up (n := w.heap.size + 1) (((((Below.refl _ _)).setCell (p := ⟨w.heap.size + 1, 5, none⟩) (Nat.le_refl _) (.string d))).setCell (p := ⟨w.heap.size + 1, 6, none⟩) (Nat.le_refl _) (.string c)) (Nat.lt_succ_self _)).keep hbk)
  have HBk2 := ((HB.out).setCell (p := ⟨w.heap.size + 1, 5, none⟩) (by simp) (.string d)).setCell (p := ⟨w.heap.size + 1, 6, none⟩) (by simp) (.string c)
  replace HB := Lib.hid (HBk2.trans (hbk.mono HBk2.size))
  replace H := Lib.hid ((((H.out).set5 (.string d)).set6 (.string c)).keep hbk)
  clear HBk2 hbk
  clear r0 q0 h0 g0 r1 q1 h1 g1 r2 q2 h2 g2 r3 q3 h3 g3 r4 q4 h4 g4 r5 q5 h5 g5 r6 q6 h6 g6 r7 q7 h7 g7 r8 q8 h8 g8 r9 q9 h9 g9 r10 q10 h10 g10
  have r0 := R.out.cell 0
  simp only [List.getElem?_toArray, List.getElem?_cons_succ, List.getElem?_cons_zero] at r0
  have q0 := R.out.fz 0
  have h0 := H.out.cell 0
  simp only [List.getElem?_toArray, List.getElem?_cons_succ, List.getElem?_cons_zero] at h0
  have g0 := H.out.fz 0
  have r1 := R.out.cell 1
  simp only [List.getElem?_toArray, List.getElem?_cons_succ, List.getElem?_cons_zero] at r1
  have q1 := R.out.fz 1
  have h1 := H.out.cell 1
  simp only [List.getElem?_toArray, List.getElem?_cons_succ, List.getElem?_cons_zero] at h1
  have g1 := H.out.fz 1
  have r2 := R.out.cell 2
  simp only [List.getElem?_toArray, List.getElem?_cons_succ, List.getElem?_cons_zero] at r2
  have q2 := R.out.fz 2
  have h2 := H.out.cell 2
  simp only [List.getElem?_toArray, List.getElem?_cons_succ, List.getElem?_cons_zero] at h2
  have g2 := H.out.fz 2
  have r3 := R.out.cell 3
  simp only [List.getElem?_toArray, List.getElem?_cons_succ, List.getElem?_cons_zero] at r3
  have q3 := R.out.fz 3
  have h3 := H.out.cell 3
  simp only [List.getElem?_toArray, List.getElem?_cons_succ, List.getElem?_cons_zero] at h3
  have g3 := H.out.fz 3
  have r4 := R.out.cell 4
  simp only [List.getElem?_toArray, List.getElem?_cons_succ, List.getElem?_cons_zero] at r4
  have q4 := R.out.fz 4
  have h4 := H.out.cell 4
  simp only [List.getElem?_toArray, List.getElem?_cons_succ, List.getElem?_cons_zero] at h4
  have g4 := H.out.fz 4
  have r5 := R.out.cell 5
  simp only [List.getElem?_toArray, List.getElem?_cons_succ, List.getElem?_cons_zero] at r5
  have q5 := R.out.fz 5
  have h5 := H.out.cell 5
  simp only [List.getElem?_toArray, List.getElem?_cons_succ, List.getElem?_cons_zero] at h5
  have g5 := H.out.fz 5
  have r6 := R.out.cell 6
  simp only [List.getElem?_toArray, List.getElem?_cons_succ, List.getElem?_cons_zero] at r6
  have q6 := R.out.fz 6
  have h6 := H.out.cell 6
  simp only [List.getElem?_toArray, List.getElem?_cons_succ, List.getElem?_cons_zero] at h6
  have g6 := H.out.fz 6
  have r7 := R.out.cell 7
  simp only [List.getElem?_toArray, List.getElem?_cons_succ, List.getElem?_cons_zero] at r7
  have q7 := R.out.fz 7
  have h7 := H.out.cell 7
  simp only [List.getElem?_toArray, List.getElem?_cons_succ, List.getElem?_cons_zero] at h7
  have g7 := H.out.fz 7
  have r8 := R.out.cell 8
  simp only [List.getElem?_toArray, List.getElem?_cons_succ, List.getElem?_cons_zero] at r8
  have q8 := R.out.fz 8
  have h8 := H.out.cell 8
  simp only [List.getElem?_toArray, List.getElem?_cons_succ, List.getElem?_cons_zero] at h8
  have g8 := H.out.fz 8
  have r9 := R.out.cell 9
  simp only [List.getElem?_toArray, List.getElem?_cons_succ, List.getElem?_cons_zero] at r9
  have q9 := R.out.fz 9
  have h9 := H.out.cell 9
  simp only [List.getElem?_toArray, List.getElem?_cons_succ, List.getElem?_cons_zero] at h9
  have g9 := H.out.fz 9
  have r10 := R.out.cell 10
  simp only [List.getElem?_toArray, List.getElem?_cons_succ, List.getElem?_cons_zero] at r10
  have q10 := R.out.fz 10
  have h10 := H.out.cell 10
  simp only [List.getElem?_toArray, List.getElem?_cons_succ, List.getElem?_cons_zero] at h10
  have g10 := H.out.fz 10
  go_wp2
  all_goals refine bodyPost_ret (v := .tuple #[.agg #[.bool true, .bool false, .bool false, .int .i64 ty, .int .u32 (ve : Nat), .string d, .string c, .string ⟨#[]⟩, .int .u64 (le : Nat), .int .i64 0, .int .u64 0], .string r, .bool true]) (by simp [results, Tryd.results28, go_sem, *]) rfl ⟨rfl, ?_⟩
  all_goals repeat (first | with_reducible exact HB.out | refine Below.setCell ?_ (by simp) _ | refine below_drew ?_)
end Go.Proofs.YtabikljimndliaaDoor.Hd
