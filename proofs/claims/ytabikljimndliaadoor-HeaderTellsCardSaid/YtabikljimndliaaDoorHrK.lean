/- The walks of layer 4: the document's May. By tools/gen-header-ref6.py. -/
import Derived.Test.YtabikljimndliaaDoorHrD
import Derived.Test.YtabikljimndliaaDoorHdE2
import Derived.Deep.QuietTactic
import Derived.BigQuiet
namespace Go.Proofs.YtabikljimndliaaDoor.Hd
open Go.RowKit Vm
set_option linter.unusedVariables false
set_option linter.unusedSimpArgs false

theorem window_any (wi : Int) (h1 : 1 ≤ wi) (h4 : wi ≤ 4) (w : World) : Calls Tryd.prog 33 #[.int .i64 wi] w fun e w' => e = .returned (.int .u64 (256 ^ wi.toNat)) ∧ w' = w := by
  have : wi = 1 ∨ wi = 2 ∨ wi = 3 ∨ wi = 4 := by omega
  rcases this with rfl | rfl | rfl | rfl
  · exact (window_1 w).mono fun _ _ ⟨a, b⟩ => ⟨a, b.symm⟩
  · exact (window_2 w).mono fun _ _ ⟨a, b⟩ => ⟨a, b.symm⟩
  · exact (window_3 w).mono fun _ _ ⟨a, b⟩ => ⟨a, b.symm⟩
  · exact (window_4 w).mono fun _ _ ⟨a, b⟩ => ⟨a, b.symm⟩
theorem pow_le (wi : Int) (h1 : 1 ≤ wi) (h4 : wi ≤ 4) : (0 : Int) ≤ 256 ^ wi.toNat ∧ (256 : Int) ^ wi.toNat ≤ 4294967296 := by
  have : wi = 1 ∨ wi = 2 ∨ wi = 3 ∨ wi = 4 := by omega
  rcases this with rfl | rfl | rfl | rfl <;> decide
set_option maxHeartbeats 2000000 in
theorem refMay_w1 (lg sp ph : Bool) (ty ve : Int) (dc sc tk : ByteArray) (le wi nu : Int) (w : World) (wty : -9223372036854775808 ≤ ty) (wty2 : ty ≤ 9223372036854775807) (wve : 0 ≤ ve) (wve2 : ve ≤ 4294967295) (wdc : dc.size ≤ 9223372036854775807) (wsc : sc.size ≤ 9223372036854775807) (wtk : tk.size ≤ 9223372036854775807) (wle : 0 ≤ le) (wle2 : le ≤ 18446744073709551615) (wwi : -9223372036854775808 ≤ wi) (wwi2 : wi ≤ 9223372036854775807) (wnu : 0 ≤ nu) (wnu2 : nu ≤ 18446744073709551615) (h : decide (wi < 1) = true) (h4 : decide (4 < wi) = false) :
    Calls Tryd.prog 14 #[.agg #[.bool lg, .bool sp, .bool ph, .int .i64 ty, .int .u32 ve, .string dc, .string sc, .string tk, .int .u64 le, .int .i64 wi, .int .u64 nu]] w fun e w' => e = .returned (.bool false) ∧ Below w.heap.size w w' := by
  go_enter Tryd.func14, Tryd.ntmps14
  go_wp2_with fail
  go_quiet (fail)
  go_wp2
  go_ret
  exact ⟨rfl, below_drewN ((Below.refl _ _).alloc (Nat.le_refl _) _) _⟩
set_option maxHeartbeats 2000000 in
theorem refMay_w2 (lg sp ph : Bool) (ty ve : Int) (dc sc tk : ByteArray) (le wi nu : Int) (w : World) (wty : -9223372036854775808 ≤ ty) (wty2 : ty ≤ 9223372036854775807) (wve : 0 ≤ ve) (wve2 : ve ≤ 4294967295) (wdc : dc.size ≤ 9223372036854775807) (wsc : sc.size ≤ 9223372036854775807) (wtk : tk.size ≤ 9223372036854775807) (wle : 0 ≤ le) (wle2 : le ≤ 18446744073709551615) (wwi : -9223372036854775808 ≤ wi) (wwi2 : wi ≤ 9223372036854775807) (wnu : 0 ≤ nu) (wnu2 : nu ≤ 18446744073709551615) (h : decide (wi < 1) = false) (h4 : decide (4 < wi) = true) :
    Calls Tryd.prog 14 #[.agg #[.bool lg, .bool sp, .bool ph, .int .i64 ty, .int .u32 ve, .string dc, .string sc, .string tk, .int .u64 le, .int .i64 wi, .int .u64 nu]] w fun e w' => e = .returned (.bool false) ∧ Below w.heap.size w w' := by
  go_enter Tryd.func14, Tryd.ntmps14
  go_wp2_with fail
  go_quiet (fail)
  go_wp2
  go_ret
  exact ⟨rfl, below_drewN ((Below.refl _ _).alloc (Nat.le_refl _) _) _⟩
set_option maxHeartbeats 2000000 in
theorem refMay_w3 (lg sp ph : Bool) (ty ve : Int) (dc sc tk : ByteArray) (le wi nu : Int) (w : World) (wty : -9223372036854775808 ≤ ty) (wty2 : ty ≤ 9223372036854775807) (wve : 0 ≤ ve) (wve2 : ve ≤ 4294967295) (wdc : dc.size ≤ 9223372036854775807) (wsc : sc.size ≤ 9223372036854775807) (wtk : tk.size ≤ 9223372036854775807) (wle : 0 ≤ le) (wle2 : le ≤ 18446744073709551615) (wwi : -9223372036854775808 ≤ wi) (wwi2 : wi ≤ 9223372036854775807) (wnu : 0 ≤ nu) (wnu2 : nu ≤ 18446744073709551615) (P : Int) (hP0 : 0 ≤ P) (hP : P ≤ 4294967296) (h1 : 1 ≤ wi) (h2 : wi ≤ 4) (h : decide (wi < 1) = false) (h4 : decide (4 < wi) = false) (CW : Hid (∀ w : World, Calls Tryd.prog 33 #[.int .i64 wi] w fun e w' => e = .returned (.int .u64 P) ∧ w' = w)) (hn : decide (P ≤ nu) = true) :
    Calls Tryd.prog 14 #[.agg #[.bool lg, .bool sp, .bool ph, .int .i64 ty, .int .u32 ve, .string dc, .string sc, .string tk, .int .u64 le, .int .i64 wi, .int .u64 nu]] w fun e w' => e = .returned (.bool false) ∧ Below w.heap.size w w' := by
  go_enter Tryd.func14, Tryd.ntmps14
  go_wp2_with fail
  go_quiet ((go_at_call 33; exact Calls.quiet_of_same (CW.out _)))
  go_wp2
  go_ret
  exact ⟨rfl, below_drewN ((Below.refl _ _).alloc (Nat.le_refl _) _) _⟩
set_option maxHeartbeats 2000000 in
theorem refMay_s0 (sp ph : Bool) (ty ve : Int) (dc sc tk : ByteArray) (le wi nu : Int) (w : World) (wty : -9223372036854775808 ≤ ty) (wty2 : ty ≤ 9223372036854775807) (wve : 0 ≤ ve) (wve2 : ve ≤ 4294967295) (wdc : dc.size ≤ 9223372036854775807) (wsc : sc.size ≤ 9223372036854775807) (wtk : tk.size ≤ 9223372036854775807) (wle : 0 ≤ le) (wle2 : le ≤ 18446744073709551615) (wwi : -9223372036854775808 ≤ wi) (wwi2 : wi ≤ 9223372036854775807) (wnu : 0 ≤ nu) (wnu2 : nu ≤ 18446744073709551615) (P : Int) (hP0 : 0 ≤ P) (hP : P ≤ 4294967296) (h1 : 1 ≤ wi) (h2 : wi ≤ 4) (h : decide (wi < 1) = false) (h4 : decide (4 < wi) = false) (CW : Hid (∀ w : World, Calls Tryd.prog 33 #[.int .i64 wi] w fun e w' => e = .returned (.int .u64 P) ∧ w' = w)) (hn : decide (P ≤ nu) = false) (c0 : (((dc.size : Nat) : Int) == 8) = false) :
    Calls Tryd.prog 14 #[.agg #[.bool false, .bool sp, .bool ph, .int .i64 ty, .int .u32 ve, .string dc, .string sc, .string tk, .int .u64 le, .int .i64 wi, .int .u64 nu]] w fun e w' => e = .returned (.bool false) ∧ Below w.heap.size w w' := by
  go_enter Tryd.func14, Tryd.ntmps14
  go_wp2_with fail
  go_quiet ((go_at_call 33; exact Calls.quiet_of_same (CW.out _)))
  go_wp2
  go_ret
  exact ⟨rfl, below_drewN ((Below.refl _ _).alloc (Nat.le_refl _) _) _⟩
set_option maxHeartbeats 2000000 in
theorem refMay_s1 (sp ph : Bool) (ty ve : Int) (dc sc tk : ByteArray) (le wi nu : Int) (w : World) (wty : -9223372036854775808 ≤ ty) (wty2 : ty ≤ 9223372036854775807) (wve : 0 ≤ ve) (wve2 : ve ≤ 4294967295) (wdc : dc.size ≤ 9223372036854775807) (wsc : sc.size ≤ 9223372036854775807) (wtk : tk.size ≤ 9223372036854775807) (wle : 0 ≤ le) (wle2 : le ≤ 18446744073709551615) (wwi : -9223372036854775808 ≤ wi) (wwi2 : wi ≤ 9223372036854775807) (wnu : 0 ≤ nu) (wnu2 : nu ≤ 18446744073709551615) (P : Int) (hP0 : 0 ≤ P) (hP : P ≤ 4294967296) (h1 : 1 ≤ wi) (h2 : wi ≤ 4) (h : decide (wi < 1) = false) (h4 : decide (4 < wi) = false) (CW : Hid (∀ w : World, Calls Tryd.prog 33 #[.int .i64 wi] w fun e w' => e = .returned (.int .u64 P) ∧ w' = w)) (hn : decide (P ≤ nu) = false) (c0 : (((dc.size : Nat) : Int) == 8) = true) (c1 : (ty == 0) = false) :
    Calls Tryd.prog 14 #[.agg #[.bool false, .bool sp, .bool ph, .int .i64 ty, .int .u32 ve, .string dc, .string sc, .string tk, .int .u64 le, .int .i64 wi, .int .u64 nu]] w fun e w' => e = .returned (.bool false) ∧ Below w.heap.size w w' := by
  go_enter Tryd.func14, Tryd.ntmps14
  go_wp2_with fail
  go_quiet ((go_at_call 33; exact Calls.quiet_of_same (CW.out _)))
  go_wp2
  go_ret
  exact ⟨rfl, below_drewN ((Below.refl _ _).alloc (Nat.le_refl _) _) _⟩
set_option maxHeartbeats 2000000 in
theorem refMay_s2 (sp ph : Bool) (ty ve : Int) (dc sc tk : ByteArray) (le wi nu : Int) (w : World) (wty : -9223372036854775808 ≤ ty) (wty2 : ty ≤ 9223372036854775807) (wve : 0 ≤ ve) (wve2 : ve ≤ 4294967295) (wdc : dc.size ≤ 9223372036854775807) (wsc : sc.size ≤ 9223372036854775807) (wtk : tk.size ≤ 9223372036854775807) (wle : 0 ≤ le) (wle2 : le ≤ 18446744073709551615) (wwi : -9223372036854775808 ≤ wi) (wwi2 : wi ≤ 9223372036854775807) (wnu : 0 ≤ nu) (wnu2 : nu ≤ 18446744073709551615) (P : Int) (hP0 : 0 ≤ P) (hP : P ≤ 4294967296) (h1 : 1 ≤ wi) (h2 : wi ≤ 4) (h : decide (wi < 1) = false) (h4 : decide (4 < wi) = false) (CW : Hid (∀ w : World, Calls Tryd.prog 33 #[.int .i64 wi] w fun e w' => e = .returned (.int .u64 P) ∧ w' = w)) (hn : decide (P ≤ nu) = false) (c0 : (((dc.size : Nat) : Int) == 8) = true) (c1 : (ty == 0) = true) (c2 : (ve == 0) = false) :
    Calls Tryd.prog 14 #[.agg #[.bool false, .bool sp, .bool ph, .int .i64 ty, .int .u32 ve, .string dc, .string sc, .string tk, .int .u64 le, .int .i64 wi, .int .u64 nu]] w fun e w' => e = .returned (.bool false) ∧ Below w.heap.size w w' := by
  go_enter Tryd.func14, Tryd.ntmps14
  go_wp2_with fail
  go_quiet ((go_at_call 33; exact Calls.quiet_of_same (CW.out _)))
  go_wp2
  go_ret
  exact ⟨rfl, below_drewN ((Below.refl _ _).alloc (Nat.le_refl _) _) _⟩
set_option maxHeartbeats 2000000 in
theorem refMay_s3 (sp ph : Bool) (ty ve : Int) (dc sc tk : ByteArray) (le wi nu : Int) (w : World) (wty : -9223372036854775808 ≤ ty) (wty2 : ty ≤ 9223372036854775807) (wve : 0 ≤ ve) (wve2 : ve ≤ 4294967295) (wdc : dc.size ≤ 9223372036854775807) (wsc : sc.size ≤ 9223372036854775807) (wtk : tk.size ≤ 9223372036854775807) (wle : 0 ≤ le) (wle2 : le ≤ 18446744073709551615) (wwi : -9223372036854775808 ≤ wi) (wwi2 : wi ≤ 9223372036854775807) (wnu : 0 ≤ nu) (wnu2 : nu ≤ 18446744073709551615) (P : Int) (hP0 : 0 ≤ P) (hP : P ≤ 4294967296) (h1 : 1 ≤ wi) (h2 : wi ≤ 4) (h : decide (wi < 1) = false) (h4 : decide (4 < wi) = false) (CW : Hid (∀ w : World, Calls Tryd.prog 33 #[.int .i64 wi] w fun e w' => e = .returned (.int .u64 P) ∧ w' = w)) (hn : decide (P ≤ nu) = false) (c0 : (((dc.size : Nat) : Int) == 8) = true) (c1 : (ty == 0) = true) (c2 : (ve == 0) = true) (c3 : sc.toList.isEmpty = false) :
    Calls Tryd.prog 14 #[.agg #[.bool false, .bool sp, .bool ph, .int .i64 ty, .int .u32 ve, .string dc, .string sc, .string tk, .int .u64 le, .int .i64 wi, .int .u64 nu]] w fun e w' => e = .returned (.bool false) ∧ Below w.heap.size w w' := by
  go_enter Tryd.func14, Tryd.ntmps14
  go_wp2_with fail
  go_quiet ((go_at_call 33; exact Calls.quiet_of_same (CW.out _)))
  go_wp2
  go_ret
  exact ⟨rfl, below_drewN ((Below.refl _ _).alloc (Nat.le_refl _) _) _⟩
set_option maxHeartbeats 2000000 in
theorem refMay_s4 (sp ph : Bool) (ty ve : Int) (dc sc tk : ByteArray) (le wi nu : Int) (w : World) (wty : -9223372036854775808 ≤ ty) (wty2 : ty ≤ 9223372036854775807) (wve : 0 ≤ ve) (wve2 : ve ≤ 4294967295) (wdc : dc.size ≤ 9223372036854775807) (wsc : sc.size ≤ 9223372036854775807) (wtk : tk.size ≤ 9223372036854775807) (wle : 0 ≤ le) (wle2 : le ≤ 18446744073709551615) (wwi : -9223372036854775808 ≤ wi) (wwi2 : wi ≤ 9223372036854775807) (wnu : 0 ≤ nu) (wnu2 : nu ≤ 18446744073709551615) (P : Int) (hP0 : 0 ≤ P) (hP : P ≤ 4294967296) (h1 : 1 ≤ wi) (h2 : wi ≤ 4) (h : decide (wi < 1) = false) (h4 : decide (4 < wi) = false) (CW : Hid (∀ w : World, Calls Tryd.prog 33 #[.int .i64 wi] w fun e w' => e = .returned (.int .u64 P) ∧ w' = w)) (hn : decide (P ≤ nu) = false) (c0 : (((dc.size : Nat) : Int) == 8) = true) (c1 : (ty == 0) = true) (c2 : (ve == 0) = true) (c3 : sc.toList.isEmpty = true) (c4 : tk.toList.isEmpty = false) :
    Calls Tryd.prog 14 #[.agg #[.bool false, .bool sp, .bool ph, .int .i64 ty, .int .u32 ve, .string dc, .string sc, .string tk, .int .u64 le, .int .i64 wi, .int .u64 nu]] w fun e w' => e = .returned (.bool false) ∧ Below w.heap.size w w' := by
  go_enter Tryd.func14, Tryd.ntmps14
  go_wp2_with fail
  go_quiet ((go_at_call 33; exact Calls.quiet_of_same (CW.out _)))
  go_wp2
  go_ret
  exact ⟨rfl, below_drewN ((Below.refl _ _).alloc (Nat.le_refl _) _) _⟩
set_option maxHeartbeats 2000000 in
theorem refMay_s5 (sp ph : Bool) (ty ve : Int) (dc sc tk : ByteArray) (le wi nu : Int) (w : World) (wty : -9223372036854775808 ≤ ty) (wty2 : ty ≤ 9223372036854775807) (wve : 0 ≤ ve) (wve2 : ve ≤ 4294967295) (wdc : dc.size ≤ 9223372036854775807) (wsc : sc.size ≤ 9223372036854775807) (wtk : tk.size ≤ 9223372036854775807) (wle : 0 ≤ le) (wle2 : le ≤ 18446744073709551615) (wwi : -9223372036854775808 ≤ wi) (wwi2 : wi ≤ 9223372036854775807) (wnu : 0 ≤ nu) (wnu2 : nu ≤ 18446744073709551615) (P : Int) (hP0 : 0 ≤ P) (hP : P ≤ 4294967296) (h1 : 1 ≤ wi) (h2 : wi ≤ 4) (h : decide (wi < 1) = false) (h4 : decide (4 < wi) = false) (CW : Hid (∀ w : World, Calls Tryd.prog 33 #[.int .i64 wi] w fun e w' => e = .returned (.int .u64 P) ∧ w' = w)) (hn : decide (P ≤ nu) = false) (c0 : (((dc.size : Nat) : Int) == 8) = true) (c1 : (ty == 0) = true) (c2 : (ve == 0) = true) (c3 : sc.toList.isEmpty = true) (c4 : tk.toList.isEmpty = true) (c5 : (le == 0) = false) :
    Calls Tryd.prog 14 #[.agg #[.bool false, .bool sp, .bool ph, .int .i64 ty, .int .u32 ve, .string dc, .string sc, .string tk, .int .u64 le, .int .i64 wi, .int .u64 nu]] w fun e w' => e = .returned (.bool false) ∧ Below w.heap.size w w' := by
  go_enter Tryd.func14, Tryd.ntmps14
  go_wp2_with fail
  go_quiet ((go_at_call 33; exact Calls.quiet_of_same (CW.out _)))
  go_wp2
  go_ret
  exact ⟨rfl, below_drewN ((Below.refl _ _).alloc (Nat.le_refl _) _) _⟩
set_option maxHeartbeats 2000000 in
theorem refMay_s6 (sp ph : Bool) (ty ve : Int) (dc sc tk : ByteArray) (le wi nu : Int) (w : World) (wty : -9223372036854775808 ≤ ty) (wty2 : ty ≤ 9223372036854775807) (wve : 0 ≤ ve) (wve2 : ve ≤ 4294967295) (wdc : dc.size ≤ 9223372036854775807) (wsc : sc.size ≤ 9223372036854775807) (wtk : tk.size ≤ 9223372036854775807) (wle : 0 ≤ le) (wle2 : le ≤ 18446744073709551615) (wwi : -9223372036854775808 ≤ wi) (wwi2 : wi ≤ 9223372036854775807) (wnu : 0 ≤ nu) (wnu2 : nu ≤ 18446744073709551615) (P : Int) (hP0 : 0 ≤ P) (hP : P ≤ 4294967296) (h1 : 1 ≤ wi) (h2 : wi ≤ 4) (h : decide (wi < 1) = false) (h4 : decide (4 < wi) = false) (CW : Hid (∀ w : World, Calls Tryd.prog 33 #[.int .i64 wi] w fun e w' => e = .returned (.int .u64 P) ∧ w' = w)) (hn : decide (P ≤ nu) = false) (c0 : (((dc.size : Nat) : Int) == 8) = true) (c1 : (ty == 0) = true) (c2 : (ve == 0) = true) (c3 : sc.toList.isEmpty = true) (c4 : tk.toList.isEmpty = true) (c5 : (le == 0) = true) :
    Calls Tryd.prog 14 #[.agg #[.bool false, .bool sp, .bool ph, .int .i64 ty, .int .u32 ve, .string dc, .string sc, .string tk, .int .u64 le, .int .i64 wi, .int .u64 nu]] w fun e w' => e = .returned (.bool true) ∧ Below w.heap.size w w' := by
  go_enter Tryd.func14, Tryd.ntmps14
  go_wp2_with fail
  go_quiet ((go_at_call 33; exact Calls.quiet_of_same (CW.out _)))
  go_wp2
  go_ret
  exact ⟨rfl, below_drewN ((Below.refl _ _).alloc (Nat.le_refl _) _) _⟩
set_option maxHeartbeats 2000000 in
theorem refMay_l_sp (ph : Bool) (ty ve : Int) (dc sc tk : ByteArray) (le wi nu : Int) (w : World) (wty : -9223372036854775808 ≤ ty) (wty2 : ty ≤ 9223372036854775807) (wve : 0 ≤ ve) (wve2 : ve ≤ 4294967295) (wdc : dc.size ≤ 9223372036854775807) (wsc : sc.size ≤ 9223372036854775807) (wtk : tk.size ≤ 9223372036854775807) (wle : 0 ≤ le) (wle2 : le ≤ 18446744073709551615) (wwi : -9223372036854775808 ≤ wi) (wwi2 : wi ≤ 9223372036854775807) (wnu : 0 ≤ nu) (wnu2 : nu ≤ 18446744073709551615) (P : Int) (hP0 : 0 ≤ P) (hP : P ≤ 4294967296) (h1 : 1 ≤ wi) (h2 : wi ≤ 4) (h : decide (wi < 1) = false) (h4 : decide (4 < wi) = false) (CW : Hid (∀ w : World, Calls Tryd.prog 33 #[.int .i64 wi] w fun e w' => e = .returned (.int .u64 P) ∧ w' = w)) (hn : decide (P ≤ nu) = false) :
    Calls Tryd.prog 14 #[.agg #[.bool true, .bool true, .bool ph, .int .i64 ty, .int .u32 ve, .string dc, .string sc, .string tk, .int .u64 le, .int .i64 wi, .int .u64 nu]] w fun e w' => e = .returned (.bool false) ∧ Below w.heap.size w w' := by
  go_enter Tryd.func14, Tryd.ntmps14
  go_wp2_with fail
  go_quiet ((go_at_call 33; exact Calls.quiet_of_same (CW.out _)))
  go_wp2
  go_ret
  exact ⟨rfl, below_drewN ((Below.refl _ _).alloc (Nat.le_refl _) _) _⟩
set_option maxHeartbeats 2000000 in
theorem refMay_l_ph (ty ve : Int) (dc sc tk : ByteArray) (le wi nu : Int) (w : World) (wty : -9223372036854775808 ≤ ty) (wty2 : ty ≤ 9223372036854775807) (wve : 0 ≤ ve) (wve2 : ve ≤ 4294967295) (wdc : dc.size ≤ 9223372036854775807) (wsc : sc.size ≤ 9223372036854775807) (wtk : tk.size ≤ 9223372036854775807) (wle : 0 ≤ le) (wle2 : le ≤ 18446744073709551615) (wwi : -9223372036854775808 ≤ wi) (wwi2 : wi ≤ 9223372036854775807) (wnu : 0 ≤ nu) (wnu2 : nu ≤ 18446744073709551615) (P : Int) (hP0 : 0 ≤ P) (hP : P ≤ 4294967296) (h1 : 1 ≤ wi) (h2 : wi ≤ 4) (h : decide (wi < 1) = false) (h4 : decide (4 < wi) = false) (CW : Hid (∀ w : World, Calls Tryd.prog 33 #[.int .i64 wi] w fun e w' => e = .returned (.int .u64 P) ∧ w' = w)) (hn : decide (P ≤ nu) = false) :
    Calls Tryd.prog 14 #[.agg #[.bool true, .bool false, .bool true, .int .i64 ty, .int .u32 ve, .string dc, .string sc, .string tk, .int .u64 le, .int .i64 wi, .int .u64 nu]] w fun e w' => e = .returned (.bool false) ∧ Below w.heap.size w w' := by
  go_enter Tryd.func14, Tryd.ntmps14
  go_wp2_with fail
  go_quiet ((go_at_call 33; exact Calls.quiet_of_same (CW.out _)))
  go_wp2
  go_ret
  exact ⟨rfl, below_drewN ((Below.refl _ _).alloc (Nat.le_refl _) _) _⟩
set_option maxHeartbeats 2000000 in
theorem refMay_lt0 (ty ve : Int) (dc sc tk : ByteArray) (le wi nu : Int) (w : World) (wty : -9223372036854775808 ≤ ty) (wty2 : ty ≤ 9223372036854775807) (wve : 0 ≤ ve) (wve2 : ve ≤ 4294967295) (wdc : dc.size ≤ 9223372036854775807) (wsc : sc.size ≤ 9223372036854775807) (wtk : tk.size ≤ 9223372036854775807) (wle : 0 ≤ le) (wle2 : le ≤ 18446744073709551615) (wwi : -9223372036854775808 ≤ wi) (wwi2 : wi ≤ 9223372036854775807) (wnu : 0 ≤ nu) (wnu2 : nu ≤ 18446744073709551615) (P : Int) (hP0 : 0 ≤ P) (hP : P ≤ 4294967296) (h1 : 1 ≤ wi) (h2 : wi ≤ 4) (h : decide (wi < 1) = false) (h4 : decide (4 < wi) = false) (CW : Hid (∀ w : World, Calls Tryd.prog 33 #[.int .i64 wi] w fun e w' => e = .returned (.int .u64 P) ∧ w' = w)) (hn : decide (P ≤ nu) = false) (c0 : decide (0 ≤ ty) = false) :
    Calls Tryd.prog 14 #[.agg #[.bool true, .bool false, .bool false, .int .i64 ty, .int .u32 ve, .string dc, .string sc, .string tk, .int .u64 le, .int .i64 wi, .int .u64 nu]] w fun e w' => e = .returned (.bool false) ∧ Below w.heap.size w w' := by
  go_enter Tryd.func14, Tryd.ntmps14
  go_wp2_with fail
  go_quiet ((go_at_call 33; exact Calls.quiet_of_same (CW.out _)))
  go_wp2
  go_ret
  exact ⟨rfl, below_drewN ((Below.refl _ _).alloc (Nat.le_refl _) _) _⟩
set_option maxHeartbeats 2000000 in
theorem refMay_lt1 (ty ve : Int) (dc sc tk : ByteArray) (le wi nu : Int) (w : World) (wty : -9223372036854775808 ≤ ty) (wty2 : ty ≤ 9223372036854775807) (wve : 0 ≤ ve) (wve2 : ve ≤ 4294967295) (wdc : dc.size ≤ 9223372036854775807) (wsc : sc.size ≤ 9223372036854775807) (wtk : tk.size ≤ 9223372036854775807) (wle : 0 ≤ le) (wle2 : le ≤ 18446744073709551615) (wwi : -9223372036854775808 ≤ wi) (wwi2 : wi ≤ 9223372036854775807) (wnu : 0 ≤ nu) (wnu2 : nu ≤ 18446744073709551615) (P : Int) (hP0 : 0 ≤ P) (hP : P ≤ 4294967296) (h1 : 1 ≤ wi) (h2 : wi ≤ 4) (h : decide (wi < 1) = false) (h4 : decide (4 < wi) = false) (CW : Hid (∀ w : World, Calls Tryd.prog 33 #[.int .i64 wi] w fun e w' => e = .returned (.int .u64 P) ∧ w' = w)) (hn : decide (P ≤ nu) = false) (c0 : decide (0 ≤ ty) = true) (c1 : decide (ty ≤ 2) = false) :
    Calls Tryd.prog 14 #[.agg #[.bool true, .bool false, .bool false, .int .i64 ty, .int .u32 ve, .string dc, .string sc, .string tk, .int .u64 le, .int .i64 wi, .int .u64 nu]] w fun e w' => e = .returned (.bool false) ∧ Below w.heap.size w w' := by
  go_enter Tryd.func14, Tryd.ntmps14
  go_wp2_with fail
  go_quiet ((go_at_call 33; exact Calls.quiet_of_same (CW.out _)))
  go_wp2
  go_ret
  exact ⟨rfl, below_drewN ((Below.refl _ _).alloc (Nat.le_refl _) _) _⟩
set_option maxHeartbeats 2000000 in
theorem refMay_lt2 (ty ve : Int) (dc sc tk : ByteArray) (le wi nu : Int) (w : World) (wty : -9223372036854775808 ≤ ty) (wty2 : ty ≤ 9223372036854775807) (wve : 0 ≤ ve) (wve2 : ve ≤ 4294967295) (wdc : dc.size ≤ 9223372036854775807) (wsc : sc.size ≤ 9223372036854775807) (wtk : tk.size ≤ 9223372036854775807) (wle : 0 ≤ le) (wle2 : le ≤ 18446744073709551615) (wwi : -9223372036854775808 ≤ wi) (wwi2 : wi ≤ 9223372036854775807) (wnu : 0 ≤ nu) (wnu2 : nu ≤ 18446744073709551615) (P : Int) (hP0 : 0 ≤ P) (hP : P ≤ 4294967296) (h1 : 1 ≤ wi) (h2 : wi ≤ 4) (h : decide (wi < 1) = false) (h4 : decide (4 < wi) = false) (CW : Hid (∀ w : World, Calls Tryd.prog 33 #[.int .i64 wi] w fun e w' => e = .returned (.int .u64 P) ∧ w' = w)) (hn : decide (P ≤ nu) = false) (c0 : decide (0 ≤ ty) = true) (c1 : decide (ty ≤ 2) = true) (c2 : decide (((dc.size : Nat) : Int) ≤ 20) = false) :
    Calls Tryd.prog 14 #[.agg #[.bool true, .bool false, .bool false, .int .i64 ty, .int .u32 ve, .string dc, .string sc, .string tk, .int .u64 le, .int .i64 wi, .int .u64 nu]] w fun e w' => e = .returned (.bool false) ∧ Below w.heap.size w w' := by
  go_enter Tryd.func14, Tryd.ntmps14
  go_wp2_with fail
  go_quiet ((go_at_call 33; exact Calls.quiet_of_same (CW.out _)))
  go_wp2
  go_ret
  exact ⟨rfl, below_drewN ((Below.refl _ _).alloc (Nat.le_refl _) _) _⟩
set_option maxHeartbeats 2000000 in
theorem refMay_lt3 (ty ve : Int) (dc sc tk : ByteArray) (le wi nu : Int) (w : World) (wty : -9223372036854775808 ≤ ty) (wty2 : ty ≤ 9223372036854775807) (wve : 0 ≤ ve) (wve2 : ve ≤ 4294967295) (wdc : dc.size ≤ 9223372036854775807) (wsc : sc.size ≤ 9223372036854775807) (wtk : tk.size ≤ 9223372036854775807) (wle : 0 ≤ le) (wle2 : le ≤ 18446744073709551615) (wwi : -9223372036854775808 ≤ wi) (wwi2 : wi ≤ 9223372036854775807) (wnu : 0 ≤ nu) (wnu2 : nu ≤ 18446744073709551615) (P : Int) (hP0 : 0 ≤ P) (hP : P ≤ 4294967296) (h1 : 1 ≤ wi) (h2 : wi ≤ 4) (h : decide (wi < 1) = false) (h4 : decide (4 < wi) = false) (CW : Hid (∀ w : World, Calls Tryd.prog 33 #[.int .i64 wi] w fun e w' => e = .returned (.int .u64 P) ∧ w' = w)) (hn : decide (P ≤ nu) = false) (c0 : decide (0 ≤ ty) = true) (c1 : decide (ty ≤ 2) = true) (c2 : decide (((dc.size : Nat) : Int) ≤ 20) = true) (c3 : decide (((sc.size : Nat) : Int) ≤ 20) = false) :
    Calls Tryd.prog 14 #[.agg #[.bool true, .bool false, .bool false, .int .i64 ty, .int .u32 ve, .string dc, .string sc, .string tk, .int .u64 le, .int .i64 wi, .int .u64 nu]] w fun e w' => e = .returned (.bool false) ∧ Below w.heap.size w w' := by
  go_enter Tryd.func14, Tryd.ntmps14
  go_wp2_with fail
  go_quiet ((go_at_call 33; exact Calls.quiet_of_same (CW.out _)))
  go_wp2
  go_ret
  exact ⟨rfl, below_drewN ((Below.refl _ _).alloc (Nat.le_refl _) _) _⟩
set_option maxHeartbeats 2000000 in
theorem refMay_lt4 (ty ve : Int) (dc sc tk : ByteArray) (le wi nu : Int) (w : World) (wty : -9223372036854775808 ≤ ty) (wty2 : ty ≤ 9223372036854775807) (wve : 0 ≤ ve) (wve2 : ve ≤ 4294967295) (wdc : dc.size ≤ 9223372036854775807) (wsc : sc.size ≤ 9223372036854775807) (wtk : tk.size ≤ 9223372036854775807) (wle : 0 ≤ le) (wle2 : le ≤ 18446744073709551615) (wwi : -9223372036854775808 ≤ wi) (wwi2 : wi ≤ 9223372036854775807) (wnu : 0 ≤ nu) (wnu2 : nu ≤ 18446744073709551615) (P : Int) (hP0 : 0 ≤ P) (hP : P ≤ 4294967296) (h1 : 1 ≤ wi) (h2 : wi ≤ 4) (h : decide (wi < 1) = false) (h4 : decide (4 < wi) = false) (CW : Hid (∀ w : World, Calls Tryd.prog 33 #[.int .i64 wi] w fun e w' => e = .returned (.int .u64 P) ∧ w' = w)) (hn : decide (P ≤ nu) = false) (c0 : decide (0 ≤ ty) = true) (c1 : decide (ty ≤ 2) = true) (c2 : decide (((dc.size : Nat) : Int) ≤ 20) = true) (c3 : decide (((sc.size : Nat) : Int) ≤ 20) = true) (c4 : decide (((tk.size : Nat) : Int) ≤ 1000) = false) :
    Calls Tryd.prog 14 #[.agg #[.bool true, .bool false, .bool false, .int .i64 ty, .int .u32 ve, .string dc, .string sc, .string tk, .int .u64 le, .int .i64 wi, .int .u64 nu]] w fun e w' => e = .returned (.bool false) ∧ Below w.heap.size w w' := by
  go_enter Tryd.func14, Tryd.ntmps14
  go_wp2_with fail
  go_quiet ((go_at_call 33; exact Calls.quiet_of_same (CW.out _)))
  go_wp2
  go_ret
  exact ⟨rfl, below_drewN ((Below.refl _ _).alloc (Nat.le_refl _) _) _⟩
set_option maxHeartbeats 2000000 in
theorem refMay_l_tok (ty ve : Int) (dc sc tk : ByteArray) (le wi nu : Int) (w : World) (wty : -9223372036854775808 ≤ ty) (wty2 : ty ≤ 9223372036854775807) (wve : 0 ≤ ve) (wve2 : ve ≤ 4294967295) (wdc : dc.size ≤ 9223372036854775807) (wsc : sc.size ≤ 9223372036854775807) (wtk : tk.size ≤ 9223372036854775807) (wle : 0 ≤ le) (wle2 : le ≤ 18446744073709551615) (wwi : -9223372036854775808 ≤ wi) (wwi2 : wi ≤ 9223372036854775807) (wnu : 0 ≤ nu) (wnu2 : nu ≤ 18446744073709551615) (P : Int) (hP0 : 0 ≤ P) (hP : P ≤ 4294967296) (h1 : 1 ≤ wi) (h2 : wi ≤ 4) (h : decide (wi < 1) = false) (h4 : decide (4 < wi) = false) (CW : Hid (∀ w : World, Calls Tryd.prog 33 #[.int .i64 wi] w fun e w' => e = .returned (.int .u64 P) ∧ w' = w)) (hn : decide (P ≤ nu) = false) (c0 : decide (0 ≤ ty) = true) (c1 : decide (ty ≤ 2) = true) (c2 : decide (((dc.size : Nat) : Int) ≤ 20) = true) (c3 : decide (((sc.size : Nat) : Int) ≤ 20) = true) (c4 : decide (((tk.size : Nat) : Int) ≤ 1000) = true) (c5 : tk.toList.isEmpty = false) (c6 : (ty == 0) = false) :
    Calls Tryd.prog 14 #[.agg #[.bool true, .bool false, .bool false, .int .i64 ty, .int .u32 ve, .string dc, .string sc, .string tk, .int .u64 le, .int .i64 wi, .int .u64 nu]] w fun e w' => e = .returned (.bool false) ∧ Below w.heap.size w w' := by
  go_enter Tryd.func14, Tryd.ntmps14
  go_wp2_with fail
  go_quiet ((go_at_call 33; exact Calls.quiet_of_same (CW.out _)))
  go_wp2
  go_ret
  exact ⟨rfl, below_drewN ((Below.refl _ _).alloc (Nat.le_refl _) _) _⟩
set_option maxHeartbeats 2000000 in
theorem refMay_la_true (ty ve : Int) (dc sc tk : ByteArray) (le wi nu : Int) (w : World) (wty : -9223372036854775808 ≤ ty) (wty2 : ty ≤ 9223372036854775807) (wve : 0 ≤ ve) (wve2 : ve ≤ 4294967295) (wdc : dc.size ≤ 9223372036854775807) (wsc : sc.size ≤ 9223372036854775807) (wtk : tk.size ≤ 9223372036854775807) (wle : 0 ≤ le) (wle2 : le ≤ 18446744073709551615) (wwi : -9223372036854775808 ≤ wi) (wwi2 : wi ≤ 9223372036854775807) (wnu : 0 ≤ nu) (wnu2 : nu ≤ 18446744073709551615) (P : Int) (hP0 : 0 ≤ P) (hP : P ≤ 4294967296) (h1 : 1 ≤ wi) (h2 : wi ≤ 4) (h : decide (wi < 1) = false) (h4 : decide (4 < wi) = false) (CW : Hid (∀ w : World, Calls Tryd.prog 33 #[.int .i64 wi] w fun e w' => e = .returned (.int .u64 P) ∧ w' = w)) (hn : decide (P ≤ nu) = false) (c0 : decide (0 ≤ ty) = true) (c1 : decide (ty ≤ 2) = true) (c2 : decide (((dc.size : Nat) : Int) ≤ 20) = true) (c3 : decide (((sc.size : Nat) : Int) ≤ 20) = true) (c4 : decide (((tk.size : Nat) : Int) ≤ 1000) = true) (c5 : tk.toList.isEmpty = true) (c7 : decide (le ≤ 4611686018427387903) = true) :
    Calls Tryd.prog 14 #[.agg #[.bool true, .bool false, .bool false, .int .i64 ty, .int .u32 ve, .string dc, .string sc, .string tk, .int .u64 le, .int .i64 wi, .int .u64 nu]] w fun e w' => e = .returned (.bool true) ∧ Below w.heap.size w w' := by
  go_enter Tryd.func14, Tryd.ntmps14
  go_wp2_with fail
  go_quiet ((go_at_call 33; exact Calls.quiet_of_same (CW.out _)))
  go_wp2
  go_ret
  exact ⟨rfl, below_drewN ((Below.refl _ _).alloc (Nat.le_refl _) _) _⟩
set_option maxHeartbeats 2000000 in
theorem refMay_la_false (ty ve : Int) (dc sc tk : ByteArray) (le wi nu : Int) (w : World) (wty : -9223372036854775808 ≤ ty) (wty2 : ty ≤ 9223372036854775807) (wve : 0 ≤ ve) (wve2 : ve ≤ 4294967295) (wdc : dc.size ≤ 9223372036854775807) (wsc : sc.size ≤ 9223372036854775807) (wtk : tk.size ≤ 9223372036854775807) (wle : 0 ≤ le) (wle2 : le ≤ 18446744073709551615) (wwi : -9223372036854775808 ≤ wi) (wwi2 : wi ≤ 9223372036854775807) (wnu : 0 ≤ nu) (wnu2 : nu ≤ 18446744073709551615) (P : Int) (hP0 : 0 ≤ P) (hP : P ≤ 4294967296) (h1 : 1 ≤ wi) (h2 : wi ≤ 4) (h : decide (wi < 1) = false) (h4 : decide (4 < wi) = false) (CW : Hid (∀ w : World, Calls Tryd.prog 33 #[.int .i64 wi] w fun e w' => e = .returned (.int .u64 P) ∧ w' = w)) (hn : decide (P ≤ nu) = false) (c0 : decide (0 ≤ ty) = true) (c1 : decide (ty ≤ 2) = true) (c2 : decide (((dc.size : Nat) : Int) ≤ 20) = true) (c3 : decide (((sc.size : Nat) : Int) ≤ 20) = true) (c4 : decide (((tk.size : Nat) : Int) ≤ 1000) = true) (c5 : tk.toList.isEmpty = true) (c7 : decide (le ≤ 4611686018427387903) = false) :
    Calls Tryd.prog 14 #[.agg #[.bool true, .bool false, .bool false, .int .i64 ty, .int .u32 ve, .string dc, .string sc, .string tk, .int .u64 le, .int .i64 wi, .int .u64 nu]] w fun e w' => e = .returned (.bool false) ∧ Below w.heap.size w w' := by
  go_enter Tryd.func14, Tryd.ntmps14
  go_wp2_with fail
  go_quiet ((go_at_call 33; exact Calls.quiet_of_same (CW.out _)))
  go_wp2
  go_ret
  exact ⟨rfl, below_drewN ((Below.refl _ _).alloc (Nat.le_refl _) _) _⟩
set_option maxHeartbeats 2000000 in
theorem refMay_lb_true (ty ve : Int) (dc sc tk : ByteArray) (le wi nu : Int) (w : World) (wty : -9223372036854775808 ≤ ty) (wty2 : ty ≤ 9223372036854775807) (wve : 0 ≤ ve) (wve2 : ve ≤ 4294967295) (wdc : dc.size ≤ 9223372036854775807) (wsc : sc.size ≤ 9223372036854775807) (wtk : tk.size ≤ 9223372036854775807) (wle : 0 ≤ le) (wle2 : le ≤ 18446744073709551615) (wwi : -9223372036854775808 ≤ wi) (wwi2 : wi ≤ 9223372036854775807) (wnu : 0 ≤ nu) (wnu2 : nu ≤ 18446744073709551615) (P : Int) (hP0 : 0 ≤ P) (hP : P ≤ 4294967296) (h1 : 1 ≤ wi) (h2 : wi ≤ 4) (h : decide (wi < 1) = false) (h4 : decide (4 < wi) = false) (CW : Hid (∀ w : World, Calls Tryd.prog 33 #[.int .i64 wi] w fun e w' => e = .returned (.int .u64 P) ∧ w' = w)) (hn : decide (P ≤ nu) = false) (c0 : decide (0 ≤ ty) = true) (c1 : decide (ty ≤ 2) = true) (c2 : decide (((dc.size : Nat) : Int) ≤ 20) = true) (c3 : decide (((sc.size : Nat) : Int) ≤ 20) = true) (c4 : decide (((tk.size : Nat) : Int) ≤ 1000) = true) (c5 : tk.toList.isEmpty = false) (c6 : (ty == 0) = true) (c7 : decide (le ≤ 4611686018427387903) = true) :
    Calls Tryd.prog 14 #[.agg #[.bool true, .bool false, .bool false, .int .i64 ty, .int .u32 ve, .string dc, .string sc, .string tk, .int .u64 le, .int .i64 wi, .int .u64 nu]] w fun e w' => e = .returned (.bool true) ∧ Below w.heap.size w w' := by
  go_enter Tryd.func14, Tryd.ntmps14
  go_wp2_with fail
  go_quiet ((go_at_call 33; exact Calls.quiet_of_same (CW.out _)))
  go_wp2
  go_ret
  exact ⟨rfl, below_drewN ((Below.refl _ _).alloc (Nat.le_refl _) _) _⟩
set_option maxHeartbeats 2000000 in
theorem refMay_lb_false (ty ve : Int) (dc sc tk : ByteArray) (le wi nu : Int) (w : World) (wty : -9223372036854775808 ≤ ty) (wty2 : ty ≤ 9223372036854775807) (wve : 0 ≤ ve) (wve2 : ve ≤ 4294967295) (wdc : dc.size ≤ 9223372036854775807) (wsc : sc.size ≤ 9223372036854775807) (wtk : tk.size ≤ 9223372036854775807) (wle : 0 ≤ le) (wle2 : le ≤ 18446744073709551615) (wwi : -9223372036854775808 ≤ wi) (wwi2 : wi ≤ 9223372036854775807) (wnu : 0 ≤ nu) (wnu2 : nu ≤ 18446744073709551615) (P : Int) (hP0 : 0 ≤ P) (hP : P ≤ 4294967296) (h1 : 1 ≤ wi) (h2 : wi ≤ 4) (h : decide (wi < 1) = false) (h4 : decide (4 < wi) = false) (CW : Hid (∀ w : World, Calls Tryd.prog 33 #[.int .i64 wi] w fun e w' => e = .returned (.int .u64 P) ∧ w' = w)) (hn : decide (P ≤ nu) = false) (c0 : decide (0 ≤ ty) = true) (c1 : decide (ty ≤ 2) = true) (c2 : decide (((dc.size : Nat) : Int) ≤ 20) = true) (c3 : decide (((sc.size : Nat) : Int) ≤ 20) = true) (c4 : decide (((tk.size : Nat) : Int) ≤ 1000) = true) (c5 : tk.toList.isEmpty = false) (c6 : (ty == 0) = true) (c7 : decide (le ≤ 4611686018427387903) = false) :
    Calls Tryd.prog 14 #[.agg #[.bool true, .bool false, .bool false, .int .i64 ty, .int .u32 ve, .string dc, .string sc, .string tk, .int .u64 le, .int .i64 wi, .int .u64 nu]] w fun e w' => e = .returned (.bool false) ∧ Below w.heap.size w w' := by
  go_enter Tryd.func14, Tryd.ntmps14
  go_wp2_with fail
  go_quiet ((go_at_call 33; exact Calls.quiet_of_same (CW.out _)))
  go_wp2
  go_ret
  exact ⟨rfl, below_drewN ((Below.refl _ _).alloc (Nat.le_refl _) _) _⟩
end Go.Proofs.YtabikljimndliaaDoor.Hd
