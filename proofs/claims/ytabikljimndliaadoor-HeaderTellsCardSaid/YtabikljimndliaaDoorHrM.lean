/- The walks of layer 4: the document's Put. By tools/gen-header-ref8.py. -/
import Derived.Test.YtabikljimndliaaDoorHrL
import Derived.Test.YtabikljimndliaaDoorHdY
import Derived.Deep.CutRange
namespace Go.Proofs.YtabikljimndliaaDoor.Hd
open Go.RowKit Vm
set_option linter.unusedVariables false
set_option linter.unusedSimpArgs false

set_option maxHeartbeats 4000000 in
theorem putR_no (lg : Bool) (sp : Bool) (ph : Bool) (ty : Int) (ve : Int) (dc : List UInt8) (sc : List UInt8) (tk : List UInt8) (le : Int) (wi : Int) (nu : Int) (w : World) (wty : -9223372036854775808 ≤ ty) (wty2 : ty ≤ 9223372036854775807) (wve : 0 ≤ ve) (wve2 : ve ≤ 4294967295) (wdc : dc.length ≤ 9223372036854775807) (wsc : sc.length ≤ 9223372036854775807) (wtk : tk.length ≤ 9223372036854775807) (wle : 0 ≤ le) (wle2 : le ≤ 18446744073709551615) (wwi : -9223372036854775808 ≤ wi) (wwi2 : wi ≤ 9223372036854775807) (wnu : 0 ≤ nu) (wnu2 : nu ≤ 18446744073709551615) (EM : Hid (mayB lg sp ph ty ve dc sc tk le wi nu = false))  :
    Calls Tryd.prog 8 #[.agg #[.bool lg, .bool sp, .bool ph, .int .i64 ty, .int .u32 ve, .string ⟨dc.toArray⟩, .string ⟨sc.toArray⟩, .string ⟨tk.toArray⟩, .int .u64 le, .int .i64 wi, .int .u64 nu]] w fun e w' => e = .returned (.tuple #[.string ⟨#[]⟩, .int .i64 1]) ∧ Below w.heap.size w w' := by
  have HX := Lib.hid (Box.made w (.bool lg) (.bool sp) (.bool ph) (.int .i64 ty) (.int .u32 ve) (.string ⟨dc.toArray⟩) (.string ⟨sc.toArray⟩) (.string ⟨tk.toArray⟩) (.int .u64 le) (.int .i64 wi) (.int .u64 nu) 28)
  go_enter Tryd.func8, Tryd.ntmps8
  go_wp2_with fail
  refine (May_ref lg sp ph ty ve dc sc tk le wi nu _ wty wty2 wve wve2 wdc wsc wtk wle wle2 wwi wwi2 wnu wnu2).mono ?_
  rintro e w1 ⟨rfl, hb⟩
  rw [EM.out]
  replace HX := Lib.hid (HX.out.keep hb)
  clear hb
  have HB := Lib.hid HX.out.bel
  clear HX
  go_wp2
  go_ret2
  exact ⟨rfl, HB.out⟩
set_option maxHeartbeats 4000000 in
theorem putR_s_false_false (ty : Int) (ve : Int) (dc : List UInt8) (sc : List UInt8) (tk : List UInt8) (le : Int) (wi : Int) (nu : Int) (w : World) (wty : -9223372036854775808 ≤ ty) (wty2 : ty ≤ 9223372036854775807) (wve : 0 ≤ ve) (wve2 : ve ≤ 4294967295) (wdc : dc.length ≤ 9223372036854775807) (wsc : sc.length ≤ 9223372036854775807) (wtk : tk.length ≤ 9223372036854775807) (wle : 0 ≤ le) (wle2 : le ≤ 18446744073709551615) (wwi : -9223372036854775808 ≤ wi) (wwi2 : wi ≤ 9223372036854775807) (wnu : 0 ≤ nu) (wnu2 : nu ≤ 18446744073709551615) (EM : Hid (mayB false false false ty ve dc sc tk le wi nu = true)) (k1 : 1 ≤ wi) (k2 : wi ≤ 4) (fb : Nat) (fl : List UInt8) (gl : fl.length ≤ 4) (CF : Hid (∀ w : World, Calls Tryd.prog 22 #[.int .u64 nu, .int .i64 wi] w fun e w' => e = .returned (.string ⟨fl.toArray⟩) ∧ Below w.heap.size w w')) (Eb : wi - 1 + 64 = (fb : Int)) (kdc : dc.length ≤ 20) :
    Calls Tryd.prog 8 #[.agg #[.bool false, .bool false, .bool false, .int .i64 ty, .int .u32 ve, .string ⟨dc.toArray⟩, .string ⟨sc.toArray⟩, .string ⟨tk.toArray⟩, .int .u64 le, .int .i64 wi, .int .u64 nu]] w fun e w' => e = .returned (.tuple #[.string ⟨(by1 fb :: dc ++ fl).toArray⟩, .int .i64 0]) ∧ Below w.heap.size w w' := by
  have HX := Lib.hid (Box.made w (.bool false) (.bool false) (.bool false) (.int .i64 ty) (.int .u32 ve) (.string ⟨dc.toArray⟩) (.string ⟨sc.toArray⟩) (.string ⟨tk.toArray⟩) (.int .u64 le) (.int .i64 wi) (.int .u64 nu) 28)
  go_enter Tryd.func8, Tryd.ntmps8
  go_wp2_with fail
  refine (May_ref false false false ty ve dc sc tk le wi nu _ wty wty2 wve wve2 wdc wsc wtk wle wle2 wwi wwi2 wnu wnu2).mono ?_
  rintro e w1 ⟨rfl, hb⟩
  rw [EM.out]
  replace HX := Lib.hid (HX.out.keep hb)
  clear hb
  obtain ⟨c0, c1, c2, c3, c4, c5, c6, c7, c8, c9, c10, hB, hs⟩ := HX.out
  clear hB hs
  have CV := Lib.hid (fun w : World => conv1 fb (w.alloc (.cells #[.int .u8 fb] 5)) w.heap.size (made1 fb w))
  go_wp2_with fail
  refine (CF.out _).mono ?_
  rintro e w2 ⟨rfl, hb⟩
  replace HX := Lib.hid (HX.out.keep hb)
  clear hb
  clear c0 c1 c2 c3 c4 c5 c6 c7 c8 c9 c10
  obtain ⟨c0, c1, c2, c3, c4, c5, c6, c7, c8, c9, c10, hB, hs⟩ := HX.out
  clear hB hs
  have gs1 : ¬ 9223372036854775807 < 1 + dc.length := by omega
  have gs2 : ¬ 9223372036854775807 < 1 + dc.length + fl.length := by omega
  have gs3 : ¬ 9223372036854775807 < dc.length + 1 := by omega
  have gs4 : ¬ 9223372036854775807 < dc.length + 1 + fl.length := by omega
  have HB := Lib.hid HX.out.bel
  have hz := HX.out.lt
  clear HX
  go_wp2_with fail
  rw [CV.out]
  go_wp2
  go_ret2
  exact ⟨by rw [app_two, app_two]; rfl, HB.out.alloc HB.out.size _⟩
set_option maxHeartbeats 4000000 in
theorem putR_s_false_true (ty : Int) (ve : Int) (dc : List UInt8) (sc : List UInt8) (tk : List UInt8) (le : Int) (wi : Int) (nu : Int) (w : World) (wty : -9223372036854775808 ≤ ty) (wty2 : ty ≤ 9223372036854775807) (wve : 0 ≤ ve) (wve2 : ve ≤ 4294967295) (wdc : dc.length ≤ 9223372036854775807) (wsc : sc.length ≤ 9223372036854775807) (wtk : tk.length ≤ 9223372036854775807) (wle : 0 ≤ le) (wle2 : le ≤ 18446744073709551615) (wwi : -9223372036854775808 ≤ wi) (wwi2 : wi ≤ 9223372036854775807) (wnu : 0 ≤ nu) (wnu2 : nu ≤ 18446744073709551615) (EM : Hid (mayB false false true ty ve dc sc tk le wi nu = true)) (k1 : 1 ≤ wi) (k2 : wi ≤ 4) (fb : Nat) (fl : List UInt8) (gl : fl.length ≤ 4) (CF : Hid (∀ w : World, Calls Tryd.prog 22 #[.int .u64 nu, .int .i64 wi] w fun e w' => e = .returned (.string ⟨fl.toArray⟩) ∧ Below w.heap.size w w')) (Eb : wi - 1 + 64 + 4 = (fb : Int)) (kdc : dc.length ≤ 20) :
    Calls Tryd.prog 8 #[.agg #[.bool false, .bool false, .bool true, .int .i64 ty, .int .u32 ve, .string ⟨dc.toArray⟩, .string ⟨sc.toArray⟩, .string ⟨tk.toArray⟩, .int .u64 le, .int .i64 wi, .int .u64 nu]] w fun e w' => e = .returned (.tuple #[.string ⟨(by1 fb :: dc ++ fl).toArray⟩, .int .i64 0]) ∧ Below w.heap.size w w' := by
  have HX := Lib.hid (Box.made w (.bool false) (.bool false) (.bool true) (.int .i64 ty) (.int .u32 ve) (.string ⟨dc.toArray⟩) (.string ⟨sc.toArray⟩) (.string ⟨tk.toArray⟩) (.int .u64 le) (.int .i64 wi) (.int .u64 nu) 28)
  go_enter Tryd.func8, Tryd.ntmps8
  go_wp2_with fail
  refine (May_ref false false true ty ve dc sc tk le wi nu _ wty wty2 wve wve2 wdc wsc wtk wle wle2 wwi wwi2 wnu wnu2).mono ?_
  rintro e w1 ⟨rfl, hb⟩
  rw [EM.out]
  replace HX := Lib.hid (HX.out.keep hb)
  clear hb
  obtain ⟨c0, c1, c2, c3, c4, c5, c6, c7, c8, c9, c10, hB, hs⟩ := HX.out
  clear hB hs
  have CV := Lib.hid (fun w : World => conv1 fb (w.alloc (.cells #[.int .u8 fb] 5)) w.heap.size (made1 fb w))
  go_wp2_with fail
  refine (CF.out _).mono ?_
  rintro e w2 ⟨rfl, hb⟩
  replace HX := Lib.hid (HX.out.keep hb)
  clear hb
  clear c0 c1 c2 c3 c4 c5 c6 c7 c8 c9 c10
  obtain ⟨c0, c1, c2, c3, c4, c5, c6, c7, c8, c9, c10, hB, hs⟩ := HX.out
  clear hB hs
  have gs1 : ¬ 9223372036854775807 < 1 + dc.length := by omega
  have gs2 : ¬ 9223372036854775807 < 1 + dc.length + fl.length := by omega
  have gs3 : ¬ 9223372036854775807 < dc.length + 1 := by omega
  have gs4 : ¬ 9223372036854775807 < dc.length + 1 + fl.length := by omega
  have HB := Lib.hid HX.out.bel
  have hz := HX.out.lt
  clear HX
  go_wp2_with fail
  rw [CV.out]
  go_wp2
  go_ret2
  exact ⟨by rw [app_two, app_two]; rfl, HB.out.alloc HB.out.size _⟩
set_option maxHeartbeats 4000000 in
theorem putR_s_true_false (ty : Int) (ve : Int) (dc : List UInt8) (sc : List UInt8) (tk : List UInt8) (le : Int) (wi : Int) (nu : Int) (w : World) (wty : -9223372036854775808 ≤ ty) (wty2 : ty ≤ 9223372036854775807) (wve : 0 ≤ ve) (wve2 : ve ≤ 4294967295) (wdc : dc.length ≤ 9223372036854775807) (wsc : sc.length ≤ 9223372036854775807) (wtk : tk.length ≤ 9223372036854775807) (wle : 0 ≤ le) (wle2 : le ≤ 18446744073709551615) (wwi : -9223372036854775808 ≤ wi) (wwi2 : wi ≤ 9223372036854775807) (wnu : 0 ≤ nu) (wnu2 : nu ≤ 18446744073709551615) (EM : Hid (mayB false true false ty ve dc sc tk le wi nu = true)) (k1 : 1 ≤ wi) (k2 : wi ≤ 4) (fb : Nat) (fl : List UInt8) (gl : fl.length ≤ 4) (CF : Hid (∀ w : World, Calls Tryd.prog 22 #[.int .u64 nu, .int .i64 wi] w fun e w' => e = .returned (.string ⟨fl.toArray⟩) ∧ Below w.heap.size w w')) (Eb : wi - 1 + 64 + 32 = (fb : Int)) (kdc : dc.length ≤ 20) :
    Calls Tryd.prog 8 #[.agg #[.bool false, .bool true, .bool false, .int .i64 ty, .int .u32 ve, .string ⟨dc.toArray⟩, .string ⟨sc.toArray⟩, .string ⟨tk.toArray⟩, .int .u64 le, .int .i64 wi, .int .u64 nu]] w fun e w' => e = .returned (.tuple #[.string ⟨(by1 fb :: dc ++ fl).toArray⟩, .int .i64 0]) ∧ Below w.heap.size w w' := by
  have HX := Lib.hid (Box.made w (.bool false) (.bool true) (.bool false) (.int .i64 ty) (.int .u32 ve) (.string ⟨dc.toArray⟩) (.string ⟨sc.toArray⟩) (.string ⟨tk.toArray⟩) (.int .u64 le) (.int .i64 wi) (.int .u64 nu) 28)
  go_enter Tryd.func8, Tryd.ntmps8
  go_wp2_with fail
  refine (May_ref false true false ty ve dc sc tk le wi nu _ wty wty2 wve wve2 wdc wsc wtk wle wle2 wwi wwi2 wnu wnu2).mono ?_
  rintro e w1 ⟨rfl, hb⟩
  rw [EM.out]
  replace HX := Lib.hid (HX.out.keep hb)
  clear hb
  obtain ⟨c0, c1, c2, c3, c4, c5, c6, c7, c8, c9, c10, hB, hs⟩ := HX.out
  clear hB hs
  have CV := Lib.hid (fun w : World => conv1 fb (w.alloc (.cells #[.int .u8 fb] 5)) w.heap.size (made1 fb w))
  go_wp2_with fail
  refine (CF.out _).mono ?_
  rintro e w2 ⟨rfl, hb⟩
  replace HX := Lib.hid (HX.out.keep hb)
  clear hb
  clear c0 c1 c2 c3 c4 c5 c6 c7 c8 c9 c10
  obtain ⟨c0, c1, c2, c3, c4, c5, c6, c7, c8, c9, c10, hB, hs⟩ := HX.out
  clear hB hs
  have gs1 : ¬ 9223372036854775807 < 1 + dc.length := by omega
  have gs2 : ¬ 9223372036854775807 < 1 + dc.length + fl.length := by omega
  have gs3 : ¬ 9223372036854775807 < dc.length + 1 := by omega
  have gs4 : ¬ 9223372036854775807 < dc.length + 1 + fl.length := by omega
  have HB := Lib.hid HX.out.bel
  have hz := HX.out.lt
  clear HX
  go_wp2_with fail
  rw [CV.out]
  go_wp2
  go_ret2
  exact ⟨by rw [app_two, app_two]; rfl, HB.out.alloc HB.out.size _⟩
set_option maxHeartbeats 4000000 in
theorem putR_s_true_true (ty : Int) (ve : Int) (dc : List UInt8) (sc : List UInt8) (tk : List UInt8) (le : Int) (wi : Int) (nu : Int) (w : World) (wty : -9223372036854775808 ≤ ty) (wty2 : ty ≤ 9223372036854775807) (wve : 0 ≤ ve) (wve2 : ve ≤ 4294967295) (wdc : dc.length ≤ 9223372036854775807) (wsc : sc.length ≤ 9223372036854775807) (wtk : tk.length ≤ 9223372036854775807) (wle : 0 ≤ le) (wle2 : le ≤ 18446744073709551615) (wwi : -9223372036854775808 ≤ wi) (wwi2 : wi ≤ 9223372036854775807) (wnu : 0 ≤ nu) (wnu2 : nu ≤ 18446744073709551615) (EM : Hid (mayB false true true ty ve dc sc tk le wi nu = true)) (k1 : 1 ≤ wi) (k2 : wi ≤ 4) (fb : Nat) (fl : List UInt8) (gl : fl.length ≤ 4) (CF : Hid (∀ w : World, Calls Tryd.prog 22 #[.int .u64 nu, .int .i64 wi] w fun e w' => e = .returned (.string ⟨fl.toArray⟩) ∧ Below w.heap.size w w')) (Eb : wi - 1 + 64 + 32 + 4 = (fb : Int)) (kdc : dc.length ≤ 20) :
    Calls Tryd.prog 8 #[.agg #[.bool false, .bool true, .bool true, .int .i64 ty, .int .u32 ve, .string ⟨dc.toArray⟩, .string ⟨sc.toArray⟩, .string ⟨tk.toArray⟩, .int .u64 le, .int .i64 wi, .int .u64 nu]] w fun e w' => e = .returned (.tuple #[.string ⟨(by1 fb :: dc ++ fl).toArray⟩, .int .i64 0]) ∧ Below w.heap.size w w' := by
  have HX := Lib.hid (Box.made w (.bool false) (.bool true) (.bool true) (.int .i64 ty) (.int .u32 ve) (.string ⟨dc.toArray⟩) (.string ⟨sc.toArray⟩) (.string ⟨tk.toArray⟩) (.int .u64 le) (.int .i64 wi) (.int .u64 nu) 28)
  go_enter Tryd.func8, Tryd.ntmps8
  go_wp2_with fail
  refine (May_ref false true true ty ve dc sc tk le wi nu _ wty wty2 wve wve2 wdc wsc wtk wle wle2 wwi wwi2 wnu wnu2).mono ?_
  rintro e w1 ⟨rfl, hb⟩
  rw [EM.out]
  replace HX := Lib.hid (HX.out.keep hb)
  clear hb
  obtain ⟨c0, c1, c2, c3, c4, c5, c6, c7, c8, c9, c10, hB, hs⟩ := HX.out
  clear hB hs
  have CV := Lib.hid (fun w : World => conv1 fb (w.alloc (.cells #[.int .u8 fb] 5)) w.heap.size (made1 fb w))
  go_wp2_with fail
  refine (CF.out _).mono ?_
  rintro e w2 ⟨rfl, hb⟩
  replace HX := Lib.hid (HX.out.keep hb)
  clear hb
  clear c0 c1 c2 c3 c4 c5 c6 c7 c8 c9 c10
  obtain ⟨c0, c1, c2, c3, c4, c5, c6, c7, c8, c9, c10, hB, hs⟩ := HX.out
  clear hB hs
  have gs1 : ¬ 9223372036854775807 < 1 + dc.length := by omega
  have gs2 : ¬ 9223372036854775807 < 1 + dc.length + fl.length := by omega
  have gs3 : ¬ 9223372036854775807 < dc.length + 1 := by omega
  have gs4 : ¬ 9223372036854775807 < dc.length + 1 + fl.length := by omega
  have HB := Lib.hid HX.out.bel
  have hz := HX.out.lt
  clear HX
  go_wp2_with fail
  rw [CV.out]
  go_wp2
  go_ret2
  exact ⟨by rw [app_two, app_two]; rfl, HB.out.alloc HB.out.size _⟩
set_option maxHeartbeats 4000000 in
theorem putR_l0 (ve : Int) (dc : List UInt8) (sc : List UInt8) (tk : List UInt8) (le : Int) (wi : Int) (nu : Int) (w : World) (wve : 0 ≤ ve) (wve2 : ve ≤ 4294967295) (wdc : dc.length ≤ 9223372036854775807) (wsc : sc.length ≤ 9223372036854775807) (wtk : tk.length ≤ 9223372036854775807) (wle : 0 ≤ le) (wle2 : le ≤ 18446744073709551615) (wwi : -9223372036854775808 ≤ wi) (wwi2 : wi ≤ 9223372036854775807) (wnu : 0 ≤ nu) (wnu2 : nu ≤ 18446744073709551615) (EM : Hid (mayB true false false 0 ve dc sc tk le wi nu = true)) (k1 : 1 ≤ wi) (k2 : wi ≤ 4) (fb : Nat) (fl : List UInt8) (gl : fl.length ≤ 4) (CF : Hid (∀ w : World, Calls Tryd.prog 22 #[.int .u64 nu, .int .i64 wi] w fun e w' => e = .returned (.string ⟨fl.toArray⟩) ∧ Below w.heap.size w w')) (Eb : wi - 1 + 192  = (fb : Int)) (f4 sd ss pt pl : List UInt8) (gf4 : f4.length ≤ 10) (gsd : sd.length ≤ 30) (gss : ss.length ≤ 30) (gpt : pt.length ≤ 10) (gpl : pl.length ≤ 10) (gtk : tk.length ≤ 1000) (C4 : Hid (∀ w : World, Calls Tryd.prog 22 #[.int .u64 ve, .int .i64 4] w fun e w' => e = .returned (.string ⟨f4.toArray⟩) ∧ Below w.heap.size w w')) (CD : Hid (∀ w : World, Calls Tryd.prog 23 #[.string ⟨dc.toArray⟩] w fun e w' => e = .returned (.string ⟨sd.toArray⟩) ∧ Below w.heap.size w w')) (CS : Hid (∀ w : World, Calls Tryd.prog 23 #[.string ⟨sc.toArray⟩] w fun e w' => e = .returned (.string ⟨ss.toArray⟩) ∧ Below w.heap.size w w')) (CT : Hid (∀ w : World, Calls Tryd.prog 24 #[.int .u64 (tk.length : Nat)] w fun e w' => e = .returned (.string ⟨pt.toArray⟩) ∧ Below w.heap.size w w')) (CL : Hid (∀ w : World, Calls Tryd.prog 24 #[.int .u64 le] w fun e w' => e = .returned (.string ⟨pl.toArray⟩) ∧ Below w.heap.size w w')) (o : List UInt8) (Eo : Hid ([by1 fb] ++ f4 ++ sd ++ ss ++ pt ++ tk ++ pl ++ fl = o)) :
    Calls Tryd.prog 8 #[.agg #[.bool true, .bool false, .bool false, .int .i64 0, .int .u32 ve, .string ⟨dc.toArray⟩, .string ⟨sc.toArray⟩, .string ⟨tk.toArray⟩, .int .u64 le, .int .i64 wi, .int .u64 nu]] w fun e w' => e = .returned (.tuple #[.string ⟨o.toArray⟩, .int .i64 0]) ∧ Below w.heap.size w w' := by
  have HX := Lib.hid (Box.made w (.bool true) (.bool false) (.bool false) (.int .i64 0) (.int .u32 ve) (.string ⟨dc.toArray⟩) (.string ⟨sc.toArray⟩) (.string ⟨tk.toArray⟩) (.int .u64 le) (.int .i64 wi) (.int .u64 nu) 28)
  go_enter Tryd.func8, Tryd.ntmps8
  go_wp2_with fail
  refine (May_ref true false false 0 ve dc sc tk le wi nu _ (by omega) (by omega) wve wve2 wdc wsc wtk wle wle2 wwi wwi2 wnu wnu2).mono ?_
  rintro e w1 ⟨rfl, hb⟩
  rw [EM.out]
  replace HX := Lib.hid (HX.out.keep hb)
  clear hb
  obtain ⟨c0, c1, c2, c3, c4, c5, c6, c7, c8, c9, c10, hB, hs⟩ := HX.out
  clear hB hs
  go_wp2_with fail
  refine (CF.out _).mono ?_
  rintro e w2 ⟨rfl, hb⟩
  replace HX := Lib.hid (HX.out.keep hb)
  clear hb
  clear c0 c1 c2 c3 c4 c5 c6 c7 c8 c9 c10
  obtain ⟨c0, c1, c2, c3, c4, c5, c6, c7, c8, c9, c10, hB, hs⟩ := HX.out
  clear hB hs
  have ew1 : IntKind.u64.wrap ve = ve := by rw [IntKind.wrap_u64]; omega
  have ew2 : IntKind.u64.wrap ((tk.length : Nat) : Int) = ((tk.length : Nat) : Int) := by rw [IntKind.wrap_u64]; omega
  have g1 : ¬ 9223372036854775807 < 1 + f4.length := by omega
  have g2 : ¬ 9223372036854775807 < 1 + f4.length + sd.length := by omega
  have g3 : ¬ 9223372036854775807 < 1 + f4.length + sd.length + ss.length := by omega
  have g4 : ¬ 9223372036854775807 < f4.length + 1 := by omega
  have g5 : ¬ 9223372036854775807 < f4.length + 1 + sd.length := by omega
  have g6 : ¬ 9223372036854775807 < f4.length + 1 + sd.length + ss.length := by omega
  obtain ⟨x6, Ex6⟩ : ∃ x, [by1 fb] ++ f4 ++ sd ++ ss = x := ⟨_, rfl⟩
  rw [Ex6] at Eo
  have gx : x6.length ≤ 100 := by rw [← Ex6]; simp; omega
  replace Ex6 := Lib.hid Ex6
  go_upto_region 13 with (fail)
  go_cut [6] from 47 to 62 (fun v6 W => v6 = .string ⟨x6.toArray⟩ ∧ Box w.heap.size (.bool true) (.bool false) (.bool false) (.int .i64 0) (.int .u32 ve) (.string ⟨dc.toArray⟩) (.string ⟨sc.toArray⟩) (.string ⟨tk.toArray⟩) (.int .u64 le) (.int .i64 wi) (.int .u64 nu) w W)
  case first =>
    refine wp_region_noPanic ?_
    refine wp_region_held_drew (S := fun w' => Box w.heap.size (.bool true) (.bool false) (.bool false) (.int .i64 0) (.int .u32 ve) (.string ⟨dc.toArray⟩) (.string ⟨sc.toArray⟩) (.string ⟨tk.toArray⟩) (.int .u64 le) (.int .i64 wi) (.int .u64 nu) w w') (by kernel_rfl) ?_ (fun hHeld => ?_)
    · exact HX.out.drew
    refine wpAnyH_take (i := 0) (v := ?_) rfl (by kernel_rfl) (by kernel_rfl) (by kernel_rfl) (fun _ _ _ h => h) (Or.inl ⟨by rfl, ?_⟩) (by assumption) ?_
    rotate_left
    · (intro w hSw; (try (obtain ⟨hS0, hS1, hS2, hS3, hS4, hS5, hS6, hS7, hS8, hS9, hS10, hSb, hSs⟩ := hSw)); go_simp; (try with_reducible rfl))
    try simp only [Act.put, List.getElem_toArray, List.getElem_cons_zero, List.getElem_cons_succ, List.setIfInBounds_toArray, List.set_cons_zero, List.set_cons_succ]
    refine wpAnyH_take (i := 3) (v := ?_) rfl (by kernel_rfl) (by kernel_rfl) (by kernel_rfl) (fun _ _ _ h => h) (Or.inl ⟨by rfl, ?_⟩) (by assumption) ?_
    rotate_left
    · (intro w hSw; (try (obtain ⟨hS0, hS1, hS2, hS3, hS4, hS5, hS6, hS7, hS8, hS9, hS10, hSb, hSs⟩ := hSw)); go_simp; (try with_reducible rfl))
    try simp only [Act.put, List.getElem_toArray, List.getElem_cons_zero, List.getElem_cons_succ, List.setIfInBounds_toArray, List.set_cons_zero, List.set_cons_succ]
    refine wpAnyH_take (i := 4) (v := ?_) rfl (by kernel_rfl) (by kernel_rfl) (by kernel_rfl) (fun _ _ _ h => h) (Or.inl ⟨by rfl, ?_⟩) (by assumption) ?_
    rotate_left
    · (intro w hSw; (try (obtain ⟨hS0, hS1, hS2, hS3, hS4, hS5, hS6, hS7, hS8, hS9, hS10, hSb, hSs⟩ := hSw)); go_simp; (try with_reducible rfl))
    try simp only [Act.put, List.getElem_toArray, List.getElem_cons_zero, List.getElem_cons_succ, List.setIfInBounds_toArray, List.set_cons_zero, List.set_cons_succ]
    refine wpAnyH_take (i := 5) (v := ?_) rfl (by kernel_rfl) (by kernel_rfl) (by kernel_rfl) (fun _ _ _ h => h) (Or.inl ⟨by rfl, ?_⟩) (by assumption) ?_
    rotate_left
    · (intro w hSw; (try (obtain ⟨hS0, hS1, hS2, hS3, hS4, hS5, hS6, hS7, hS8, hS9, hS10, hSb, hSs⟩ := hSw)); go_simp; (try with_reducible rfl))
    try simp only [Act.put, List.getElem_toArray, List.getElem_cons_zero, List.getElem_cons_succ, List.setIfInBounds_toArray, List.set_cons_zero, List.set_cons_succ]
    refine wpAnyH_take (i := 8) (v := ?_) rfl (by kernel_rfl) (by kernel_rfl) (by kernel_rfl) (fun _ _ _ h => h) (Or.inl ⟨by rfl, ?_⟩) (by assumption) ?_
    rotate_left
    · (intro w hSw; (try (obtain ⟨hS0, hS1, hS2, hS3, hS4, hS5, hS6, hS7, hS8, hS9, hS10, hSb, hSs⟩ := hSw)); go_simp; (try with_reducible rfl))
    try simp only [Act.put, List.getElem_toArray, List.getElem_cons_zero, List.getElem_cons_succ, List.setIfInBounds_toArray, List.set_cons_zero, List.set_cons_succ]
    refine wpAnyH_take (i := 9) (v := ?_) rfl (by kernel_rfl) (by kernel_rfl) (by kernel_rfl) (fun _ _ _ h => h) (Or.inl ⟨by rfl, ?_⟩) (by assumption) ?_
    rotate_left
    · (intro w hSw; (try (obtain ⟨hS0, hS1, hS2, hS3, hS4, hS5, hS6, hS7, hS8, hS9, hS10, hSb, hSs⟩ := hSw)); go_simp; (try with_reducible rfl))
    try simp only [Act.put, List.getElem_toArray, List.getElem_cons_zero, List.getElem_cons_succ, List.setIfInBounds_toArray, List.set_cons_zero, List.set_cons_succ]
    refine wpAnyH_take (i := 12) (v := ?_) rfl (by kernel_rfl) (by kernel_rfl) (by kernel_rfl) (fun _ _ _ h => h) (Or.inl ⟨by rfl, ?_⟩) (by assumption) ?_
    rotate_left
    · (intro w hSw; (try (obtain ⟨hS0, hS1, hS2, hS3, hS4, hS5, hS6, hS7, hS8, hS9, hS10, hSb, hSs⟩ := hSw)); go_simp; (try with_reducible rfl))
    try simp only [Act.put, List.getElem_toArray, List.getElem_cons_zero, List.getElem_cons_succ, List.setIfInBounds_toArray, List.set_cons_zero, List.set_cons_succ]
    refine wpAnyH_take (i := 13) (v := ?_) rfl (by kernel_rfl) (by kernel_rfl) (by kernel_rfl) (fun _ _ _ h => h) (Or.inl ⟨by rfl, ?_⟩) (by assumption) ?_
    rotate_left
    · (intro w hSw; (try (obtain ⟨hS0, hS1, hS2, hS3, hS4, hS5, hS6, hS7, hS8, hS9, hS10, hSb, hSs⟩ := hSw)); go_simp; (try with_reducible rfl))
    try simp only [Act.put, List.getElem_toArray, List.getElem_cons_zero, List.getElem_cons_succ, List.setIfInBounds_toArray, List.set_cons_zero, List.set_cons_succ]
    refine wpAnyH_ready (rs := [1, 6]) (by kernel_rfl) (by simp) ?_
    refine AllReadyH.cons rfl (fun K hK => ?_) (AllReadyH.cons rfl (fun K hK => ?_) AllReadyH.nil)
    · rw [if_pos (by rfl)]
      go_simp
      have CW : Hid (((w2.alloc (.cells #[.int .u8 fb] 5)).drew).cell? ⟨w2.heap.size, 0, none⟩ = some (.int .u8 fb)) := Lib.hid (by simp [go_sem])
      have hG : Hid (w2.heap.size < ((w2.alloc (.cells #[.int .u8 fb] 5)).drew).heap.size) := Lib.hid (by simp)
      refine hK.out _ _ ?_ (fun hHeld => ?_)
      · exact hHeld.keep ((Below.refl _ _).alloc (Nat.le_refl _) _)
      clear hK K
      try simp only [Act.put, List.getElem_toArray, List.getElem_cons_zero, List.getElem_cons_succ, List.setIfInBounds_toArray, List.set_cons_zero, List.set_cons_succ]
      refine wpAnyH_ready (rs := [2, 6]) (by kernel_rfl) (by simp) ?_
      refine AllReadyH.cons rfl (fun K hK => ?_) (AllReadyH.cons rfl (fun K hK => ?_) AllReadyH.nil)
      · rw [if_pos (by rfl)]
        go_simp
        rw [conv1 _ _ _ CW.out]
        go_simp
        refine hK.out _ _ ?_ (fun hHeld => ?_)
        · exact hHeld
        clear hK K
        try simp only [Act.put, List.getElem_toArray, List.getElem_cons_zero, List.getElem_cons_succ, List.setIfInBounds_toArray, List.set_cons_zero, List.set_cons_succ]
        refine wpAnyH_ready (rs := [6]) (by kernel_rfl) (by simp) ?_
        refine AllReadyH.cons rfl (fun K hK => ?_) AllReadyH.nil
        rw [if_pos (by rfl)]
        go_simp
        refine (C4.out _).mono ?_
        rintro e v1 ⟨rfl, hb⟩
        refine hK.out _ _ ?_ (fun hHeld => ?_)
        · exact hHeld.keep hb
        clear hK K
        try simp only [Act.put, List.getElem_toArray, List.getElem_cons_zero, List.getElem_cons_succ, List.setIfInBounds_toArray, List.set_cons_zero, List.set_cons_succ]
        refine wpAnyH_take (i := 7) (v := ?_) rfl (by kernel_rfl) (by kernel_rfl) (by kernel_rfl) (fun _ _ _ h => h) (Or.inl ⟨by rfl, ?_⟩) (by assumption) ?_
        rotate_left
        · (intro w hSw; (try (obtain ⟨hS0, hS1, hS2, hS3, hS4, hS5, hS6, hS7, hS8, hS9, hS10, hSb, hSs⟩ := hSw)); go_simp; (try with_reducible rfl))
        try simp only [Act.put, List.getElem_toArray, List.getElem_cons_zero, List.getElem_cons_succ, List.setIfInBounds_toArray, List.set_cons_zero, List.set_cons_succ]
        refine wpAnyH_ready (rs := [10]) (by kernel_rfl) (by simp) ?_
        refine AllReadyH.cons rfl (fun K hK => ?_) AllReadyH.nil
        rw [if_pos (by rfl)]
        go_simp
        refine (CD.out _).mono ?_
        rintro e v2 ⟨rfl, hb⟩
        refine hK.out _ _ ?_ (fun hHeld => ?_)
        · exact hHeld.keep hb
        clear hK K
        try simp only [Act.put, List.getElem_toArray, List.getElem_cons_zero, List.getElem_cons_succ, List.setIfInBounds_toArray, List.set_cons_zero, List.set_cons_succ]
        refine wpAnyH_take (i := 11) (v := ?_) rfl (by kernel_rfl) (by kernel_rfl) (by kernel_rfl) (fun _ _ _ h => h) (Or.inl ⟨by rfl, ?_⟩) (by assumption) ?_
        rotate_left
        · (intro w hSw; (try (obtain ⟨hS0, hS1, hS2, hS3, hS4, hS5, hS6, hS7, hS8, hS9, hS10, hSb, hSs⟩ := hSw)); go_simp; (try with_reducible rfl))
        try simp only [Act.put, List.getElem_toArray, List.getElem_cons_zero, List.getElem_cons_succ, List.setIfInBounds_toArray, List.set_cons_zero, List.set_cons_succ]
        refine wpAnyH_ready (rs := [14]) (by kernel_rfl) (by simp) ?_
        refine AllReadyH.cons rfl (fun K hK => ?_) AllReadyH.nil
        rw [if_pos (by rfl)]
        go_simp
        refine (CS.out _).mono ?_
        rintro e v3 ⟨rfl, hb⟩
        refine hK.out _ _ ?_ (fun hHeld => ?_)
        · exact hHeld.keep hb
        clear hK K
        try simp only [Act.put, List.getElem_toArray, List.getElem_cons_zero, List.getElem_cons_succ, List.setIfInBounds_toArray, List.set_cons_zero, List.set_cons_succ]
        refine wpAnyH_take (i := 15) (v := ?_) rfl (by kernel_rfl) (by kernel_rfl) (by kernel_rfl) (fun _ _ _ h => h) (Or.inl ⟨by rfl, ?_⟩) (by assumption) ?_
        rotate_left
        · (intro w hSw; (try (obtain ⟨hS0, hS1, hS2, hS3, hS4, hS5, hS6, hS7, hS8, hS9, hS10, hSb, hSs⟩ := hSw)); go_simp; (try with_reducible rfl))
        try simp only [Act.put, List.getElem_toArray, List.getElem_cons_zero, List.getElem_cons_succ, List.setIfInBounds_toArray, List.set_cons_zero, List.set_cons_succ]
        refine wpAnyH_take (i := 16) (v := ?_) rfl (by kernel_rfl) (by kernel_rfl) (by kernel_rfl) (fun _ _ _ h => h) (Or.inl ⟨by rfl, ?_⟩) (by assumption) ?_
        rotate_left
        · (intro w hSw; (try (obtain ⟨hS0, hS1, hS2, hS3, hS4, hS5, hS6, hS7, hS8, hS9, hS10, hSb, hSs⟩ := hSw)); go_simp; (try with_reducible rfl))
        try simp only [Act.put, List.getElem_toArray, List.getElem_cons_zero, List.getElem_cons_succ, List.setIfInBounds_toArray, List.set_cons_zero, List.set_cons_succ]
        refine wpAnyH_done (by kernel_rfl) (NoPanic.normal ?_) _
        rw [app_two, app_two, app_two, Ex6.out]
        go_wp2_with fail
        go_meet
        exact ⟨rfl, hHeld⟩
      · rw [if_pos (by rfl)]
        go_simp
        refine (C4.out _).mono ?_
        rintro e v4 ⟨rfl, hb⟩
        replace CW := Lib.hid ((hb.cell hG.out).trans CW.out)
        replace hG := Lib.hid (Nat.lt_of_lt_of_le hG.out hb.size)
        refine hK.out _ _ ?_ (fun hHeld => ?_)
        · exact hHeld.keep hb
        clear hK K
        try simp only [Act.put, List.getElem_toArray, List.getElem_cons_zero, List.getElem_cons_succ, List.setIfInBounds_toArray, List.set_cons_zero, List.set_cons_succ]
        refine wpAnyH_ready (rs := [2, 10]) (by kernel_rfl) (by simp) ?_
        refine AllReadyH.cons rfl (fun K hK => ?_) (AllReadyH.cons rfl (fun K hK => ?_) AllReadyH.nil)
        · rw [if_pos (by rfl)]
          go_simp
          rw [conv1 _ _ _ CW.out]
          go_simp
          refine hK.out _ _ ?_ (fun hHeld => ?_)
          · exact hHeld
          clear hK K
          try simp only [Act.put, List.getElem_toArray, List.getElem_cons_zero, List.getElem_cons_succ, List.setIfInBounds_toArray, List.set_cons_zero, List.set_cons_succ]
          refine wpAnyH_take (i := 7) (v := ?_) rfl (by kernel_rfl) (by kernel_rfl) (by kernel_rfl) (fun _ _ _ h => h) (Or.inl ⟨by rfl, ?_⟩) (by assumption) ?_
          rotate_left
          · (intro w hSw; (try (obtain ⟨hS0, hS1, hS2, hS3, hS4, hS5, hS6, hS7, hS8, hS9, hS10, hSb, hSs⟩ := hSw)); go_simp; (try with_reducible rfl))
          try simp only [Act.put, List.getElem_toArray, List.getElem_cons_zero, List.getElem_cons_succ, List.setIfInBounds_toArray, List.set_cons_zero, List.set_cons_succ]
          refine wpAnyH_ready (rs := [10]) (by kernel_rfl) (by simp) ?_
          refine AllReadyH.cons rfl (fun K hK => ?_) AllReadyH.nil
          rw [if_pos (by rfl)]
          go_simp
          refine (CD.out _).mono ?_
          rintro e v5 ⟨rfl, hb⟩
          refine hK.out _ _ ?_ (fun hHeld => ?_)
          · exact hHeld.keep hb
          clear hK K
          try simp only [Act.put, List.getElem_toArray, List.getElem_cons_zero, List.getElem_cons_succ, List.setIfInBounds_toArray, List.set_cons_zero, List.set_cons_succ]
          refine wpAnyH_take (i := 11) (v := ?_) rfl (by kernel_rfl) (by kernel_rfl) (by kernel_rfl) (fun _ _ _ h => h) (Or.inl ⟨by rfl, ?_⟩) (by assumption) ?_
          rotate_left
          · (intro w hSw; (try (obtain ⟨hS0, hS1, hS2, hS3, hS4, hS5, hS6, hS7, hS8, hS9, hS10, hSb, hSs⟩ := hSw)); go_simp; (try with_reducible rfl))
          try simp only [Act.put, List.getElem_toArray, List.getElem_cons_zero, List.getElem_cons_succ, List.setIfInBounds_toArray, List.set_cons_zero, List.set_cons_succ]
          refine wpAnyH_ready (rs := [14]) (by kernel_rfl) (by simp) ?_
          refine AllReadyH.cons rfl (fun K hK => ?_) AllReadyH.nil
          rw [if_pos (by rfl)]
          go_simp
          refine (CS.out _).mono ?_
          rintro e v6 ⟨rfl, hb⟩
          refine hK.out _ _ ?_ (fun hHeld => ?_)
          · exact hHeld.keep hb
          clear hK K
          try simp only [Act.put, List.getElem_toArray, List.getElem_cons_zero, List.getElem_cons_succ, List.setIfInBounds_toArray, List.set_cons_zero, List.set_cons_succ]
          refine wpAnyH_take (i := 15) (v := ?_) rfl (by kernel_rfl) (by kernel_rfl) (by kernel_rfl) (fun _ _ _ h => h) (Or.inl ⟨by rfl, ?_⟩) (by assumption) ?_
          rotate_left
          · (intro w hSw; (try (obtain ⟨hS0, hS1, hS2, hS3, hS4, hS5, hS6, hS7, hS8, hS9, hS10, hSb, hSs⟩ := hSw)); go_simp; (try with_reducible rfl))
          try simp only [Act.put, List.getElem_toArray, List.getElem_cons_zero, List.getElem_cons_succ, List.setIfInBounds_toArray, List.set_cons_zero, List.set_cons_succ]
          refine wpAnyH_take (i := 16) (v := ?_) rfl (by kernel_rfl) (by kernel_rfl) (by kernel_rfl) (fun _ _ _ h => h) (Or.inl ⟨by rfl, ?_⟩) (by assumption) ?_
          rotate_left
          · (intro w hSw; (try (obtain ⟨hS0, hS1, hS2, hS3, hS4, hS5, hS6, hS7, hS8, hS9, hS10, hSb, hSs⟩ := hSw)); go_simp; (try with_reducible rfl))
          try simp only [Act.put, List.getElem_toArray, List.getElem_cons_zero, List.getElem_cons_succ, List.setIfInBounds_toArray, List.set_cons_zero, List.set_cons_succ]
          refine wpAnyH_done (by kernel_rfl) (NoPanic.normal ?_) _
          rw [app_two, app_two, app_two, Ex6.out]
          go_wp2_with fail
          go_meet
          exact ⟨rfl, hHeld⟩
        · rw [if_pos (by rfl)]
          go_simp
          refine (CD.out _).mono ?_
          rintro e v7 ⟨rfl, hb⟩
          replace CW := Lib.hid ((hb.cell hG.out).trans CW.out)
          replace hG := Lib.hid (Nat.lt_of_lt_of_le hG.out hb.size)
          refine hK.out _ _ ?_ (fun hHeld => ?_)
          · exact hHeld.keep hb
          clear hK K
          try simp only [Act.put, List.getElem_toArray, List.getElem_cons_zero, List.getElem_cons_succ, List.setIfInBounds_toArray, List.set_cons_zero, List.set_cons_succ]
          refine wpAnyH_ready (rs := [2, 14]) (by kernel_rfl) (by simp) ?_
          refine AllReadyH.cons rfl (fun K hK => ?_) (AllReadyH.cons rfl (fun K hK => ?_) AllReadyH.nil)
          · rw [if_pos (by rfl)]
            go_simp
            rw [conv1 _ _ _ CW.out]
            go_simp
            refine hK.out _ _ ?_ (fun hHeld => ?_)
            · exact hHeld
            clear hK K
            try simp only [Act.put, List.getElem_toArray, List.getElem_cons_zero, List.getElem_cons_succ, List.setIfInBounds_toArray, List.set_cons_zero, List.set_cons_succ]
            refine wpAnyH_take (i := 7) (v := ?_) rfl (by kernel_rfl) (by kernel_rfl) (by kernel_rfl) (fun _ _ _ h => h) (Or.inl ⟨by rfl, ?_⟩) (by assumption) ?_
            rotate_left
            · (intro w hSw; (try (obtain ⟨hS0, hS1, hS2, hS3, hS4, hS5, hS6, hS7, hS8, hS9, hS10, hSb, hSs⟩ := hSw)); go_simp; (try with_reducible rfl))
            try simp only [Act.put, List.getElem_toArray, List.getElem_cons_zero, List.getElem_cons_succ, List.setIfInBounds_toArray, List.set_cons_zero, List.set_cons_succ]
            refine wpAnyH_take (i := 11) (v := ?_) rfl (by kernel_rfl) (by kernel_rfl) (by kernel_rfl) (fun _ _ _ h => h) (Or.inl ⟨by rfl, ?_⟩) (by assumption) ?_
            rotate_left
            · (intro w hSw; (try (obtain ⟨hS0, hS1, hS2, hS3, hS4, hS5, hS6, hS7, hS8, hS9, hS10, hSb, hSs⟩ := hSw)); go_simp; (try with_reducible rfl))
            try simp only [Act.put, List.getElem_toArray, List.getElem_cons_zero, List.getElem_cons_succ, List.setIfInBounds_toArray, List.set_cons_zero, List.set_cons_succ]
            refine wpAnyH_ready (rs := [14]) (by kernel_rfl) (by simp) ?_
            refine AllReadyH.cons rfl (fun K hK => ?_) AllReadyH.nil
            rw [if_pos (by rfl)]
            go_simp
            refine (CS.out _).mono ?_
            rintro e v8 ⟨rfl, hb⟩
            refine hK.out _ _ ?_ (fun hHeld => ?_)
            · exact hHeld.keep hb
            clear hK K
            try simp only [Act.put, List.getElem_toArray, List.getElem_cons_zero, List.getElem_cons_succ, List.setIfInBounds_toArray, List.set_cons_zero, List.set_cons_succ]
            refine wpAnyH_take (i := 15) (v := ?_) rfl (by kernel_rfl) (by kernel_rfl) (by kernel_rfl) (fun _ _ _ h => h) (Or.inl ⟨by rfl, ?_⟩) (by assumption) ?_
            rotate_left
            · (intro w hSw; (try (obtain ⟨hS0, hS1, hS2, hS3, hS4, hS5, hS6, hS7, hS8, hS9, hS10, hSb, hSs⟩ := hSw)); go_simp; (try with_reducible rfl))
            try simp only [Act.put, List.getElem_toArray, List.getElem_cons_zero, List.getElem_cons_succ, List.setIfInBounds_toArray, List.set_cons_zero, List.set_cons_succ]
            refine wpAnyH_take (i := 16) (v := ?_) rfl (by kernel_rfl) (by kernel_rfl) (by kernel_rfl) (fun _ _ _ h => h) (Or.inl ⟨by rfl, ?_⟩) (by assumption) ?_
            rotate_left
            · (intro w hSw; (try (obtain ⟨hS0, hS1, hS2, hS3, hS4, hS5, hS6, hS7, hS8, hS9, hS10, hSb, hSs⟩ := hSw)); go_simp; (try with_reducible rfl))
            try simp only [Act.put, List.getElem_toArray, List.getElem_cons_zero, List.getElem_cons_succ, List.setIfInBounds_toArray, List.set_cons_zero, List.set_cons_succ]
            refine wpAnyH_done (by kernel_rfl) (NoPanic.normal ?_) _
            rw [app_two, app_two, app_two, Ex6.out]
            go_wp2_with fail
            go_meet
            exact ⟨rfl, hHeld⟩
          · rw [if_pos (by rfl)]
            go_simp
            refine (CS.out _).mono ?_
            rintro e v9 ⟨rfl, hb⟩
            replace CW := Lib.hid ((hb.cell hG.out).trans CW.out)
            replace hG := Lib.hid (Nat.lt_of_lt_of_le hG.out hb.size)
            refine hK.out _ _ ?_ (fun hHeld => ?_)
            · exact hHeld.keep hb
            clear hK K
            try simp only [Act.put, List.getElem_toArray, List.getElem_cons_zero, List.getElem_cons_succ, List.setIfInBounds_toArray, List.set_cons_zero, List.set_cons_succ]
            refine wpAnyH_ready (rs := [2]) (by kernel_rfl) (by simp) ?_
            refine AllReadyH.cons rfl (fun K hK => ?_) AllReadyH.nil
            rw [if_pos (by rfl)]
            go_simp
            rw [conv1 _ _ _ CW.out]
            go_simp
            refine hK.out _ _ ?_ (fun hHeld => ?_)
            · exact hHeld
            clear hK K
            try simp only [Act.put, List.getElem_toArray, List.getElem_cons_zero, List.getElem_cons_succ, List.setIfInBounds_toArray, List.set_cons_zero, List.set_cons_succ]
            refine wpAnyH_take (i := 7) (v := ?_) rfl (by kernel_rfl) (by kernel_rfl) (by kernel_rfl) (fun _ _ _ h => h) (Or.inl ⟨by rfl, ?_⟩) (by assumption) ?_
            rotate_left
            · (intro w hSw; (try (obtain ⟨hS0, hS1, hS2, hS3, hS4, hS5, hS6, hS7, hS8, hS9, hS10, hSb, hSs⟩ := hSw)); go_simp; (try with_reducible rfl))
            try simp only [Act.put, List.getElem_toArray, List.getElem_cons_zero, List.getElem_cons_succ, List.setIfInBounds_toArray, List.set_cons_zero, List.set_cons_succ]
            refine wpAnyH_take (i := 11) (v := ?_) rfl (by kernel_rfl) (by kernel_rfl) (by kernel_rfl) (fun _ _ _ h => h) (Or.inl ⟨by rfl, ?_⟩) (by assumption) ?_
            rotate_left
            · (intro w hSw; (try (obtain ⟨hS0, hS1, hS2, hS3, hS4, hS5, hS6, hS7, hS8, hS9, hS10, hSb, hSs⟩ := hSw)); go_simp; (try with_reducible rfl))
            try simp only [Act.put, List.getElem_toArray, List.getElem_cons_zero, List.getElem_cons_succ, List.setIfInBounds_toArray, List.set_cons_zero, List.set_cons_succ]
            refine wpAnyH_take (i := 15) (v := ?_) rfl (by kernel_rfl) (by kernel_rfl) (by kernel_rfl) (fun _ _ _ h => h) (Or.inl ⟨by rfl, ?_⟩) (by assumption) ?_
            rotate_left
            · (intro w hSw; (try (obtain ⟨hS0, hS1, hS2, hS3, hS4, hS5, hS6, hS7, hS8, hS9, hS10, hSb, hSs⟩ := hSw)); go_simp; (try with_reducible rfl))
            try simp only [Act.put, List.getElem_toArray, List.getElem_cons_zero, List.getElem_cons_succ, List.setIfInBounds_toArray, List.set_cons_zero, List.set_cons_succ]
            refine wpAnyH_take (i := 16) (v := ?_) rfl (by kernel_rfl) (by kernel_rfl) (by kernel_rfl) (fun _ _ _ h => h) (Or.inl ⟨by rfl, ?_⟩) (by assumption) ?_
            rotate_left
            · (intro w hSw; (try (obtain ⟨hS0, hS1, hS2, hS3, hS4, hS5, hS6, hS7, hS8, hS9, hS10, hSb, hSs⟩ := hSw)); go_simp; (try with_reducible rfl))
            try simp only [Act.put, List.getElem_toArray, List.getElem_cons_zero, List.getElem_cons_succ, List.setIfInBounds_toArray, List.set_cons_zero, List.set_cons_succ]
            refine wpAnyH_done (by kernel_rfl) (NoPanic.normal ?_) _
            rw [app_two, app_two, app_two, Ex6.out]
            go_wp2_with fail
            go_meet
            exact ⟨rfl, hHeld⟩
    · rw [if_pos (by rfl)]
      go_simp
      refine (C4.out _).mono ?_
      rintro e v10 ⟨rfl, hb⟩
      refine hK.out _ _ ?_ (fun hHeld => ?_)
      · exact hHeld.keep hb
      clear hK K
      try simp only [Act.put, List.getElem_toArray, List.getElem_cons_zero, List.getElem_cons_succ, List.setIfInBounds_toArray, List.set_cons_zero, List.set_cons_succ]
      refine wpAnyH_ready (rs := [1, 10]) (by kernel_rfl) (by simp) ?_
      refine AllReadyH.cons rfl (fun K hK => ?_) (AllReadyH.cons rfl (fun K hK => ?_) AllReadyH.nil)
      · rw [if_pos (by rfl)]
        go_simp
        have CW : Hid (((v10.alloc (.cells #[.int .u8 fb] 5))).cell? ⟨v10.heap.size, 0, none⟩ = some (.int .u8 fb)) := Lib.hid (by simp [go_sem])
        have hG : Hid (v10.heap.size < ((v10.alloc (.cells #[.int .u8 fb] 5))).heap.size) := Lib.hid (by simp)
        refine hK.out _ _ ?_ (fun hHeld => ?_)
        · exact hHeld.keep ((Below.refl _ _).alloc (Nat.le_refl _) _)
        clear hK K
        try simp only [Act.put, List.getElem_toArray, List.getElem_cons_zero, List.getElem_cons_succ, List.setIfInBounds_toArray, List.set_cons_zero, List.set_cons_succ]
        refine wpAnyH_ready (rs := [2, 10]) (by kernel_rfl) (by simp) ?_
        refine AllReadyH.cons rfl (fun K hK => ?_) (AllReadyH.cons rfl (fun K hK => ?_) AllReadyH.nil)
        · rw [if_pos (by rfl)]
          go_simp
          rw [conv1 _ _ _ CW.out]
          go_simp
          refine hK.out _ _ ?_ (fun hHeld => ?_)
          · exact hHeld
          clear hK K
          try simp only [Act.put, List.getElem_toArray, List.getElem_cons_zero, List.getElem_cons_succ, List.setIfInBounds_toArray, List.set_cons_zero, List.set_cons_succ]
          refine wpAnyH_take (i := 7) (v := ?_) rfl (by kernel_rfl) (by kernel_rfl) (by kernel_rfl) (fun _ _ _ h => h) (Or.inl ⟨by rfl, ?_⟩) (by assumption) ?_
          rotate_left
          · (intro w hSw; (try (obtain ⟨hS0, hS1, hS2, hS3, hS4, hS5, hS6, hS7, hS8, hS9, hS10, hSb, hSs⟩ := hSw)); go_simp; (try with_reducible rfl))
          try simp only [Act.put, List.getElem_toArray, List.getElem_cons_zero, List.getElem_cons_succ, List.setIfInBounds_toArray, List.set_cons_zero, List.set_cons_succ]
          refine wpAnyH_ready (rs := [10]) (by kernel_rfl) (by simp) ?_
          refine AllReadyH.cons rfl (fun K hK => ?_) AllReadyH.nil
          rw [if_pos (by rfl)]
          go_simp
          refine (CD.out _).mono ?_
          rintro e v11 ⟨rfl, hb⟩
          refine hK.out _ _ ?_ (fun hHeld => ?_)
          · exact hHeld.keep hb
          clear hK K
          try simp only [Act.put, List.getElem_toArray, List.getElem_cons_zero, List.getElem_cons_succ, List.setIfInBounds_toArray, List.set_cons_zero, List.set_cons_succ]
          refine wpAnyH_take (i := 11) (v := ?_) rfl (by kernel_rfl) (by kernel_rfl) (by kernel_rfl) (fun _ _ _ h => h) (Or.inl ⟨by rfl, ?_⟩) (by assumption) ?_
          rotate_left
          · (intro w hSw; (try (obtain ⟨hS0, hS1, hS2, hS3, hS4, hS5, hS6, hS7, hS8, hS9, hS10, hSb, hSs⟩ := hSw)); go_simp; (try with_reducible rfl))
          try simp only [Act.put, List.getElem_toArray, List.getElem_cons_zero, List.getElem_cons_succ, List.setIfInBounds_toArray, List.set_cons_zero, List.set_cons_succ]
          refine wpAnyH_ready (rs := [14]) (by kernel_rfl) (by simp) ?_
          refine AllReadyH.cons rfl (fun K hK => ?_) AllReadyH.nil
          rw [if_pos (by rfl)]
          go_simp
          refine (CS.out _).mono ?_
          rintro e v12 ⟨rfl, hb⟩
          refine hK.out _ _ ?_ (fun hHeld => ?_)
          · exact hHeld.keep hb
          clear hK K
          try simp only [Act.put, List.getElem_toArray, List.getElem_cons_zero, List.getElem_cons_succ, List.setIfInBounds_toArray, List.set_cons_zero, List.set_cons_succ]
          refine wpAnyH_take (i := 15) (v := ?_) rfl (by kernel_rfl) (by kernel_rfl) (by kernel_rfl) (fun _ _ _ h => h) (Or.inl ⟨by rfl, ?_⟩) (by assumption) ?_
          rotate_left
          · (intro w hSw; (try (obtain ⟨hS0, hS1, hS2, hS3, hS4, hS5, hS6, hS7, hS8, hS9, hS10, hSb, hSs⟩ := hSw)); go_simp; (try with_reducible rfl))
          try simp only [Act.put, List.getElem_toArray, List.getElem_cons_zero, List.getElem_cons_succ, List.setIfInBounds_toArray, List.set_cons_zero, List.set_cons_succ]
          refine wpAnyH_take (i := 16) (v := ?_) rfl (by kernel_rfl) (by kernel_rfl) (by kernel_rfl) (fun _ _ _ h => h) (Or.inl ⟨by rfl, ?_⟩) (by assumption) ?_
          rotate_left
          · (intro w hSw; (try (obtain ⟨hS0, hS1, hS2, hS3, hS4, hS5, hS6, hS7, hS8, hS9, hS10, hSb, hSs⟩ := hSw)); go_simp; (try with_reducible rfl))
          try simp only [Act.put, List.getElem_toArray, List.getElem_cons_zero, List.getElem_cons_succ, List.setIfInBounds_toArray, List.set_cons_zero, List.set_cons_succ]
          refine wpAnyH_done (by kernel_rfl) (NoPanic.normal ?_) _
          rw [app_two, app_two, app_two, Ex6.out]
          go_wp2_with fail
          go_meet
          exact ⟨rfl, hHeld⟩
        · rw [if_pos (by rfl)]
          go_simp
          refine (CD.out _).mono ?_
          rintro e v13 ⟨rfl, hb⟩
          replace CW := Lib.hid ((hb.cell hG.out).trans CW.out)
          replace hG := Lib.hid (Nat.lt_of_lt_of_le hG.out hb.size)
          refine hK.out _ _ ?_ (fun hHeld => ?_)
          · exact hHeld.keep hb
          clear hK K
          try simp only [Act.put, List.getElem_toArray, List.getElem_cons_zero, List.getElem_cons_succ, List.setIfInBounds_toArray, List.set_cons_zero, List.set_cons_succ]
          refine wpAnyH_ready (rs := [2, 14]) (by kernel_rfl) (by simp) ?_
          refine AllReadyH.cons rfl (fun K hK => ?_) (AllReadyH.cons rfl (fun K hK => ?_) AllReadyH.nil)
          · rw [if_pos (by rfl)]
            go_simp
            rw [conv1 _ _ _ CW.out]
            go_simp
            refine hK.out _ _ ?_ (fun hHeld => ?_)
            · exact hHeld
            clear hK K
            try simp only [Act.put, List.getElem_toArray, List.getElem_cons_zero, List.getElem_cons_succ, List.setIfInBounds_toArray, List.set_cons_zero, List.set_cons_succ]
            refine wpAnyH_take (i := 7) (v := ?_) rfl (by kernel_rfl) (by kernel_rfl) (by kernel_rfl) (fun _ _ _ h => h) (Or.inl ⟨by rfl, ?_⟩) (by assumption) ?_
            rotate_left
            · (intro w hSw; (try (obtain ⟨hS0, hS1, hS2, hS3, hS4, hS5, hS6, hS7, hS8, hS9, hS10, hSb, hSs⟩ := hSw)); go_simp; (try with_reducible rfl))
            try simp only [Act.put, List.getElem_toArray, List.getElem_cons_zero, List.getElem_cons_succ, List.setIfInBounds_toArray, List.set_cons_zero, List.set_cons_succ]
            refine wpAnyH_take (i := 11) (v := ?_) rfl (by kernel_rfl) (by kernel_rfl) (by kernel_rfl) (fun _ _ _ h => h) (Or.inl ⟨by rfl, ?_⟩) (by assumption) ?_
            rotate_left
            · (intro w hSw; (try (obtain ⟨hS0, hS1, hS2, hS3, hS4, hS5, hS6, hS7, hS8, hS9, hS10, hSb, hSs⟩ := hSw)); go_simp; (try with_reducible rfl))
            try simp only [Act.put, List.getElem_toArray, List.getElem_cons_zero, List.getElem_cons_succ, List.setIfInBounds_toArray, List.set_cons_zero, List.set_cons_succ]
            refine wpAnyH_ready (rs := [14]) (by kernel_rfl) (by simp) ?_
            refine AllReadyH.cons rfl (fun K hK => ?_) AllReadyH.nil
            rw [if_pos (by rfl)]
            go_simp
            refine (CS.out _).mono ?_
            rintro e v14 ⟨rfl, hb⟩
            refine hK.out _ _ ?_ (fun hHeld => ?_)
            · exact hHeld.keep hb
            clear hK K
            try simp only [Act.put, List.getElem_toArray, List.getElem_cons_zero, List.getElem_cons_succ, List.setIfInBounds_toArray, List.set_cons_zero, List.set_cons_succ]
            refine wpAnyH_take (i := 15) (v := ?_) rfl (by kernel_rfl) (by kernel_rfl) (by kernel_rfl) (fun _ _ _ h => h) (Or.inl ⟨by rfl, ?_⟩) (by assumption) ?_
            rotate_left
            · (intro w hSw; (try (obtain ⟨hS0, hS1, hS2, hS3, hS4, hS5, hS6, hS7, hS8, hS9, hS10, hSb, hSs⟩ := hSw)); go_simp; (try with_reducible rfl))
            try simp only [Act.put, List.getElem_toArray, List.getElem_cons_zero, List.getElem_cons_succ, List.setIfInBounds_toArray, List.set_cons_zero, List.set_cons_succ]
            refine wpAnyH_take (i := 16) (v := ?_) rfl (by kernel_rfl) (by kernel_rfl) (by kernel_rfl) (fun _ _ _ h => h) (Or.inl ⟨by rfl, ?_⟩) (by assumption) ?_
            rotate_left
            · (intro w hSw; (try (obtain ⟨hS0, hS1, hS2, hS3, hS4, hS5, hS6, hS7, hS8, hS9, hS10, hSb, hSs⟩ := hSw)); go_simp; (try with_reducible rfl))
            try simp only [Act.put, List.getElem_toArray, List.getElem_cons_zero, List.getElem_cons_succ, List.setIfInBounds_toArray, List.set_cons_zero, List.set_cons_succ]
            refine wpAnyH_done (by kernel_rfl) (NoPanic.normal ?_) _
            rw [app_two, app_two, app_two, Ex6.out]
            go_wp2_with fail
            go_meet
            exact ⟨rfl, hHeld⟩
          · rw [if_pos (by rfl)]
            go_simp
            refine (CS.out _).mono ?_
            rintro e v15 ⟨rfl, hb⟩
            replace CW := Lib.hid ((hb.cell hG.out).trans CW.out)
            replace hG := Lib.hid (Nat.lt_of_lt_of_le hG.out hb.size)
            refine hK.out _ _ ?_ (fun hHeld => ?_)
            · exact hHeld.keep hb
            clear hK K
            try simp only [Act.put, List.getElem_toArray, List.getElem_cons_zero, List.getElem_cons_succ, List.setIfInBounds_toArray, List.set_cons_zero, List.set_cons_succ]
            refine wpAnyH_ready (rs := [2]) (by kernel_rfl) (by simp) ?_
            refine AllReadyH.cons rfl (fun K hK => ?_) AllReadyH.nil
            rw [if_pos (by rfl)]
            go_simp
            rw [conv1 _ _ _ CW.out]
            go_simp
            refine hK.out _ _ ?_ (fun hHeld => ?_)
            · exact hHeld
            clear hK K
            try simp only [Act.put, List.getElem_toArray, List.getElem_cons_zero, List.getElem_cons_succ, List.setIfInBounds_toArray, List.set_cons_zero, List.set_cons_succ]
            refine wpAnyH_take (i := 7) (v := ?_) rfl (by kernel_rfl) (by kernel_rfl) (by kernel_rfl) (fun _ _ _ h => h) (Or.inl ⟨by rfl, ?_⟩) (by assumption) ?_
            rotate_left
            · (intro w hSw; (try (obtain ⟨hS0, hS1, hS2, hS3, hS4, hS5, hS6, hS7, hS8, hS9, hS10, hSb, hSs⟩ := hSw)); go_simp; (try with_reducible rfl))
            try simp only [Act.put, List.getElem_toArray, List.getElem_cons_zero, List.getElem_cons_succ, List.setIfInBounds_toArray, List.set_cons_zero, List.set_cons_succ]
            refine wpAnyH_take (i := 11) (v := ?_) rfl (by kernel_rfl) (by kernel_rfl) (by kernel_rfl) (fun _ _ _ h => h) (Or.inl ⟨by rfl, ?_⟩) (by assumption) ?_
            rotate_left
            · (intro w hSw; (try (obtain ⟨hS0, hS1, hS2, hS3, hS4, hS5, hS6, hS7, hS8, hS9, hS10, hSb, hSs⟩ := hSw)); go_simp; (try with_reducible rfl))
            try simp only [Act.put, List.getElem_toArray, List.getElem_cons_zero, List.getElem_cons_succ, List.setIfInBounds_toArray, List.set_cons_zero, List.set_cons_succ]
            refine wpAnyH_take (i := 15) (v := ?_) rfl (by kernel_rfl) (by kernel_rfl) (by kernel_rfl) (fun _ _ _ h => h) (Or.inl ⟨by rfl, ?_⟩) (by assumption) ?_
            rotate_left
            · (intro w hSw; (try (obtain ⟨hS0, hS1, hS2, hS3, hS4, hS5, hS6, hS7, hS8, hS9, hS10, hSb, hSs⟩ := hSw)); go_simp; (try with_reducible rfl))
            try simp only [Act.put, List.getElem_toArray, List.getElem_cons_zero, List.getElem_cons_succ, List.setIfInBounds_toArray, List.set_cons_zero, List.set_cons_succ]
            refine wpAnyH_take (i := 16) (v := ?_) rfl (by kernel_rfl) (by kernel_rfl) (by kernel_rfl) (fun _ _ _ h => h) (Or.inl ⟨by rfl, ?_⟩) (by assumption) ?_
            rotate_left
            · (intro w hSw; (try (obtain ⟨hS0, hS1, hS2, hS3, hS4, hS5, hS6, hS7, hS8, hS9, hS10, hSb, hSs⟩ := hSw)); go_simp; (try with_reducible rfl))
            try simp only [Act.put, List.getElem_toArray, List.getElem_cons_zero, List.getElem_cons_succ, List.setIfInBounds_toArray, List.set_cons_zero, List.set_cons_succ]
            refine wpAnyH_done (by kernel_rfl) (NoPanic.normal ?_) _
            rw [app_two, app_two, app_two, Ex6.out]
            go_wp2_with fail
            go_meet
            exact ⟨rfl, hHeld⟩
      · rw [if_pos (by rfl)]
        go_simp
        refine (CD.out _).mono ?_
        rintro e v16 ⟨rfl, hb⟩
        refine hK.out _ _ ?_ (fun hHeld => ?_)
        · exact hHeld.keep hb
        clear hK K
        try simp only [Act.put, List.getElem_toArray, List.getElem_cons_zero, List.getElem_cons_succ, List.setIfInBounds_toArray, List.set_cons_zero, List.set_cons_succ]
        refine wpAnyH_ready (rs := [1, 14]) (by kernel_rfl) (by simp) ?_
        refine AllReadyH.cons rfl (fun K hK => ?_) (AllReadyH.cons rfl (fun K hK => ?_) AllReadyH.nil)
        · rw [if_pos (by rfl)]
          go_simp
          have CW : Hid (((v16.alloc (.cells #[.int .u8 fb] 5))).cell? ⟨v16.heap.size, 0, none⟩ = some (.int .u8 fb)) := Lib.hid (by simp [go_sem])
          have hG : Hid (v16.heap.size < ((v16.alloc (.cells #[.int .u8 fb] 5))).heap.size) := Lib.hid (by simp)
          refine hK.out _ _ ?_ (fun hHeld => ?_)
          · exact hHeld.keep ((Below.refl _ _).alloc (Nat.le_refl _) _)
          clear hK K
          try simp only [Act.put, List.getElem_toArray, List.getElem_cons_zero, List.getElem_cons_succ, List.setIfInBounds_toArray, List.set_cons_zero, List.set_cons_succ]
          refine wpAnyH_ready (rs := [2, 14]) (by kernel_rfl) (by simp) ?_
          refine AllReadyH.cons rfl (fun K hK => ?_) (AllReadyH.cons rfl (fun K hK => ?_) AllReadyH.nil)
          · rw [if_pos (by rfl)]
            go_simp
            rw [conv1 _ _ _ CW.out]
            go_simp
            refine hK.out _ _ ?_ (fun hHeld => ?_)
            · exact hHeld
            clear hK K
            try simp only [Act.put, List.getElem_toArray, List.getElem_cons_zero, List.getElem_cons_succ, List.setIfInBounds_toArray, List.set_cons_zero, List.set_cons_succ]
            refine wpAnyH_take (i := 7) (v := ?_) rfl (by kernel_rfl) (by kernel_rfl) (by kernel_rfl) (fun _ _ _ h => h) (Or.inl ⟨by rfl, ?_⟩) (by assumption) ?_
            rotate_left
            · (intro w hSw; (try (obtain ⟨hS0, hS1, hS2, hS3, hS4, hS5, hS6, hS7, hS8, hS9, hS10, hSb, hSs⟩ := hSw)); go_simp; (try with_reducible rfl))
            try simp only [Act.put, List.getElem_toArray, List.getElem_cons_zero, List.getElem_cons_succ, List.setIfInBounds_toArray, List.set_cons_zero, List.set_cons_succ]
            refine wpAnyH_take (i := 11) (v := ?_) rfl (by kernel_rfl) (by kernel_rfl) (by kernel_rfl) (fun _ _ _ h => h) (Or.inl ⟨by rfl, ?_⟩) (by assumption) ?_
            rotate_left
            · (intro w hSw; (try (obtain ⟨hS0, hS1, hS2, hS3, hS4, hS5, hS6, hS7, hS8, hS9, hS10, hSb, hSs⟩ := hSw)); go_simp; (try with_reducible rfl))
            try simp only [Act.put, List.getElem_toArray, List.getElem_cons_zero, List.getElem_cons_succ, List.setIfInBounds_toArray, List.set_cons_zero, List.set_cons_succ]
            refine wpAnyH_ready (rs := [14]) (by kernel_rfl) (by simp) ?_
            refine AllReadyH.cons rfl (fun K hK => ?_) AllReadyH.nil
            rw [if_pos (by rfl)]
            go_simp
            refine (CS.out _).mono ?_
            rintro e v17 ⟨rfl, hb⟩
            refine hK.out _ _ ?_ (fun hHeld => ?_)
            · exact hHeld.keep hb
            clear hK K
            try simp only [Act.put, List.getElem_toArray, List.getElem_cons_zero, List.getElem_cons_succ, List.setIfInBounds_toArray, List.set_cons_zero, List.set_cons_succ]
            refine wpAnyH_take (i := 15) (v := ?_) rfl (by kernel_rfl) (by kernel_rfl) (by kernel_rfl) (fun _ _ _ h => h) (Or.inl ⟨by rfl, ?_⟩) (by assumption) ?_
            rotate_left
            · (intro w hSw; (try (obtain ⟨hS0, hS1, hS2, hS3, hS4, hS5, hS6, hS7, hS8, hS9, hS10, hSb, hSs⟩ := hSw)); go_simp; (try with_reducible rfl))
            try simp only [Act.put, List.getElem_toArray, List.getElem_cons_zero, List.getElem_cons_succ, List.setIfInBounds_toArray, List.set_cons_zero, List.set_cons_succ]
            refine wpAnyH_take (i := 16) (v := ?_) rfl (by kernel_rfl) (by kernel_rfl) (by kernel_rfl) (fun _ _ _ h => h) (Or.inl ⟨by rfl, ?_⟩) (by assumption) ?_
            rotate_left
            · (intro w hSw; (try (obtain ⟨hS0, hS1, hS2, hS3, hS4, hS5, hS6, hS7, hS8, hS9, hS10, hSb, hSs⟩ := hSw)); go_simp; (try with_reducible rfl))
            try simp only [Act.put, List.getElem_toArray, List.getElem_cons_zero, List.getElem_cons_succ, List.setIfInBounds_toArray, List.set_cons_zero, List.set_cons_succ]
            refine wpAnyH_done (by kernel_rfl) (NoPanic.normal ?_) _
            rw [app_two, app_two, app_two, Ex6.out]
            go_wp2_with fail
            go_meet
            exact ⟨rfl, hHeld⟩
          · rw [if_pos (by rfl)]
            go_simp
            refine (CS.out _).mono ?_
            rintro e v18 ⟨rfl, hb⟩
            replace CW := Lib.hid ((hb.cell hG.out).trans CW.out)
            replace hG := Lib.hid (Nat.lt_of_lt_of_le hG.out hb.size)
            refine hK.out _ _ ?_ (fun hHeld => ?_)
            · exact hHeld.keep hb
            clear hK K
            try simp only [Act.put, List.getElem_toArray, List.getElem_cons_zero, List.getElem_cons_succ, List.setIfInBounds_toArray, List.set_cons_zero, List.set_cons_succ]
            refine wpAnyH_ready (rs := [2]) (by kernel_rfl) (by simp) ?_
            refine AllReadyH.cons rfl (fun K hK => ?_) AllReadyH.nil
            rw [if_pos (by rfl)]
            go_simp
            rw [conv1 _ _ _ CW.out]
            go_simp
            refine hK.out _ _ ?_ (fun hHeld => ?_)
            · exact hHeld
            clear hK K
            try simp only [Act.put, List.getElem_toArray, List.getElem_cons_zero, List.getElem_cons_succ, List.setIfInBounds_toArray, List.set_cons_zero, List.set_cons_succ]
            refine wpAnyH_take (i := 7) (v := ?_) rfl (by kernel_rfl) (by kernel_rfl) (by kernel_rfl) (fun _ _ _ h => h) (Or.inl ⟨by rfl, ?_⟩) (by assumption) ?_
            rotate_left
            · (intro w hSw; (try (obtain ⟨hS0, hS1, hS2, hS3, hS4, hS5, hS6, hS7, hS8, hS9, hS10, hSb, hSs⟩ := hSw)); go_simp; (try with_reducible rfl))
            try simp only [Act.put, List.getElem_toArray, List.getElem_cons_zero, List.getElem_cons_succ, List.setIfInBounds_toArray, List.set_cons_zero, List.set_cons_succ]
            refine wpAnyH_take (i := 11) (v := ?_) rfl (by kernel_rfl) (by kernel_rfl) (by kernel_rfl) (fun _ _ _ h => h) (Or.inl ⟨by rfl, ?_⟩) (by assumption) ?_
            rotate_left
            · (intro w hSw; (try (obtain ⟨hS0, hS1, hS2, hS3, hS4, hS5, hS6, hS7, hS8, hS9, hS10, hSb, hSs⟩ := hSw)); go_simp; (try with_reducible rfl))
            try simp only [Act.put, List.getElem_toArray, List.getElem_cons_zero, List.getElem_cons_succ, List.setIfInBounds_toArray, List.set_cons_zero, List.set_cons_succ]
            refine wpAnyH_take (i := 15) (v := ?_) rfl (by kernel_rfl) (by kernel_rfl) (by kernel_rfl) (fun _ _ _ h => h) (Or.inl ⟨by rfl, ?_⟩) (by assumption) ?_
            rotate_left
            · (intro w hSw; (try (obtain ⟨hS0, hS1, hS2, hS3, hS4, hS5, hS6, hS7, hS8, hS9, hS10, hSb, hSs⟩ := hSw)); go_simp; (try with_reducible rfl))
            try simp only [Act.put, List.getElem_toArray, List.getElem_cons_zero, List.getElem_cons_succ, List.setIfInBounds_toArray, List.set_cons_zero, List.set_cons_succ]
            refine wpAnyH_take (i := 16) (v := ?_) rfl (by kernel_rfl) (by kernel_rfl) (by kernel_rfl) (fun _ _ _ h => h) (Or.inl ⟨by rfl, ?_⟩) (by assumption) ?_
            rotate_left
            · (intro w hSw; (try (obtain ⟨hS0, hS1, hS2, hS3, hS4, hS5, hS6, hS7, hS8, hS9, hS10, hSb, hSs⟩ := hSw)); go_simp; (try with_reducible rfl))
            try simp only [Act.put, List.getElem_toArray, List.getElem_cons_zero, List.getElem_cons_succ, List.setIfInBounds_toArray, List.set_cons_zero, List.set_cons_succ]
            refine wpAnyH_done (by kernel_rfl) (NoPanic.normal ?_) _
            rw [app_two, app_two, app_two, Ex6.out]
            go_wp2_with fail
            go_meet
            exact ⟨rfl, hHeld⟩
        · rw [if_pos (by rfl)]
          go_simp
          refine (CS.out _).mono ?_
          rintro e v19 ⟨rfl, hb⟩
          refine hK.out _ _ ?_ (fun hHeld => ?_)
          · exact hHeld.keep hb
          clear hK K
          try simp only [Act.put, List.getElem_toArray, List.getElem_cons_zero, List.getElem_cons_succ, List.setIfInBounds_toArray, List.set_cons_zero, List.set_cons_succ]
          refine wpAnyH_ready (rs := [1]) (by kernel_rfl) (by simp) ?_
          refine AllReadyH.cons rfl (fun K hK => ?_) AllReadyH.nil
          rw [if_pos (by rfl)]
          go_simp
          have CW : Hid (((v19.alloc (.cells #[.int .u8 fb] 5))).cell? ⟨v19.heap.size, 0, none⟩ = some (.int .u8 fb)) := Lib.hid (by simp [go_sem])
          have hG : Hid (v19.heap.size < ((v19.alloc (.cells #[.int .u8 fb] 5))).heap.size) := Lib.hid (by simp)
          refine hK.out _ _ ?_ (fun hHeld => ?_)
          · exact hHeld.keep ((Below.refl _ _).alloc (Nat.le_refl _) _)
          clear hK K
          try simp only [Act.put, List.getElem_toArray, List.getElem_cons_zero, List.getElem_cons_succ, List.setIfInBounds_toArray, List.set_cons_zero, List.set_cons_succ]
          refine wpAnyH_ready (rs := [2]) (by kernel_rfl) (by simp) ?_
          refine AllReadyH.cons rfl (fun K hK => ?_) AllReadyH.nil
          rw [if_pos (by rfl)]
          go_simp
          rw [conv1 _ _ _ CW.out]
          go_simp
          refine hK.out _ _ ?_ (fun hHeld => ?_)
          · exact hHeld
          clear hK K
          try simp only [Act.put, List.getElem_toArray, List.getElem_cons_zero, List.getElem_cons_succ, List.setIfInBounds_toArray, List.set_cons_zero, List.set_cons_succ]
          refine wpAnyH_take (i := 7) (v := ?_) rfl (by kernel_rfl) (by kernel_rfl) (by kernel_rfl) (fun _ _ _ h => h) (Or.inl ⟨by rfl, ?_⟩) (by assumption) ?_
          rotate_left
          · (intro w hSw; (try (obtain ⟨hS0, hS1, hS2, hS3, hS4, hS5, hS6, hS7, hS8, hS9, hS10, hSb, hSs⟩ := hSw)); go_simp; (try with_reducible rfl))
          try simp only [Act.put, List.getElem_toArray, List.getElem_cons_zero, List.getElem_cons_succ, List.setIfInBounds_toArray, List.set_cons_zero, List.set_cons_succ]
          refine wpAnyH_take (i := 11) (v := ?_) rfl (by kernel_rfl) (by kernel_rfl) (by kernel_rfl) (fun _ _ _ h => h) (Or.inl ⟨by rfl, ?_⟩) (by assumption) ?_
          rotate_left
          · (intro w hSw; (try (obtain ⟨hS0, hS1, hS2, hS3, hS4, hS5, hS6, hS7, hS8, hS9, hS10, hSb, hSs⟩ := hSw)); go_simp; (try with_reducible rfl))
          try simp only [Act.put, List.getElem_toArray, List.getElem_cons_zero, List.getElem_cons_succ, List.setIfInBounds_toArray, List.set_cons_zero, List.set_cons_succ]
          refine wpAnyH_take (i := 15) (v := ?_) rfl (by kernel_rfl) (by kernel_rfl) (by kernel_rfl) (fun _ _ _ h => h) (Or.inl ⟨by rfl, ?_⟩) (by assumption) ?_
          rotate_left
          · (intro w hSw; (try (obtain ⟨hS0, hS1, hS2, hS3, hS4, hS5, hS6, hS7, hS8, hS9, hS10, hSb, hSs⟩ := hSw)); go_simp; (try with_reducible rfl))
          try simp only [Act.put, List.getElem_toArray, List.getElem_cons_zero, List.getElem_cons_succ, List.setIfInBounds_toArray, List.set_cons_zero, List.set_cons_succ]
          refine wpAnyH_take (i := 16) (v := ?_) rfl (by kernel_rfl) (by kernel_rfl) (by kernel_rfl) (fun _ _ _ h => h) (Or.inl ⟨by rfl, ?_⟩) (by assumption) ?_
          rotate_left
          · (intro w hSw; (try (obtain ⟨hS0, hS1, hS2, hS3, hS4, hS5, hS6, hS7, hS8, hS9, hS10, hSb, hSs⟩ := hSw)); go_simp; (try with_reducible rfl))
          try simp only [Act.put, List.getElem_toArray, List.getElem_cons_zero, List.getElem_cons_succ, List.setIfInBounds_toArray, List.set_cons_zero, List.set_cons_succ]
          refine wpAnyH_done (by kernel_rfl) (NoPanic.normal ?_) _
          rw [app_two, app_two, app_two, Ex6.out]
          go_wp2_with fail
          go_meet
          exact ⟨rfl, hHeld⟩
  case rest =>
    obtain ⟨rfl, hbx⟩ := hcut
    replace HX := Lib.hid hbx
    clear hbx c0 c1 c2 c3 c4 c5 c6 c7 c8 c9 c10
    clear g1 g2 g3 g4 g5 g6
    obtain ⟨c0, c1, c2, c3, c4, c5, c6, c7, c8, c9, c10, hB, hs⟩ := HX.out
    clear hB hs
    have g1 : ¬ 9223372036854775807 < x6.length + pt.length := by omega
    have g2 : ¬ 9223372036854775807 < x6.length + pt.length + tk.length := by omega
    go_wp2_with fail
    refine wp_region_noPanic ?_
    refine wp_region_held_drew (S := fun w' => Box w.heap.size (.bool true) (.bool false) (.bool false) (.int .i64 0) (.int .u32 ve) (.string ⟨dc.toArray⟩) (.string ⟨sc.toArray⟩) (.string ⟨tk.toArray⟩) (.int .u64 le) (.int .i64 wi) (.int .u64 nu) w w') (by kernel_rfl) ?_ (fun hHeld => ?_)
    · exact HX.out.drew
    refine wpAnyH_take (i := 0) (v := ?_) rfl (by kernel_rfl) (by kernel_rfl) (by kernel_rfl) (fun _ _ _ h => h) (Or.inl ⟨by rfl, ?_⟩) (by assumption) ?_
    rotate_left
    · (intro w hSw; (try (obtain ⟨hS0, hS1, hS2, hS3, hS4, hS5, hS6, hS7, hS8, hS9, hS10, hSb, hSs⟩ := hSw)); go_simp; (try with_reducible rfl))
    try simp only [Act.put, List.getElem_toArray, List.getElem_cons_zero, List.getElem_cons_succ, List.setIfInBounds_toArray, List.set_cons_zero, List.set_cons_succ]
    refine wpAnyH_take (i := 1) (v := ?_) rfl (by kernel_rfl) (by kernel_rfl) (by kernel_rfl) (fun _ _ _ h => h) (Or.inl ⟨by rfl, ?_⟩) (by assumption) ?_
    rotate_left
    · (intro w hSw; (try (obtain ⟨hS0, hS1, hS2, hS3, hS4, hS5, hS6, hS7, hS8, hS9, hS10, hSb, hSs⟩ := hSw)); go_simp; (try with_reducible rfl))
    try simp only [Act.put, List.getElem_toArray, List.getElem_cons_zero, List.getElem_cons_succ, List.setIfInBounds_toArray, List.set_cons_zero, List.set_cons_succ]
    refine wpAnyH_take (i := 2) (v := ?_) rfl (by kernel_rfl) (by kernel_rfl) (by kernel_rfl) (fun _ _ _ h => h) (Or.inl ⟨by rfl, ?_⟩) (by assumption) ?_
    rotate_left
    · (intro w hSw; (try (obtain ⟨hS0, hS1, hS2, hS3, hS4, hS5, hS6, hS7, hS8, hS9, hS10, hSb, hSs⟩ := hSw)); go_simp; (try with_reducible rfl))
    try simp only [Act.put, List.getElem_toArray, List.getElem_cons_zero, List.getElem_cons_succ, List.setIfInBounds_toArray, List.set_cons_zero, List.set_cons_succ]
    refine wpAnyH_take (i := 3) (v := ?_) rfl (by kernel_rfl) (by kernel_rfl) (by kernel_rfl) (fun _ _ _ h => h) (Or.inl ⟨by rfl, ?_⟩) (by assumption) ?_
    rotate_left
    · (intro w hSw; (try (obtain ⟨hS0, hS1, hS2, hS3, hS4, hS5, hS6, hS7, hS8, hS9, hS10, hSb, hSs⟩ := hSw)); go_simp; (try with_reducible rfl))
    try simp only [Act.put, List.getElem_toArray, List.getElem_cons_zero, List.getElem_cons_succ, List.setIfInBounds_toArray, List.set_cons_zero, List.set_cons_succ]
    refine wpAnyH_take (i := 4) (v := ?_) rfl (by kernel_rfl) (by kernel_rfl) (by kernel_rfl) (fun _ _ _ h => h) (Or.inl ⟨by rfl, ?_⟩) (by assumption) ?_
    rotate_left
    · (intro w hSw; (try (obtain ⟨hS0, hS1, hS2, hS3, hS4, hS5, hS6, hS7, hS8, hS9, hS10, hSb, hSs⟩ := hSw)); go_simp; (try with_reducible rfl))
    try simp only [Act.put, List.getElem_toArray, List.getElem_cons_zero, List.getElem_cons_succ, List.setIfInBounds_toArray, List.set_cons_zero, List.set_cons_succ]
    refine wpAnyH_take (i := 7) (v := ?_) rfl (by kernel_rfl) (by kernel_rfl) (by kernel_rfl) (fun _ _ _ h => h) (Or.inl ⟨by rfl, ?_⟩) (by assumption) ?_
    rotate_left
    · (intro w hSw; (try (obtain ⟨hS0, hS1, hS2, hS3, hS4, hS5, hS6, hS7, hS8, hS9, hS10, hSb, hSs⟩ := hSw)); go_simp; (try with_reducible rfl))
    try simp only [Act.put, List.getElem_toArray, List.getElem_cons_zero, List.getElem_cons_succ, List.setIfInBounds_toArray, List.set_cons_zero, List.set_cons_succ]
    refine wpAnyH_take (i := 8) (v := ?_) rfl (by kernel_rfl) (by kernel_rfl) (by kernel_rfl) (fun _ _ _ h => h) (Or.inl ⟨by rfl, ?_⟩) (by assumption) ?_
    rotate_left
    · (intro w hSw; (try (obtain ⟨hS0, hS1, hS2, hS3, hS4, hS5, hS6, hS7, hS8, hS9, hS10, hSb, hSs⟩ := hSw)); go_simp; (try with_reducible rfl))
    try simp only [Act.put, List.getElem_toArray, List.getElem_cons_zero, List.getElem_cons_succ, List.setIfInBounds_toArray, List.set_cons_zero, List.set_cons_succ]
    refine wpAnyH_ready (rs := [5]) (by kernel_rfl) (by simp) ?_
    refine AllReadyH.cons rfl (fun K hK => ?_) AllReadyH.nil
    rw [if_pos (by rfl)]
    go_simp
    refine (CT.out _).mono ?_
    rintro e u3 ⟨rfl, hb⟩
    refine hK.out _ _ ?_ (fun hHeld => ?_)
    · exact hHeld.keep hb
    clear hK K
    try simp only [Act.put, List.getElem_toArray, List.getElem_cons_zero, List.getElem_cons_succ, List.setIfInBounds_toArray, List.set_cons_zero, List.set_cons_succ]
    refine wpAnyH_take (i := 6) (v := ?_) rfl (by kernel_rfl) (by kernel_rfl) (by kernel_rfl) (fun _ _ _ h => h) (Or.inl ⟨by rfl, ?_⟩) (by assumption) ?_
    rotate_left
    · (intro w hSw; (try (obtain ⟨hS0, hS1, hS2, hS3, hS4, hS5, hS6, hS7, hS8, hS9, hS10, hSb, hSs⟩ := hSw)); go_simp; (try with_reducible rfl))
    try simp only [Act.put, List.getElem_toArray, List.getElem_cons_zero, List.getElem_cons_succ, List.setIfInBounds_toArray, List.set_cons_zero, List.set_cons_succ]
    refine wpAnyH_take (i := 9) (v := ?_) rfl (by kernel_rfl) (by kernel_rfl) (by kernel_rfl) (fun _ _ _ h => h) (Or.inl ⟨by rfl, ?_⟩) (by assumption) ?_
    rotate_left
    · (intro w hSw; (try (obtain ⟨hS0, hS1, hS2, hS3, hS4, hS5, hS6, hS7, hS8, hS9, hS10, hSb, hSs⟩ := hSw)); go_simp; (try with_reducible rfl))
    try simp only [Act.put, List.getElem_toArray, List.getElem_cons_zero, List.getElem_cons_succ, List.setIfInBounds_toArray, List.set_cons_zero, List.set_cons_succ]
    refine wpAnyH_take (i := 10) (v := ?_) rfl (by kernel_rfl) (by kernel_rfl) (by kernel_rfl) (fun _ _ _ h => h) (Or.inl ⟨by rfl, ?_⟩) (by assumption) ?_
    rotate_left
    · (intro w hSw; (try (obtain ⟨hS0, hS1, hS2, hS3, hS4, hS5, hS6, hS7, hS8, hS9, hS10, hSb, hSs⟩ := hSw)); go_simp; (try with_reducible rfl))
    try simp only [Act.put, List.getElem_toArray, List.getElem_cons_zero, List.getElem_cons_succ, List.setIfInBounds_toArray, List.set_cons_zero, List.set_cons_succ]
    refine wpAnyH_done (by kernel_rfl) (NoPanic.normal ?_) _
    replace HX := Lib.hid hHeld
    clear hHeld
    rw [app_two, app_two]
    obtain ⟨x7, Ex7⟩ : ∃ x, x = x6 ++ pt ++ tk := ⟨_, rfl⟩
    rw [← Ex7] at Eo ⊢
    have gx7 : x7.length ≤ 2000 := by rw [Ex7]; simp; omega
    replace Ex7 := Lib.hid Ex7
    clear g1 g2 c0 c1 c2 c3 c4 c5 c6 c7 c8 c9 c10
    obtain ⟨c0, c1, c2, c3, c4, c5, c6, c7, c8, c9, c10, hB, hs⟩ := HX.out
    clear hB hs
    have g1 : ¬ 9223372036854775807 < x7.length + pl.length := by omega
    have g2 : ¬ 9223372036854775807 < x7.length + pl.length + fl.length := by omega
    go_wp2_with fail
    refine (CL.out _).mono ?_
    rintro e u4 ⟨rfl, hb⟩
    replace HX := Lib.hid (HX.out.keep hb)
    clear hb
    have HB := Lib.hid HX.out.bel
    clear HX c0 c1 c2 c3 c4 c5 c6 c7 c8 c9 c10 ew1 ew2
    go_wp2
    go_ret2
    exact ⟨by rw [← Eo.out, ← app_two, ← app_two]; rfl, HB.out⟩
set_option maxHeartbeats 4000000 in
theorem putR_ln (ty : Int) (ve : Int) (dc : List UInt8) (sc : List UInt8) (tk : List UInt8) (le : Int) (wi : Int) (nu : Int) (w : World) (wty : -9223372036854775808 ≤ ty) (wty2 : ty ≤ 9223372036854775807) (wve : 0 ≤ ve) (wve2 : ve ≤ 4294967295) (wdc : dc.length ≤ 9223372036854775807) (wsc : sc.length ≤ 9223372036854775807) (wtk : tk.length ≤ 9223372036854775807) (wle : 0 ≤ le) (wle2 : le ≤ 18446744073709551615) (wwi : -9223372036854775808 ≤ wi) (wwi2 : wi ≤ 9223372036854775807) (wnu : 0 ≤ nu) (wnu2 : nu ≤ 18446744073709551615) (EM : Hid (mayB true false false ty ve dc sc tk le wi nu = true)) (k1 : 1 ≤ wi) (k2 : wi ≤ 4) (fb : Nat) (fl : List UInt8) (gl : fl.length ≤ 4) (CF : Hid (∀ w : World, Calls Tryd.prog 22 #[.int .u64 nu, .int .i64 wi] w fun e w' => e = .returned (.string ⟨fl.toArray⟩) ∧ Below w.heap.size w w')) (Eb : wi - 1 + 192 + 16 * ty = (fb : Int)) (kty : 0 ≤ ty) (kty2 : ty ≤ 2) (h0 : (ty == 0) = false) (f4 sd ss pt pl : List UInt8) (gf4 : f4.length ≤ 10) (gsd : sd.length ≤ 30) (gss : ss.length ≤ 30) (gpt : pt.length ≤ 10) (gpl : pl.length ≤ 10) (gtk : tk.length ≤ 1000) (C4 : Hid (∀ w : World, Calls Tryd.prog 22 #[.int .u64 ve, .int .i64 4] w fun e w' => e = .returned (.string ⟨f4.toArray⟩) ∧ Below w.heap.size w w')) (CD : Hid (∀ w : World, Calls Tryd.prog 23 #[.string ⟨dc.toArray⟩] w fun e w' => e = .returned (.string ⟨sd.toArray⟩) ∧ Below w.heap.size w w')) (CS : Hid (∀ w : World, Calls Tryd.prog 23 #[.string ⟨sc.toArray⟩] w fun e w' => e = .returned (.string ⟨ss.toArray⟩) ∧ Below w.heap.size w w')) (CT : Hid (∀ w : World, Calls Tryd.prog 24 #[.int .u64 (tk.length : Nat)] w fun e w' => e = .returned (.string ⟨pt.toArray⟩) ∧ Below w.heap.size w w')) (CL : Hid (∀ w : World, Calls Tryd.prog 24 #[.int .u64 le] w fun e w' => e = .returned (.string ⟨pl.toArray⟩) ∧ Below w.heap.size w w')) (o : List UInt8) (Eo : Hid ([by1 fb] ++ f4 ++ sd ++ ss  ++ pl ++ fl = o)) :
    Calls Tryd.prog 8 #[.agg #[.bool true, .bool false, .bool false, .int .i64 ty, .int .u32 ve, .string ⟨dc.toArray⟩, .string ⟨sc.toArray⟩, .string ⟨tk.toArray⟩, .int .u64 le, .int .i64 wi, .int .u64 nu]] w fun e w' => e = .returned (.tuple #[.string ⟨o.toArray⟩, .int .i64 0]) ∧ Below w.heap.size w w' := by
  have HX := Lib.hid (Box.made w (.bool true) (.bool false) (.bool false) (.int .i64 ty) (.int .u32 ve) (.string ⟨dc.toArray⟩) (.string ⟨sc.toArray⟩) (.string ⟨tk.toArray⟩) (.int .u64 le) (.int .i64 wi) (.int .u64 nu) 28)
  go_enter Tryd.func8, Tryd.ntmps8
  go_wp2_with fail
  refine (May_ref true false false ty ve dc sc tk le wi nu _ wty wty2 wve wve2 wdc wsc wtk wle wle2 wwi wwi2 wnu wnu2).mono ?_
  rintro e w1 ⟨rfl, hb⟩
  rw [EM.out]
  replace HX := Lib.hid (HX.out.keep hb)
  clear hb
  obtain ⟨c0, c1, c2, c3, c4, c5, c6, c7, c8, c9, c10, hB, hs⟩ := HX.out
  clear hB hs
  go_wp2_with fail
  refine (CF.out _).mono ?_
  rintro e w2 ⟨rfl, hb⟩
  replace HX := Lib.hid (HX.out.keep hb)
  clear hb
  clear c0 c1 c2 c3 c4 c5 c6 c7 c8 c9 c10
  obtain ⟨c0, c1, c2, c3, c4, c5, c6, c7, c8, c9, c10, hB, hs⟩ := HX.out
  clear hB hs
  have ew1 : IntKind.u64.wrap ve = ve := by rw [IntKind.wrap_u64]; omega
  have ew2 : IntKind.u64.wrap ((tk.length : Nat) : Int) = ((tk.length : Nat) : Int) := by rw [IntKind.wrap_u64]; omega
  have g1 : ¬ 9223372036854775807 < 1 + f4.length := by omega
  have g2 : ¬ 9223372036854775807 < 1 + f4.length + sd.length := by omega
  have g3 : ¬ 9223372036854775807 < 1 + f4.length + sd.length + ss.length := by omega
  have g4 : ¬ 9223372036854775807 < f4.length + 1 := by omega
  have g5 : ¬ 9223372036854775807 < f4.length + 1 + sd.length := by omega
  have g6 : ¬ 9223372036854775807 < f4.length + 1 + sd.length + ss.length := by omega
  obtain ⟨x6, Ex6⟩ : ∃ x, [by1 fb] ++ f4 ++ sd ++ ss = x := ⟨_, rfl⟩
  rw [Ex6] at Eo
  have gx : x6.length ≤ 100 := by rw [← Ex6]; simp; omega
  replace Ex6 := Lib.hid Ex6
  go_upto_region 13 with (fail)
  go_cut [6] from 47 to 62 (fun v6 W => v6 = .string ⟨x6.toArray⟩ ∧ Box w.heap.size (.bool true) (.bool false) (.bool false) (.int .i64 ty) (.int .u32 ve) (.string ⟨dc.toArray⟩) (.string ⟨sc.toArray⟩) (.string ⟨tk.toArray⟩) (.int .u64 le) (.int .i64 wi) (.int .u64 nu) w W)
  case first =>
    refine wp_region_noPanic ?_
    refine wp_region_held_drew (S := fun w' => Box w.heap.size (.bool true) (.bool false) (.bool false) (.int .i64 ty) (.int .u32 ve) (.string ⟨dc.toArray⟩) (.string ⟨sc.toArray⟩) (.string ⟨tk.toArray⟩) (.int .u64 le) (.int .i64 wi) (.int .u64 nu) w w') (by kernel_rfl) ?_ (fun hHeld => ?_)
    · exact HX.out.drew
    refine wpAnyH_take (i := 0) (v := ?_) rfl (by kernel_rfl) (by kernel_rfl) (by kernel_rfl) (fun _ _ _ h => h) (Or.inl ⟨by rfl, ?_⟩) (by assumption) ?_
    rotate_left
    · (intro w hSw; (try (obtain ⟨hS0, hS1, hS2, hS3, hS4, hS5, hS6, hS7, hS8, hS9, hS10, hSb, hSs⟩ := hSw)); go_simp; (try with_reducible rfl))
    try simp only [Act.put, List.getElem_toArray, List.getElem_cons_zero, List.getElem_cons_succ, List.setIfInBounds_toArray, List.set_cons_zero, List.set_cons_succ]
    refine wpAnyH_take (i := 3) (v := ?_) rfl (by kernel_rfl) (by kernel_rfl) (by kernel_rfl) (fun _ _ _ h => h) (Or.inl ⟨by rfl, ?_⟩) (by assumption) ?_
    rotate_left
    · (intro w hSw; (try (obtain ⟨hS0, hS1, hS2, hS3, hS4, hS5, hS6, hS7, hS8, hS9, hS10, hSb, hSs⟩ := hSw)); go_simp; (try with_reducible rfl))
    try simp only [Act.put, List.getElem_toArray, List.getElem_cons_zero, List.getElem_cons_succ, List.setIfInBounds_toArray, List.set_cons_zero, List.set_cons_succ]
    refine wpAnyH_take (i := 4) (v := ?_) rfl (by kernel_rfl) (by kernel_rfl) (by kernel_rfl) (fun _ _ _ h => h) (Or.inl ⟨by rfl, ?_⟩) (by assumption) ?_
    rotate_left
    · (intro w hSw; (try (obtain ⟨hS0, hS1, hS2, hS3, hS4, hS5, hS6, hS7, hS8, hS9, hS10, hSb, hSs⟩ := hSw)); go_simp; (try with_reducible rfl))
    try simp only [Act.put, List.getElem_toArray, List.getElem_cons_zero, List.getElem_cons_succ, List.setIfInBounds_toArray, List.set_cons_zero, List.set_cons_succ]
    refine wpAnyH_take (i := 5) (v := ?_) rfl (by kernel_rfl) (by kernel_rfl) (by kernel_rfl) (fun _ _ _ h => h) (Or.inl ⟨by rfl, ?_⟩) (by assumption) ?_
    rotate_left
    · (intro w hSw; (try (obtain ⟨hS0, hS1, hS2, hS3, hS4, hS5, hS6, hS7, hS8, hS9, hS10, hSb, hSs⟩ := hSw)); go_simp; (try with_reducible rfl))
    try simp only [Act.put, List.getElem_toArray, List.getElem_cons_zero, List.getElem_cons_succ, List.setIfInBounds_toArray, List.set_cons_zero, List.set_cons_succ]
    refine wpAnyH_take (i := 8) (v := ?_) rfl (by kernel_rfl) (by kernel_rfl) (by kernel_rfl) (fun _ _ _ h => h) (Or.inl ⟨by rfl, ?_⟩) (by assumption) ?_
    rotate_left
    · (intro w hSw; (try (obtain ⟨hS0, hS1, hS2, hS3, hS4, hS5, hS6, hS7, hS8, hS9, hS10, hSb, hSs⟩ := hSw)); go_simp; (try with_reducible rfl))
    try simp only [Act.put, List.getElem_toArray, List.getElem_cons_zero, List.getElem_cons_succ, List.setIfInBounds_toArray, List.set_cons_zero, List.set_cons_succ]
    refine wpAnyH_take (i := 9) (v := ?_) rfl (by kernel_rfl) (by kernel_rfl) (by kernel_rfl) (fun _ _ _ h => h) (Or.inl ⟨by rfl, ?_⟩) (by assumption) ?_
    rotate_left
    · (intro w hSw; (try (obtain ⟨hS0, hS1, hS2, hS3, hS4, hS5, hS6, hS7, hS8, hS9, hS10, hSb, hSs⟩ := hSw)); go_simp; (try with_reducible rfl))
    try simp only [Act.put, List.getElem_toArray, List.getElem_cons_zero, List.getElem_cons_succ, List.setIfInBounds_toArray, List.set_cons_zero, List.set_cons_succ]
    refine wpAnyH_take (i := 12) (v := ?_) rfl (by kernel_rfl) (by kernel_rfl) (by kernel_rfl) (fun _ _ _ h => h) (Or.inl ⟨by rfl, ?_⟩) (by assumption) ?_
    rotate_left
    · (intro w hSw; (try (obtain ⟨hS0, hS1, hS2, hS3, hS4, hS5, hS6, hS7, hS8, hS9, hS10, hSb, hSs⟩ := hSw)); go_simp; (try with_reducible rfl))
    try simp only [Act.put, List.getElem_toArray, List.getElem_cons_zero, List.getElem_cons_succ, List.setIfInBounds_toArray, List.set_cons_zero, List.set_cons_succ]
    refine wpAnyH_take (i := 13) (v := ?_) rfl (by kernel_rfl) (by kernel_rfl) (by kernel_rfl) (fun _ _ _ h => h) (Or.inl ⟨by rfl, ?_⟩) (by assumption) ?_
    rotate_left
    · (intro w hSw; (try (obtain ⟨hS0, hS1, hS2, hS3, hS4, hS5, hS6, hS7, hS8, hS9, hS10, hSb, hSs⟩ := hSw)); go_simp; (try with_reducible rfl))
    try simp only [Act.put, List.getElem_toArray, List.getElem_cons_zero, List.getElem_cons_succ, List.setIfInBounds_toArray, List.set_cons_zero, List.set_cons_succ]
    refine wpAnyH_ready (rs := [1, 6]) (by kernel_rfl) (by simp) ?_
    refine AllReadyH.cons rfl (fun K hK => ?_) (AllReadyH.cons rfl (fun K hK => ?_) AllReadyH.nil)
    · rw [if_pos (by rfl)]
      go_simp
      have CW : Hid (((w2.alloc (.cells #[.int .u8 fb] 5)).drew).cell? ⟨w2.heap.size, 0, none⟩ = some (.int .u8 fb)) := Lib.hid (by simp [go_sem])
      have hG : Hid (w2.heap.size < ((w2.alloc (.cells #[.int .u8 fb] 5)).drew).heap.size) := Lib.hid (by simp)
      refine hK.out _ _ ?_ (fun hHeld => ?_)
      · exact hHeld.keep ((Below.refl _ _).alloc (Nat.le_refl _) _)
      clear hK K
      try simp only [Act.put, List.getElem_toArray, List.getElem_cons_zero, List.getElem_cons_succ, List.setIfInBounds_toArray, List.set_cons_zero, List.set_cons_succ]
      refine wpAnyH_ready (rs := [2, 6]) (by kernel_rfl) (by simp) ?_
      refine AllReadyH.cons rfl (fun K hK => ?_) (AllReadyH.cons rfl (fun K hK => ?_) AllReadyH.nil)
      · rw [if_pos (by rfl)]
        go_simp
        rw [conv1 _ _ _ CW.out]
        go_simp
        refine hK.out _ _ ?_ (fun hHeld => ?_)
        · exact hHeld
        clear hK K
        try simp only [Act.put, List.getElem_toArray, List.getElem_cons_zero, List.getElem_cons_succ, List.setIfInBounds_toArray, List.set_cons_zero, List.set_cons_succ]
        refine wpAnyH_ready (rs := [6]) (by kernel_rfl) (by simp) ?_
        refine AllReadyH.cons rfl (fun K hK => ?_) AllReadyH.nil
        rw [if_pos (by rfl)]
        go_simp
        refine (C4.out _).mono ?_
        rintro e v1 ⟨rfl, hb⟩
        refine hK.out _ _ ?_ (fun hHeld => ?_)
        · exact hHeld.keep hb
        clear hK K
        try simp only [Act.put, List.getElem_toArray, List.getElem_cons_zero, List.getElem_cons_succ, List.setIfInBounds_toArray, List.set_cons_zero, List.set_cons_succ]
        refine wpAnyH_take (i := 7) (v := ?_) rfl (by kernel_rfl) (by kernel_rfl) (by kernel_rfl) (fun _ _ _ h => h) (Or.inl ⟨by rfl, ?_⟩) (by assumption) ?_
        rotate_left
        · (intro w hSw; (try (obtain ⟨hS0, hS1, hS2, hS3, hS4, hS5, hS6, hS7, hS8, hS9, hS10, hSb, hSs⟩ := hSw)); go_simp; (try with_reducible rfl))
        try simp only [Act.put, List.getElem_toArray, List.getElem_cons_zero, List.getElem_cons_succ, List.setIfInBounds_toArray, List.set_cons_zero, List.set_cons_succ]
        refine wpAnyH_ready (rs := [10]) (by kernel_rfl) (by simp) ?_
        refine AllReadyH.cons rfl (fun K hK => ?_) AllReadyH.nil
        rw [if_pos (by rfl)]
        go_simp
        refine (CD.out _).mono ?_
        rintro e v2 ⟨rfl, hb⟩
        refine hK.out _ _ ?_ (fun hHeld => ?_)
        · exact hHeld.keep hb
        clear hK K
        try simp only [Act.put, List.getElem_toArray, List.getElem_cons_zero, List.getElem_cons_succ, List.setIfInBounds_toArray, List.set_cons_zero, List.set_cons_succ]
        refine wpAnyH_take (i := 11) (v := ?_) rfl (by kernel_rfl) (by kernel_rfl) (by kernel_rfl) (fun _ _ _ h => h) (Or.inl ⟨by rfl, ?_⟩) (by assumption) ?_
        rotate_left
        · (intro w hSw; (try (obtain ⟨hS0, hS1, hS2, hS3, hS4, hS5, hS6, hS7, hS8, hS9, hS10, hSb, hSs⟩ := hSw)); go_simp; (try with_reducible rfl))
        try simp only [Act.put, List.getElem_toArray, List.getElem_cons_zero, List.getElem_cons_succ, List.setIfInBounds_toArray, List.set_cons_zero, List.set_cons_succ]
        refine wpAnyH_ready (rs := [14]) (by kernel_rfl) (by simp) ?_
        refine AllReadyH.cons rfl (fun K hK => ?_) AllReadyH.nil
        rw [if_pos (by rfl)]
        go_simp
        refine (CS.out _).mono ?_
        rintro e v3 ⟨rfl, hb⟩
        refine hK.out _ _ ?_ (fun hHeld => ?_)
        · exact hHeld.keep hb
        clear hK K
        try simp only [Act.put, List.getElem_toArray, List.getElem_cons_zero, List.getElem_cons_succ, List.setIfInBounds_toArray, List.set_cons_zero, List.set_cons_succ]
        refine wpAnyH_take (i := 15) (v := ?_) rfl (by kernel_rfl) (by kernel_rfl) (by kernel_rfl) (fun _ _ _ h => h) (Or.inl ⟨by rfl, ?_⟩) (by assumption) ?_
        rotate_left
        · (intro w hSw; (try (obtain ⟨hS0, hS1, hS2, hS3, hS4, hS5, hS6, hS7, hS8, hS9, hS10, hSb, hSs⟩ := hSw)); go_simp; (try with_reducible rfl))
        try simp only [Act.put, List.getElem_toArray, List.getElem_cons_zero, List.getElem_cons_succ, List.setIfInBounds_toArray, List.set_cons_zero, List.set_cons_succ]
        refine wpAnyH_take (i := 16) (v := ?_) rfl (by kernel_rfl) (by kernel_rfl) (by kernel_rfl) (fun _ _ _ h => h) (Or.inl ⟨by rfl, ?_⟩) (by assumption) ?_
        rotate_left
        · (intro w hSw; (try (obtain ⟨hS0, hS1, hS2, hS3, hS4, hS5, hS6, hS7, hS8, hS9, hS10, hSb, hSs⟩ := hSw)); go_simp; (try with_reducible rfl))
        try simp only [Act.put, List.getElem_toArray, List.getElem_cons_zero, List.getElem_cons_succ, List.setIfInBounds_toArray, List.set_cons_zero, List.set_cons_succ]
        refine wpAnyH_done (by kernel_rfl) (NoPanic.normal ?_) _
        rw [app_two, app_two, app_two, Ex6.out]
        go_wp2_with fail
        go_meet
        exact ⟨rfl, hHeld⟩
      · rw [if_pos (by rfl)]
        go_simp
        refine (C4.out _).mono ?_
        rintro e v4 ⟨rfl, hb⟩
        replace CW := Lib.hid ((hb.cell hG.out).trans CW.out)
        replace hG := Lib.hid (Nat.lt_of_lt_of_le hG.out hb.size)
        refine hK.out _ _ ?_ (fun hHeld => ?_)
        · exact hHeld.keep hb
        clear hK K
        try simp only [Act.put, List.getElem_toArray, List.getElem_cons_zero, List.getElem_cons_succ, List.setIfInBounds_toArray, List.set_cons_zero, List.set_cons_succ]
        refine wpAnyH_ready (rs := [2, 10]) (by kernel_rfl) (by simp) ?_
        refine AllReadyH.cons rfl (fun K hK => ?_) (AllReadyH.cons rfl (fun K hK => ?_) AllReadyH.nil)
        · rw [if_pos (by rfl)]
          go_simp
          rw [conv1 _ _ _ CW.out]
          go_simp
          refine hK.out _ _ ?_ (fun hHeld => ?_)
          · exact hHeld
          clear hK K
          try simp only [Act.put, List.getElem_toArray, List.getElem_cons_zero, List.getElem_cons_succ, List.setIfInBounds_toArray, List.set_cons_zero, List.set_cons_succ]
          refine wpAnyH_take (i := 7) (v := ?_) rfl (by kernel_rfl) (by kernel_rfl) (by kernel_rfl) (fun _ _ _ h => h) (Or.inl ⟨by rfl, ?_⟩) (by assumption) ?_
          rotate_left
          · (intro w hSw; (try (obtain ⟨hS0, hS1, hS2, hS3, hS4, hS5, hS6, hS7, hS8, hS9, hS10, hSb, hSs⟩ := hSw)); go_simp; (try with_reducible rfl))
          try simp only [Act.put, List.getElem_toArray, List.getElem_cons_zero, List.getElem_cons_succ, List.setIfInBounds_toArray, List.set_cons_zero, List.set_cons_succ]
          refine wpAnyH_ready (rs := [10]) (by kernel_rfl) (by simp) ?_
          refine AllReadyH.cons rfl (fun K hK => ?_) AllReadyH.nil
          rw [if_pos (by rfl)]
          go_simp
          refine (CD.out _).mono ?_
          rintro e v5 ⟨rfl, hb⟩
          refine hK.out _ _ ?_ (fun hHeld => ?_)
          · exact hHeld.keep hb
          clear hK K
          try simp only [Act.put, List.getElem_toArray, List.getElem_cons_zero, List.getElem_cons_succ, List.setIfInBounds_toArray, List.set_cons_zero, List.set_cons_succ]
          refine wpAnyH_take (i := 11) (v := ?_) rfl (by kernel_rfl) (by kernel_rfl) (by kernel_rfl) (fun _ _ _ h => h) (Or.inl ⟨by rfl, ?_⟩) (by assumption) ?_
          rotate_left
          · (intro w hSw; (try (obtain ⟨hS0, hS1, hS2, hS3, hS4, hS5, hS6, hS7, hS8, hS9, hS10, hSb, hSs⟩ := hSw)); go_simp; (try with_reducible rfl))
          try simp only [Act.put, List.getElem_toArray, List.getElem_cons_zero, List.getElem_cons_succ, List.setIfInBounds_toArray, List.set_cons_zero, List.set_cons_succ]
          refine wpAnyH_ready (rs := [14]) (by kernel_rfl) (by simp) ?_
          refine AllReadyH.cons rfl (fun K hK => ?_) AllReadyH.nil
          rw [if_pos (by rfl)]
          go_simp
          refine (CS.out _).mono ?_
          rintro e v6 ⟨rfl, hb⟩
          refine hK.out _ _ ?_ (fun hHeld => ?_)
          · exact hHeld.keep hb
          clear hK K
          try simp only [Act.put, List.getElem_toArray, List.getElem_cons_zero, List.getElem_cons_succ, List.setIfInBounds_toArray, List.set_cons_zero, List.set_cons_succ]
          refine wpAnyH_take (i := 15) (v := ?_) rfl (by kernel_rfl) (by kernel_rfl) (by kernel_rfl) (fun _ _ _ h => h) (Or.inl ⟨by rfl, ?_⟩) (by assumption) ?_
          rotate_left
          · (intro w hSw; (try (obtain ⟨hS0, hS1, hS2, hS3, hS4, hS5, hS6, hS7, hS8, hS9, hS10, hSb, hSs⟩ := hSw)); go_simp; (try with_reducible rfl))
          try simp only [Act.put, List.getElem_toArray, List.getElem_cons_zero, List.getElem_cons_succ, List.setIfInBounds_toArray, List.set_cons_zero, List.set_cons_succ]
          refine wpAnyH_take (i := 16) (v := ?_) rfl (by kernel_rfl) (by kernel_rfl) (by kernel_rfl) (fun _ _ _ h => h) (Or.inl ⟨by rfl, ?_⟩) (by assumption) ?_
          rotate_left
          · (intro w hSw; (try (obtain ⟨hS0, hS1, hS2, hS3, hS4, hS5, hS6, hS7, hS8, hS9, hS10, hSb, hSs⟩ := hSw)); go_simp; (try with_reducible rfl))
          try simp only [Act.put, List.getElem_toArray, List.getElem_cons_zero, List.getElem_cons_succ, List.setIfInBounds_toArray, List.set_cons_zero, List.set_cons_succ]
          refine wpAnyH_done (by kernel_rfl) (NoPanic.normal ?_) _
          rw [app_two, app_two, app_two, Ex6.out]
          go_wp2_with fail
          go_meet
          exact ⟨rfl, hHeld⟩
        · rw [if_pos (by rfl)]
          go_simp
          refine (CD.out _).mono ?_
          rintro e v7 ⟨rfl, hb⟩
          replace CW := Lib.hid ((hb.cell hG.out).trans CW.out)
          replace hG := Lib.hid (Nat.lt_of_lt_of_le hG.out hb.size)
          refine hK.out _ _ ?_ (fun hHeld => ?_)
          · exact hHeld.keep hb
          clear hK K
          try simp only [Act.put, List.getElem_toArray, List.getElem_cons_zero, List.getElem_cons_succ, List.setIfInBounds_toArray, List.set_cons_zero, List.set_cons_succ]
          refine wpAnyH_ready (rs := [2, 14]) (by kernel_rfl) (by simp) ?_
          refine AllReadyH.cons rfl (fun K hK => ?_) (AllReadyH.cons rfl (fun K hK => ?_) AllReadyH.nil)
          · rw [if_pos (by rfl)]
            go_simp
            rw [conv1 _ _ _ CW.out]
            go_simp
            refine hK.out _ _ ?_ (fun hHeld => ?_)
            · exact hHeld
            clear hK K
            try simp only [Act.put, List.getElem_toArray, List.getElem_cons_zero, List.getElem_cons_succ, List.setIfInBounds_toArray, List.set_cons_zero, List.set_cons_succ]
            refine wpAnyH_take (i := 7) (v := ?_) rfl (by kernel_rfl) (by kernel_rfl) (by kernel_rfl) (fun _ _ _ h => h) (Or.inl ⟨by rfl, ?_⟩) (by assumption) ?_
            rotate_left
            · (intro w hSw; (try (obtain ⟨hS0, hS1, hS2, hS3, hS4, hS5, hS6, hS7, hS8, hS9, hS10, hSb, hSs⟩ := hSw)); go_simp; (try with_reducible rfl))
            try simp only [Act.put, List.getElem_toArray, List.getElem_cons_zero, List.getElem_cons_succ, List.setIfInBounds_toArray, List.set_cons_zero, List.set_cons_succ]
            refine wpAnyH_take (i := 11) (v := ?_) rfl (by kernel_rfl) (by kernel_rfl) (by kernel_rfl) (fun _ _ _ h => h) (Or.inl ⟨by rfl, ?_⟩) (by assumption) ?_
            rotate_left
            · (intro w hSw; (try (obtain ⟨hS0, hS1, hS2, hS3, hS4, hS5, hS6, hS7, hS8, hS9, hS10, hSb, hSs⟩ := hSw)); go_simp; (try with_reducible rfl))
            try simp only [Act.put, List.getElem_toArray, List.getElem_cons_zero, List.getElem_cons_succ, List.setIfInBounds_toArray, List.set_cons_zero, List.set_cons_succ]
            refine wpAnyH_ready (rs := [14]) (by kernel_rfl) (by simp) ?_
            refine AllReadyH.cons rfl (fun K hK => ?_) AllReadyH.nil
            rw [if_pos (by rfl)]
            go_simp
            refine (CS.out _).mono ?_
            rintro e v8 ⟨rfl, hb⟩
            refine hK.out _ _ ?_ (fun hHeld => ?_)
            · exact hHeld.keep hb
            clear hK K
            try simp only [Act.put, List.getElem_toArray, List.getElem_cons_zero, List.getElem_cons_succ, List.setIfInBounds_toArray, List.set_cons_zero, List.set_cons_succ]
            refine wpAnyH_take (i := 15) (v := ?_) rfl (by kernel_rfl) (by kernel_rfl) (by kernel_rfl) (fun _ _ _ h => h) (Or.inl ⟨by rfl, ?_⟩) (by assumption) ?_
            rotate_left
            · (intro w hSw; (try (obtain ⟨hS0, hS1, hS2, hS3, hS4, hS5, hS6, hS7, hS8, hS9, hS10, hSb, hSs⟩ := hSw)); go_simp; (try with_reducible rfl))
            try simp only [Act.put, List.getElem_toArray, List.getElem_cons_zero, List.getElem_cons_succ, List.setIfInBounds_toArray, List.set_cons_zero, List.set_cons_succ]
            refine wpAnyH_take (i := 16) (v := ?_) rfl (by kernel_rfl) (by kernel_rfl) (by kernel_rfl) (fun _ _ _ h => h) (Or.inl ⟨by rfl, ?_⟩) (by assumption) ?_
            rotate_left
            · (intro w hSw; (try (obtain ⟨hS0, hS1, hS2, hS3, hS4, hS5, hS6, hS7, hS8, hS9, hS10, hSb, hSs⟩ := hSw)); go_simp; (try with_reducible rfl))
            try simp only [Act.put, List.getElem_toArray, List.getElem_cons_zero, List.getElem_cons_succ, List.setIfInBounds_toArray, List.set_cons_zero, List.set_cons_succ]
            refine wpAnyH_done (by kernel_rfl) (NoPanic.normal ?_) _
            rw [app_two, app_two, app_two, Ex6.out]
            go_wp2_with fail
            go_meet
            exact ⟨rfl, hHeld⟩
          · rw [if_pos (by rfl)]
            go_simp
            refine (CS.out _).mono ?_
            rintro e v9 ⟨rfl, hb⟩
            replace CW := Lib.hid ((hb.cell hG.out).trans CW.out)
            replace hG := Lib.hid (Nat.lt_of_lt_of_le hG.out hb.size)
            refine hK.out _ _ ?_ (fun hHeld => ?_)
            · exact hHeld.keep hb
            clear hK K
            try simp only [Act.put, List.getElem_toArray, List.getElem_cons_zero, List.getElem_cons_succ, List.setIfInBounds_toArray, List.set_cons_zero, List.set_cons_succ]
            refine wpAnyH_ready (rs := [2]) (by kernel_rfl) (by simp) ?_
            refine AllReadyH.cons rfl (fun K hK => ?_) AllReadyH.nil
            rw [if_pos (by rfl)]
            go_simp
            rw [conv1 _ _ _ CW.out]
            go_simp
            refine hK.out _ _ ?_ (fun hHeld => ?_)
            · exact hHeld
            clear hK K
            try simp only [Act.put, List.getElem_toArray, List.getElem_cons_zero, List.getElem_cons_succ, List.setIfInBounds_toArray, List.set_cons_zero, List.set_cons_succ]
            refine wpAnyH_take (i := 7) (v := ?_) rfl (by kernel_rfl) (by kernel_rfl) (by kernel_rfl) (fun _ _ _ h => h) (Or.inl ⟨by rfl, ?_⟩) (by assumption) ?_
            rotate_left
            · (intro w hSw; (try (obtain ⟨hS0, hS1, hS2, hS3, hS4, hS5, hS6, hS7, hS8, hS9, hS10, hSb, hSs⟩ := hSw)); go_simp; (try with_reducible rfl))
            try simp only [Act.put, List.getElem_toArray, List.getElem_cons_zero, List.getElem_cons_succ, List.setIfInBounds_toArray, List.set_cons_zero, List.set_cons_succ]
            refine wpAnyH_take (i := 11) (v := ?_) rfl (by kernel_rfl) (by kernel_rfl) (by kernel_rfl) (fun _ _ _ h => h) (Or.inl ⟨by rfl, ?_⟩) (by assumption) ?_
            rotate_left
            · (intro w hSw; (try (obtain ⟨hS0, hS1, hS2, hS3, hS4, hS5, hS6, hS7, hS8, hS9, hS10, hSb, hSs⟩ := hSw)); go_simp; (try with_reducible rfl))
            try simp only [Act.put, List.getElem_toArray, List.getElem_cons_zero, List.getElem_cons_succ, List.setIfInBounds_toArray, List.set_cons_zero, List.set_cons_succ]
            refine wpAnyH_take (i := 15) (v := ?_) rfl (by kernel_rfl) (by kernel_rfl) (by kernel_rfl) (fun _ _ _ h => h) (Or.inl ⟨by rfl, ?_⟩) (by assumption) ?_
            rotate_left
            · (intro w hSw; (try (obtain ⟨hS0, hS1, hS2, hS3, hS4, hS5, hS6, hS7, hS8, hS9, hS10, hSb, hSs⟩ := hSw)); go_simp; (try with_reducible rfl))
            try simp only [Act.put, List.getElem_toArray, List.getElem_cons_zero, List.getElem_cons_succ, List.setIfInBounds_toArray, List.set_cons_zero, List.set_cons_succ]
            refine wpAnyH_take (i := 16) (v := ?_) rfl (by kernel_rfl) (by kernel_rfl) (by kernel_rfl) (fun _ _ _ h => h) (Or.inl ⟨by rfl, ?_⟩) (by assumption) ?_
            rotate_left
            · (intro w hSw; (try (obtain ⟨hS0, hS1, hS2, hS3, hS4, hS5, hS6, hS7, hS8, hS9, hS10, hSb, hSs⟩ := hSw)); go_simp; (try with_reducible rfl))
            try simp only [Act.put, List.getElem_toArray, List.getElem_cons_zero, List.getElem_cons_succ, List.setIfInBounds_toArray, List.set_cons_zero, List.set_cons_succ]
            refine wpAnyH_done (by kernel_rfl) (NoPanic.normal ?_) _
            rw [app_two, app_two, app_two, Ex6.out]
            go_wp2_with fail
            go_meet
            exact ⟨rfl, hHeld⟩
    · rw [if_pos (by rfl)]
      go_simp
      refine (C4.out _).mono ?_
      rintro e v10 ⟨rfl, hb⟩
      refine hK.out _ _ ?_ (fun hHeld => ?_)
      · exact hHeld.keep hb
      clear hK K
      try simp only [Act.put, List.getElem_toArray, List.getElem_cons_zero, List.getElem_cons_succ, List.setIfInBounds_toArray, List.set_cons_zero, List.set_cons_succ]
      refine wpAnyH_ready (rs := [1, 10]) (by kernel_rfl) (by simp) ?_
      refine AllReadyH.cons rfl (fun K hK => ?_) (AllReadyH.cons rfl (fun K hK => ?_) AllReadyH.nil)
      · rw [if_pos (by rfl)]
        go_simp
        have CW : Hid (((v10.alloc (.cells #[.int .u8 fb] 5))).cell? ⟨v10.heap.size, 0, none⟩ = some (.int .u8 fb)) := Lib.hid (by simp [go_sem])
        have hG : Hid (v10.heap.size < ((v10.alloc (.cells #[.int .u8 fb] 5))).heap.size) := Lib.hid (by simp)
        refine hK.out _ _ ?_ (fun hHeld => ?_)
        · exact hHeld.keep ((Below.refl _ _).alloc (Nat.le_refl _) _)
        clear hK K
        try simp only [Act.put, List.getElem_toArray, List.getElem_cons_zero, List.getElem_cons_succ, List.setIfInBounds_toArray, List.set_cons_zero, List.set_cons_succ]
        refine wpAnyH_ready (rs := [2, 10]) (by kernel_rfl) (by simp) ?_
        refine AllReadyH.cons rfl (fun K hK => ?_) (AllReadyH.cons rfl (fun K hK => ?_) AllReadyH.nil)
        · rw [if_pos (by rfl)]
          go_simp
          rw [conv1 _ _ _ CW.out]
          go_simp
          refine hK.out _ _ ?_ (fun hHeld => ?_)
          · exact hHeld
          clear hK K
          try simp only [Act.put, List.getElem_toArray, List.getElem_cons_zero, List.getElem_cons_succ, List.setIfInBounds_toArray, List.set_cons_zero, List.set_cons_succ]
          refine wpAnyH_take (i := 7) (v := ?_) rfl (by kernel_rfl) (by kernel_rfl) (by kernel_rfl) (fun _ _ _ h => h) (Or.inl ⟨by rfl, ?_⟩) (by assumption) ?_
          rotate_left
          · (intro w hSw; (try (obtain ⟨hS0, hS1, hS2, hS3, hS4, hS5, hS6, hS7, hS8, hS9, hS10, hSb, hSs⟩ := hSw)); go_simp; (try with_reducible rfl))
          try simp only [Act.put, List.getElem_toArray, List.getElem_cons_zero, List.getElem_cons_succ, List.setIfInBounds_toArray, List.set_cons_zero, List.set_cons_succ]
          refine wpAnyH_ready (rs := [10]) (by kernel_rfl) (by simp) ?_
          refine AllReadyH.cons rfl (fun K hK => ?_) AllReadyH.nil
          rw [if_pos (by rfl)]
          go_simp
          refine (CD.out _).mono ?_
          rintro e v11 ⟨rfl, hb⟩
          refine hK.out _ _ ?_ (fun hHeld => ?_)
          · exact hHeld.keep hb
          clear hK K
          try simp only [Act.put, List.getElem_toArray, List.getElem_cons_zero, List.getElem_cons_succ, List.setIfInBounds_toArray, List.set_cons_zero, List.set_cons_succ]
          refine wpAnyH_take (i := 11) (v := ?_) rfl (by kernel_rfl) (by kernel_rfl) (by kernel_rfl) (fun _ _ _ h => h) (Or.inl ⟨by rfl, ?_⟩) (by assumption) ?_
          rotate_left
          · (intro w hSw; (try (obtain ⟨hS0, hS1, hS2, hS3, hS4, hS5, hS6, hS7, hS8, hS9, hS10, hSb, hSs⟩ := hSw)); go_simp; (try with_reducible rfl))
          try simp only [Act.put, List.getElem_toArray, List.getElem_cons_zero, List.getElem_cons_succ, List.setIfInBounds_toArray, List.set_cons_zero, List.set_cons_succ]
          refine wpAnyH_ready (rs := [14]) (by kernel_rfl) (by simp) ?_
          refine AllReadyH.cons rfl (fun K hK => ?_) AllReadyH.nil
          rw [if_pos (by rfl)]
          go_simp
          refine (CS.out _).mono ?_
          rintro e v12 ⟨rfl, hb⟩
          refine hK.out _ _ ?_ (fun hHeld => ?_)
          · exact hHeld.keep hb
          clear hK K
          try simp only [Act.put, List.getElem_toArray, List.getElem_cons_zero, List.getElem_cons_succ, List.setIfInBounds_toArray, List.set_cons_zero, List.set_cons_succ]
          refine wpAnyH_take (i := 15) (v := ?_) rfl (by kernel_rfl) (by kernel_rfl) (by kernel_rfl) (fun _ _ _ h => h) (Or.inl ⟨by rfl, ?_⟩) (by assumption) ?_
          rotate_left
          · (intro w hSw; (try (obtain ⟨hS0, hS1, hS2, hS3, hS4, hS5, hS6, hS7, hS8, hS9, hS10, hSb, hSs⟩ := hSw)); go_simp; (try with_reducible rfl))
          try simp only [Act.put, List.getElem_toArray, List.getElem_cons_zero, List.getElem_cons_succ, List.setIfInBounds_toArray, List.set_cons_zero, List.set_cons_succ]
          refine wpAnyH_take (i := 16) (v := ?_) rfl (by kernel_rfl) (by kernel_rfl) (by kernel_rfl) (fun _ _ _ h => h) (Or.inl ⟨by rfl, ?_⟩) (by assumption) ?_
          rotate_left
          · (intro w hSw; (try (obtain ⟨hS0, hS1, hS2, hS3, hS4, hS5, hS6, hS7, hS8, hS9, hS10, hSb, hSs⟩ := hSw)); go_simp; (try with_reducible rfl))
          try simp only [Act.put, List.getElem_toArray, List.getElem_cons_zero, List.getElem_cons_succ, List.setIfInBounds_toArray, List.set_cons_zero, List.set_cons_succ]
          refine wpAnyH_done (by kernel_rfl) (NoPanic.normal ?_) _
          rw [app_two, app_two, app_two, Ex6.out]
          go_wp2_with fail
          go_meet
          exact ⟨rfl, hHeld⟩
        · rw [if_pos (by rfl)]
          go_simp
          refine (CD.out _).mono ?_
          rintro e v13 ⟨rfl, hb⟩
          replace CW := Lib.hid ((hb.cell hG.out).trans CW.out)
          replace hG := Lib.hid (Nat.lt_of_lt_of_le hG.out hb.size)
          refine hK.out _ _ ?_ (fun hHeld => ?_)
          · exact hHeld.keep hb
          clear hK K
          try simp only [Act.put, List.getElem_toArray, List.getElem_cons_zero, List.getElem_cons_succ, List.setIfInBounds_toArray, List.set_cons_zero, List.set_cons_succ]
          refine wpAnyH_ready (rs := [2, 14]) (by kernel_rfl) (by simp) ?_
          refine AllReadyH.cons rfl (fun K hK => ?_) (AllReadyH.cons rfl (fun K hK => ?_) AllReadyH.nil)
          · rw [if_pos (by rfl)]
            go_simp
            rw [conv1 _ _ _ CW.out]
            go_simp
            refine hK.out _ _ ?_ (fun hHeld => ?_)
            · exact hHeld
            clear hK K
            try simp only [Act.put, List.getElem_toArray, List.getElem_cons_zero, List.getElem_cons_succ, List.setIfInBounds_toArray, List.set_cons_zero, List.set_cons_succ]
            refine wpAnyH_take (i := 7) (v := ?_) rfl (by kernel_rfl) (by kernel_rfl) (by kernel_rfl) (fun _ _ _ h => h) (Or.inl ⟨by rfl, ?_⟩) (by assumption) ?_
            rotate_left
            · (intro w hSw; (try (obtain ⟨hS0, hS1, hS2, hS3, hS4, hS5, hS6, hS7, hS8, hS9, hS10, hSb, hSs⟩ := hSw)); go_simp; (try with_reducible rfl))
            try simp only [Act.put, List.getElem_toArray, List.getElem_cons_zero, List.getElem_cons_succ, List.setIfInBounds_toArray, List.set_cons_zero, List.set_cons_succ]
            refine wpAnyH_take (i := 11) (v := ?_) rfl (by kernel_rfl) (by kernel_rfl) (by kernel_rfl) (fun _ _ _ h => h) (Or.inl ⟨by rfl, ?_⟩) (by assumption) ?_
            rotate_left
            · (intro w hSw; (try (obtain ⟨hS0, hS1, hS2, hS3, hS4, hS5, hS6, hS7, hS8, hS9, hS10, hSb, hSs⟩ := hSw)); go_simp; (try with_reducible rfl))
            try simp only [Act.put, List.getElem_toArray, List.getElem_cons_zero, List.getElem_cons_succ, List.setIfInBounds_toArray, List.set_cons_zero, List.set_cons_succ]
            refine wpAnyH_ready (rs := [14]) (by kernel_rfl) (by simp) ?_
            refine AllReadyH.cons rfl (fun K hK => ?_) AllReadyH.nil
            rw [if_pos (by rfl)]
            go_simp
            refine (CS.out _).mono ?_
            rintro e v14 ⟨rfl, hb⟩
            refine hK.out _ _ ?_ (fun hHeld => ?_)
            · exact hHeld.keep hb
            clear hK K
            try simp only [Act.put, List.getElem_toArray, List.getElem_cons_zero, List.getElem_cons_succ, List.setIfInBounds_toArray, List.set_cons_zero, List.set_cons_succ]
            refine wpAnyH_take (i := 15) (v := ?_) rfl (by kernel_rfl) (by kernel_rfl) (by kernel_rfl) (fun _ _ _ h => h) (Or.inl ⟨by rfl, ?_⟩) (by assumption) ?_
            rotate_left
            · (intro w hSw; (try (obtain ⟨hS0, hS1, hS2, hS3, hS4, hS5, hS6, hS7, hS8, hS9, hS10, hSb, hSs⟩ := hSw)); go_simp; (try with_reducible rfl))
            try simp only [Act.put, List.getElem_toArray, List.getElem_cons_zero, List.getElem_cons_succ, List.setIfInBounds_toArray, List.set_cons_zero, List.set_cons_succ]
            refine wpAnyH_take (i := 16) (v := ?_) rfl (by kernel_rfl) (by kernel_rfl) (by kernel_rfl) (fun _ _ _ h => h) (Or.inl ⟨by rfl, ?_⟩) (by assumption) ?_
            rotate_left
            · (intro w hSw; (try (obtain ⟨hS0, hS1, hS2, hS3, hS4, hS5, hS6, hS7, hS8, hS9, hS10, hSb, hSs⟩ := hSw)); go_simp; (try with_reducible rfl))
            try simp only [Act.put, List.getElem_toArray, List.getElem_cons_zero, List.getElem_cons_succ, List.setIfInBounds_toArray, List.set_cons_zero, List.set_cons_succ]
            refine wpAnyH_done (by kernel_rfl) (NoPanic.normal ?_) _
            rw [app_two, app_two, app_two, Ex6.out]
            go_wp2_with fail
            go_meet
            exact ⟨rfl, hHeld⟩
          · rw [if_pos (by rfl)]
            go_simp
            refine (CS.out _).mono ?_
            rintro e v15 ⟨rfl, hb⟩
            replace CW := Lib.hid ((hb.cell hG.out).trans CW.out)
            replace hG := Lib.hid (Nat.lt_of_lt_of_le hG.out hb.size)
            refine hK.out _ _ ?_ (fun hHeld => ?_)
            · exact hHeld.keep hb
            clear hK K
            try simp only [Act.put, List.getElem_toArray, List.getElem_cons_zero, List.getElem_cons_succ, List.setIfInBounds_toArray, List.set_cons_zero, List.set_cons_succ]
            refine wpAnyH_ready (rs := [2]) (by kernel_rfl) (by simp) ?_
            refine AllReadyH.cons rfl (fun K hK => ?_) AllReadyH.nil
            rw [if_pos (by rfl)]
            go_simp
            rw [conv1 _ _ _ CW.out]
            go_simp
            refine hK.out _ _ ?_ (fun hHeld => ?_)
            · exact hHeld
            clear hK K
            try simp only [Act.put, List.getElem_toArray, List.getElem_cons_zero, List.getElem_cons_succ, List.setIfInBounds_toArray, List.set_cons_zero, List.set_cons_succ]
            refine wpAnyH_take (i := 7) (v := ?_) rfl (by kernel_rfl) (by kernel_rfl) (by kernel_rfl) (fun _ _ _ h => h) (Or.inl ⟨by rfl, ?_⟩) (by assumption) ?_
            rotate_left
            · (intro w hSw; (try (obtain ⟨hS0, hS1, hS2, hS3, hS4, hS5, hS6, hS7, hS8, hS9, hS10, hSb, hSs⟩ := hSw)); go_simp; (try with_reducible rfl))
            try simp only [Act.put, List.getElem_toArray, List.getElem_cons_zero, List.getElem_cons_succ, List.setIfInBounds_toArray, List.set_cons_zero, List.set_cons_succ]
            refine wpAnyH_take (i := 11) (v := ?_) rfl (by kernel_rfl) (by kernel_rfl) (by kernel_rfl) (fun _ _ _ h => h) (Or.inl ⟨by rfl, ?_⟩) (by assumption) ?_
            rotate_left
            · (intro w hSw; (try (obtain ⟨hS0, hS1, hS2, hS3, hS4, hS5, hS6, hS7, hS8, hS9, hS10, hSb, hSs⟩ := hSw)); go_simp; (try with_reducible rfl))
            try simp only [Act.put, List.getElem_toArray, List.getElem_cons_zero, List.getElem_cons_succ, List.setIfInBounds_toArray, List.set_cons_zero, List.set_cons_succ]
            refine wpAnyH_take (i := 15) (v := ?_) rfl (by kernel_rfl) (by kernel_rfl) (by kernel_rfl) (fun _ _ _ h => h) (Or.inl ⟨by rfl, ?_⟩) (by assumption) ?_
            rotate_left
            · (intro w hSw; (try (obtain ⟨hS0, hS1, hS2, hS3, hS4, hS5, hS6, hS7, hS8, hS9, hS10, hSb, hSs⟩ := hSw)); go_simp; (try with_reducible rfl))
            try simp only [Act.put, List.getElem_toArray, List.getElem_cons_zero, List.getElem_cons_succ, List.setIfInBounds_toArray, List.set_cons_zero, List.set_cons_succ]
            refine wpAnyH_take (i := 16) (v := ?_) rfl (by kernel_rfl) (by kernel_rfl) (by kernel_rfl) (fun _ _ _ h => h) (Or.inl ⟨by rfl, ?_⟩) (by assumption) ?_
            rotate_left
            · (intro w hSw; (try (obtain ⟨hS0, hS1, hS2, hS3, hS4, hS5, hS6, hS7, hS8, hS9, hS10, hSb, hSs⟩ := hSw)); go_simp; (try with_reducible rfl))
            try simp only [Act.put, List.getElem_toArray, List.getElem_cons_zero, List.getElem_cons_succ, List.setIfInBounds_toArray, List.set_cons_zero, List.set_cons_succ]
            refine wpAnyH_done (by kernel_rfl) (NoPanic.normal ?_) _
            rw [app_two, app_two, app_two, Ex6.out]
            go_wp2_with fail
            go_meet
            exact ⟨rfl, hHeld⟩
      · rw [if_pos (by rfl)]
        go_simp
        refine (CD.out _).mono ?_
        rintro e v16 ⟨rfl, hb⟩
        refine hK.out _ _ ?_ (fun hHeld => ?_)
        · exact hHeld.keep hb
        clear hK K
        try simp only [Act.put, List.getElem_toArray, List.getElem_cons_zero, List.getElem_cons_succ, List.setIfInBounds_toArray, List.set_cons_zero, List.set_cons_succ]
        refine wpAnyH_ready (rs := [1, 14]) (by kernel_rfl) (by simp) ?_
        refine AllReadyH.cons rfl (fun K hK => ?_) (AllReadyH.cons rfl (fun K hK => ?_) AllReadyH.nil)
        · rw [if_pos (by rfl)]
          go_simp
          have CW : Hid (((v16.alloc (.cells #[.int .u8 fb] 5))).cell? ⟨v16.heap.size, 0, none⟩ = some (.int .u8 fb)) := Lib.hid (by simp [go_sem])
          have hG : Hid (v16.heap.size < ((v16.alloc (.cells #[.int .u8 fb] 5))).heap.size) := Lib.hid (by simp)
          refine hK.out _ _ ?_ (fun hHeld => ?_)
          · exact hHeld.keep ((Below.refl _ _).alloc (Nat.le_refl _) _)
          clear hK K
          try simp only [Act.put, List.getElem_toArray, List.getElem_cons_zero, List.getElem_cons_succ, List.setIfInBounds_toArray, List.set_cons_zero, List.set_cons_succ]
          refine wpAnyH_ready (rs := [2, 14]) (by kernel_rfl) (by simp) ?_
          refine AllReadyH.cons rfl (fun K hK => ?_) (AllReadyH.cons rfl (fun K hK => ?_) AllReadyH.nil)
          · rw [if_pos (by rfl)]
            go_simp
            rw [conv1 _ _ _ CW.out]
            go_simp
            refine hK.out _ _ ?_ (fun hHeld => ?_)
            · exact hHeld
            clear hK K
            try simp only [Act.put, List.getElem_toArray, List.getElem_cons_zero, List.getElem_cons_succ, List.setIfInBounds_toArray, List.set_cons_zero, List.set_cons_succ]
            refine wpAnyH_take (i := 7) (v := ?_) rfl (by kernel_rfl) (by kernel_rfl) (by kernel_rfl) (fun _ _ _ h => h) (Or.inl ⟨by rfl, ?_⟩) (by assumption) ?_
            rotate_left
            · (intro w hSw; (try (obtain ⟨hS0, hS1, hS2, hS3, hS4, hS5, hS6, hS7, hS8, hS9, hS10, hSb, hSs⟩ := hSw)); go_simp; (try with_reducible rfl))
            try simp only [Act.put, List.getElem_toArray, List.getElem_cons_zero, List.getElem_cons_succ, List.setIfInBounds_toArray, List.set_cons_zero, List.set_cons_succ]
            refine wpAnyH_take (i := 11) (v := ?_) rfl (by kernel_rfl) (by kernel_rfl) (by kernel_rfl) (fun _ _ _ h => h) (Or.inl ⟨by rfl, ?_⟩) (by assumption) ?_
            rotate_left
            · (intro w hSw; (try (obtain ⟨hS0, hS1, hS2, hS3, hS4, hS5, hS6, hS7, hS8, hS9, hS10, hSb, hSs⟩ := hSw)); go_simp; (try with_reducible rfl))
            try simp only [Act.put, List.getElem_toArray, List.getElem_cons_zero, List.getElem_cons_succ, List.setIfInBounds_toArray, List.set_cons_zero, List.set_cons_succ]
            refine wpAnyH_ready (rs := [14]) (by kernel_rfl) (by simp) ?_
            refine AllReadyH.cons rfl (fun K hK => ?_) AllReadyH.nil
            rw [if_pos (by rfl)]
            go_simp
            refine (CS.out _).mono ?_
            rintro e v17 ⟨rfl, hb⟩
            refine hK.out _ _ ?_ (fun hHeld => ?_)
            · exact hHeld.keep hb
            clear hK K
            try simp only [Act.put, List.getElem_toArray, List.getElem_cons_zero, List.getElem_cons_succ, List.setIfInBounds_toArray, List.set_cons_zero, List.set_cons_succ]
            refine wpAnyH_take (i := 15) (v := ?_) rfl (by kernel_rfl) (by kernel_rfl) (by kernel_rfl) (fun _ _ _ h => h) (Or.inl ⟨by rfl, ?_⟩) (by assumption) ?_
            rotate_left
            · (intro w hSw; (try (obtain ⟨hS0, hS1, hS2, hS3, hS4, hS5, hS6, hS7, hS8, hS9, hS10, hSb, hSs⟩ := hSw)); go_simp; (try with_reducible rfl))
            try simp only [Act.put, List.getElem_toArray, List.getElem_cons_zero, List.getElem_cons_succ, List.setIfInBounds_toArray, List.set_cons_zero, List.set_cons_succ]
            refine wpAnyH_take (i := 16) (v := ?_) rfl (by kernel_rfl) (by kernel_rfl) (by kernel_rfl) (fun _ _ _ h => h) (Or.inl ⟨by rfl, ?_⟩) (by assumption) ?_
            rotate_left
            · (intro w hSw; (try (obtain ⟨hS0, hS1, hS2, hS3, hS4, hS5, hS6, hS7, hS8, hS9, hS10, hSb, hSs⟩ := hSw)); go_simp; (try with_reducible rfl))
            try simp only [Act.put, List.getElem_toArray, List.getElem_cons_zero, List.getElem_cons_succ, List.setIfInBounds_toArray, List.set_cons_zero, List.set_cons_succ]
            refine wpAnyH_done (by kernel_rfl) (NoPanic.normal ?_) _
            rw [app_two, app_two, app_two, Ex6.out]
            go_wp2_with fail
            go_meet
            exact ⟨rfl, hHeld⟩
          · rw [if_pos (by rfl)]
            go_simp
            refine (CS.out _).mono ?_
            rintro e v18 ⟨rfl, hb⟩
            replace CW := Lib.hid ((hb.cell hG.out).trans CW.out)
            replace hG := Lib.hid (Nat.lt_of_lt_of_le hG.out hb.size)
            refine hK.out _ _ ?_ (fun hHeld => ?_)
            · exact hHeld.keep hb
            clear hK K
            try simp only [Act.put, List.getElem_toArray, List.getElem_cons_zero, List.getElem_cons_succ, List.setIfInBounds_toArray, List.set_cons_zero, List.set_cons_succ]
            refine wpAnyH_ready (rs := [2]) (by kernel_rfl) (by simp) ?_
            refine AllReadyH.cons rfl (fun K hK => ?_) AllReadyH.nil
            rw [if_pos (by rfl)]
            go_simp
            rw [conv1 _ _ _ CW.out]
            go_simp
            refine hK.out _ _ ?_ (fun hHeld => ?_)
            · exact hHeld
            clear hK K
            try simp only [Act.put, List.getElem_toArray, List.getElem_cons_zero, List.getElem_cons_succ, List.setIfInBounds_toArray, List.set_cons_zero, List.set_cons_succ]
            refine wpAnyH_take (i := 7) (v := ?_) rfl (by kernel_rfl) (by kernel_rfl) (by kernel_rfl) (fun _ _ _ h => h) (Or.inl ⟨by rfl, ?_⟩) (by assumption) ?_
            rotate_left
            · (intro w hSw; (try (obtain ⟨hS0, hS1, hS2, hS3, hS4, hS5, hS6, hS7, hS8, hS9, hS10, hSb, hSs⟩ := hSw)); go_simp; (try with_reducible rfl))
            try simp only [Act.put, List.getElem_toArray, List.getElem_cons_zero, List.getElem_cons_succ, List.setIfInBounds_toArray, List.set_cons_zero, List.set_cons_succ]
            refine wpAnyH_take (i := 11) (v := ?_) rfl (by kernel_rfl) (by kernel_rfl) (by kernel_rfl) (fun _ _ _ h => h) (Or.inl ⟨by rfl, ?_⟩) (by assumption) ?_
            rotate_left
            · (intro w hSw; (try (obtain ⟨hS0, hS1, hS2, hS3, hS4, hS5, hS6, hS7, hS8, hS9, hS10, hSb, hSs⟩ := hSw)); go_simp; (try with_reducible rfl))
            try simp only [Act.put, List.getElem_toArray, List.getElem_cons_zero, List.getElem_cons_succ, List.setIfInBounds_toArray, List.set_cons_zero, List.set_cons_succ]
            refine wpAnyH_take (i := 15) (v := ?_) rfl (by kernel_rfl) (by kernel_rfl) (by kernel_rfl) (fun _ _ _ h => h) (Or.inl ⟨by rfl, ?_⟩) (by assumption) ?_
            rotate_left
            · (intro w hSw; (try (obtain ⟨hS0, hS1, hS2, hS3, hS4, hS5, hS6, hS7, hS8, hS9, hS10, hSb, hSs⟩ := hSw)); go_simp; (try with_reducible rfl))
            try simp only [Act.put, List.getElem_toArray, List.getElem_cons_zero, List.getElem_cons_succ, List.setIfInBounds_toArray, List.set_cons_zero, List.set_cons_succ]
            refine wpAnyH_take (i := 16) (v := ?_) rfl (by kernel_rfl) (by kernel_rfl) (by kernel_rfl) (fun _ _ _ h => h) (Or.inl ⟨by rfl, ?_⟩) (by assumption) ?_
            rotate_left
            · (intro w hSw; (try (obtain ⟨hS0, hS1, hS2, hS3, hS4, hS5, hS6, hS7, hS8, hS9, hS10, hSb, hSs⟩ := hSw)); go_simp; (try with_reducible rfl))
            try simp only [Act.put, List.getElem_toArray, List.getElem_cons_zero, List.getElem_cons_succ, List.setIfInBounds_toArray, List.set_cons_zero, List.set_cons_succ]
            refine wpAnyH_done (by kernel_rfl) (NoPanic.normal ?_) _
            rw [app_two, app_two, app_two, Ex6.out]
            go_wp2_with fail
            go_meet
            exact ⟨rfl, hHeld⟩
        · rw [if_pos (by rfl)]
          go_simp
          refine (CS.out _).mono ?_
          rintro e v19 ⟨rfl, hb⟩
          refine hK.out _ _ ?_ (fun hHeld => ?_)
          · exact hHeld.keep hb
          clear hK K
          try simp only [Act.put, List.getElem_toArray, List.getElem_cons_zero, List.getElem_cons_succ, List.setIfInBounds_toArray, List.set_cons_zero, List.set_cons_succ]
          refine wpAnyH_ready (rs := [1]) (by kernel_rfl) (by simp) ?_
          refine AllReadyH.cons rfl (fun K hK => ?_) AllReadyH.nil
          rw [if_pos (by rfl)]
          go_simp
          have CW : Hid (((v19.alloc (.cells #[.int .u8 fb] 5))).cell? ⟨v19.heap.size, 0, none⟩ = some (.int .u8 fb)) := Lib.hid (by simp [go_sem])
          have hG : Hid (v19.heap.size < ((v19.alloc (.cells #[.int .u8 fb] 5))).heap.size) := Lib.hid (by simp)
          refine hK.out _ _ ?_ (fun hHeld => ?_)
          · exact hHeld.keep ((Below.refl _ _).alloc (Nat.le_refl _) _)
          clear hK K
          try simp only [Act.put, List.getElem_toArray, List.getElem_cons_zero, List.getElem_cons_succ, List.setIfInBounds_toArray, List.set_cons_zero, List.set_cons_succ]
          refine wpAnyH_ready (rs := [2]) (by kernel_rfl) (by simp) ?_
          refine AllReadyH.cons rfl (fun K hK => ?_) AllReadyH.nil
          rw [if_pos (by rfl)]
          go_simp
          rw [conv1 _ _ _ CW.out]
          go_simp
          refine hK.out _ _ ?_ (fun hHeld => ?_)
          · exact hHeld
          clear hK K
          try simp only [Act.put, List.getElem_toArray, List.getElem_cons_zero, List.getElem_cons_succ, List.setIfInBounds_toArray, List.set_cons_zero, List.set_cons_succ]
          refine wpAnyH_take (i := 7) (v := ?_) rfl (by kernel_rfl) (by kernel_rfl) (by kernel_rfl) (fun _ _ _ h => h) (Or.inl ⟨by rfl, ?_⟩) (by assumption) ?_
          rotate_left
          · (intro w hSw; (try (obtain ⟨hS0, hS1, hS2, hS3, hS4, hS5, hS6, hS7, hS8, hS9, hS10, hSb, hSs⟩ := hSw)); go_simp; (try with_reducible rfl))
          try simp only [Act.put, List.getElem_toArray, List.getElem_cons_zero, List.getElem_cons_succ, List.setIfInBounds_toArray, List.set_cons_zero, List.set_cons_succ]
          refine wpAnyH_take (i := 11) (v := ?_) rfl (by kernel_rfl) (by kernel_rfl) (by kernel_rfl) (fun _ _ _ h => h) (Or.inl ⟨by rfl, ?_⟩) (by assumption) ?_
          rotate_left
          · (intro w hSw; (try (obtain ⟨hS0, hS1, hS2, hS3, hS4, hS5, hS6, hS7, hS8, hS9, hS10, hSb, hSs⟩ := hSw)); go_simp; (try with_reducible rfl))
          try simp only [Act.put, List.getElem_toArray, List.getElem_cons_zero, List.getElem_cons_succ, List.setIfInBounds_toArray, List.set_cons_zero, List.set_cons_succ]
          refine wpAnyH_take (i := 15) (v := ?_) rfl (by kernel_rfl) (by kernel_rfl) (by kernel_rfl) (fun _ _ _ h => h) (Or.inl ⟨by rfl, ?_⟩) (by assumption) ?_
          rotate_left
          · (intro w hSw; (try (obtain ⟨hS0, hS1, hS2, hS3, hS4, hS5, hS6, hS7, hS8, hS9, hS10, hSb, hSs⟩ := hSw)); go_simp; (try with_reducible rfl))
          try simp only [Act.put, List.getElem_toArray, List.getElem_cons_zero, List.getElem_cons_succ, List.setIfInBounds_toArray, List.set_cons_zero, List.set_cons_succ]
          refine wpAnyH_take (i := 16) (v := ?_) rfl (by kernel_rfl) (by kernel_rfl) (by kernel_rfl) (fun _ _ _ h => h) (Or.inl ⟨by rfl, ?_⟩) (by assumption) ?_
          rotate_left
          · (intro w hSw; (try (obtain ⟨hS0, hS1, hS2, hS3, hS4, hS5, hS6, hS7, hS8, hS9, hS10, hSb, hSs⟩ := hSw)); go_simp; (try with_reducible rfl))
          try simp only [Act.put, List.getElem_toArray, List.getElem_cons_zero, List.getElem_cons_succ, List.setIfInBounds_toArray, List.set_cons_zero, List.set_cons_succ]
          refine wpAnyH_done (by kernel_rfl) (NoPanic.normal ?_) _
          rw [app_two, app_two, app_two, Ex6.out]
          go_wp2_with fail
          go_meet
          exact ⟨rfl, hHeld⟩
  case rest =>
    obtain ⟨rfl, hbx⟩ := hcut
    replace HX := Lib.hid hbx
    clear hbx c0 c1 c2 c3 c4 c5 c6 c7 c8 c9 c10
    clear g1 g2 g3 g4 g5 g6
    obtain ⟨c0, c1, c2, c3, c4, c5, c6, c7, c8, c9, c10, hB, hs⟩ := HX.out
    clear hB hs
    have g1 : ¬ 9223372036854775807 < x6.length + pl.length := by omega
    have g2 : ¬ 9223372036854775807 < x6.length + pl.length + fl.length := by omega
    go_wp2_with fail
    refine (CL.out _).mono ?_
    rintro e u4 ⟨rfl, hb⟩
    replace HX := Lib.hid (HX.out.keep hb)
    clear hb
    have HB := Lib.hid HX.out.bel
    clear HX c0 c1 c2 c3 c4 c5 c6 c7 c8 c9 c10 ew1 ew2
    go_wp2
    go_ret2
    exact ⟨by rw [← Eo.out, ← app_two, ← app_two]; rfl, HB.out⟩
end Go.Proofs.YtabikljimndliaaDoor.Hd
