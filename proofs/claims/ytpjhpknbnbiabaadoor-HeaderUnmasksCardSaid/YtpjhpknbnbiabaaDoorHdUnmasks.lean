/- The walk of the law HeaderUnmasks. By tools/gen-header-laws.py. -/
import Derived.Test.YtpjhpknbnbiabaaDoorHdJ
namespace Go.Proofs.YtpjhpknbnbiabaaDoor.Hd
open Go.RowKit Vm
set_option linter.unusedVariables false
set_option linter.unusedSimpArgs false

set_option maxHeartbeats 4000000 in
theorem unmasks_no0 (lg sp ph : Bool) (ty ve : Int) (dc sc tk : List UInt8) (le wi nu : Int) (behind mask : List UInt8) (w : World) (ht : Tab w) (wty : -9223372036854775808 ≤ ty) (wty2 : ty ≤ 9223372036854775807) (wve : 0 ≤ ve) (wve2 : ve ≤ 4294967295) (wdc : dc.length ≤ 9223372036854775807) (wsc : sc.length ≤ 9223372036854775807) (wtk : tk.length ≤ 9223372036854775807) (wle : 0 ≤ le) (wle2 : le ≤ 18446744073709551615) (wwi : -9223372036854775808 ≤ wi) (wwi2 : wi ≤ 9223372036854775807) (wnu : 0 ≤ nu) (wnu2 : nu ≤ 18446744073709551615) (EM : mayB lg sp ph ty ve dc sc tk le wi nu = false) (EB : lawB dc sc tk = false) (wb : behind.length ≤ 9223372036854775807) (wm : mask.length ≤ 9223372036854775807) :
    Calls Tryd.prog 6 #[.agg #[.bool lg, .bool sp, .bool ph, .int .i64 ty, .int .u32 ve, .string ⟨dc.toArray⟩, .string ⟨sc.toArray⟩, .string ⟨tk.toArray⟩, .int .u64 le, .int .i64 wi, .int .u64 nu], .string ⟨behind.toArray⟩, .string ⟨mask.toArray⟩] w fun e w' => e = .returned (.bool true) ∧ Below w.heap.size w w' := by
  have hlt := ht.lt
  have HT := Lib.hid ht
  clear ht
  have HX := Lib.hid (Box.made w (.bool lg) (.bool sp) (.bool ph) (.int .i64 ty) (.int .u32 ve) (.string ⟨dc.toArray⟩) (.string ⟨sc.toArray⟩) (.string ⟨tk.toArray⟩) (.int .u64 le) (.int .i64 wi) (.int .u64 nu) 25)
  have CP := Lib.hid (fun w (ht : Tab w) => Put_no lg sp ph ty ve dc sc tk le wi nu w ht wty wty2 wve wve2 wdc wsc wtk wle wle2 wwi wwi2 wnu wnu2 EM)
  have CB := Lib.hid (fun w => lawBounded_any lg sp ph ty ve dc sc tk le wi nu w wty wty2 wve wve2 wdc wsc wtk wle wle2 wwi wwi2 wnu wnu2)
  rw [EB] at CB
  clear EM
  go_enter Tryd.func6, Tryd.ntmps6
  have HT1 := Lib.hid (HT.out.below HX.out.bel hlt)
  go_wp2_with fail
  refine (CP.out _ HT1.out).mono ?_
  rintro e w1 ⟨rfl, hb⟩
  replace HX := Lib.hid (HX.out.keep hb)
  clear hb
  have HT1 := Lib.hid (HT.out.below HX.out.bel hlt)
  (try clear z0 z1 z2 z3 z4 z5 z6 z7 z8 z9 z10)
  have z0 := HX.out.cell0
  have z1 := HX.out.cell1
  have z2 := HX.out.cell2
  have z3 := HX.out.cell3
  have z4 := HX.out.cell4
  have z5 := HX.out.cell5
  have z6 := HX.out.cell6
  have z7 := HX.out.cell7
  have z8 := HX.out.cell8
  have z9 := HX.out.cell9
  have z10 := HX.out.cell10
  go_wp2_with fail
  refine (CB.out _).mono ?_
  rintro e w1 ⟨rfl, hb⟩
  replace HX := Lib.hid (HX.out.keep hb)
  clear hb
  have HT1 := Lib.hid (HT.out.below HX.out.bel hlt)
  (try clear z0 z1 z2 z3 z4 z5 z6 z7 z8 z9 z10)
  have z0 := HX.out.cell0
  have z1 := HX.out.cell1
  have z2 := HX.out.cell2
  have z3 := HX.out.cell3
  have z4 := HX.out.cell4
  have z5 := HX.out.cell5
  have z6 := HX.out.cell6
  have z7 := HX.out.cell7
  have z8 := HX.out.cell8
  have z9 := HX.out.cell9
  have z10 := HX.out.cell10
  go_wp2_with fail
  refine (shown_any _ HT1.out).mono ?_
  rintro e w1 ⟨rfl, hb⟩
  replace HX := Lib.hid (HX.out.keep hb)
  clear hb
  have HT1 := Lib.hid (HT.out.below HX.out.bel hlt)
  (try clear z0 z1 z2 z3 z4 z5 z6 z7 z8 z9 z10)
  have z0 := HX.out.cell0
  have z1 := HX.out.cell1
  have z2 := HX.out.cell2
  have z3 := HX.out.cell3
  have z4 := HX.out.cell4
  have z5 := HX.out.cell5
  have z6 := HX.out.cell6
  have z7 := HX.out.cell7
  have z8 := HX.out.cell8
  have z9 := HX.out.cell9
  have z10 := HX.out.cell10
  have HB := Lib.hid HX.out.bel
  clear HX
  go_wp2
  go_ret
  exact ⟨rfl, HB.out⟩
set_option maxHeartbeats 4000000 in
theorem unmasks_no1 (lg sp ph : Bool) (ty ve : Int) (dc sc tk : List UInt8) (le wi nu : Int) (behind mask : List UInt8) (w : World) (ht : Tab w) (wty : -9223372036854775808 ≤ ty) (wty2 : ty ≤ 9223372036854775807) (wve : 0 ≤ ve) (wve2 : ve ≤ 4294967295) (wdc : dc.length ≤ 9223372036854775807) (wsc : sc.length ≤ 9223372036854775807) (wtk : tk.length ≤ 9223372036854775807) (wle : 0 ≤ le) (wle2 : le ≤ 18446744073709551615) (wwi : -9223372036854775808 ≤ wi) (wwi2 : wi ≤ 9223372036854775807) (wnu : 0 ≤ nu) (wnu2 : nu ≤ 18446744073709551615) (EM : mayB lg sp ph ty ve dc sc tk le wi nu = false) (EB : lawB dc sc tk = true) (wb : behind.length ≤ 9223372036854775807) (wm : mask.length ≤ 9223372036854775807) (gb : ¬ behind.length ≤ 1000) :
    Calls Tryd.prog 6 #[.agg #[.bool lg, .bool sp, .bool ph, .int .i64 ty, .int .u32 ve, .string ⟨dc.toArray⟩, .string ⟨sc.toArray⟩, .string ⟨tk.toArray⟩, .int .u64 le, .int .i64 wi, .int .u64 nu], .string ⟨behind.toArray⟩, .string ⟨mask.toArray⟩] w fun e w' => e = .returned (.bool true) ∧ Below w.heap.size w w' := by
  have hlt := ht.lt
  have HT := Lib.hid ht
  clear ht
  have HX := Lib.hid (Box.made w (.bool lg) (.bool sp) (.bool ph) (.int .i64 ty) (.int .u32 ve) (.string ⟨dc.toArray⟩) (.string ⟨sc.toArray⟩) (.string ⟨tk.toArray⟩) (.int .u64 le) (.int .i64 wi) (.int .u64 nu) 25)
  have CP := Lib.hid (fun w (ht : Tab w) => Put_no lg sp ph ty ve dc sc tk le wi nu w ht wty wty2 wve wve2 wdc wsc wtk wle wle2 wwi wwi2 wnu wnu2 EM)
  have CB := Lib.hid (fun w => lawBounded_any lg sp ph ty ve dc sc tk le wi nu w wty wty2 wve wve2 wdc wsc wtk wle wle2 wwi wwi2 wnu wnu2)
  rw [EB] at CB
  clear EM
  go_enter Tryd.func6, Tryd.ntmps6
  have HT1 := Lib.hid (HT.out.below HX.out.bel hlt)
  go_wp2_with fail
  refine (CP.out _ HT1.out).mono ?_
  rintro e w1 ⟨rfl, hb⟩
  replace HX := Lib.hid (HX.out.keep hb)
  clear hb
  have HT1 := Lib.hid (HT.out.below HX.out.bel hlt)
  (try clear z0 z1 z2 z3 z4 z5 z6 z7 z8 z9 z10)
  have z0 := HX.out.cell0
  have z1 := HX.out.cell1
  have z2 := HX.out.cell2
  have z3 := HX.out.cell3
  have z4 := HX.out.cell4
  have z5 := HX.out.cell5
  have z6 := HX.out.cell6
  have z7 := HX.out.cell7
  have z8 := HX.out.cell8
  have z9 := HX.out.cell9
  have z10 := HX.out.cell10
  go_wp2_with fail
  refine (CB.out _).mono ?_
  rintro e w1 ⟨rfl, hb⟩
  replace HX := Lib.hid (HX.out.keep hb)
  clear hb
  have HT1 := Lib.hid (HT.out.below HX.out.bel hlt)
  (try clear z0 z1 z2 z3 z4 z5 z6 z7 z8 z9 z10)
  have z0 := HX.out.cell0
  have z1 := HX.out.cell1
  have z2 := HX.out.cell2
  have z3 := HX.out.cell3
  have z4 := HX.out.cell4
  have z5 := HX.out.cell5
  have z6 := HX.out.cell6
  have z7 := HX.out.cell7
  have z8 := HX.out.cell8
  have z9 := HX.out.cell9
  have z10 := HX.out.cell10
  go_wp2_with fail
  refine (shown_any _ HT1.out).mono ?_
  rintro e w1 ⟨rfl, hb⟩
  replace HX := Lib.hid (HX.out.keep hb)
  clear hb
  have HT1 := Lib.hid (HT.out.below HX.out.bel hlt)
  (try clear z0 z1 z2 z3 z4 z5 z6 z7 z8 z9 z10)
  have z0 := HX.out.cell0
  have z1 := HX.out.cell1
  have z2 := HX.out.cell2
  have z3 := HX.out.cell3
  have z4 := HX.out.cell4
  have z5 := HX.out.cell5
  have z6 := HX.out.cell6
  have z7 := HX.out.cell7
  have z8 := HX.out.cell8
  have z9 := HX.out.cell9
  have z10 := HX.out.cell10
  have HB := Lib.hid HX.out.bel
  clear HX
  go_wp2
  go_ret
  exact ⟨rfl, HB.out⟩
set_option maxHeartbeats 4000000 in
theorem unmasks_no2 (lg sp ph : Bool) (ty ve : Int) (dc sc tk : List UInt8) (le wi nu : Int) (behind mask : List UInt8) (w : World) (ht : Tab w) (wty : -9223372036854775808 ≤ ty) (wty2 : ty ≤ 9223372036854775807) (wve : 0 ≤ ve) (wve2 : ve ≤ 4294967295) (wdc : dc.length ≤ 9223372036854775807) (wsc : sc.length ≤ 9223372036854775807) (wtk : tk.length ≤ 9223372036854775807) (wle : 0 ≤ le) (wle2 : le ≤ 18446744073709551615) (wwi : -9223372036854775808 ≤ wi) (wwi2 : wi ≤ 9223372036854775807) (wnu : 0 ≤ nu) (wnu2 : nu ≤ 18446744073709551615) (EM : mayB lg sp ph ty ve dc sc tk le wi nu = false) (EB : lawB dc sc tk = true) (wb : behind.length ≤ 9223372036854775807) (wm : mask.length ≤ 9223372036854775807) (gb : behind.length ≤ 1000) (N5 : (((mask.length : Nat) : Int) != 5) = true) :
    Calls Tryd.prog 6 #[.agg #[.bool lg, .bool sp, .bool ph, .int .i64 ty, .int .u32 ve, .string ⟨dc.toArray⟩, .string ⟨sc.toArray⟩, .string ⟨tk.toArray⟩, .int .u64 le, .int .i64 wi, .int .u64 nu], .string ⟨behind.toArray⟩, .string ⟨mask.toArray⟩] w fun e w' => e = .returned (.bool true) ∧ Below w.heap.size w w' := by
  have hlt := ht.lt
  have HT := Lib.hid ht
  clear ht
  have HX := Lib.hid (Box.made w (.bool lg) (.bool sp) (.bool ph) (.int .i64 ty) (.int .u32 ve) (.string ⟨dc.toArray⟩) (.string ⟨sc.toArray⟩) (.string ⟨tk.toArray⟩) (.int .u64 le) (.int .i64 wi) (.int .u64 nu) 25)
  have CP := Lib.hid (fun w (ht : Tab w) => Put_no lg sp ph ty ve dc sc tk le wi nu w ht wty wty2 wve wve2 wdc wsc wtk wle wle2 wwi wwi2 wnu wnu2 EM)
  have CB := Lib.hid (fun w => lawBounded_any lg sp ph ty ve dc sc tk le wi nu w wty wty2 wve wve2 wdc wsc wtk wle wle2 wwi wwi2 wnu wnu2)
  rw [EB] at CB
  clear EM
  go_enter Tryd.func6, Tryd.ntmps6
  have HT1 := Lib.hid (HT.out.below HX.out.bel hlt)
  go_wp2_with fail
  refine (CP.out _ HT1.out).mono ?_
  rintro e w1 ⟨rfl, hb⟩
  replace HX := Lib.hid (HX.out.keep hb)
  clear hb
  have HT1 := Lib.hid (HT.out.below HX.out.bel hlt)
  (try clear z0 z1 z2 z3 z4 z5 z6 z7 z8 z9 z10)
  have z0 := HX.out.cell0
  have z1 := HX.out.cell1
  have z2 := HX.out.cell2
  have z3 := HX.out.cell3
  have z4 := HX.out.cell4
  have z5 := HX.out.cell5
  have z6 := HX.out.cell6
  have z7 := HX.out.cell7
  have z8 := HX.out.cell8
  have z9 := HX.out.cell9
  have z10 := HX.out.cell10
  go_wp2_with fail
  refine (CB.out _).mono ?_
  rintro e w1 ⟨rfl, hb⟩
  replace HX := Lib.hid (HX.out.keep hb)
  clear hb
  have HT1 := Lib.hid (HT.out.below HX.out.bel hlt)
  (try clear z0 z1 z2 z3 z4 z5 z6 z7 z8 z9 z10)
  have z0 := HX.out.cell0
  have z1 := HX.out.cell1
  have z2 := HX.out.cell2
  have z3 := HX.out.cell3
  have z4 := HX.out.cell4
  have z5 := HX.out.cell5
  have z6 := HX.out.cell6
  have z7 := HX.out.cell7
  have z8 := HX.out.cell8
  have z9 := HX.out.cell9
  have z10 := HX.out.cell10
  go_wp2_with fail
  refine (shown_any _ HT1.out).mono ?_
  rintro e w1 ⟨rfl, hb⟩
  replace HX := Lib.hid (HX.out.keep hb)
  clear hb
  have HT1 := Lib.hid (HT.out.below HX.out.bel hlt)
  (try clear z0 z1 z2 z3 z4 z5 z6 z7 z8 z9 z10)
  have z0 := HX.out.cell0
  have z1 := HX.out.cell1
  have z2 := HX.out.cell2
  have z3 := HX.out.cell3
  have z4 := HX.out.cell4
  have z5 := HX.out.cell5
  have z6 := HX.out.cell6
  have z7 := HX.out.cell7
  have z8 := HX.out.cell8
  have z9 := HX.out.cell9
  have z10 := HX.out.cell10
  have HB := Lib.hid HX.out.bel
  clear HX
  go_wp2
  go_ret
  exact ⟨rfl, HB.out⟩
set_option maxHeartbeats 4000000 in
theorem unmasks_no3 (lg sp ph : Bool) (ty ve : Int) (dc sc tk : List UInt8) (le wi nu : Int) (behind mask : List UInt8) (w : World) (ht : Tab w) (wty : -9223372036854775808 ≤ ty) (wty2 : ty ≤ 9223372036854775807) (wve : 0 ≤ ve) (wve2 : ve ≤ 4294967295) (wdc : dc.length ≤ 9223372036854775807) (wsc : sc.length ≤ 9223372036854775807) (wtk : tk.length ≤ 9223372036854775807) (wle : 0 ≤ le) (wle2 : le ≤ 18446744073709551615) (wwi : -9223372036854775808 ≤ wi) (wwi2 : wi ≤ 9223372036854775807) (wnu : 0 ≤ nu) (wnu2 : nu ≤ 18446744073709551615) (EM : mayB lg sp ph ty ve dc sc tk le wi nu = false) (EB : lawB dc sc tk = true) (wb : behind.length ≤ 9223372036854775807) (wm : mask.length ≤ 9223372036854775807) (gb : behind.length ≤ 1000) (N5 : (((mask.length : Nat) : Int) != 5) = false) :
    Calls Tryd.prog 6 #[.agg #[.bool lg, .bool sp, .bool ph, .int .i64 ty, .int .u32 ve, .string ⟨dc.toArray⟩, .string ⟨sc.toArray⟩, .string ⟨tk.toArray⟩, .int .u64 le, .int .i64 wi, .int .u64 nu], .string ⟨behind.toArray⟩, .string ⟨mask.toArray⟩] w fun e w' => e = .returned (.bool true) ∧ Below w.heap.size w w' := by
  have hlt := ht.lt
  have HT := Lib.hid ht
  clear ht
  have HX := Lib.hid (Box.made w (.bool lg) (.bool sp) (.bool ph) (.int .i64 ty) (.int .u32 ve) (.string ⟨dc.toArray⟩) (.string ⟨sc.toArray⟩) (.string ⟨tk.toArray⟩) (.int .u64 le) (.int .i64 wi) (.int .u64 nu) 25)
  have CP := Lib.hid (fun w (ht : Tab w) => Put_no lg sp ph ty ve dc sc tk le wi nu w ht wty wty2 wve wve2 wdc wsc wtk wle wle2 wwi wwi2 wnu wnu2 EM)
  have CB := Lib.hid (fun w => lawBounded_any lg sp ph ty ve dc sc tk le wi nu w wty wty2 wve wve2 wdc wsc wtk wle wle2 wwi wwi2 wnu wnu2)
  rw [EB] at CB
  clear EM
  go_enter Tryd.func6, Tryd.ntmps6
  have HT1 := Lib.hid (HT.out.below HX.out.bel hlt)
  go_wp2_with fail
  refine (CP.out _ HT1.out).mono ?_
  rintro e w1 ⟨rfl, hb⟩
  replace HX := Lib.hid (HX.out.keep hb)
  clear hb
  have HT1 := Lib.hid (HT.out.below HX.out.bel hlt)
  (try clear z0 z1 z2 z3 z4 z5 z6 z7 z8 z9 z10)
  have z0 := HX.out.cell0
  have z1 := HX.out.cell1
  have z2 := HX.out.cell2
  have z3 := HX.out.cell3
  have z4 := HX.out.cell4
  have z5 := HX.out.cell5
  have z6 := HX.out.cell6
  have z7 := HX.out.cell7
  have z8 := HX.out.cell8
  have z9 := HX.out.cell9
  have z10 := HX.out.cell10
  go_wp2_with fail
  refine (CB.out _).mono ?_
  rintro e w1 ⟨rfl, hb⟩
  replace HX := Lib.hid (HX.out.keep hb)
  clear hb
  have HT1 := Lib.hid (HT.out.below HX.out.bel hlt)
  (try clear z0 z1 z2 z3 z4 z5 z6 z7 z8 z9 z10)
  have z0 := HX.out.cell0
  have z1 := HX.out.cell1
  have z2 := HX.out.cell2
  have z3 := HX.out.cell3
  have z4 := HX.out.cell4
  have z5 := HX.out.cell5
  have z6 := HX.out.cell6
  have z7 := HX.out.cell7
  have z8 := HX.out.cell8
  have z9 := HX.out.cell9
  have z10 := HX.out.cell10
  go_wp2_with fail
  refine (shown_any _ HT1.out).mono ?_
  rintro e w1 ⟨rfl, hb⟩
  replace HX := Lib.hid (HX.out.keep hb)
  clear hb
  have HT1 := Lib.hid (HT.out.below HX.out.bel hlt)
  (try clear z0 z1 z2 z3 z4 z5 z6 z7 z8 z9 z10)
  have z0 := HX.out.cell0
  have z1 := HX.out.cell1
  have z2 := HX.out.cell2
  have z3 := HX.out.cell3
  have z4 := HX.out.cell4
  have z5 := HX.out.cell5
  have z6 := HX.out.cell6
  have z7 := HX.out.cell7
  have z8 := HX.out.cell8
  have z9 := HX.out.cell9
  have z10 := HX.out.cell10
  have HB := Lib.hid HX.out.bel
  clear HX
  go_wp2
  go_ret
  exact ⟨rfl, HB.out⟩
set_option maxHeartbeats 4000000 in
theorem unmasks_no4 (lg sp ph : Bool) (ty ve : Int) (dc sc tk : List UInt8) (le wi nu : Int) (behind mask : List UInt8) (w : World) (ht : Tab w) (wty : -9223372036854775808 ≤ ty) (wty2 : ty ≤ 9223372036854775807) (wve : 0 ≤ ve) (wve2 : ve ≤ 4294967295) (wdc : dc.length ≤ 9223372036854775807) (wsc : sc.length ≤ 9223372036854775807) (wtk : tk.length ≤ 9223372036854775807) (wle : 0 ≤ le) (wle2 : le ≤ 18446744073709551615) (wwi : -9223372036854775808 ≤ wi) (wwi2 : wi ≤ 9223372036854775807) (wnu : 0 ≤ nu) (wnu2 : nu ≤ 18446744073709551615) (EM : mayB lg sp ph ty ve dc sc tk le wi nu = true) (EB : lawB dc sc tk = true) (wb : behind.length ≤ 9223372036854775807) (wm : mask.length ≤ 9223372036854775807) (gb : ¬ behind.length ≤ 1000) :
    Calls Tryd.prog 6 #[.agg #[.bool lg, .bool sp, .bool ph, .int .i64 ty, .int .u32 ve, .string ⟨dc.toArray⟩, .string ⟨sc.toArray⟩, .string ⟨tk.toArray⟩, .int .u64 le, .int .i64 wi, .int .u64 nu], .string ⟨behind.toArray⟩, .string ⟨mask.toArray⟩] w fun e w' => e = .returned (.bool true) ∧ Below w.heap.size w w' := by
  have hlt := ht.lt
  have HT := Lib.hid ht
  clear ht
  have HX := Lib.hid (Box.made w (.bool lg) (.bool sp) (.bool ph) (.int .i64 ty) (.int .u32 ve) (.string ⟨dc.toArray⟩) (.string ⟨sc.toArray⟩) (.string ⟨tk.toArray⟩) (.int .u64 le) (.int .i64 wi) (.int .u64 nu) 25)
  have CP := Lib.hid (fun w (ht : Tab w) => Put_yes lg sp ph ty ve dc sc tk le wi nu w ht wty wty2 wve wve2 wdc wsc wtk wle wle2 wwi wwi2 wnu wnu2 EM)
  have CB := Lib.hid (fun w => lawBounded_any lg sp ph ty ve dc sc tk le wi nu w wty wty2 wve wve2 wdc wsc wtk wle wle2 wwi wwi2 wnu wnu2)
  rw [EB] at CB
  have hpl := putL_len EM
  generalize putL lg sp ph ty ve dc sc tk le wi nu = pl at CP hpl
  clear EM
  go_enter Tryd.func6, Tryd.ntmps6
  have HT1 := Lib.hid (HT.out.below HX.out.bel hlt)
  go_wp2_with fail
  refine (CP.out _ HT1.out).mono ?_
  rintro e w1 ⟨rfl, hb⟩
  replace HX := Lib.hid (HX.out.keep hb)
  clear hb
  have HT1 := Lib.hid (HT.out.below HX.out.bel hlt)
  (try clear z0 z1 z2 z3 z4 z5 z6 z7 z8 z9 z10)
  have z0 := HX.out.cell0
  have z1 := HX.out.cell1
  have z2 := HX.out.cell2
  have z3 := HX.out.cell3
  have z4 := HX.out.cell4
  have z5 := HX.out.cell5
  have z6 := HX.out.cell6
  have z7 := HX.out.cell7
  have z8 := HX.out.cell8
  have z9 := HX.out.cell9
  have z10 := HX.out.cell10
  go_wp2_with fail
  refine (CB.out _).mono ?_
  rintro e w1 ⟨rfl, hb⟩
  replace HX := Lib.hid (HX.out.keep hb)
  clear hb
  have HT1 := Lib.hid (HT.out.below HX.out.bel hlt)
  (try clear z0 z1 z2 z3 z4 z5 z6 z7 z8 z9 z10)
  have z0 := HX.out.cell0
  have z1 := HX.out.cell1
  have z2 := HX.out.cell2
  have z3 := HX.out.cell3
  have z4 := HX.out.cell4
  have z5 := HX.out.cell5
  have z6 := HX.out.cell6
  have z7 := HX.out.cell7
  have z8 := HX.out.cell8
  have z9 := HX.out.cell9
  have z10 := HX.out.cell10
  go_wp2_with fail
  refine (shown_any _ HT1.out).mono ?_
  rintro e w1 ⟨rfl, hb⟩
  replace HX := Lib.hid (HX.out.keep hb)
  clear hb
  have HT1 := Lib.hid (HT.out.below HX.out.bel hlt)
  (try clear z0 z1 z2 z3 z4 z5 z6 z7 z8 z9 z10)
  have z0 := HX.out.cell0
  have z1 := HX.out.cell1
  have z2 := HX.out.cell2
  have z3 := HX.out.cell3
  have z4 := HX.out.cell4
  have z5 := HX.out.cell5
  have z6 := HX.out.cell6
  have z7 := HX.out.cell7
  have z8 := HX.out.cell8
  have z9 := HX.out.cell9
  have z10 := HX.out.cell10
  have HB := Lib.hid HX.out.bel
  clear HX
  go_wp2
  go_ret
  exact ⟨rfl, HB.out⟩
set_option maxHeartbeats 4000000 in
theorem unmasks_no5 (lg sp ph : Bool) (ty ve : Int) (dc sc tk : List UInt8) (le wi nu : Int) (behind mask : List UInt8) (w : World) (ht : Tab w) (wty : -9223372036854775808 ≤ ty) (wty2 : ty ≤ 9223372036854775807) (wve : 0 ≤ ve) (wve2 : ve ≤ 4294967295) (wdc : dc.length ≤ 9223372036854775807) (wsc : sc.length ≤ 9223372036854775807) (wtk : tk.length ≤ 9223372036854775807) (wle : 0 ≤ le) (wle2 : le ≤ 18446744073709551615) (wwi : -9223372036854775808 ≤ wi) (wwi2 : wi ≤ 9223372036854775807) (wnu : 0 ≤ nu) (wnu2 : nu ≤ 18446744073709551615) (EM : mayB lg sp ph ty ve dc sc tk le wi nu = true) (EB : lawB dc sc tk = true) (wb : behind.length ≤ 9223372036854775807) (wm : mask.length ≤ 9223372036854775807) (gb : behind.length ≤ 1000) (N5 : (((mask.length : Nat) : Int) != 5) = true) :
    Calls Tryd.prog 6 #[.agg #[.bool lg, .bool sp, .bool ph, .int .i64 ty, .int .u32 ve, .string ⟨dc.toArray⟩, .string ⟨sc.toArray⟩, .string ⟨tk.toArray⟩, .int .u64 le, .int .i64 wi, .int .u64 nu], .string ⟨behind.toArray⟩, .string ⟨mask.toArray⟩] w fun e w' => e = .returned (.bool true) ∧ Below w.heap.size w w' := by
  have hlt := ht.lt
  have HT := Lib.hid ht
  clear ht
  have HX := Lib.hid (Box.made w (.bool lg) (.bool sp) (.bool ph) (.int .i64 ty) (.int .u32 ve) (.string ⟨dc.toArray⟩) (.string ⟨sc.toArray⟩) (.string ⟨tk.toArray⟩) (.int .u64 le) (.int .i64 wi) (.int .u64 nu) 25)
  have CP := Lib.hid (fun w (ht : Tab w) => Put_yes lg sp ph ty ve dc sc tk le wi nu w ht wty wty2 wve wve2 wdc wsc wtk wle wle2 wwi wwi2 wnu wnu2 EM)
  have CB := Lib.hid (fun w => lawBounded_any lg sp ph ty ve dc sc tk le wi nu w wty wty2 wve wve2 wdc wsc wtk wle wle2 wwi wwi2 wnu wnu2)
  rw [EB] at CB
  have hpl := putL_len EM
  generalize putL lg sp ph ty ve dc sc tk le wi nu = pl at CP hpl
  clear EM
  go_enter Tryd.func6, Tryd.ntmps6
  have HT1 := Lib.hid (HT.out.below HX.out.bel hlt)
  go_wp2_with fail
  refine (CP.out _ HT1.out).mono ?_
  rintro e w1 ⟨rfl, hb⟩
  replace HX := Lib.hid (HX.out.keep hb)
  clear hb
  have HT1 := Lib.hid (HT.out.below HX.out.bel hlt)
  (try clear z0 z1 z2 z3 z4 z5 z6 z7 z8 z9 z10)
  have z0 := HX.out.cell0
  have z1 := HX.out.cell1
  have z2 := HX.out.cell2
  have z3 := HX.out.cell3
  have z4 := HX.out.cell4
  have z5 := HX.out.cell5
  have z6 := HX.out.cell6
  have z7 := HX.out.cell7
  have z8 := HX.out.cell8
  have z9 := HX.out.cell9
  have z10 := HX.out.cell10
  go_wp2_with fail
  refine (CB.out _).mono ?_
  rintro e w1 ⟨rfl, hb⟩
  replace HX := Lib.hid (HX.out.keep hb)
  clear hb
  have HT1 := Lib.hid (HT.out.below HX.out.bel hlt)
  (try clear z0 z1 z2 z3 z4 z5 z6 z7 z8 z9 z10)
  have z0 := HX.out.cell0
  have z1 := HX.out.cell1
  have z2 := HX.out.cell2
  have z3 := HX.out.cell3
  have z4 := HX.out.cell4
  have z5 := HX.out.cell5
  have z6 := HX.out.cell6
  have z7 := HX.out.cell7
  have z8 := HX.out.cell8
  have z9 := HX.out.cell9
  have z10 := HX.out.cell10
  go_wp2_with fail
  refine (shown_any _ HT1.out).mono ?_
  rintro e w1 ⟨rfl, hb⟩
  replace HX := Lib.hid (HX.out.keep hb)
  clear hb
  have HT1 := Lib.hid (HT.out.below HX.out.bel hlt)
  (try clear z0 z1 z2 z3 z4 z5 z6 z7 z8 z9 z10)
  have z0 := HX.out.cell0
  have z1 := HX.out.cell1
  have z2 := HX.out.cell2
  have z3 := HX.out.cell3
  have z4 := HX.out.cell4
  have z5 := HX.out.cell5
  have z6 := HX.out.cell6
  have z7 := HX.out.cell7
  have z8 := HX.out.cell8
  have z9 := HX.out.cell9
  have z10 := HX.out.cell10
  have HB := Lib.hid HX.out.bel
  clear HX
  go_wp2
  go_ret
  exact ⟨rfl, HB.out⟩
set_option maxHeartbeats 4000000 in
theorem unmasks_yes (lg sp ph : Bool) (ty ve : Int) (dc sc tk : List UInt8) (le wi nu : Int) (behind mask : List UInt8) (w : World) (ht : Tab w) (wty : -9223372036854775808 ≤ ty) (wty2 : ty ≤ 9223372036854775807) (wve : 0 ≤ ve) (wve2 : ve ≤ 4294967295) (wdc : dc.length ≤ 9223372036854775807) (wsc : sc.length ≤ 9223372036854775807) (wtk : tk.length ≤ 9223372036854775807) (wle : 0 ≤ le) (wle2 : le ≤ 18446744073709551615) (wwi : -9223372036854775808 ≤ wi) (wwi2 : wi ≤ 9223372036854775807) (wnu : 0 ≤ nu) (wnu2 : nu ≤ 18446744073709551615) (EM : mayB lg sp ph ty ve dc sc tk le wi nu = true) (wb : behind.length ≤ 9223372036854775807) (wm : mask.length ≤ 9223372036854775807) (gb : behind.length ≤ 1000) (h5 : mask.length = 5) :
    Calls Tryd.prog 6 #[.agg #[.bool lg, .bool sp, .bool ph, .int .i64 ty, .int .u32 ve, .string ⟨dc.toArray⟩, .string ⟨sc.toArray⟩, .string ⟨tk.toArray⟩, .int .u64 le, .int .i64 wi, .int .u64 nu], .string ⟨behind.toArray⟩, .string ⟨mask.toArray⟩] w fun e w' => e = .returned (.bool true) ∧ Below w.heap.size w w' := by
  have hlt := ht.lt
  have HT := Lib.hid ht
  clear ht
  have HX := Lib.hid (Box.made w (.bool lg) (.bool sp) (.bool ph) (.int .i64 ty) (.int .u32 ve) (.string ⟨dc.toArray⟩) (.string ⟨sc.toArray⟩) (.string ⟨tk.toArray⟩) (.int .u64 le) (.int .i64 wi) (.int .u64 nu) 25)
  have CP := Lib.hid (fun w (ht : Tab w) => Put_yes lg sp ph ty ve dc sc tk le wi nu w ht wty wty2 wve wve2 wdc wsc wtk wle wle2 wwi wwi2 wnu wnu2 EM)
  have CB := Lib.hid (fun w => lawBounded_any lg sp ph ty ve dc sc tk le wi nu w wty wty2 wve wve2 wdc wsc wtk wle wle2 wwi wwi2 wnu wnu2)
  rw [law_of_may EM] at CB
  have N5 := ne5 h5
  have hg := get_put EM wve wve2 wle wnu behind
  have hpl := putL_len EM
  have hpw := may_parts EM
  have hwi : wi = ((wi.toNat : Nat) : Int) := by omega
  generalize putL lg sp ph ty ve dc sc tk le wi nu = pl at CP hg hpl
  obtain ⟨b, pre, num, p, hP, hx⟩ := parts_of hg
  have hm := msk_parts (m := mask) hg hP hx h5
  have hu := um_parts (m := mask) hg hP h5
  have ha := turn_ah (m := mask) hP (mask.headD 0) (xorL num (mask.drop 1) ++ behind)
  have hw4 := wide_4 b
  have hw := hP.wide
  have hmd : (mask.drop 1).length = 4 := by rw [List.length_drop]; omega
  have hxl := xorL_length num (mask.drop 1) (by omega)
  have hpe := hP.eq
  have hwb : wi = ((wideB b : Nat) : Int) := by have := congrArg Hdr.wi hx; exact this
  simp only at hm hu
  have hplen : pl.length = 1 + pre.length + num.length := by have := congrArg List.length hpe; simp at this; omega
  have hML : (fstB b (mask.headD 0) :: (pre ++ (xorL num (mask.drop 1) ++ behind))).length = (pl ++ behind).length := by simp [-List.drop_one]; omega
  have hMD : (fstB b (mask.headD 0) :: (pre ++ (xorL num (mask.drop 1) ++ behind))).drop pl.length = behind := by
    rw [hplen, show 1 + pre.length + num.length = (pre.length + num.length) + 1 by omega, List.drop_succ_cons, ← List.drop_drop, ← hxl]
    simp [-List.drop_one]
  have hPN : plN (fstB b (mask.headD 0) :: (pre ++ (xorL num (mask.drop 1) ++ behind))) = (pl.length : Int) - wi := by
    unfold plN
    rw [ha]
    simp only [List.length_cons, List.length_append]
    omega
  have hPE : plE (fstB b (mask.headD 0) :: (pre ++ (xorL num (mask.drop 1) ++ behind))) = 0 := by unfold plE; rw [ha]
  generalize (fstB b (mask.headD 0) :: (pre ++ (xorL num (mask.drop 1) ++ behind))) = M at *
  have EX : (⟨pl.toArray⟩ : ByteArray) ++ (⟨behind.toArray⟩ : ByteArray) = ⟨(pl ++ behind).toArray⟩ := app_two _ _
  have hxlen : (pl ++ behind).length = pl.length + behind.length := List.length_append
  generalize pl ++ behind = x at *
  have CM := Lib.hid (fun w (ht : Tab w) => Mask_any x mask w ht (by omega))
  have CU := Lib.hid (fun w (ht : Tab w) => Unmask_any M mask w ht (by omega))
  have CQ := Lib.hid (fun w (ht : Tab w) => Place_any M w ht (by omega))
  rw [hm.1, hm.2] at CM
  rw [hu.1, hu.2] at CU
  rw [hPN, hPE] at CQ
  have EBH : (⟨M.toArray⟩ : ByteArray).extract pl.length M.length = ⟨behind.toArray⟩ := by rw [sv_from, hMD]
  have hb1 : pl.length ≤ M.length := by omega
  have hb2 : M.length = x.length := hML
  have hpl1 := hpl.1
  have hk1 := hpw.2.2.1
  have hk2 := hpw.2.2.2.1
  clear hm hu hP hx hg EM ha hpe hML hMD hPN hPE hwb hw hxl hmd hpl hpw hwi hplen h5 hw4
  have hb3 := Lib.hid hb2
  have hx9 : x.length ≤ 30000 := by omega
  have hM9 : M.length ≤ 30000 := by omega
  clear hb2 hxlen
  have hq : (((M.length : Nat) : Int) == ((x.length : Nat) : Int)) = true := by rw [hb3.out]; simp
  go_enter Tryd.func6, Tryd.ntmps6
  have HT1 := Lib.hid (HT.out.below HX.out.bel hlt)
  go_wp2_with fail
  refine (CP.out _ HT1.out).mono ?_
  rintro e w1 ⟨rfl, hb⟩
  replace HX := Lib.hid (HX.out.keep hb)
  clear hb
  have HT1 := Lib.hid (HT.out.below HX.out.bel hlt)
  (try clear z0 z1 z2 z3 z4 z5 z6 z7 z8 z9 z10)
  have z0 := HX.out.cell0
  have z1 := HX.out.cell1
  have z2 := HX.out.cell2
  have z3 := HX.out.cell3
  have z4 := HX.out.cell4
  have z5 := HX.out.cell5
  have z6 := HX.out.cell6
  have z7 := HX.out.cell7
  have z8 := HX.out.cell8
  have z9 := HX.out.cell9
  have z10 := HX.out.cell10
  go_wp2_with fail
  refine (CB.out _).mono ?_
  rintro e w1 ⟨rfl, hb⟩
  replace HX := Lib.hid (HX.out.keep hb)
  clear hb
  have HT1 := Lib.hid (HT.out.below HX.out.bel hlt)
  (try clear z0 z1 z2 z3 z4 z5 z6 z7 z8 z9 z10)
  have z0 := HX.out.cell0
  have z1 := HX.out.cell1
  have z2 := HX.out.cell2
  have z3 := HX.out.cell3
  have z4 := HX.out.cell4
  have z5 := HX.out.cell5
  have z6 := HX.out.cell6
  have z7 := HX.out.cell7
  have z8 := HX.out.cell8
  have z9 := HX.out.cell9
  have z10 := HX.out.cell10
  go_wp2_with fail
  refine (shown_any _ HT1.out).mono ?_
  rintro e w1 ⟨rfl, hb⟩
  replace HX := Lib.hid (HX.out.keep hb)
  clear hb
  have HT1 := Lib.hid (HT.out.below HX.out.bel hlt)
  (try clear z0 z1 z2 z3 z4 z5 z6 z7 z8 z9 z10)
  have z0 := HX.out.cell0
  have z1 := HX.out.cell1
  have z2 := HX.out.cell2
  have z3 := HX.out.cell3
  have z4 := HX.out.cell4
  have z5 := HX.out.cell5
  have z6 := HX.out.cell6
  have z7 := HX.out.cell7
  have z8 := HX.out.cell8
  have z9 := HX.out.cell9
  have z10 := HX.out.cell10
  go_wp2_with fail
  refine (CM.out _ HT1.out).mono ?_
  rintro e w1 ⟨rfl, hb⟩
  replace HX := Lib.hid (HX.out.keep hb)
  clear hb
  have HT1 := Lib.hid (HT.out.below HX.out.bel hlt)
  (try clear z0 z1 z2 z3 z4 z5 z6 z7 z8 z9 z10)
  have z0 := HX.out.cell0
  have z1 := HX.out.cell1
  have z2 := HX.out.cell2
  have z3 := HX.out.cell3
  have z4 := HX.out.cell4
  have z5 := HX.out.cell5
  have z6 := HX.out.cell6
  have z7 := HX.out.cell7
  have z8 := HX.out.cell8
  have z9 := HX.out.cell9
  have z10 := HX.out.cell10
  go_wp2_with fail
  refine (CU.out _ HT1.out).mono ?_
  rintro e w1 ⟨rfl, hb⟩
  replace HX := Lib.hid (HX.out.keep hb)
  clear hb
  have HT1 := Lib.hid (HT.out.below HX.out.bel hlt)
  (try clear z0 z1 z2 z3 z4 z5 z6 z7 z8 z9 z10)
  have z0 := HX.out.cell0
  have z1 := HX.out.cell1
  have z2 := HX.out.cell2
  have z3 := HX.out.cell3
  have z4 := HX.out.cell4
  have z5 := HX.out.cell5
  have z6 := HX.out.cell6
  have z7 := HX.out.cell7
  have z8 := HX.out.cell8
  have z9 := HX.out.cell9
  have z10 := HX.out.cell10
  go_wp2_with fail
  refine (CQ.out _ HT1.out).mono ?_
  rintro e w1 ⟨rfl, hb⟩
  replace HX := Lib.hid (HX.out.keep hb)
  clear hb
  have HT1 := Lib.hid (HT.out.below HX.out.bel hlt)
  (try clear z0 z1 z2 z3 z4 z5 z6 z7 z8 z9 z10)
  have z0 := HX.out.cell0
  have z1 := HX.out.cell1
  have z2 := HX.out.cell2
  have z3 := HX.out.cell3
  have z4 := HX.out.cell4
  have z5 := HX.out.cell5
  have z6 := HX.out.cell6
  have z7 := HX.out.cell7
  have z8 := HX.out.cell8
  have z9 := HX.out.cell9
  have z10 := HX.out.cell10
  have HB := Lib.hid HX.out.bel
  clear HX
  go_wp2
  go_ret
  exact ⟨by simp [hb3.out], HB.out⟩
theorem law_unmasks (lg sp ph : Bool) (ty ve : Int) (dc sc tk : List UInt8) (le wi nu : Int) (behind mask : List UInt8) (w : World) (ht : Tab w) (w3 : (Lit.int .i64 ty).wf = true) (w4 : (Lit.int .u32 ve).wf = true) (w5 : (⟨dc.toArray⟩ : ByteArray).size ≤ maxLen) (w6 : (⟨sc.toArray⟩ : ByteArray).size ≤ maxLen) (w7 : (⟨tk.toArray⟩ : ByteArray).size ≤ maxLen) (w8 : (Lit.int .u64 le).wf = true) (w9 : (Lit.int .i64 wi).wf = true) (w10 : (Lit.int .u64 nu).wf = true) (wb : (⟨behind.toArray⟩ : ByteArray).size ≤ maxLen) (wm : (⟨mask.toArray⟩ : ByteArray).size ≤ maxLen) :
    Calls Tryd.prog 6 #[.agg #[.bool lg, .bool sp, .bool ph, .int .i64 ty, .int .u32 ve, .string ⟨dc.toArray⟩, .string ⟨sc.toArray⟩, .string ⟨tk.toArray⟩, .int .u64 le, .int .i64 wi, .int .u64 nu], .string ⟨behind.toArray⟩, .string ⟨mask.toArray⟩] w fun e w' => e = .returned (.bool true) ∧ Below w.heap.size w w' := by
  have hb := str_len wb
  have hm := str_len wm
  cases EM : mayB lg sp ph ty ve dc sc tk le wi nu with
  | false => cases EB : lawB dc sc tk with
    | false => exact unmasks_no0 lg sp ph ty ve dc sc tk le wi nu behind mask w ht (bounds_i64 w3).1 (bounds_i64 w3).2 (bounds_u32 w4).1 (bounds_u32 w4).2 (str_len w5) (str_len w6) (str_len w7) (bounds_u64 w8).1 (bounds_u64 w8).2 (bounds_i64 w9).1 (bounds_i64 w9).2 (bounds_u64 w10).1 (bounds_u64 w10).2 EM EB hb hm
    | true =>
      by_cases g : behind.length ≤ 1000
      · by_cases h5 : mask.length = 5
        · exact unmasks_no3 lg sp ph ty ve dc sc tk le wi nu behind mask w ht (bounds_i64 w3).1 (bounds_i64 w3).2 (bounds_u32 w4).1 (bounds_u32 w4).2 (str_len w5) (str_len w6) (str_len w7) (bounds_u64 w8).1 (bounds_u64 w8).2 (bounds_i64 w9).1 (bounds_i64 w9).2 (bounds_u64 w10).1 (bounds_u64 w10).2 EM EB hb hm g (ne5 h5)
        · exact unmasks_no2 lg sp ph ty ve dc sc tk le wi nu behind mask w ht (bounds_i64 w3).1 (bounds_i64 w3).2 (bounds_u32 w4).1 (bounds_u32 w4).2 (str_len w5) (str_len w6) (str_len w7) (bounds_u64 w8).1 (bounds_u64 w8).2 (bounds_i64 w9).1 (bounds_i64 w9).2 (bounds_u64 w10).1 (bounds_u64 w10).2 EM EB hb hm g (ne5' h5)
      · exact unmasks_no1 lg sp ph ty ve dc sc tk le wi nu behind mask w ht (bounds_i64 w3).1 (bounds_i64 w3).2 (bounds_u32 w4).1 (bounds_u32 w4).2 (str_len w5) (str_len w6) (str_len w7) (bounds_u64 w8).1 (bounds_u64 w8).2 (bounds_i64 w9).1 (bounds_i64 w9).2 (bounds_u64 w10).1 (bounds_u64 w10).2 EM EB hb hm g
  | true =>
    have EB := law_of_may EM
    by_cases g : behind.length ≤ 1000
    · by_cases h5 : mask.length = 5
      · exact unmasks_yes lg sp ph ty ve dc sc tk le wi nu behind mask w ht (bounds_i64 w3).1 (bounds_i64 w3).2 (bounds_u32 w4).1 (bounds_u32 w4).2 (str_len w5) (str_len w6) (str_len w7) (bounds_u64 w8).1 (bounds_u64 w8).2 (bounds_i64 w9).1 (bounds_i64 w9).2 (bounds_u64 w10).1 (bounds_u64 w10).2 EM hb hm g h5
      · exact unmasks_no5 lg sp ph ty ve dc sc tk le wi nu behind mask w ht (bounds_i64 w3).1 (bounds_i64 w3).2 (bounds_u32 w4).1 (bounds_u32 w4).2 (str_len w5) (str_len w6) (str_len w7) (bounds_u64 w8).1 (bounds_u64 w8).2 (bounds_i64 w9).1 (bounds_i64 w9).2 (bounds_u64 w10).1 (bounds_u64 w10).2 EM EB hb hm g (ne5' h5)
    · exact unmasks_no4 lg sp ph ty ve dc sc tk le wi nu behind mask w ht (bounds_i64 w3).1 (bounds_i64 w3).2 (bounds_u32 w4).1 (bounds_u32 w4).2 (str_len w5) (str_len w6) (str_len w7) (bounds_u64 w8).1 (bounds_u64 w8).2 (bounds_i64 w9).1 (bounds_i64 w9).2 (bounds_u64 w10).1 (bounds_u64 w10).2 EM EB hb hm g
end Go.Proofs.YtpjhpknbnbiabaaDoor.Hd
