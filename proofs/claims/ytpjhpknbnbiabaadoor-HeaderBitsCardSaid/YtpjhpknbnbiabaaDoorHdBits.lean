/- The walk of the law HeaderBits. By tools/gen-header-laws.py. -/
import Derived.Test.YtpjhpknbnbiabaaDoorHdJ
import Derived.Deep.RegionHeld3
namespace Go.Proofs.YtpjhpknbnbiabaaDoor.Hd
open Go.RowKit Vm
set_option linter.unusedVariables false
set_option linter.unusedSimpArgs false

set_option maxHeartbeats 4000000 in
theorem bits_no0 (lg sp ph : Bool) (ty ve : Int) (dc sc tk : List UInt8) (le wi nu : Int) (mask : List UInt8) (w : World) (ht : Tab w) (wty : -9223372036854775808 ≤ ty) (wty2 : ty ≤ 9223372036854775807) (wve : 0 ≤ ve) (wve2 : ve ≤ 4294967295) (wdc : dc.length ≤ 9223372036854775807) (wsc : sc.length ≤ 9223372036854775807) (wtk : tk.length ≤ 9223372036854775807) (wle : 0 ≤ le) (wle2 : le ≤ 18446744073709551615) (wwi : -9223372036854775808 ≤ wi) (wwi2 : wi ≤ 9223372036854775807) (wnu : 0 ≤ nu) (wnu2 : nu ≤ 18446744073709551615) (EM : mayB lg sp ph ty ve dc sc tk le wi nu = false) (EB : lawB dc sc tk = false) (wm : mask.length ≤ 9223372036854775807) :
    Calls Tryd.prog 7 #[.agg #[.bool lg, .bool sp, .bool ph, .int .i64 ty, .int .u32 ve, .string ⟨dc.toArray⟩, .string ⟨sc.toArray⟩, .string ⟨tk.toArray⟩, .int .u64 le, .int .i64 wi, .int .u64 nu], .string ⟨mask.toArray⟩] w fun e w' => e = .returned (.bool true) ∧ Below w.heap.size w w' := by
  have hlt := ht.lt
  have HT := Lib.hid ht
  clear ht
  have HX := Lib.hid (Box.made w (.bool lg) (.bool sp) (.bool ph) (.int .i64 ty) (.int .u32 ve) (.string ⟨dc.toArray⟩) (.string ⟨sc.toArray⟩) (.string ⟨tk.toArray⟩) (.int .u64 le) (.int .i64 wi) (.int .u64 nu) 25)
  have CP := Lib.hid (fun w (ht : Tab w) => Put_no lg sp ph ty ve dc sc tk le wi nu w ht wty wty2 wve wve2 wdc wsc wtk wle wle2 wwi wwi2 wnu wnu2 EM)
  have CB := Lib.hid (fun w => lawBounded_any lg sp ph ty ve dc sc tk le wi nu w wty wty2 wve wve2 wdc wsc wtk wle wle2 wwi wwi2 wnu wnu2)
  rw [EB] at CB
  clear EM
  go_enter Tryd.func7, Tryd.ntmps7
  have HT1 := Lib.hid (HT.out.below HX.out.bel hlt)
  go_wp2_with fail
  refine (CP.out _ HT1.out).mono ?_
  rintro e w1 ⟨rfl, hb⟩
  replace HX := Lib.hid (HX.out.keep hb)
  clear hb
  have HT1 := Lib.hid (HT.out.below HX.out.bel hlt)
  (try clear z0 z1 z2 z3 z4 z5 z6 z7 z8 z9 z10)
  have z0 := HX.out.cell0
  have z1 := HX.out.cell1
  have z2 := HX.out.cell2
  have z3 := HX.out.cell3
  have z4 := HX.out.cell4
  have z5 := HX.out.cell5
  have z6 := HX.out.cell6
  have z7 := HX.out.cell7
  have z8 := HX.out.cell8
  have z9 := HX.out.cell9
  have z10 := HX.out.cell10
  go_wp2_with fail
  refine (CB.out _).mono ?_
  rintro e w1 ⟨rfl, hb⟩
  replace HX := Lib.hid (HX.out.keep hb)
  clear hb
  have HT1 := Lib.hid (HT.out.below HX.out.bel hlt)
  (try clear z0 z1 z2 z3 z4 z5 z6 z7 z8 z9 z10)
  have z0 := HX.out.cell0
  have z1 := HX.out.cell1
  have z2 := HX.out.cell2
  have z3 := HX.out.cell3
  have z4 := HX.out.cell4
  have z5 := HX.out.cell5
  have z6 := HX.out.cell6
  have z7 := HX.out.cell7
  have z8 := HX.out.cell8
  have z9 := HX.out.cell9
  have z10 := HX.out.cell10
  go_wp2_with fail
  refine (shown_any _ HT1.out).mono ?_
  rintro e w1 ⟨rfl, hb⟩
  replace HX := Lib.hid (HX.out.keep hb)
  clear hb
  have HT1 := Lib.hid (HT.out.below HX.out.bel hlt)
  (try clear z0 z1 z2 z3 z4 z5 z6 z7 z8 z9 z10)
  have z0 := HX.out.cell0
  have z1 := HX.out.cell1
  have z2 := HX.out.cell2
  have z3 := HX.out.cell3
  have z4 := HX.out.cell4
  have z5 := HX.out.cell5
  have z6 := HX.out.cell6
  have z7 := HX.out.cell7
  have z8 := HX.out.cell8
  have z9 := HX.out.cell9
  have z10 := HX.out.cell10
  have HB := Lib.hid HX.out.bel
  clear HX
  go_wp2
  go_ret
  exact ⟨rfl, HB.out⟩
set_option maxHeartbeats 4000000 in
theorem bits_no1 (lg sp ph : Bool) (ty ve : Int) (dc sc tk : List UInt8) (le wi nu : Int) (mask : List UInt8) (w : World) (ht : Tab w) (wty : -9223372036854775808 ≤ ty) (wty2 : ty ≤ 9223372036854775807) (wve : 0 ≤ ve) (wve2 : ve ≤ 4294967295) (wdc : dc.length ≤ 9223372036854775807) (wsc : sc.length ≤ 9223372036854775807) (wtk : tk.length ≤ 9223372036854775807) (wle : 0 ≤ le) (wle2 : le ≤ 18446744073709551615) (wwi : -9223372036854775808 ≤ wi) (wwi2 : wi ≤ 9223372036854775807) (wnu : 0 ≤ nu) (wnu2 : nu ≤ 18446744073709551615) (EM : mayB lg sp ph ty ve dc sc tk le wi nu = false) (EB : lawB dc sc tk = true) (wm : mask.length ≤ 9223372036854775807) (N5 : (((mask.length : Nat) : Int) != 5) = true) :
    Calls Tryd.prog 7 #[.agg #[.bool lg, .bool sp, .bool ph, .int .i64 ty, .int .u32 ve, .string ⟨dc.toArray⟩, .string ⟨sc.toArray⟩, .string ⟨tk.toArray⟩, .int .u64 le, .int .i64 wi, .int .u64 nu], .string ⟨mask.toArray⟩] w fun e w' => e = .returned (.bool true) ∧ Below w.heap.size w w' := by
  have hlt := ht.lt
  have HT := Lib.hid ht
  clear ht
  have HX := Lib.hid (Box.made w (.bool lg) (.bool sp) (.bool ph) (.int .i64 ty) (.int .u32 ve) (.string ⟨dc.toArray⟩) (.string ⟨sc.toArray⟩) (.string ⟨tk.toArray⟩) (.int .u64 le) (.int .i64 wi) (.int .u64 nu) 25)
  have CP := Lib.hid (fun w (ht : Tab w) => Put_no lg sp ph ty ve dc sc tk le wi nu w ht wty wty2 wve wve2 wdc wsc wtk wle wle2 wwi wwi2 wnu wnu2 EM)
  have CB := Lib.hid (fun w => lawBounded_any lg sp ph ty ve dc sc tk le wi nu w wty wty2 wve wve2 wdc wsc wtk wle wle2 wwi wwi2 wnu wnu2)
  rw [EB] at CB
  clear EM
  go_enter Tryd.func7, Tryd.ntmps7
  have HT1 := Lib.hid (HT.out.below HX.out.bel hlt)
  go_wp2_with fail
  refine (CP.out _ HT1.out).mono ?_
  rintro e w1 ⟨rfl, hb⟩
  replace HX := Lib.hid (HX.out.keep hb)
  clear hb
  have HT1 := Lib.hid (HT.out.below HX.out.bel hlt)
  (try clear z0 z1 z2 z3 z4 z5 z6 z7 z8 z9 z10)
  have z0 := HX.out.cell0
  have z1 := HX.out.cell1
  have z2 := HX.out.cell2
  have z3 := HX.out.cell3
  have z4 := HX.out.cell4
  have z5 := HX.out.cell5
  have z6 := HX.out.cell6
  have z7 := HX.out.cell7
  have z8 := HX.out.cell8
  have z9 := HX.out.cell9
  have z10 := HX.out.cell10
  go_wp2_with fail
  refine (CB.out _).mono ?_
  rintro e w1 ⟨rfl, hb⟩
  replace HX := Lib.hid (HX.out.keep hb)
  clear hb
  have HT1 := Lib.hid (HT.out.below HX.out.bel hlt)
  (try clear z0 z1 z2 z3 z4 z5 z6 z7 z8 z9 z10)
  have z0 := HX.out.cell0
  have z1 := HX.out.cell1
  have z2 := HX.out.cell2
  have z3 := HX.out.cell3
  have z4 := HX.out.cell4
  have z5 := HX.out.cell5
  have z6 := HX.out.cell6
  have z7 := HX.out.cell7
  have z8 := HX.out.cell8
  have z9 := HX.out.cell9
  have z10 := HX.out.cell10
  go_wp2_with fail
  refine (shown_any _ HT1.out).mono ?_
  rintro e w1 ⟨rfl, hb⟩
  replace HX := Lib.hid (HX.out.keep hb)
  clear hb
  have HT1 := Lib.hid (HT.out.below HX.out.bel hlt)
  (try clear z0 z1 z2 z3 z4 z5 z6 z7 z8 z9 z10)
  have z0 := HX.out.cell0
  have z1 := HX.out.cell1
  have z2 := HX.out.cell2
  have z3 := HX.out.cell3
  have z4 := HX.out.cell4
  have z5 := HX.out.cell5
  have z6 := HX.out.cell6
  have z7 := HX.out.cell7
  have z8 := HX.out.cell8
  have z9 := HX.out.cell9
  have z10 := HX.out.cell10
  have HB := Lib.hid HX.out.bel
  clear HX
  go_wp2
  go_ret
  exact ⟨rfl, HB.out⟩
set_option maxHeartbeats 4000000 in
theorem bits_no2 (lg sp ph : Bool) (ty ve : Int) (dc sc tk : List UInt8) (le wi nu : Int) (mask : List UInt8) (w : World) (ht : Tab w) (wty : -9223372036854775808 ≤ ty) (wty2 : ty ≤ 9223372036854775807) (wve : 0 ≤ ve) (wve2 : ve ≤ 4294967295) (wdc : dc.length ≤ 9223372036854775807) (wsc : sc.length ≤ 9223372036854775807) (wtk : tk.length ≤ 9223372036854775807) (wle : 0 ≤ le) (wle2 : le ≤ 18446744073709551615) (wwi : -9223372036854775808 ≤ wi) (wwi2 : wi ≤ 9223372036854775807) (wnu : 0 ≤ nu) (wnu2 : nu ≤ 18446744073709551615) (EM : mayB lg sp ph ty ve dc sc tk le wi nu = false) (EB : lawB dc sc tk = true) (wm : mask.length ≤ 9223372036854775807) (N5 : (((mask.length : Nat) : Int) != 5) = false) :
    Calls Tryd.prog 7 #[.agg #[.bool lg, .bool sp, .bool ph, .int .i64 ty, .int .u32 ve, .string ⟨dc.toArray⟩, .string ⟨sc.toArray⟩, .string ⟨tk.toArray⟩, .int .u64 le, .int .i64 wi, .int .u64 nu], .string ⟨mask.toArray⟩] w fun e w' => e = .returned (.bool true) ∧ Below w.heap.size w w' := by
  have hlt := ht.lt
  have HT := Lib.hid ht
  clear ht
  have HX := Lib.hid (Box.made w (.bool lg) (.bool sp) (.bool ph) (.int .i64 ty) (.int .u32 ve) (.string ⟨dc.toArray⟩) (.string ⟨sc.toArray⟩) (.string ⟨tk.toArray⟩) (.int .u64 le) (.int .i64 wi) (.int .u64 nu) 25)
  have CP := Lib.hid (fun w (ht : Tab w) => Put_no lg sp ph ty ve dc sc tk le wi nu w ht wty wty2 wve wve2 wdc wsc wtk wle wle2 wwi wwi2 wnu wnu2 EM)
  have CB := Lib.hid (fun w => lawBounded_any lg sp ph ty ve dc sc tk le wi nu w wty wty2 wve wve2 wdc wsc wtk wle wle2 wwi wwi2 wnu wnu2)
  rw [EB] at CB
  clear EM
  go_enter Tryd.func7, Tryd.ntmps7
  have HT1 := Lib.hid (HT.out.below HX.out.bel hlt)
  go_wp2_with fail
  refine (CP.out _ HT1.out).mono ?_
  rintro e w1 ⟨rfl, hb⟩
  replace HX := Lib.hid (HX.out.keep hb)
  clear hb
  have HT1 := Lib.hid (HT.out.below HX.out.bel hlt)
  (try clear z0 z1 z2 z3 z4 z5 z6 z7 z8 z9 z10)
  have z0 := HX.out.cell0
  have z1 := HX.out.cell1
  have z2 := HX.out.cell2
  have z3 := HX.out.cell3
  have z4 := HX.out.cell4
  have z5 := HX.out.cell5
  have z6 := HX.out.cell6
  have z7 := HX.out.cell7
  have z8 := HX.out.cell8
  have z9 := HX.out.cell9
  have z10 := HX.out.cell10
  go_wp2_with fail
  refine (CB.out _).mono ?_
  rintro e w1 ⟨rfl, hb⟩
  replace HX := Lib.hid (HX.out.keep hb)
  clear hb
  have HT1 := Lib.hid (HT.out.below HX.out.bel hlt)
  (try clear z0 z1 z2 z3 z4 z5 z6 z7 z8 z9 z10)
  have z0 := HX.out.cell0
  have z1 := HX.out.cell1
  have z2 := HX.out.cell2
  have z3 := HX.out.cell3
  have z4 := HX.out.cell4
  have z5 := HX.out.cell5
  have z6 := HX.out.cell6
  have z7 := HX.out.cell7
  have z8 := HX.out.cell8
  have z9 := HX.out.cell9
  have z10 := HX.out.cell10
  go_wp2_with fail
  refine (shown_any _ HT1.out).mono ?_
  rintro e w1 ⟨rfl, hb⟩
  replace HX := Lib.hid (HX.out.keep hb)
  clear hb
  have HT1 := Lib.hid (HT.out.below HX.out.bel hlt)
  (try clear z0 z1 z2 z3 z4 z5 z6 z7 z8 z9 z10)
  have z0 := HX.out.cell0
  have z1 := HX.out.cell1
  have z2 := HX.out.cell2
  have z3 := HX.out.cell3
  have z4 := HX.out.cell4
  have z5 := HX.out.cell5
  have z6 := HX.out.cell6
  have z7 := HX.out.cell7
  have z8 := HX.out.cell8
  have z9 := HX.out.cell9
  have z10 := HX.out.cell10
  have HB := Lib.hid HX.out.bel
  clear HX
  go_wp2
  go_ret
  exact ⟨rfl, HB.out⟩
set_option maxHeartbeats 4000000 in
theorem bits_no3 (lg sp ph : Bool) (ty ve : Int) (dc sc tk : List UInt8) (le wi nu : Int) (mask : List UInt8) (w : World) (ht : Tab w) (wty : -9223372036854775808 ≤ ty) (wty2 : ty ≤ 9223372036854775807) (wve : 0 ≤ ve) (wve2 : ve ≤ 4294967295) (wdc : dc.length ≤ 9223372036854775807) (wsc : sc.length ≤ 9223372036854775807) (wtk : tk.length ≤ 9223372036854775807) (wle : 0 ≤ le) (wle2 : le ≤ 18446744073709551615) (wwi : -9223372036854775808 ≤ wi) (wwi2 : wi ≤ 9223372036854775807) (wnu : 0 ≤ nu) (wnu2 : nu ≤ 18446744073709551615) (EM : mayB lg sp ph ty ve dc sc tk le wi nu = true) (EB : lawB dc sc tk = true) (wm : mask.length ≤ 9223372036854775807) (N5 : (((mask.length : Nat) : Int) != 5) = true) :
    Calls Tryd.prog 7 #[.agg #[.bool lg, .bool sp, .bool ph, .int .i64 ty, .int .u32 ve, .string ⟨dc.toArray⟩, .string ⟨sc.toArray⟩, .string ⟨tk.toArray⟩, .int .u64 le, .int .i64 wi, .int .u64 nu], .string ⟨mask.toArray⟩] w fun e w' => e = .returned (.bool true) ∧ Below w.heap.size w w' := by
  have hlt := ht.lt
  have HT := Lib.hid ht
  clear ht
  have HX := Lib.hid (Box.made w (.bool lg) (.bool sp) (.bool ph) (.int .i64 ty) (.int .u32 ve) (.string ⟨dc.toArray⟩) (.string ⟨sc.toArray⟩) (.string ⟨tk.toArray⟩) (.int .u64 le) (.int .i64 wi) (.int .u64 nu) 25)
  have CP := Lib.hid (fun w (ht : Tab w) => Put_yes lg sp ph ty ve dc sc tk le wi nu w ht wty wty2 wve wve2 wdc wsc wtk wle wle2 wwi wwi2 wnu wnu2 EM)
  have CB := Lib.hid (fun w => lawBounded_any lg sp ph ty ve dc sc tk le wi nu w wty wty2 wve wve2 wdc wsc wtk wle wle2 wwi wwi2 wnu wnu2)
  rw [EB] at CB
  have hpl := putL_len EM
  generalize putL lg sp ph ty ve dc sc tk le wi nu = pl at CP hpl
  clear EM
  go_enter Tryd.func7, Tryd.ntmps7
  have HT1 := Lib.hid (HT.out.below HX.out.bel hlt)
  go_wp2_with fail
  refine (CP.out _ HT1.out).mono ?_
  rintro e w1 ⟨rfl, hb⟩
  replace HX := Lib.hid (HX.out.keep hb)
  clear hb
  have HT1 := Lib.hid (HT.out.below HX.out.bel hlt)
  (try clear z0 z1 z2 z3 z4 z5 z6 z7 z8 z9 z10)
  have z0 := HX.out.cell0
  have z1 := HX.out.cell1
  have z2 := HX.out.cell2
  have z3 := HX.out.cell3
  have z4 := HX.out.cell4
  have z5 := HX.out.cell5
  have z6 := HX.out.cell6
  have z7 := HX.out.cell7
  have z8 := HX.out.cell8
  have z9 := HX.out.cell9
  have z10 := HX.out.cell10
  go_wp2_with fail
  refine (CB.out _).mono ?_
  rintro e w1 ⟨rfl, hb⟩
  replace HX := Lib.hid (HX.out.keep hb)
  clear hb
  have HT1 := Lib.hid (HT.out.below HX.out.bel hlt)
  (try clear z0 z1 z2 z3 z4 z5 z6 z7 z8 z9 z10)
  have z0 := HX.out.cell0
  have z1 := HX.out.cell1
  have z2 := HX.out.cell2
  have z3 := HX.out.cell3
  have z4 := HX.out.cell4
  have z5 := HX.out.cell5
  have z6 := HX.out.cell6
  have z7 := HX.out.cell7
  have z8 := HX.out.cell8
  have z9 := HX.out.cell9
  have z10 := HX.out.cell10
  go_wp2_with fail
  refine (shown_any _ HT1.out).mono ?_
  rintro e w1 ⟨rfl, hb⟩
  replace HX := Lib.hid (HX.out.keep hb)
  clear hb
  have HT1 := Lib.hid (HT.out.below HX.out.bel hlt)
  (try clear z0 z1 z2 z3 z4 z5 z6 z7 z8 z9 z10)
  have z0 := HX.out.cell0
  have z1 := HX.out.cell1
  have z2 := HX.out.cell2
  have z3 := HX.out.cell3
  have z4 := HX.out.cell4
  have z5 := HX.out.cell5
  have z6 := HX.out.cell6
  have z7 := HX.out.cell7
  have z8 := HX.out.cell8
  have z9 := HX.out.cell9
  have z10 := HX.out.cell10
  have HB := Lib.hid HX.out.bel
  clear HX
  go_wp2
  go_ret
  exact ⟨rfl, HB.out⟩
set_option maxHeartbeats 4000000 in
theorem bits_l (sp ph : Bool) (ty ve : Int) (dc sc tk : List UInt8) (le wi nu : Int) (mask : List UInt8) (pl M pre : List UInt8) (b mb : UInt8) (P : Nat) (w : World) (ht : Tab w) (wty : -9223372036854775808 ≤ ty) (wty2 : ty ≤ 9223372036854775807) (wve : 0 ≤ ve) (wve2 : ve ≤ 4294967295) (wdc : dc.length ≤ 9223372036854775807) (wsc : sc.length ≤ 9223372036854775807) (wtk : tk.length ≤ 9223372036854775807) (wle : 0 ≤ le) (wle2 : le ≤ 18446744073709551615) (wwi : -9223372036854775808 ≤ wi) (wwi2 : wi ≤ 9223372036854775807) (wnu : 0 ≤ nu) (wnu2 : nu ≤ 18446744073709551615) (EM : mayB true sp ph ty ve dc sc tk le wi nu = true) (wm : mask.length ≤ 9223372036854775807) (N5 : (((mask.length : Nat) : Int) != 5) = false) (EP : Hid (putL true sp ph ty ve dc sc tk le wi nu = pl)) (hp9 : pl.length ≤ 20000) (hp0 : 0 < pl.length) (hM9 : M.length = pl.length) (EQ : Hid (mskL pl mask = M ∧ mskE pl mask = 0)) (EN : ((pl.length : Nat) : Int) - wi = (P : Int)) (hP1 : 1 ≤ P) (hP2 : P ≤ pl.length) (hM0 : 0 < M.length) (I0 : ((⟨M.toArray⟩ : ByteArray)[0]'(by rw [sv_size]; exact hM0)) = mb) (I1 : ((⟨pl.toArray⟩ : ByteArray)[0]'(by rw [sv_size]; exact hp0)) = b) (X1 : (⟨M.toArray⟩ : ByteArray).extract 1 P = ⟨pre.toArray⟩) (X2 : (⟨pl.toArray⟩ : ByteArray).extract 1 P = ⟨pre.toArray⟩) (D : mb.toNat / 16 = b.toNat / 16) (L : decide (128 ≤ b.toNat) = true) (hw1 : 1 ≤ wi) (hw2 : wi ≤ 4) :
    Calls Tryd.prog 7 #[.agg #[.bool true, .bool sp, .bool ph, .int .i64 ty, .int .u32 ve, .string ⟨dc.toArray⟩, .string ⟨sc.toArray⟩, .string ⟨tk.toArray⟩, .int .u64 le, .int .i64 wi, .int .u64 nu], .string ⟨mask.toArray⟩] w fun e w' => e = .returned (.bool true) ∧ Below w.heap.size w w' := by
  have hlt := ht.lt
  have HT := Lib.hid ht
  clear ht
  have HX := Lib.hid (Box.made w (.bool true) (.bool sp) (.bool ph) (.int .i64 ty) (.int .u32 ve) (.string ⟨dc.toArray⟩) (.string ⟨sc.toArray⟩) (.string ⟨tk.toArray⟩) (.int .u64 le) (.int .i64 wi) (.int .u64 nu) 25)
  have CP := Lib.hid (fun w (ht : Tab w) => Put_yes true sp ph ty ve dc sc tk le wi nu w ht wty wty2 wve wve2 wdc wsc wtk wle wle2 wwi wwi2 wnu wnu2 EM)
  have CB := Lib.hid (fun w => lawBounded_any true sp ph ty ve dc sc tk le wi nu w wty wty2 wve wve2 wdc wsc wtk wle wle2 wwi wwi2 wnu wnu2)
  rw [law_of_may EM] at CB
  rw [EP.out] at CP
  have CM := Lib.hid (fun w (ht : Tab w) => Mask_any pl mask w ht (by omega))
  rw [EQ.out.1, EQ.out.2] at CM
  clear EM EP EQ
  go_enter Tryd.func7, Tryd.ntmps7
  have HT1 := Lib.hid (HT.out.below HX.out.bel hlt)
  go_wp2_with fail
  refine (CP.out _ HT1.out).mono ?_
  rintro e w1 ⟨rfl, hb⟩
  replace HX := Lib.hid (HX.out.keep hb)
  clear hb
  have HT1 := Lib.hid (HT.out.below HX.out.bel hlt)
  (try clear z0 z1 z2 z3 z4 z5 z6 z7 z8 z9 z10)
  have z0 := HX.out.cell0
  have z1 := HX.out.cell1
  have z2 := HX.out.cell2
  have z3 := HX.out.cell3
  have z4 := HX.out.cell4
  have z5 := HX.out.cell5
  have z6 := HX.out.cell6
  have z7 := HX.out.cell7
  have z8 := HX.out.cell8
  have z9 := HX.out.cell9
  have z10 := HX.out.cell10
  go_wp2_with fail
  refine (CB.out _).mono ?_
  rintro e w1 ⟨rfl, hb⟩
  replace HX := Lib.hid (HX.out.keep hb)
  clear hb
  have HT1 := Lib.hid (HT.out.below HX.out.bel hlt)
  (try clear z0 z1 z2 z3 z4 z5 z6 z7 z8 z9 z10)
  have z0 := HX.out.cell0
  have z1 := HX.out.cell1
  have z2 := HX.out.cell2
  have z3 := HX.out.cell3
  have z4 := HX.out.cell4
  have z5 := HX.out.cell5
  have z6 := HX.out.cell6
  have z7 := HX.out.cell7
  have z8 := HX.out.cell8
  have z9 := HX.out.cell9
  have z10 := HX.out.cell10
  go_wp2_with fail
  refine (shown_any _ HT1.out).mono ?_
  rintro e w1 ⟨rfl, hb⟩
  replace HX := Lib.hid (HX.out.keep hb)
  clear hb
  have HT1 := Lib.hid (HT.out.below HX.out.bel hlt)
  (try clear z0 z1 z2 z3 z4 z5 z6 z7 z8 z9 z10)
  have z0 := HX.out.cell0
  have z1 := HX.out.cell1
  have z2 := HX.out.cell2
  have z3 := HX.out.cell3
  have z4 := HX.out.cell4
  have z5 := HX.out.cell5
  have z6 := HX.out.cell6
  have z7 := HX.out.cell7
  have z8 := HX.out.cell8
  have z9 := HX.out.cell9
  have z10 := HX.out.cell10
  go_wp2_with fail
  refine (CM.out _ HT1.out).mono ?_
  rintro e w1 ⟨rfl, hb⟩
  replace HX := Lib.hid (HX.out.keep hb)
  clear hb
  have HT1 := Lib.hid (HT.out.below HX.out.bel hlt)
  (try clear z0 z1 z2 z3 z4 z5 z6 z7 z8 z9 z10)
  have z0 := HX.out.cell0
  have z1 := HX.out.cell1
  have z2 := HX.out.cell2
  have z3 := HX.out.cell3
  have z4 := HX.out.cell4
  have z5 := HX.out.cell5
  have z6 := HX.out.cell6
  have z7 := HX.out.cell7
  have z8 := HX.out.cell8
  have z9 := HX.out.cell9
  have z10 := HX.out.cell10
  have D2 : ((mb.toNat : Nat) : Int) / 16 = ((b.toNat : Nat) : Int) / 16 := by omega
  have L2 : decide ((128 : Int) ≤ ((b.toNat : Nat) : Int)) = true := by rw [← L]; exact decide_eq_decide.2 (by omega)
  have e1 : (1 : Int) ≤ (P : Nat) := by omega
  have e2 : ((P : Nat) : Int) ≤ ((pl.length : Nat) : Int) := by omega
  have e3 : ((P : Nat) : Int) ≤ ((M.length : Nat) : Int) := by omega
  clear L
  go_wp2_with fail
  refine wp_region_noPanic ?_
  refine wp_region_held_drew (S := fun w' => w'.cell? ⟨w.heap.size, 0, none⟩ = some (.bool true) ∧ Below w.heap.size w w') (by kernel_rfl) ?_ (fun hHeld => ?_)
  · exact ⟨HX.out.drew.cell0, HX.out.drew.bel⟩
  refine wpAnyH_take (i := 0) (v := ?_) rfl (by kernel_rfl) (by kernel_rfl) (by kernel_rfl) (fun _ _ _ h => h) (Or.inl ⟨by rfl, ?_⟩) (by assumption) ?_
  rotate_left
  · (intro w hSw; (try (have z0 := hSw.1)); clear hSw; go_simp; (try with_reducible rfl))
  try simp only [Act.put, List.getElem_toArray, List.getElem_cons_zero, List.getElem_cons_succ, List.setIfInBounds_toArray, List.set_cons_zero, List.set_cons_succ]
  refine wpAnyH_take (i := 1) (v := ?_) rfl (by kernel_rfl) (by kernel_rfl) (by kernel_rfl) (fun _ _ _ h => h) (Or.inl ⟨by rfl, ?_⟩) (by assumption) ?_
  rotate_left
  · (intro w hSw; (try (have z0 := hSw.1)); clear hSw; go_simp; (try with_reducible rfl))
  try simp only [Act.put, List.getElem_toArray, List.getElem_cons_zero, List.getElem_cons_succ, List.setIfInBounds_toArray, List.set_cons_zero, List.set_cons_succ]
  refine wpAnyH_take (i := 2) (v := ?_) rfl (by kernel_rfl) (by kernel_rfl) (by kernel_rfl) (fun _ _ _ h => h) (Or.inl ⟨by rfl, ?_⟩) (by assumption) ?_
  rotate_left
  · (intro w hSw; (try (have z0 := hSw.1)); clear hSw; go_simp; (try with_reducible rfl))
  try simp only [Act.put, List.getElem_toArray, List.getElem_cons_zero, List.getElem_cons_succ, List.setIfInBounds_toArray, List.set_cons_zero, List.set_cons_succ]
  refine wpAnyH_take (i := 3) (v := ?_) rfl (by kernel_rfl) (by kernel_rfl) (by kernel_rfl) (fun _ _ _ h => h) (Or.inl ⟨by rfl, ?_⟩) (by assumption) ?_
  rotate_left
  · (intro w hSw; (try (have z0 := hSw.1)); clear hSw; go_simp; (try with_reducible rfl))
  try simp only [Act.put, List.getElem_toArray, List.getElem_cons_zero, List.getElem_cons_succ, List.setIfInBounds_toArray, List.set_cons_zero, List.set_cons_succ]
  refine wpAnyH_take (i := 4) (v := ?_) rfl (by kernel_rfl) (by kernel_rfl) (by kernel_rfl) (fun _ _ _ h => h) (Or.inl ⟨by rfl, ?_⟩) (by assumption) ?_
  rotate_left
  · (intro w hSw; (try (have z0 := hSw.1)); clear hSw; go_simp; (try with_reducible rfl))
  try simp only [Act.put, List.getElem_toArray, List.getElem_cons_zero, List.getElem_cons_succ, List.setIfInBounds_toArray, List.set_cons_zero, List.set_cons_succ]
  refine wpAnyH_take (i := 5) (v := ?_) rfl (by kernel_rfl) (by kernel_rfl) (by kernel_rfl) (fun _ _ _ h => h) (Or.inl ⟨by rfl, ?_⟩) (by assumption) ?_
  rotate_left
  · (intro w hSw; (try (have z0 := hSw.1)); clear hSw; go_simp; (try with_reducible rfl))
  try simp only [Act.put, List.getElem_toArray, List.getElem_cons_zero, List.getElem_cons_succ, List.setIfInBounds_toArray, List.set_cons_zero, List.set_cons_succ]
  refine wpAnyH_take (i := 6) (v := ?_) rfl (by kernel_rfl) (by kernel_rfl) (by kernel_rfl) (fun _ _ _ h => h) (Or.inl ⟨by rfl, ?_⟩) (by assumption) ?_
  rotate_left
  · (intro w hSw; (try (have z0 := hSw.1)); clear hSw; go_simp; (try with_reducible rfl))
  try simp only [Act.put, List.getElem_toArray, List.getElem_cons_zero, List.getElem_cons_succ, List.setIfInBounds_toArray, List.set_cons_zero, List.set_cons_succ]
  refine wpAnyH_take (i := 7) (v := ?_) rfl (by kernel_rfl) (by kernel_rfl) (by kernel_rfl) (fun _ _ _ h => h) (Or.inl ⟨by rfl, ?_⟩) (by assumption) ?_
  rotate_left
  · (intro w hSw; (try (have z0 := hSw.1)); clear hSw; go_simp; (try with_reducible rfl))
  try simp only [Act.put, List.getElem_toArray, List.getElem_cons_zero, List.getElem_cons_succ, List.setIfInBounds_toArray, List.set_cons_zero, List.set_cons_succ]
  refine wpAnyH_take (i := 8) (v := ?_) rfl (by kernel_rfl) (by kernel_rfl) (by kernel_rfl) (fun _ _ _ h => h) (Or.inl ⟨by rfl, ?_⟩) (by assumption) ?_
  rotate_left
  · (intro w hSw; (try (have z0 := hSw.1)); clear hSw; go_simp; (try with_reducible rfl))
  try simp only [Act.put, List.getElem_toArray, List.getElem_cons_zero, List.getElem_cons_succ, List.setIfInBounds_toArray, List.set_cons_zero, List.set_cons_succ]
  refine wpAnyH_take (i := 9) (v := ?_) rfl (by kernel_rfl) (by kernel_rfl) (by kernel_rfl) (fun _ _ _ h => h) (Or.inl ⟨by rfl, ?_⟩) (by assumption) ?_
  rotate_left
  · (intro w hSw; (try (have z0 := hSw.1)); clear hSw; go_simp; (try with_reducible rfl))
  try simp only [Act.put, List.getElem_toArray, List.getElem_cons_zero, List.getElem_cons_succ, List.setIfInBounds_toArray, List.set_cons_zero, List.set_cons_succ]
  refine wpAnyH_take (i := 10) (v := ?_) rfl (by kernel_rfl) (by kernel_rfl) (by kernel_rfl) (fun _ _ _ h => h) (Or.inl ⟨by rfl, ?_⟩) (by assumption) ?_
  rotate_left
  · (intro w hSw; (try (have z0 := hSw.1)); clear hSw; go_simp; (try with_reducible rfl))
  try simp only [Act.put, List.getElem_toArray, List.getElem_cons_zero, List.getElem_cons_succ, List.setIfInBounds_toArray, List.set_cons_zero, List.set_cons_succ]
  refine wpAnyH_take (i := 11) (v := ?_) rfl (by kernel_rfl) (by kernel_rfl) (by kernel_rfl) (fun _ _ _ h => h) (Or.inl ⟨by rfl, ?_⟩) (by assumption) ?_
  rotate_left
  · (intro w hSw; (try (have z0 := hSw.1)); clear hSw; go_simp; (try with_reducible rfl))
  try simp only [Act.put, List.getElem_toArray, List.getElem_cons_zero, List.getElem_cons_succ, List.setIfInBounds_toArray, List.set_cons_zero, List.set_cons_succ]
  refine wpAnyH_take (i := 12) (v := ?_) rfl (by kernel_rfl) (by kernel_rfl) (by kernel_rfl) (fun _ _ _ h => h) (Or.inl ⟨by rfl, ?_⟩) (by assumption) ?_
  rotate_left
  · (intro w hSw; (try (have z0 := hSw.1)); clear hSw; go_simp; (try with_reducible rfl))
  try simp only [Act.put, List.getElem_toArray, List.getElem_cons_zero, List.getElem_cons_succ, List.setIfInBounds_toArray, List.set_cons_zero, List.set_cons_succ]
  refine wpAnyH_take (i := 13) (v := ?_) rfl (by kernel_rfl) (by kernel_rfl) (by kernel_rfl) (fun _ _ _ h => h) (Or.inl ⟨by rfl, ?_⟩) (by assumption) ?_
  rotate_left
  · (intro w hSw; (try (have z0 := hSw.1)); clear hSw; go_simp; (try with_reducible rfl))
  try simp only [Act.put, List.getElem_toArray, List.getElem_cons_zero, List.getElem_cons_succ, List.setIfInBounds_toArray, List.set_cons_zero, List.set_cons_succ]
  refine wpAnyH_take (i := 14) (v := ?_) rfl (by kernel_rfl) (by kernel_rfl) (by kernel_rfl) (fun _ _ _ h => h) (Or.inl ⟨by rfl, ?_⟩) (by assumption) ?_
  rotate_left
  · (intro w hSw; (try (have z0 := hSw.1)); clear hSw; go_simp; (try with_reducible rfl))
  try simp only [Act.put, List.getElem_toArray, List.getElem_cons_zero, List.getElem_cons_succ, List.setIfInBounds_toArray, List.set_cons_zero, List.set_cons_succ]
  refine wpAnyH_take (i := 15) (v := ?_) rfl (by kernel_rfl) (by kernel_rfl) (by kernel_rfl) (fun _ _ _ h => h) (Or.inl ⟨by rfl, ?_⟩) (by assumption) ?_
  rotate_left
  · (intro w hSw; (try (have z0 := hSw.1)); clear hSw; go_simp; (try with_reducible rfl))
  try simp only [Act.put, List.getElem_toArray, List.getElem_cons_zero, List.getElem_cons_succ, List.setIfInBounds_toArray, List.set_cons_zero, List.set_cons_succ]
  refine wpAnyH_take (i := 16) (v := ?_) rfl (by kernel_rfl) (by kernel_rfl) (by kernel_rfl) (fun _ _ _ h => h) (Or.inl ⟨by rfl, ?_⟩) (by assumption) ?_
  rotate_left
  · (intro w hSw; (try (have z0 := hSw.1)); clear hSw; go_simp; (try with_reducible rfl))
  try simp only [Act.put, List.getElem_toArray, List.getElem_cons_zero, List.getElem_cons_succ, List.setIfInBounds_toArray, List.set_cons_zero, List.set_cons_succ]
  refine wpAnyH_take (i := 17) (v := ?_) rfl (by kernel_rfl) (by kernel_rfl) (by kernel_rfl) (fun _ _ _ h => h) (Or.inl ⟨by rfl, ?_⟩) (by assumption) ?_
  rotate_left
  · (intro w hSw; (try (have z0 := hSw.1)); clear hSw; go_simp; (try with_reducible rfl))
  try simp only [Act.put, List.getElem_toArray, List.getElem_cons_zero, List.getElem_cons_succ, List.setIfInBounds_toArray, List.set_cons_zero, List.set_cons_succ]
  refine wpAnyH_take (i := 18) (v := ?_) rfl (by kernel_rfl) (by kernel_rfl) (by kernel_rfl) (fun _ _ _ h => h) (Or.inl ⟨by rfl, ?_⟩) (by assumption) ?_
  rotate_left
  · (intro w hSw; (try (have z0 := hSw.1)); clear hSw; go_simp; (try with_reducible rfl))
  try simp only [Act.put, List.getElem_toArray, List.getElem_cons_zero, List.getElem_cons_succ, List.setIfInBounds_toArray, List.set_cons_zero, List.set_cons_succ]
  refine wpAnyH_take (i := 19) (v := ?_) rfl (by kernel_rfl) (by kernel_rfl) (by kernel_rfl) (fun _ _ _ h => h) (Or.inl ⟨by rfl, ?_⟩) (by assumption) ?_
  rotate_left
  · (intro w hSw; (try (have z0 := hSw.1)); clear hSw; go_simp; (try with_reducible rfl))
  try simp only [Act.put, List.getElem_toArray, List.getElem_cons_zero, List.getElem_cons_succ, List.setIfInBounds_toArray, List.set_cons_zero, List.set_cons_succ]
  refine wpAnyH_take (i := 20) (v := ?_) rfl (by kernel_rfl) (by kernel_rfl) (by kernel_rfl) (fun _ _ _ h => h) (Or.inl ⟨by rfl, ?_⟩) (by assumption) ?_
  rotate_left
  · (intro w hSw; (try (have z0 := hSw.1)); clear hSw; go_simp; (try with_reducible rfl))
  try simp only [Act.put, List.getElem_toArray, List.getElem_cons_zero, List.getElem_cons_succ, List.setIfInBounds_toArray, List.set_cons_zero, List.set_cons_succ]
  refine wpAnyH_take (i := 21) (v := ?_) rfl (by kernel_rfl) (by kernel_rfl) (by kernel_rfl) (fun _ _ _ h => h) (Or.inl ⟨by rfl, ?_⟩) (by assumption) ?_
  rotate_left
  · (intro w hSw; (try (have z0 := hSw.1)); clear hSw; go_simp; (try with_reducible rfl))
  try simp only [Act.put, List.getElem_toArray, List.getElem_cons_zero, List.getElem_cons_succ, List.setIfInBounds_toArray, List.set_cons_zero, List.set_cons_succ]
  refine wpAnyH_take (i := 22) (v := ?_) rfl (by kernel_rfl) (by kernel_rfl) (by kernel_rfl) (fun _ _ _ h => h) (Or.inl ⟨by rfl, ?_⟩) (by assumption) ?_
  rotate_left
  · (intro w hSw; (try (have z0 := hSw.1)); clear hSw; go_simp; (try with_reducible rfl))
  try simp only [Act.put, List.getElem_toArray, List.getElem_cons_zero, List.getElem_cons_succ, List.setIfInBounds_toArray, List.set_cons_zero, List.set_cons_succ]
  refine wpAnyH_take (i := 23) (v := ?_) rfl (by kernel_rfl) (by kernel_rfl) (by kernel_rfl) (fun _ _ _ h => h) (Or.inl ⟨by rfl, ?_⟩) (by assumption) ?_
  rotate_left
  · (intro w hSw; (try (have z0 := hSw.1)); clear hSw; go_simp; (try with_reducible rfl))
  try simp only [Act.put, List.getElem_toArray, List.getElem_cons_zero, List.getElem_cons_succ, List.setIfInBounds_toArray, List.set_cons_zero, List.set_cons_succ]
  refine wpAnyH_take (i := 24) (v := ?_) rfl (by kernel_rfl) (by kernel_rfl) (by kernel_rfl) (fun _ _ _ h => h) (Or.inl ⟨by rfl, ?_⟩) (by assumption) ?_
  rotate_left
  · (intro w hSw; (try (have z0 := hSw.1)); clear hSw; go_simp; (try with_reducible rfl))
  try simp only [Act.put, List.getElem_toArray, List.getElem_cons_zero, List.getElem_cons_succ, List.setIfInBounds_toArray, List.set_cons_zero, List.set_cons_succ]
  refine wpAnyH_take (i := 25) (v := ?_) rfl (by kernel_rfl) (by kernel_rfl) (by kernel_rfl) (fun _ _ _ h => h) (Or.inl ⟨by rfl, ?_⟩) (by assumption) ?_
  rotate_left
  · (intro w hSw; (try (have z0 := hSw.1)); clear hSw; go_simp; (try with_reducible rfl))
  try simp only [Act.put, List.getElem_toArray, List.getElem_cons_zero, List.getElem_cons_succ, List.setIfInBounds_toArray, List.set_cons_zero, List.set_cons_succ]
  refine wpAnyH_take (i := 26) (v := ?_) rfl (by kernel_rfl) (by kernel_rfl) (by kernel_rfl) (fun _ _ _ h => h) (Or.inl ⟨by rfl, ?_⟩) (by assumption) ?_
  rotate_left
  · (intro w hSw; (try (have z0 := hSw.1)); clear hSw; go_simp; (try with_reducible rfl))
  try simp only [Act.put, List.getElem_toArray, List.getElem_cons_zero, List.getElem_cons_succ, List.setIfInBounds_toArray, List.set_cons_zero, List.set_cons_succ]
  refine wpAnyH_take (i := 27) (v := ?_) rfl (by kernel_rfl) (by kernel_rfl) (by kernel_rfl) (fun _ _ _ h => h) (Or.inl ⟨by rfl, ?_⟩) (by assumption) ?_
  rotate_left
  · (intro w hSw; (try (have z0 := hSw.1)); clear hSw; go_simp; (try with_reducible rfl))
  try simp only [Act.put, List.getElem_toArray, List.getElem_cons_zero, List.getElem_cons_succ, List.setIfInBounds_toArray, List.set_cons_zero, List.set_cons_succ]
  refine wpAnyH_take (i := 28) (v := ?_) rfl (by kernel_rfl) (by kernel_rfl) (by kernel_rfl) (fun _ _ _ h => h) (Or.inl ⟨by rfl, ?_⟩) (by assumption) ?_
  rotate_left
  · (intro w hSw; (try (have z0 := hSw.1)); clear hSw; go_simp; (try with_reducible rfl))
  try simp only [Act.put, List.getElem_toArray, List.getElem_cons_zero, List.getElem_cons_succ, List.setIfInBounds_toArray, List.set_cons_zero, List.set_cons_succ]
  refine wpAnyH_take (i := 29) (v := ?_) rfl (by kernel_rfl) (by kernel_rfl) (by kernel_rfl) (fun _ _ _ h => h) (Or.inl ⟨by rfl, ?_⟩) (by assumption) ?_
  rotate_left
  · (intro w hSw; (try (have z0 := hSw.1)); clear hSw; go_simp; (try with_reducible rfl))
  try simp only [Act.put, List.getElem_toArray, List.getElem_cons_zero, List.getElem_cons_succ, List.setIfInBounds_toArray, List.set_cons_zero, List.set_cons_succ]
  refine wpAnyH_take (i := 30) (v := ?_) rfl (by kernel_rfl) (by kernel_rfl) (by kernel_rfl) (fun _ _ _ h => h) (Or.inl ⟨by rfl, ?_⟩) (by assumption) ?_
  rotate_left
  · (intro w hSw; (try (have z0 := hSw.1)); clear hSw; go_simp; (try with_reducible rfl))
  try simp only [Act.put, List.getElem_toArray, List.getElem_cons_zero, List.getElem_cons_succ, List.setIfInBounds_toArray, List.set_cons_zero, List.set_cons_succ]
  refine wpAnyH_take (i := 31) (v := ?_) rfl (by kernel_rfl) (by kernel_rfl) (by kernel_rfl) (fun _ _ _ h => h) (Or.inl ⟨by rfl, ?_⟩) (by assumption) ?_
  rotate_left
  · (intro w hSw; (try (have z0 := hSw.1)); clear hSw; go_simp; (try with_reducible rfl))
  try simp only [Act.put, List.getElem_toArray, List.getElem_cons_zero, List.getElem_cons_succ, List.setIfInBounds_toArray, List.set_cons_zero, List.set_cons_succ]
  refine wpAnyH_take (i := 32) (v := ?_) rfl (by kernel_rfl) (by kernel_rfl) (by kernel_rfl) (fun _ _ _ h => h) (Or.inl ⟨by rfl, ?_⟩) (by assumption) ?_
  rotate_left
  · (intro w hSw; (try (have z0 := hSw.1)); clear hSw; go_simp; (try with_reducible rfl))
  try simp only [Act.put, List.getElem_toArray, List.getElem_cons_zero, List.getElem_cons_succ, List.setIfInBounds_toArray, List.set_cons_zero, List.set_cons_succ]
  refine wpAnyH_take (i := 33) (v := ?_) rfl (by kernel_rfl) (by kernel_rfl) (by kernel_rfl) (fun _ _ _ h => h) (Or.inl ⟨by rfl, ?_⟩) (by assumption) ?_
  rotate_left
  · (intro w hSw; (try (have z0 := hSw.1)); clear hSw; go_simp; (try with_reducible rfl))
  try simp only [Act.put, List.getElem_toArray, List.getElem_cons_zero, List.getElem_cons_succ, List.setIfInBounds_toArray, List.set_cons_zero, List.set_cons_succ]
  refine wpAnyH_take (i := 34) (v := ?_) rfl (by kernel_rfl) (by kernel_rfl) (by kernel_rfl) (fun _ _ _ h => h) (Or.inl ⟨by rfl, ?_⟩) (by assumption) ?_
  rotate_left
  · (intro w hSw; (try (have z0 := hSw.1)); clear hSw; go_simp; (try with_reducible rfl))
  try simp only [Act.put, List.getElem_toArray, List.getElem_cons_zero, List.getElem_cons_succ, List.setIfInBounds_toArray, List.set_cons_zero, List.set_cons_succ]
  refine wpAnyH_take (i := 35) (v := ?_) rfl (by kernel_rfl) (by kernel_rfl) (by kernel_rfl) (fun _ _ _ h => h) (Or.inl ⟨by rfl, ?_⟩) (by assumption) ?_
  rotate_left
  · (intro w hSw; (try (have z0 := hSw.1)); clear hSw; go_simp; (try with_reducible rfl))
  try simp only [Act.put, List.getElem_toArray, List.getElem_cons_zero, List.getElem_cons_succ, List.setIfInBounds_toArray, List.set_cons_zero, List.set_cons_succ]
  refine wpAnyH_take (i := 36) (v := ?_) rfl (by kernel_rfl) (by kernel_rfl) (by kernel_rfl) (fun _ _ _ h => h) (Or.inl ⟨by rfl, ?_⟩) (by assumption) ?_
  rotate_left
  · (intro w hSw; (try (have z0 := hSw.1)); clear hSw; go_simp; (try with_reducible rfl))
  try simp only [Act.put, List.getElem_toArray, List.getElem_cons_zero, List.getElem_cons_succ, List.setIfInBounds_toArray, List.set_cons_zero, List.set_cons_succ]
  refine wpAnyH_take (i := 37) (v := ?_) rfl (by kernel_rfl) (by kernel_rfl) (by kernel_rfl) (fun _ _ _ h => h) (Or.inl ⟨by rfl, ?_⟩) (by assumption) ?_
  rotate_left
  · (intro w hSw; (try (have z0 := hSw.1)); clear hSw; go_simp; (try with_reducible rfl))
  try simp only [Act.put, List.getElem_toArray, List.getElem_cons_zero, List.getElem_cons_succ, List.setIfInBounds_toArray, List.set_cons_zero, List.set_cons_succ]
  refine wpAnyH_done (by kernel_rfl) (NoPanic.normal ?_) _
  have HB := Lib.hid hHeld.2
  clear hHeld HX
  go_wp2
  go_ret
  exact ⟨rfl, HB.out⟩
set_option maxHeartbeats 4000000 in
theorem bits_s (sp ph : Bool) (ty ve : Int) (dc sc tk : List UInt8) (le wi nu : Int) (mask : List UInt8) (pl M pre : List UInt8) (b mb : UInt8) (P : Nat) (w : World) (ht : Tab w) (wty : -9223372036854775808 ≤ ty) (wty2 : ty ≤ 9223372036854775807) (wve : 0 ≤ ve) (wve2 : ve ≤ 4294967295) (wdc : dc.length ≤ 9223372036854775807) (wsc : sc.length ≤ 9223372036854775807) (wtk : tk.length ≤ 9223372036854775807) (wle : 0 ≤ le) (wle2 : le ≤ 18446744073709551615) (wwi : -9223372036854775808 ≤ wi) (wwi2 : wi ≤ 9223372036854775807) (wnu : 0 ≤ nu) (wnu2 : nu ≤ 18446744073709551615) (EM : mayB false sp ph ty ve dc sc tk le wi nu = true) (wm : mask.length ≤ 9223372036854775807) (N5 : (((mask.length : Nat) : Int) != 5) = false) (EP : Hid (putL false sp ph ty ve dc sc tk le wi nu = pl)) (hp9 : pl.length ≤ 20000) (hp0 : 0 < pl.length) (hM9 : M.length = pl.length) (EQ : Hid (mskL pl mask = M ∧ mskE pl mask = 0)) (EN : ((pl.length : Nat) : Int) - wi = (P : Int)) (hP1 : 1 ≤ P) (hP2 : P ≤ pl.length) (hM0 : 0 < M.length) (I0 : ((⟨M.toArray⟩ : ByteArray)[0]'(by rw [sv_size]; exact hM0)) = mb) (I1 : ((⟨pl.toArray⟩ : ByteArray)[0]'(by rw [sv_size]; exact hp0)) = b) (X1 : (⟨M.toArray⟩ : ByteArray).extract 1 P = ⟨pre.toArray⟩) (X2 : (⟨pl.toArray⟩ : ByteArray).extract 1 P = ⟨pre.toArray⟩) (D : mb.toNat / 32 = b.toNat / 32) (L : decide (128 ≤ b.toNat) = false) (hw1 : 1 ≤ wi) (hw2 : wi ≤ 4) :
    Calls Tryd.prog 7 #[.agg #[.bool false, .bool sp, .bool ph, .int .i64 ty, .int .u32 ve, .string ⟨dc.toArray⟩, .string ⟨sc.toArray⟩, .string ⟨tk.toArray⟩, .int .u64 le, .int .i64 wi, .int .u64 nu], .string ⟨mask.toArray⟩] w fun e w' => e = .returned (.bool true) ∧ Below w.heap.size w w' := by
  have hlt := ht.lt
  have HT := Lib.hid ht
  clear ht
  have HX := Lib.hid (Box.made w (.bool false) (.bool sp) (.bool ph) (.int .i64 ty) (.int .u32 ve) (.string ⟨dc.toArray⟩) (.string ⟨sc.toArray⟩) (.string ⟨tk.toArray⟩) (.int .u64 le) (.int .i64 wi) (.int .u64 nu) 25)
  have CP := Lib.hid (fun w (ht : Tab w) => Put_yes false sp ph ty ve dc sc tk le wi nu w ht wty wty2 wve wve2 wdc wsc wtk wle wle2 wwi wwi2 wnu wnu2 EM)
  have CB := Lib.hid (fun w => lawBounded_any false sp ph ty ve dc sc tk le wi nu w wty wty2 wve wve2 wdc wsc wtk wle wle2 wwi wwi2 wnu wnu2)
  rw [law_of_may EM] at CB
  rw [EP.out] at CP
  have CM := Lib.hid (fun w (ht : Tab w) => Mask_any pl mask w ht (by omega))
  rw [EQ.out.1, EQ.out.2] at CM
  clear EM EP EQ
  go_enter Tryd.func7, Tryd.ntmps7
  have HT1 := Lib.hid (HT.out.below HX.out.bel hlt)
  go_wp2_with fail
  refine (CP.out _ HT1.out).mono ?_
  rintro e w1 ⟨rfl, hb⟩
  replace HX := Lib.hid (HX.out.keep hb)
  clear hb
  have HT1 := Lib.hid (HT.out.below HX.out.bel hlt)
  (try clear z0 z1 z2 z3 z4 z5 z6 z7 z8 z9 z10)
  have z0 := HX.out.cell0
  have z1 := HX.out.cell1
  have z2 := HX.out.cell2
  have z3 := HX.out.cell3
  have z4 := HX.out.cell4
  have z5 := HX.out.cell5
  have z6 := HX.out.cell6
  have z7 := HX.out.cell7
  have z8 := HX.out.cell8
  have z9 := HX.out.cell9
  have z10 := HX.out.cell10
  go_wp2_with fail
  refine (CB.out _).mono ?_
  rintro e w1 ⟨rfl, hb⟩
  replace HX := Lib.hid (HX.out.keep hb)
  clear hb
  have HT1 := Lib.hid (HT.out.below HX.out.bel hlt)
  (try clear z0 z1 z2 z3 z4 z5 z6 z7 z8 z9 z10)
  have z0 := HX.out.cell0
  have z1 := HX.out.cell1
  have z2 := HX.out.cell2
  have z3 := HX.out.cell3
  have z4 := HX.out.cell4
  have z5 := HX.out.cell5
  have z6 := HX.out.cell6
  have z7 := HX.out.cell7
  have z8 := HX.out.cell8
  have z9 := HX.out.cell9
  have z10 := HX.out.cell10
  go_wp2_with fail
  refine (shown_any _ HT1.out).mono ?_
  rintro e w1 ⟨rfl, hb⟩
  replace HX := Lib.hid (HX.out.keep hb)
  clear hb
  have HT1 := Lib.hid (HT.out.below HX.out.bel hlt)
  (try clear z0 z1 z2 z3 z4 z5 z6 z7 z8 z9 z10)
  have z0 := HX.out.cell0
  have z1 := HX.out.cell1
  have z2 := HX.out.cell2
  have z3 := HX.out.cell3
  have z4 := HX.out.cell4
  have z5 := HX.out.cell5
  have z6 := HX.out.cell6
  have z7 := HX.out.cell7
  have z8 := HX.out.cell8
  have z9 := HX.out.cell9
  have z10 := HX.out.cell10
  go_wp2_with fail
  refine (CM.out _ HT1.out).mono ?_
  rintro e w1 ⟨rfl, hb⟩
  replace HX := Lib.hid (HX.out.keep hb)
  clear hb
  have HT1 := Lib.hid (HT.out.below HX.out.bel hlt)
  (try clear z0 z1 z2 z3 z4 z5 z6 z7 z8 z9 z10)
  have z0 := HX.out.cell0
  have z1 := HX.out.cell1
  have z2 := HX.out.cell2
  have z3 := HX.out.cell3
  have z4 := HX.out.cell4
  have z5 := HX.out.cell5
  have z6 := HX.out.cell6
  have z7 := HX.out.cell7
  have z8 := HX.out.cell8
  have z9 := HX.out.cell9
  have z10 := HX.out.cell10
  have D2 : ((mb.toNat : Nat) : Int) / 32 = ((b.toNat : Nat) : Int) / 32 := by omega
  have L2 : decide ((128 : Int) ≤ ((b.toNat : Nat) : Int)) = false := by rw [← L]; exact decide_eq_decide.2 (by omega)
  have e1 : (1 : Int) ≤ (P : Nat) := by omega
  have e2 : ((P : Nat) : Int) ≤ ((pl.length : Nat) : Int) := by omega
  have e3 : ((P : Nat) : Int) ≤ ((M.length : Nat) : Int) := by omega
  clear L
  go_wp2_with fail
  refine wp_region_noPanic ?_
  refine wp_region_held_drew (S := fun w' => w'.cell? ⟨w.heap.size, 0, none⟩ = some (.bool false) ∧ Below w.heap.size w w') (by kernel_rfl) ?_ (fun hHeld => ?_)
  · exact ⟨HX.out.drew.cell0, HX.out.drew.bel⟩
  refine wpAnyH_take (i := 0) (v := ?_) rfl (by kernel_rfl) (by kernel_rfl) (by kernel_rfl) (fun _ _ _ h => h) (Or.inl ⟨by rfl, ?_⟩) (by assumption) ?_
  rotate_left
  · (intro w hSw; (try (have z0 := hSw.1)); clear hSw; go_simp; (try with_reducible rfl))
  try simp only [Act.put, List.getElem_toArray, List.getElem_cons_zero, List.getElem_cons_succ, List.setIfInBounds_toArray, List.set_cons_zero, List.set_cons_succ]
  refine wpAnyH_take (i := 1) (v := ?_) rfl (by kernel_rfl) (by kernel_rfl) (by kernel_rfl) (fun _ _ _ h => h) (Or.inl ⟨by rfl, ?_⟩) (by assumption) ?_
  rotate_left
  · (intro w hSw; (try (have z0 := hSw.1)); clear hSw; go_simp; (try with_reducible rfl))
  try simp only [Act.put, List.getElem_toArray, List.getElem_cons_zero, List.getElem_cons_succ, List.setIfInBounds_toArray, List.set_cons_zero, List.set_cons_succ]
  refine wpAnyH_take (i := 2) (v := ?_) rfl (by kernel_rfl) (by kernel_rfl) (by kernel_rfl) (fun _ _ _ h => h) (Or.inl ⟨by rfl, ?_⟩) (by assumption) ?_
  rotate_left
  · (intro w hSw; (try (have z0 := hSw.1)); clear hSw; go_simp; (try with_reducible rfl))
  try simp only [Act.put, List.getElem_toArray, List.getElem_cons_zero, List.getElem_cons_succ, List.setIfInBounds_toArray, List.set_cons_zero, List.set_cons_succ]
  refine wpAnyH_take (i := 3) (v := ?_) rfl (by kernel_rfl) (by kernel_rfl) (by kernel_rfl) (fun _ _ _ h => h) (Or.inl ⟨by rfl, ?_⟩) (by assumption) ?_
  rotate_left
  · (intro w hSw; (try (have z0 := hSw.1)); clear hSw; go_simp; (try with_reducible rfl))
  try simp only [Act.put, List.getElem_toArray, List.getElem_cons_zero, List.getElem_cons_succ, List.setIfInBounds_toArray, List.set_cons_zero, List.set_cons_succ]
  refine wpAnyH_take (i := 4) (v := ?_) rfl (by kernel_rfl) (by kernel_rfl) (by kernel_rfl) (fun _ _ _ h => h) (Or.inl ⟨by rfl, ?_⟩) (by assumption) ?_
  rotate_left
  · (intro w hSw; (try (have z0 := hSw.1)); clear hSw; go_simp; (try with_reducible rfl))
  try simp only [Act.put, List.getElem_toArray, List.getElem_cons_zero, List.getElem_cons_succ, List.setIfInBounds_toArray, List.set_cons_zero, List.set_cons_succ]
  refine wpAnyH_take (i := 5) (v := ?_) rfl (by kernel_rfl) (by kernel_rfl) (by kernel_rfl) (fun _ _ _ h => h) (Or.inl ⟨by rfl, ?_⟩) (by assumption) ?_
  rotate_left
  · (intro w hSw; (try (have z0 := hSw.1)); clear hSw; go_simp; (try with_reducible rfl))
  try simp only [Act.put, List.getElem_toArray, List.getElem_cons_zero, List.getElem_cons_succ, List.setIfInBounds_toArray, List.set_cons_zero, List.set_cons_succ]
  refine wpAnyH_take (i := 6) (v := ?_) rfl (by kernel_rfl) (by kernel_rfl) (by kernel_rfl) (fun _ _ _ h => h) (Or.inl ⟨by rfl, ?_⟩) (by assumption) ?_
  rotate_left
  · (intro w hSw; (try (have z0 := hSw.1)); clear hSw; go_simp; (try with_reducible rfl))
  try simp only [Act.put, List.getElem_toArray, List.getElem_cons_zero, List.getElem_cons_succ, List.setIfInBounds_toArray, List.set_cons_zero, List.set_cons_succ]
  refine wpAnyH_take (i := 7) (v := ?_) rfl (by kernel_rfl) (by kernel_rfl) (by kernel_rfl) (fun _ _ _ h => h) (Or.inl ⟨by rfl, ?_⟩) (by assumption) ?_
  rotate_left
  · (intro w hSw; (try (have z0 := hSw.1)); clear hSw; go_simp; (try with_reducible rfl))
  try simp only [Act.put, List.getElem_toArray, List.getElem_cons_zero, List.getElem_cons_succ, List.setIfInBounds_toArray, List.set_cons_zero, List.set_cons_succ]
  refine wpAnyH_take (i := 8) (v := ?_) rfl (by kernel_rfl) (by kernel_rfl) (by kernel_rfl) (fun _ _ _ h => h) (Or.inl ⟨by rfl, ?_⟩) (by assumption) ?_
  rotate_left
  · (intro w hSw; (try (have z0 := hSw.1)); clear hSw; go_simp; (try with_reducible rfl))
  try simp only [Act.put, List.getElem_toArray, List.getElem_cons_zero, List.getElem_cons_succ, List.setIfInBounds_toArray, List.set_cons_zero, List.set_cons_succ]
  refine wpAnyH_take (i := 9) (v := ?_) rfl (by kernel_rfl) (by kernel_rfl) (by kernel_rfl) (fun _ _ _ h => h) (Or.inl ⟨by rfl, ?_⟩) (by assumption) ?_
  rotate_left
  · (intro w hSw; (try (have z0 := hSw.1)); clear hSw; go_simp; (try with_reducible rfl))
  try simp only [Act.put, List.getElem_toArray, List.getElem_cons_zero, List.getElem_cons_succ, List.setIfInBounds_toArray, List.set_cons_zero, List.set_cons_succ]
  refine wpAnyH_take (i := 10) (v := ?_) rfl (by kernel_rfl) (by kernel_rfl) (by kernel_rfl) (fun _ _ _ h => h) (Or.inl ⟨by rfl, ?_⟩) (by assumption) ?_
  rotate_left
  · (intro w hSw; (try (have z0 := hSw.1)); clear hSw; go_simp; (try with_reducible rfl))
  try simp only [Act.put, List.getElem_toArray, List.getElem_cons_zero, List.getElem_cons_succ, List.setIfInBounds_toArray, List.set_cons_zero, List.set_cons_succ]
  refine wpAnyH_take (i := 11) (v := ?_) rfl (by kernel_rfl) (by kernel_rfl) (by kernel_rfl) (fun _ _ _ h => h) (Or.inl ⟨by rfl, ?_⟩) (by assumption) ?_
  rotate_left
  · (intro w hSw; (try (have z0 := hSw.1)); clear hSw; go_simp; (try with_reducible rfl))
  try simp only [Act.put, List.getElem_toArray, List.getElem_cons_zero, List.getElem_cons_succ, List.setIfInBounds_toArray, List.set_cons_zero, List.set_cons_succ]
  refine wpAnyH_take (i := 12) (v := ?_) rfl (by kernel_rfl) (by kernel_rfl) (by kernel_rfl) (fun _ _ _ h => h) (Or.inl ⟨by rfl, ?_⟩) (by assumption) ?_
  rotate_left
  · (intro w hSw; (try (have z0 := hSw.1)); clear hSw; go_simp; (try with_reducible rfl))
  try simp only [Act.put, List.getElem_toArray, List.getElem_cons_zero, List.getElem_cons_succ, List.setIfInBounds_toArray, List.set_cons_zero, List.set_cons_succ]
  refine wpAnyH_take (i := 13) (v := ?_) rfl (by kernel_rfl) (by kernel_rfl) (by kernel_rfl) (fun _ _ _ h => h) (Or.inl ⟨by rfl, ?_⟩) (by assumption) ?_
  rotate_left
  · (intro w hSw; (try (have z0 := hSw.1)); clear hSw; go_simp; (try with_reducible rfl))
  try simp only [Act.put, List.getElem_toArray, List.getElem_cons_zero, List.getElem_cons_succ, List.setIfInBounds_toArray, List.set_cons_zero, List.set_cons_succ]
  refine wpAnyH_take (i := 14) (v := ?_) rfl (by kernel_rfl) (by kernel_rfl) (by kernel_rfl) (fun _ _ _ h => h) (Or.inl ⟨by rfl, ?_⟩) (by assumption) ?_
  rotate_left
  · (intro w hSw; (try (have z0 := hSw.1)); clear hSw; go_simp; (try with_reducible rfl))
  try simp only [Act.put, List.getElem_toArray, List.getElem_cons_zero, List.getElem_cons_succ, List.setIfInBounds_toArray, List.set_cons_zero, List.set_cons_succ]
  refine wpAnyH_take (i := 15) (v := ?_) rfl (by kernel_rfl) (by kernel_rfl) (by kernel_rfl) (fun _ _ _ h => h) (Or.inl ⟨by rfl, ?_⟩) (by assumption) ?_
  rotate_left
  · (intro w hSw; (try (have z0 := hSw.1)); clear hSw; go_simp; (try with_reducible rfl))
  try simp only [Act.put, List.getElem_toArray, List.getElem_cons_zero, List.getElem_cons_succ, List.setIfInBounds_toArray, List.set_cons_zero, List.set_cons_succ]
  refine wpAnyH_take (i := 16) (v := ?_) rfl (by kernel_rfl) (by kernel_rfl) (by kernel_rfl) (fun _ _ _ h => h) (Or.inl ⟨by rfl, ?_⟩) (by assumption) ?_
  rotate_left
  · (intro w hSw; (try (have z0 := hSw.1)); clear hSw; go_simp; (try with_reducible rfl))
  try simp only [Act.put, List.getElem_toArray, List.getElem_cons_zero, List.getElem_cons_succ, List.setIfInBounds_toArray, List.set_cons_zero, List.set_cons_succ]
  refine wpAnyH_take (i := 17) (v := ?_) rfl (by kernel_rfl) (by kernel_rfl) (by kernel_rfl) (fun _ _ _ h => h) (Or.inl ⟨by rfl, ?_⟩) (by assumption) ?_
  rotate_left
  · (intro w hSw; (try (have z0 := hSw.1)); clear hSw; go_simp; (try with_reducible rfl))
  try simp only [Act.put, List.getElem_toArray, List.getElem_cons_zero, List.getElem_cons_succ, List.setIfInBounds_toArray, List.set_cons_zero, List.set_cons_succ]
  refine wpAnyH_take (i := 18) (v := ?_) rfl (by kernel_rfl) (by kernel_rfl) (by kernel_rfl) (fun _ _ _ h => h) (Or.inl ⟨by rfl, ?_⟩) (by assumption) ?_
  rotate_left
  · (intro w hSw; (try (have z0 := hSw.1)); clear hSw; go_simp; (try with_reducible rfl))
  try simp only [Act.put, List.getElem_toArray, List.getElem_cons_zero, List.getElem_cons_succ, List.setIfInBounds_toArray, List.set_cons_zero, List.set_cons_succ]
  refine wpAnyH_take (i := 19) (v := ?_) rfl (by kernel_rfl) (by kernel_rfl) (by kernel_rfl) (fun _ _ _ h => h) (Or.inl ⟨by rfl, ?_⟩) (by assumption) ?_
  rotate_left
  · (intro w hSw; (try (have z0 := hSw.1)); clear hSw; go_simp; (try with_reducible rfl))
  try simp only [Act.put, List.getElem_toArray, List.getElem_cons_zero, List.getElem_cons_succ, List.setIfInBounds_toArray, List.set_cons_zero, List.set_cons_succ]
  refine wpAnyH_take (i := 20) (v := ?_) rfl (by kernel_rfl) (by kernel_rfl) (by kernel_rfl) (fun _ _ _ h => h) (Or.inl ⟨by rfl, ?_⟩) (by assumption) ?_
  rotate_left
  · (intro w hSw; (try (have z0 := hSw.1)); clear hSw; go_simp; (try with_reducible rfl))
  try simp only [Act.put, List.getElem_toArray, List.getElem_cons_zero, List.getElem_cons_succ, List.setIfInBounds_toArray, List.set_cons_zero, List.set_cons_succ]
  refine wpAnyH_take (i := 21) (v := ?_) rfl (by kernel_rfl) (by kernel_rfl) (by kernel_rfl) (fun _ _ _ h => h) (Or.inl ⟨by rfl, ?_⟩) (by assumption) ?_
  rotate_left
  · (intro w hSw; (try (have z0 := hSw.1)); clear hSw; go_simp; (try with_reducible rfl))
  try simp only [Act.put, List.getElem_toArray, List.getElem_cons_zero, List.getElem_cons_succ, List.setIfInBounds_toArray, List.set_cons_zero, List.set_cons_succ]
  refine wpAnyH_take (i := 22) (v := ?_) rfl (by kernel_rfl) (by kernel_rfl) (by kernel_rfl) (fun _ _ _ h => h) (Or.inl ⟨by rfl, ?_⟩) (by assumption) ?_
  rotate_left
  · (intro w hSw; (try (have z0 := hSw.1)); clear hSw; go_simp; (try with_reducible rfl))
  try simp only [Act.put, List.getElem_toArray, List.getElem_cons_zero, List.getElem_cons_succ, List.setIfInBounds_toArray, List.set_cons_zero, List.set_cons_succ]
  refine wpAnyH_take (i := 23) (v := ?_) rfl (by kernel_rfl) (by kernel_rfl) (by kernel_rfl) (fun _ _ _ h => h) (Or.inl ⟨by rfl, ?_⟩) (by assumption) ?_
  rotate_left
  · (intro w hSw; (try (have z0 := hSw.1)); clear hSw; go_simp; (try with_reducible rfl))
  try simp only [Act.put, List.getElem_toArray, List.getElem_cons_zero, List.getElem_cons_succ, List.setIfInBounds_toArray, List.set_cons_zero, List.set_cons_succ]
  refine wpAnyH_take (i := 24) (v := ?_) rfl (by kernel_rfl) (by kernel_rfl) (by kernel_rfl) (fun _ _ _ h => h) (Or.inl ⟨by rfl, ?_⟩) (by assumption) ?_
  rotate_left
  · (intro w hSw; (try (have z0 := hSw.1)); clear hSw; go_simp; (try with_reducible rfl))
  try simp only [Act.put, List.getElem_toArray, List.getElem_cons_zero, List.getElem_cons_succ, List.setIfInBounds_toArray, List.set_cons_zero, List.set_cons_succ]
  refine wpAnyH_take (i := 25) (v := ?_) rfl (by kernel_rfl) (by kernel_rfl) (by kernel_rfl) (fun _ _ _ h => h) (Or.inl ⟨by rfl, ?_⟩) (by assumption) ?_
  rotate_left
  · (intro w hSw; (try (have z0 := hSw.1)); clear hSw; go_simp; (try with_reducible rfl))
  try simp only [Act.put, List.getElem_toArray, List.getElem_cons_zero, List.getElem_cons_succ, List.setIfInBounds_toArray, List.set_cons_zero, List.set_cons_succ]
  refine wpAnyH_take (i := 26) (v := ?_) rfl (by kernel_rfl) (by kernel_rfl) (by kernel_rfl) (fun _ _ _ h => h) (Or.inl ⟨by rfl, ?_⟩) (by assumption) ?_
  rotate_left
  · (intro w hSw; (try (have z0 := hSw.1)); clear hSw; go_simp; (try with_reducible rfl))
  try simp only [Act.put, List.getElem_toArray, List.getElem_cons_zero, List.getElem_cons_succ, List.setIfInBounds_toArray, List.set_cons_zero, List.set_cons_succ]
  refine wpAnyH_take (i := 27) (v := ?_) rfl (by kernel_rfl) (by kernel_rfl) (by kernel_rfl) (fun _ _ _ h => h) (Or.inl ⟨by rfl, ?_⟩) (by assumption) ?_
  rotate_left
  · (intro w hSw; (try (have z0 := hSw.1)); clear hSw; go_simp; (try with_reducible rfl))
  try simp only [Act.put, List.getElem_toArray, List.getElem_cons_zero, List.getElem_cons_succ, List.setIfInBounds_toArray, List.set_cons_zero, List.set_cons_succ]
  refine wpAnyH_take (i := 28) (v := ?_) rfl (by kernel_rfl) (by kernel_rfl) (by kernel_rfl) (fun _ _ _ h => h) (Or.inl ⟨by rfl, ?_⟩) (by assumption) ?_
  rotate_left
  · (intro w hSw; (try (have z0 := hSw.1)); clear hSw; go_simp; (try with_reducible rfl))
  try simp only [Act.put, List.getElem_toArray, List.getElem_cons_zero, List.getElem_cons_succ, List.setIfInBounds_toArray, List.set_cons_zero, List.set_cons_succ]
  refine wpAnyH_take (i := 29) (v := ?_) rfl (by kernel_rfl) (by kernel_rfl) (by kernel_rfl) (fun _ _ _ h => h) (Or.inl ⟨by rfl, ?_⟩) (by assumption) ?_
  rotate_left
  · (intro w hSw; (try (have z0 := hSw.1)); clear hSw; go_simp; (try with_reducible rfl))
  try simp only [Act.put, List.getElem_toArray, List.getElem_cons_zero, List.getElem_cons_succ, List.setIfInBounds_toArray, List.set_cons_zero, List.set_cons_succ]
  refine wpAnyH_take (i := 30) (v := ?_) rfl (by kernel_rfl) (by kernel_rfl) (by kernel_rfl) (fun _ _ _ h => h) (Or.inl ⟨by rfl, ?_⟩) (by assumption) ?_
  rotate_left
  · (intro w hSw; (try (have z0 := hSw.1)); clear hSw; go_simp; (try with_reducible rfl))
  try simp only [Act.put, List.getElem_toArray, List.getElem_cons_zero, List.getElem_cons_succ, List.setIfInBounds_toArray, List.set_cons_zero, List.set_cons_succ]
  refine wpAnyH_take (i := 31) (v := ?_) rfl (by kernel_rfl) (by kernel_rfl) (by kernel_rfl) (fun _ _ _ h => h) (Or.inl ⟨by rfl, ?_⟩) (by assumption) ?_
  rotate_left
  · (intro w hSw; (try (have z0 := hSw.1)); clear hSw; go_simp; (try with_reducible rfl))
  try simp only [Act.put, List.getElem_toArray, List.getElem_cons_zero, List.getElem_cons_succ, List.setIfInBounds_toArray, List.set_cons_zero, List.set_cons_succ]
  refine wpAnyH_take (i := 32) (v := ?_) rfl (by kernel_rfl) (by kernel_rfl) (by kernel_rfl) (fun _ _ _ h => h) (Or.inl ⟨by rfl, ?_⟩) (by assumption) ?_
  rotate_left
  · (intro w hSw; (try (have z0 := hSw.1)); clear hSw; go_simp; (try with_reducible rfl))
  try simp only [Act.put, List.getElem_toArray, List.getElem_cons_zero, List.getElem_cons_succ, List.setIfInBounds_toArray, List.set_cons_zero, List.set_cons_succ]
  refine wpAnyH_take (i := 33) (v := ?_) rfl (by kernel_rfl) (by kernel_rfl) (by kernel_rfl) (fun _ _ _ h => h) (Or.inl ⟨by rfl, ?_⟩) (by assumption) ?_
  rotate_left
  · (intro w hSw; (try (have z0 := hSw.1)); clear hSw; go_simp; (try with_reducible rfl))
  try simp only [Act.put, List.getElem_toArray, List.getElem_cons_zero, List.getElem_cons_succ, List.setIfInBounds_toArray, List.set_cons_zero, List.set_cons_succ]
  refine wpAnyH_take (i := 34) (v := ?_) rfl (by kernel_rfl) (by kernel_rfl) (by kernel_rfl) (fun _ _ _ h => h) (Or.inl ⟨by rfl, ?_⟩) (by assumption) ?_
  rotate_left
  · (intro w hSw; (try (have z0 := hSw.1)); clear hSw; go_simp; (try with_reducible rfl))
  try simp only [Act.put, List.getElem_toArray, List.getElem_cons_zero, List.getElem_cons_succ, List.setIfInBounds_toArray, List.set_cons_zero, List.set_cons_succ]
  refine wpAnyH_take (i := 35) (v := ?_) rfl (by kernel_rfl) (by kernel_rfl) (by kernel_rfl) (fun _ _ _ h => h) (Or.inl ⟨by rfl, ?_⟩) (by assumption) ?_
  rotate_left
  · (intro w hSw; (try (have z0 := hSw.1)); clear hSw; go_simp; (try with_reducible rfl))
  try simp only [Act.put, List.getElem_toArray, List.getElem_cons_zero, List.getElem_cons_succ, List.setIfInBounds_toArray, List.set_cons_zero, List.set_cons_succ]
  refine wpAnyH_take (i := 36) (v := ?_) rfl (by kernel_rfl) (by kernel_rfl) (by kernel_rfl) (fun _ _ _ h => h) (Or.inl ⟨by rfl, ?_⟩) (by assumption) ?_
  rotate_left
  · (intro w hSw; (try (have z0 := hSw.1)); clear hSw; go_simp; (try with_reducible rfl))
  try simp only [Act.put, List.getElem_toArray, List.getElem_cons_zero, List.getElem_cons_succ, List.setIfInBounds_toArray, List.set_cons_zero, List.set_cons_succ]
  refine wpAnyH_take (i := 37) (v := ?_) rfl (by kernel_rfl) (by kernel_rfl) (by kernel_rfl) (fun _ _ _ h => h) (Or.inl ⟨by rfl, ?_⟩) (by assumption) ?_
  rotate_left
  · (intro w hSw; (try (have z0 := hSw.1)); clear hSw; go_simp; (try with_reducible rfl))
  try simp only [Act.put, List.getElem_toArray, List.getElem_cons_zero, List.getElem_cons_succ, List.setIfInBounds_toArray, List.set_cons_zero, List.set_cons_succ]
  refine wpAnyH_done (by kernel_rfl) (NoPanic.normal ?_) _
  have HB := Lib.hid hHeld.2
  clear hHeld HX
  go_wp2
  go_ret
  exact ⟨rfl, HB.out⟩
theorem bits_any (lg sp ph : Bool) (ty ve : Int) (dc sc tk : List UInt8) (le wi nu : Int) (mask : List UInt8) (w : World) (ht : Tab w) (wty : -9223372036854775808 ≤ ty) (wty2 : ty ≤ 9223372036854775807) (wve : 0 ≤ ve) (wve2 : ve ≤ 4294967295) (wdc : dc.length ≤ 9223372036854775807) (wsc : sc.length ≤ 9223372036854775807) (wtk : tk.length ≤ 9223372036854775807) (wle : 0 ≤ le) (wle2 : le ≤ 18446744073709551615) (wwi : -9223372036854775808 ≤ wi) (wwi2 : wi ≤ 9223372036854775807) (wnu : 0 ≤ nu) (wnu2 : nu ≤ 18446744073709551615) (wm : mask.length ≤ 9223372036854775807) :
    Calls Tryd.prog 7 #[.agg #[.bool lg, .bool sp, .bool ph, .int .i64 ty, .int .u32 ve, .string ⟨dc.toArray⟩, .string ⟨sc.toArray⟩, .string ⟨tk.toArray⟩, .int .u64 le, .int .i64 wi, .int .u64 nu], .string ⟨mask.toArray⟩] w fun e w' => e = .returned (.bool true) ∧ Below w.heap.size w w' := by
  cases EM : mayB lg sp ph ty ve dc sc tk le wi nu with
  | false => cases EB : lawB dc sc tk with
    | false => exact bits_no0 lg sp ph ty ve dc sc tk le wi nu mask w ht wty wty2 wve wve2 wdc wsc wtk wle wle2 wwi wwi2 wnu wnu2 EM EB wm
    | true =>
      by_cases h5 : mask.length = 5
      · exact bits_no2 lg sp ph ty ve dc sc tk le wi nu mask w ht wty wty2 wve wve2 wdc wsc wtk wle wle2 wwi wwi2 wnu wnu2 EM EB wm (ne5 h5)
      · exact bits_no1 lg sp ph ty ve dc sc tk le wi nu mask w ht wty wty2 wve wve2 wdc wsc wtk wle wle2 wwi wwi2 wnu wnu2 EM EB wm (ne5' h5)
  | true =>
    have EB := law_of_may EM
    by_cases h5 : mask.length = 5
    rotate_left
    · exact bits_no3 lg sp ph ty ve dc sc tk le wi nu mask w ht wty wty2 wve wve2 wdc wsc wtk wle wle2 wwi wwi2 wnu wnu2 EM EB wm (ne5' h5)
    have hg := get_put EM wve wve2 wle wnu []
    rw [List.append_nil] at hg
    have hpl := putL_len EM
    have hpw := may_parts EM
    obtain ⟨pl, hpE⟩ : ∃ l, l = putL lg sp ph ty ve dc sc tk le wi nu := ⟨_, rfl⟩
    rw [← hpE] at hg hpl
    obtain ⟨b, pre, num, p, hP, hx⟩ := parts_of hg
    have hm := msk_parts (m := mask) hg hP hx h5
    have hw := hP.wide
    have hw4 := wide_4 b
    have hmd : (mask.drop 1).length = 4 := by rw [List.length_drop]; omega
    have hxl := xorL_length num (mask.drop 1) (by omega)
    have hpe := hP.eq
    simp only [List.append_nil] at hm hpe
    have hwi : wi = ((wideB b : Nat) : Int) := congrArg Hdr.wi hx
    have hlg : lg = decide (128 ≤ b.toNat) := (congrArg Hdr.lg hx).trans hP.fit.lg
    have hplen : pl.length = 1 + pre.length + num.length := by rw [hpe]; simp; omega
    have hMl : (fstB b (mask.headD 0) :: (pre ++ xorL num (mask.drop 1))).length = pl.length := by simp [-List.drop_one]; omega
    have hX1 : (⟨(fstB b (mask.headD 0) :: (pre ++ xorL num (mask.drop 1))).toArray⟩ : ByteArray).extract 1 (1 + pre.length) = ⟨pre.toArray⟩ := by
      rw [sv_sub]; congr 2; rw [Nat.add_sub_cancel_left]; simp [-List.drop_one]
    have hX2 : (⟨pl.toArray⟩ : ByteArray).extract 1 (1 + pre.length) = ⟨pre.toArray⟩ := by
      rw [sv_sub, hpe]; congr 2; rw [Nat.add_sub_cancel_left]; simp
    have hfh := fst_high b (mask.headD 0)
    have hM0 : 0 < (fstB b (mask.headD 0) :: (pre ++ xorL num (mask.drop 1))).length := by simp
    have hI0 : ((⟨(fstB b (mask.headD 0) :: (pre ++ xorL num (mask.drop 1))).toArray⟩ : ByteArray)[0]'(by rw [sv_size]; exact hM0)) = fstB b (mask.headD 0) := rfl
    have hI1 : ((⟨pl.toArray⟩ : ByteArray)[0]'(by rw [sv_size]; exact hpl.2)) = b := by subst hpe; rfl
    have hEN : ((pl.length : Nat) : Int) - wi = ((1 + pre.length : Nat) : Int) := by omega
    cases lg with
    | true =>
      have h128 : 128 ≤ b.toNat := of_decide_eq_true hlg.symm
      rw [if_neg (by omega)] at hfh
      exact bits_l sp ph ty ve dc sc tk le wi nu mask pl _ pre b (fstB b (mask.headD 0)) (1 + pre.length) w ht wty wty2 wve wve2 wdc wsc wtk wle wle2 wwi wwi2 wnu wnu2 EM wm (ne5 h5) (Lib.hid hpE.symm) hpl.1 hpl.2 hMl (Lib.hid ⟨hm.2, hm.1⟩) hEN (by omega) (by omega) hM0 hI0 hI1 hX1 hX2 hfh hlg.symm hpw.2.2.1 hpw.2.2.2.1
    | false =>
      have h128 : ¬ 128 ≤ b.toNat := of_decide_eq_false hlg.symm
      rw [if_pos (by omega)] at hfh
      exact bits_s sp ph ty ve dc sc tk le wi nu mask pl _ pre b (fstB b (mask.headD 0)) (1 + pre.length) w ht wty wty2 wve wve2 wdc wsc wtk wle wle2 wwi wwi2 wnu wnu2 EM wm (ne5 h5) (Lib.hid hpE.symm) hpl.1 hpl.2 hMl (Lib.hid ⟨hm.2, hm.1⟩) hEN (by omega) (by omega) hM0 hI0 hI1 hX1 hX2 hfh hlg.symm hpw.2.2.1 hpw.2.2.2.1
theorem law_bits (lg sp ph : Bool) (ty ve : Int) (dc sc tk : List UInt8) (le wi nu : Int) (mask : List UInt8) (w : World) (ht : Tab w) (w3 : (Lit.int .i64 ty).wf = true) (w4 : (Lit.int .u32 ve).wf = true) (w5 : (⟨dc.toArray⟩ : ByteArray).size ≤ maxLen) (w6 : (⟨sc.toArray⟩ : ByteArray).size ≤ maxLen) (w7 : (⟨tk.toArray⟩ : ByteArray).size ≤ maxLen) (w8 : (Lit.int .u64 le).wf = true) (w9 : (Lit.int .i64 wi).wf = true) (w10 : (Lit.int .u64 nu).wf = true) (wm : (⟨mask.toArray⟩ : ByteArray).size ≤ maxLen) :
    Calls Tryd.prog 7 #[.agg #[.bool lg, .bool sp, .bool ph, .int .i64 ty, .int .u32 ve, .string ⟨dc.toArray⟩, .string ⟨sc.toArray⟩, .string ⟨tk.toArray⟩, .int .u64 le, .int .i64 wi, .int .u64 nu], .string ⟨mask.toArray⟩] w fun e w' => e = .returned (.bool true) ∧ Below w.heap.size w w' :=
  bits_any lg sp ph ty ve dc sc tk le wi nu mask w ht (bounds_i64 w3).1 (bounds_i64 w3).2 (bounds_u32 w4).1 (bounds_u32 w4).2 (str_len w5) (str_len w6) (str_len w7) (bounds_u64 w8).1 (bounds_u64 w8).2 (bounds_i64 w9).1 (bounds_i64 w9).2 (bounds_u64 w10).1 (bounds_u64 w10).2 (str_len wm)
end Go.Proofs.YtpjhpknbnbiabaaDoor.Hd
