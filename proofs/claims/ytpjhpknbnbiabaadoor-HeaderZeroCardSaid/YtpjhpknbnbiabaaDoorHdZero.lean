/- The walk of the law HeaderZero. By tools/gen-header-laws.py. -/
import Derived.Test.YtpjhpknbnbiabaaDoorHdJ
namespace Go.Proofs.YtpjhpknbnbiabaaDoor.Hd
open Go.RowKit Vm
set_option linter.unusedVariables false
set_option linter.unusedSimpArgs false

theorem conv5 (W : World) (g : Nat) (h : Hid (∀ i, i < 5 → W.cell? ⟨g, i, none⟩ = some (.int .u8 0))) :
    (convert 44 9 (.slice (some ⟨g, 0, none⟩) 5 5)).run Tryd.prog W = .ok (.string ⟨[0, 0, 0, 0, 0].toArray⟩) W := by
  have := run_convert_bytes_arg (P := Tryd.prog) W 44 5 Tryd.underlying44 Tryd.underlying5 g 0 5 5 [0, 0, 0, 0, 0] (by simp) (fun i hi => by
    rw [Nat.zero_add, h.out i hi]
    have : i = 0 ∨ i = 1 ∨ i = 2 ∨ i = 3 ∨ i = 4 := by omega
    rcases this with rfl | rfl | rfl | rfl | rfl <;> rfl) 9 Tryd.underlying9
  rw [this]
  congr 2
theorem fst_zero (b : UInt8) : fstB b 0 = b := by
  unfold fstB
  rw [UInt8.zero_and, UInt8.xor_zero]
theorem xorL_zero (a : List UInt8) (h : a.length ≤ 4) : xorL a [0, 0, 0, 0] = a := by
  match a, h with
  | [], _ => rfl
  | [x], _ => simp [xorL]
  | [x, y], _ => simp [xorL]
  | [x, y, z], _ => simp [xorL]
  | [x, y, z, u], _ => simp [xorL]
set_option maxHeartbeats 4000000 in
theorem zero_no1 (lg sp ph : Bool) (ty ve : Int) (dc sc tk : List UInt8) (le wi nu : Int)  (w : World) (ht : Tab w) (wty : -9223372036854775808 ≤ ty) (wty2 : ty ≤ 9223372036854775807) (wve : 0 ≤ ve) (wve2 : ve ≤ 4294967295) (wdc : dc.length ≤ 9223372036854775807) (wsc : sc.length ≤ 9223372036854775807) (wtk : tk.length ≤ 9223372036854775807) (wle : 0 ≤ le) (wle2 : le ≤ 18446744073709551615) (wwi : -9223372036854775808 ≤ wi) (wwi2 : wi ≤ 9223372036854775807) (wnu : 0 ≤ nu) (wnu2 : nu ≤ 18446744073709551615) (EM : mayB lg sp ph ty ve dc sc tk le wi nu = false) (EB : lawB dc sc tk = false) :
    Calls Tryd.prog 8 #[.agg #[.bool lg, .bool sp, .bool ph, .int .i64 ty, .int .u32 ve, .string ⟨dc.toArray⟩, .string ⟨sc.toArray⟩, .string ⟨tk.toArray⟩, .int .u64 le, .int .i64 wi, .int .u64 nu]] w fun e w' => e = .returned (.bool true) ∧ Below w.heap.size w w' := by
  have hlt := ht.lt
  have HT := Lib.hid ht
  clear ht
  have HX := Lib.hid (Box.made w (.bool lg) (.bool sp) (.bool ph) (.int .i64 ty) (.int .u32 ve) (.string ⟨dc.toArray⟩) (.string ⟨sc.toArray⟩) (.string ⟨tk.toArray⟩) (.int .u64 le) (.int .i64 wi) (.int .u64 nu) 25)
  have CP := Lib.hid (fun w (ht : Tab w) => Put_no lg sp ph ty ve dc sc tk le wi nu w ht wty wty2 wve wve2 wdc wsc wtk wle wle2 wwi wwi2 wnu wnu2 EM)
  have CB := Lib.hid (fun w => lawBounded_any lg sp ph ty ve dc sc tk le wi nu w wty wty2 wve wve2 wdc wsc wtk wle wle2 wwi wwi2 wnu wnu2)
  rw [EB] at CB
  clear EM EB
  go_enter Tryd.func8, Tryd.ntmps8
  have HT1 := Lib.hid (HT.out.below HX.out.bel hlt)
  go_wp2_with fail
  refine (CP.out _ HT1.out).mono ?_
  rintro e w1 ⟨rfl, hb⟩
  replace HX := Lib.hid (HX.out.keep hb)
  clear hb
  have HT1 := Lib.hid (HT.out.below HX.out.bel hlt)
  (try clear z0 z1 z2 z3 z4 z5 z6 z7 z8 z9 z10)
  have z0 := HX.out.cell0
  have z1 := HX.out.cell1
  have z2 := HX.out.cell2
  have z3 := HX.out.cell3
  have z4 := HX.out.cell4
  have z5 := HX.out.cell5
  have z6 := HX.out.cell6
  have z7 := HX.out.cell7
  have z8 := HX.out.cell8
  have z9 := HX.out.cell9
  have z10 := HX.out.cell10
  go_wp2_with fail
  refine (CB.out _).mono ?_
  rintro e w1 ⟨rfl, hb⟩
  replace HX := Lib.hid (HX.out.keep hb)
  clear hb
  have HT1 := Lib.hid (HT.out.below HX.out.bel hlt)
  (try clear z0 z1 z2 z3 z4 z5 z6 z7 z8 z9 z10)
  have z0 := HX.out.cell0
  have z1 := HX.out.cell1
  have z2 := HX.out.cell2
  have z3 := HX.out.cell3
  have z4 := HX.out.cell4
  have z5 := HX.out.cell5
  have z6 := HX.out.cell6
  have z7 := HX.out.cell7
  have z8 := HX.out.cell8
  have z9 := HX.out.cell9
  have z10 := HX.out.cell10
  go_wp2_with fail
  refine (shown_any _ HT1.out).mono ?_
  rintro e w1 ⟨rfl, hb⟩
  replace HX := Lib.hid (HX.out.keep hb)
  clear hb
  have HT1 := Lib.hid (HT.out.below HX.out.bel hlt)
  (try clear z0 z1 z2 z3 z4 z5 z6 z7 z8 z9 z10)
  have z0 := HX.out.cell0
  have z1 := HX.out.cell1
  have z2 := HX.out.cell2
  have z3 := HX.out.cell3
  have z4 := HX.out.cell4
  have z5 := HX.out.cell5
  have z6 := HX.out.cell6
  have z7 := HX.out.cell7
  have z8 := HX.out.cell8
  have z9 := HX.out.cell9
  have z10 := HX.out.cell10
  have HB := Lib.hid HX.out.bel
  clear HX
  go_wp2
  go_ret
  exact ⟨rfl, HB.out⟩
set_option maxHeartbeats 4000000 in
theorem zero_no2 (lg sp ph : Bool) (ty ve : Int) (dc sc tk : List UInt8) (le wi nu : Int)  (w : World) (ht : Tab w) (wty : -9223372036854775808 ≤ ty) (wty2 : ty ≤ 9223372036854775807) (wve : 0 ≤ ve) (wve2 : ve ≤ 4294967295) (wdc : dc.length ≤ 9223372036854775807) (wsc : sc.length ≤ 9223372036854775807) (wtk : tk.length ≤ 9223372036854775807) (wle : 0 ≤ le) (wle2 : le ≤ 18446744073709551615) (wwi : -9223372036854775808 ≤ wi) (wwi2 : wi ≤ 9223372036854775807) (wnu : 0 ≤ nu) (wnu2 : nu ≤ 18446744073709551615) (EM : mayB lg sp ph ty ve dc sc tk le wi nu = false) (EB : lawB dc sc tk = true) :
    Calls Tryd.prog 8 #[.agg #[.bool lg, .bool sp, .bool ph, .int .i64 ty, .int .u32 ve, .string ⟨dc.toArray⟩, .string ⟨sc.toArray⟩, .string ⟨tk.toArray⟩, .int .u64 le, .int .i64 wi, .int .u64 nu]] w fun e w' => e = .returned (.bool true) ∧ Below w.heap.size w w' := by
  have hlt := ht.lt
  have HT := Lib.hid ht
  clear ht
  have HX := Lib.hid (Box.made w (.bool lg) (.bool sp) (.bool ph) (.int .i64 ty) (.int .u32 ve) (.string ⟨dc.toArray⟩) (.string ⟨sc.toArray⟩) (.string ⟨tk.toArray⟩) (.int .u64 le) (.int .i64 wi) (.int .u64 nu) 25)
  have CP := Lib.hid (fun w (ht : Tab w) => Put_no lg sp ph ty ve dc sc tk le wi nu w ht wty wty2 wve wve2 wdc wsc wtk wle wle2 wwi wwi2 wnu wnu2 EM)
  have CB := Lib.hid (fun w => lawBounded_any lg sp ph ty ve dc sc tk le wi nu w wty wty2 wve wve2 wdc wsc wtk wle wle2 wwi wwi2 wnu wnu2)
  rw [EB] at CB
  clear EM EB
  go_enter Tryd.func8, Tryd.ntmps8
  have HT1 := Lib.hid (HT.out.below HX.out.bel hlt)
  go_wp2_with fail
  refine (CP.out _ HT1.out).mono ?_
  rintro e w1 ⟨rfl, hb⟩
  replace HX := Lib.hid (HX.out.keep hb)
  clear hb
  have HT1 := Lib.hid (HT.out.below HX.out.bel hlt)
  (try clear z0 z1 z2 z3 z4 z5 z6 z7 z8 z9 z10)
  have z0 := HX.out.cell0
  have z1 := HX.out.cell1
  have z2 := HX.out.cell2
  have z3 := HX.out.cell3
  have z4 := HX.out.cell4
  have z5 := HX.out.cell5
  have z6 := HX.out.cell6
  have z7 := HX.out.cell7
  have z8 := HX.out.cell8
  have z9 := HX.out.cell9
  have z10 := HX.out.cell10
  go_wp2_with fail
  refine (CB.out _).mono ?_
  rintro e w1 ⟨rfl, hb⟩
  replace HX := Lib.hid (HX.out.keep hb)
  clear hb
  have HT1 := Lib.hid (HT.out.below HX.out.bel hlt)
  (try clear z0 z1 z2 z3 z4 z5 z6 z7 z8 z9 z10)
  have z0 := HX.out.cell0
  have z1 := HX.out.cell1
  have z2 := HX.out.cell2
  have z3 := HX.out.cell3
  have z4 := HX.out.cell4
  have z5 := HX.out.cell5
  have z6 := HX.out.cell6
  have z7 := HX.out.cell7
  have z8 := HX.out.cell8
  have z9 := HX.out.cell9
  have z10 := HX.out.cell10
  go_wp2_with fail
  refine (shown_any _ HT1.out).mono ?_
  rintro e w1 ⟨rfl, hb⟩
  replace HX := Lib.hid (HX.out.keep hb)
  clear hb
  have HT1 := Lib.hid (HT.out.below HX.out.bel hlt)
  (try clear z0 z1 z2 z3 z4 z5 z6 z7 z8 z9 z10)
  have z0 := HX.out.cell0
  have z1 := HX.out.cell1
  have z2 := HX.out.cell2
  have z3 := HX.out.cell3
  have z4 := HX.out.cell4
  have z5 := HX.out.cell5
  have z6 := HX.out.cell6
  have z7 := HX.out.cell7
  have z8 := HX.out.cell8
  have z9 := HX.out.cell9
  have z10 := HX.out.cell10
  have HB := Lib.hid HX.out.bel
  clear HX
  go_wp2
  go_ret
  exact ⟨rfl, HB.out⟩
set_option maxHeartbeats 4000000 in
theorem zero_yes (lg sp ph : Bool) (ty ve : Int) (dc sc tk : List UInt8) (le wi nu : Int)  (w : World) (ht : Tab w) (wty : -9223372036854775808 ≤ ty) (wty2 : ty ≤ 9223372036854775807) (wve : 0 ≤ ve) (wve2 : ve ≤ 4294967295) (wdc : dc.length ≤ 9223372036854775807) (wsc : sc.length ≤ 9223372036854775807) (wtk : tk.length ≤ 9223372036854775807) (wle : 0 ≤ le) (wle2 : le ≤ 18446744073709551615) (wwi : -9223372036854775808 ≤ wi) (wwi2 : wi ≤ 9223372036854775807) (wnu : 0 ≤ nu) (wnu2 : nu ≤ 18446744073709551615) (EM : mayB lg sp ph ty ve dc sc tk le wi nu = true) :
    Calls Tryd.prog 8 #[.agg #[.bool lg, .bool sp, .bool ph, .int .i64 ty, .int .u32 ve, .string ⟨dc.toArray⟩, .string ⟨sc.toArray⟩, .string ⟨tk.toArray⟩, .int .u64 le, .int .i64 wi, .int .u64 nu]] w fun e w' => e = .returned (.bool true) ∧ Below w.heap.size w w' := by
  have hlt := ht.lt
  have HT := Lib.hid ht
  clear ht
  have HX := Lib.hid (Box.made w (.bool lg) (.bool sp) (.bool ph) (.int .i64 ty) (.int .u32 ve) (.string ⟨dc.toArray⟩) (.string ⟨sc.toArray⟩) (.string ⟨tk.toArray⟩) (.int .u64 le) (.int .i64 wi) (.int .u64 nu) 25)
  have CP := Lib.hid (fun w (ht : Tab w) => Put_yes lg sp ph ty ve dc sc tk le wi nu w ht wty wty2 wve wve2 wdc wsc wtk wle wle2 wwi wwi2 wnu wnu2 EM)
  have CB := Lib.hid (fun w => lawBounded_any lg sp ph ty ve dc sc tk le wi nu w wty wty2 wve wve2 wdc wsc wtk wle wle2 wwi wwi2 wnu wnu2)
  rw [law_of_may EM] at CB
  have hg := get_put EM wve wve2 wle wnu []
  rw [List.append_nil] at hg
  have hpl := putL_len EM
  generalize putL lg sp ph ty ve dc sc tk le wi nu = pl at CP hg hpl
  obtain ⟨b, pre, num, p, hP, hx⟩ := parts_of hg
  have hm := msk_parts (m := [0, 0, 0, 0, 0]) hg hP hx rfl
  have hu := um_parts (m := [0, 0, 0, 0, 0]) hg hP rfl
  have hz : fstB b (List.headD [0, 0, 0, 0, 0] 0) :: (pre ++ (xorL num (List.drop 1 [0, 0, 0, 0, 0]) ++ [])) = pl := by
    have hw4 := wide_4 b
    have hw := hP.wide
    rw [show List.headD [0, 0, 0, 0, 0] 0 = (0 : UInt8) from rfl, fst_zero, show List.drop 1 [0, 0, 0, 0, 0] = ([0, 0, 0, 0] : List UInt8) from rfl, xorL_zero _ (by omega)]
    exact hP.eq.symm
  simp only at hm hu
  rw [hz] at hm hu
  have CM := Lib.hid (fun w (ht : Tab w) => Mask_any pl [0, 0, 0, 0, 0] w ht (by omega))
  have CU := Lib.hid (fun w (ht : Tab w) => Unmask_any pl [0, 0, 0, 0, 0] w ht (by omega))
  rw [hm.1, hm.2] at CM
  rw [hu.1, hu.2] at CU
  clear hm hu hz hP hx hg EM
  have hpl1 := hpl.1
  clear hpl
  have hmk : ∀ w : World, (Instr.makeSlice 44 (.int .i64 5) (.int .i64 5)).run Tryd.prog w = .ok (.slice (some ⟨w.heap.size, 0, none⟩) 5 5) (w.alloc (.cells #[.int .u8 0, .int .u8 0, .int .u8 0, .int .u8 0, .int .u8 0] 5)) := fun _ => by kernel_rfl
  have hcv : ∀ w : World, (convert 44 9 (.slice (some ⟨w.heap.size, 0, none⟩) 5 5)).run Tryd.prog (w.alloc (.cells #[.int .u8 0, .int .u8 0, .int .u8 0, .int .u8 0, .int .u8 0] 5)) = .ok (.string ⟨[0, 0, 0, 0, 0].toArray⟩) (w.alloc (.cells #[.int .u8 0, .int .u8 0, .int .u8 0, .int .u8 0, .int .u8 0] 5)) := fun w => conv5 _ _ (Lib.hid fun i hi => by
    have : i = 0 ∨ i = 1 ∨ i = 2 ∨ i = 3 ∨ i = 4 := by omega
    rcases this with rfl | rfl | rfl | rfl | rfl <;> simp [go_sem])
  go_enter Tryd.func8, Tryd.ntmps8
  have HT1 := Lib.hid (HT.out.below HX.out.bel hlt)
  go_wp2_with fail
  refine (CP.out _ HT1.out).mono ?_
  rintro e w1 ⟨rfl, hb⟩
  replace HX := Lib.hid (HX.out.keep hb)
  clear hb
  have HT1 := Lib.hid (HT.out.below HX.out.bel hlt)
  (try clear z0 z1 z2 z3 z4 z5 z6 z7 z8 z9 z10)
  have z0 := HX.out.cell0
  have z1 := HX.out.cell1
  have z2 := HX.out.cell2
  have z3 := HX.out.cell3
  have z4 := HX.out.cell4
  have z5 := HX.out.cell5
  have z6 := HX.out.cell6
  have z7 := HX.out.cell7
  have z8 := HX.out.cell8
  have z9 := HX.out.cell9
  have z10 := HX.out.cell10
  go_wp2_with fail
  refine (CB.out _).mono ?_
  rintro e w1 ⟨rfl, hb⟩
  replace HX := Lib.hid (HX.out.keep hb)
  clear hb
  have HT1 := Lib.hid (HT.out.below HX.out.bel hlt)
  (try clear z0 z1 z2 z3 z4 z5 z6 z7 z8 z9 z10)
  have z0 := HX.out.cell0
  have z1 := HX.out.cell1
  have z2 := HX.out.cell2
  have z3 := HX.out.cell3
  have z4 := HX.out.cell4
  have z5 := HX.out.cell5
  have z6 := HX.out.cell6
  have z7 := HX.out.cell7
  have z8 := HX.out.cell8
  have z9 := HX.out.cell9
  have z10 := HX.out.cell10
  go_wp2_with fail
  refine (shown_any _ HT1.out).mono ?_
  rintro e w1 ⟨rfl, hb⟩
  replace HX := Lib.hid (HX.out.keep hb)
  clear hb
  have HT1 := Lib.hid (HT.out.below HX.out.bel hlt)
  (try clear z0 z1 z2 z3 z4 z5 z6 z7 z8 z9 z10)
  have z0 := HX.out.cell0
  have z1 := HX.out.cell1
  have z2 := HX.out.cell2
  have z3 := HX.out.cell3
  have z4 := HX.out.cell4
  have z5 := HX.out.cell5
  have z6 := HX.out.cell6
  have z7 := HX.out.cell7
  have z8 := HX.out.cell8
  have z9 := HX.out.cell9
  have z10 := HX.out.cell10
  replace HX := Lib.hid (HX.out.keep ((Below.refl _ _).alloc (Nat.le_refl _) (.cells #[.int .u8 0, .int .u8 0, .int .u8 0, .int .u8 0, .int .u8 0] 5)))
  replace HT1 := Lib.hid (HT.out.below HX.out.bel hlt)
  go_wp2_with fail
  refine (CM.out _ HT1.out).mono ?_
  rintro e w1 ⟨rfl, hb⟩
  replace HX := Lib.hid (HX.out.keep hb)
  clear hb
  have HT1 := Lib.hid (HT.out.below HX.out.bel hlt)
  (try clear z0 z1 z2 z3 z4 z5 z6 z7 z8 z9 z10)
  have z0 := HX.out.cell0
  have z1 := HX.out.cell1
  have z2 := HX.out.cell2
  have z3 := HX.out.cell3
  have z4 := HX.out.cell4
  have z5 := HX.out.cell5
  have z6 := HX.out.cell6
  have z7 := HX.out.cell7
  have z8 := HX.out.cell8
  have z9 := HX.out.cell9
  have z10 := HX.out.cell10
  go_wp2_with fail
  refine (CU.out _ HT1.out).mono ?_
  rintro e w1 ⟨rfl, hb⟩
  replace HX := Lib.hid (HX.out.keep hb)
  clear hb
  have HT1 := Lib.hid (HT.out.below HX.out.bel hlt)
  (try clear z0 z1 z2 z3 z4 z5 z6 z7 z8 z9 z10)
  have z0 := HX.out.cell0
  have z1 := HX.out.cell1
  have z2 := HX.out.cell2
  have z3 := HX.out.cell3
  have z4 := HX.out.cell4
  have z5 := HX.out.cell5
  have z6 := HX.out.cell6
  have z7 := HX.out.cell7
  have z8 := HX.out.cell8
  have z9 := HX.out.cell9
  have z10 := HX.out.cell10
  have HB := Lib.hid HX.out.bel
  clear HX
  go_wp2
  go_ret
  exact ⟨rfl, HB.out⟩
theorem zero_any (lg sp ph : Bool) (ty ve : Int) (dc sc tk : List UInt8) (le wi nu : Int) (w : World) (ht : Tab w) (wty : -9223372036854775808 ≤ ty) (wty2 : ty ≤ 9223372036854775807) (wve : 0 ≤ ve) (wve2 : ve ≤ 4294967295) (wdc : dc.length ≤ 9223372036854775807) (wsc : sc.length ≤ 9223372036854775807) (wtk : tk.length ≤ 9223372036854775807) (wle : 0 ≤ le) (wle2 : le ≤ 18446744073709551615) (wwi : -9223372036854775808 ≤ wi) (wwi2 : wi ≤ 9223372036854775807) (wnu : 0 ≤ nu) (wnu2 : nu ≤ 18446744073709551615) :
    Calls Tryd.prog 8 #[.agg #[.bool lg, .bool sp, .bool ph, .int .i64 ty, .int .u32 ve, .string ⟨dc.toArray⟩, .string ⟨sc.toArray⟩, .string ⟨tk.toArray⟩, .int .u64 le, .int .i64 wi, .int .u64 nu]] w fun e w' => e = .returned (.bool true) ∧ Below w.heap.size w w' := by
  cases EM : mayB lg sp ph ty ve dc sc tk le wi nu with
  | false => cases EB : lawB dc sc tk with
    | false => exact zero_no1 lg sp ph ty ve dc sc tk le wi nu w ht wty wty2 wve wve2 wdc wsc wtk wle wle2 wwi wwi2 wnu wnu2 EM EB
    | true => exact zero_no2 lg sp ph ty ve dc sc tk le wi nu w ht wty wty2 wve wve2 wdc wsc wtk wle wle2 wwi wwi2 wnu wnu2 EM EB
  | true => exact zero_yes lg sp ph ty ve dc sc tk le wi nu w ht wty wty2 wve wve2 wdc wsc wtk wle wle2 wwi wwi2 wnu wnu2 EM
theorem law_zero (lg sp ph : Bool) (ty ve : Int) (dc sc tk : List UInt8) (le wi nu : Int) (w : World) (ht : Tab w) (w3 : (Lit.int .i64 ty).wf = true) (w4 : (Lit.int .u32 ve).wf = true) (w5 : (⟨dc.toArray⟩ : ByteArray).size ≤ maxLen) (w6 : (⟨sc.toArray⟩ : ByteArray).size ≤ maxLen) (w7 : (⟨tk.toArray⟩ : ByteArray).size ≤ maxLen) (w8 : (Lit.int .u64 le).wf = true) (w9 : (Lit.int .i64 wi).wf = true) (w10 : (Lit.int .u64 nu).wf = true) :
    Calls Tryd.prog 8 #[.agg #[.bool lg, .bool sp, .bool ph, .int .i64 ty, .int .u32 ve, .string ⟨dc.toArray⟩, .string ⟨sc.toArray⟩, .string ⟨tk.toArray⟩, .int .u64 le, .int .i64 wi, .int .u64 nu]] w fun e w' => e = .returned (.bool true) ∧ Below w.heap.size w w' :=
  zero_any lg sp ph ty ve dc sc tk le wi nu w ht (bounds_i64 w3).1 (bounds_i64 w3).2 (bounds_u32 w4).1 (bounds_u32 w4).2 (str_len w5) (str_len w6) (str_len w7) (bounds_u64 w8).1 (bounds_u64 w8).2 (bounds_i64 w9).1 (bounds_i64 w9).2 (bounds_u64 w10).1 (bounds_u64 w10).2
end Go.Proofs.YtpjhpknbnbiabaaDoor.Hd
