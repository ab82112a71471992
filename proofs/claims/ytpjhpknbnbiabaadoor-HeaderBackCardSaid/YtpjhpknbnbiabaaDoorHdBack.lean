/- The walk of the law HeaderBack. By tools/gen-header-laws.py. -/
import Derived.Test.YtpjhpknbnbiabaaDoorHdFew
namespace Go.Proofs.YtpjhpknbnbiabaaDoor.Hd
open Go.RowKit Vm
set_option linter.unusedVariables false
set_option linter.unusedSimpArgs false

theorem get_wf {l : List UInt8} {x : Hdr × List UInt8} (h : getO l = some x) : (0 ≤ x.1.ty ∧ x.1.ty ≤ 3) ∧ (0 ≤ x.1.ve ∧ x.1.ve ≤ 4294967295) ∧ x.1.dc.length ≤ 1000 ∧ x.1.sc.length ≤ 1000 ∧ x.1.tk.length ≤ 1000 ∧ (0 ≤ x.1.le ∧ x.1.le ≤ 4611686018427387903) ∧ (1 ≤ x.1.wi ∧ x.1.wi ≤ 4) ∧ (0 ≤ x.1.nu ∧ x.1.nu ≤ 4294967295) ∧ x.2.length < l.length ∧ mayB x.1.lg x.1.sp x.1.ph x.1.ty x.1.ve x.1.dc x.1.sc x.1.tk x.1.le x.1.wi x.1.nu = true := by
  have hm : mayB x.1.lg x.1.sp x.1.ph x.1.ty x.1.ve x.1.dc x.1.sc x.1.tk x.1.le x.1.wi x.1.nu = true := by
    rcases get_rel l with ⟨h1, h2⟩ | ⟨h1, h2⟩
    · rw [h] at h2
      simp only [Option.some.injEq] at h2
      rw [h2]
      unfold gFlag at h1
      simp only [Bool.and_eq_true] at h1
      exact h1.2
    · rw [h] at h2; cases h2
  obtain ⟨b, t, p, pre, hl, ha, hf, hb, hw, hx⟩ := get_parts h
  have hlen := len_parts hf
  rw [← hl] at hlen
  have e1 : x.1 = hdr b p := by rw [hx]
  have e2 : x.2.length = p.re.length - wideB b := by rw [hx]; simp
  have w4 := wide_4 b
  have i1 : x.1.ty = ((p.ty : Nat) : Int) := by rw [e1]; rfl
  have i2 : x.1.ve = ((p.ve : Nat) : Int) := by rw [e1]; rfl
  have i3 : x.1.dc = p.dc := by rw [e1]; rfl
  have i4 : x.1.sc = p.sc := by rw [e1]; rfl
  have i5 : x.1.tk = p.tk := by rw [e1]; rfl
  have i6 : x.1.le = ((p.le : Nat) : Int) := by rw [e1]; rfl
  have i7 : x.1.wi = ((wideB b : Nat) : Int) := by rw [e1]; rfl
  have i8 : x.1.nu = ((bk (p.re.take (wideB b)) : Nat) : Int) := by rw [e1]; rfl
  have f1 := hf.ty
  have f2 := hf.ve
  have f3 := hf.dc
  have f4 := hf.sc
  have f5 := hf.tk
  have f6 := hf.le
  have f7 : p.dc.length ≤ 20 := by split at f3 <;> omega
  have f8 := bk4 (p.re.take (wideB b)) (by rw [List.length_take]; omega)
  rw [i3, i4, i5]
  exact ⟨by omega, by omega, by omega, by omega, by omega, by omega, by omega, by omega, by omega, by rw [← i3, ← i4, ← i5]; exact hm⟩
set_option maxHeartbeats 4000000 in
theorem back_no0 (lg sp ph : Bool) (ty ve : Int) (dc sc tk : List UInt8) (le wi nu : Int) (sx : List UInt8)  (w : World) (ht : Tab w) (wty : -9223372036854775808 ≤ ty) (wty2 : ty ≤ 9223372036854775807) (wve : 0 ≤ ve) (wve2 : ve ≤ 4294967295) (wdc : dc.length ≤ 9223372036854775807) (wsc : sc.length ≤ 9223372036854775807) (wtk : tk.length ≤ 9223372036854775807) (wle : 0 ≤ le) (wle2 : le ≤ 18446744073709551615) (wwi : -9223372036854775808 ≤ wi) (wwi2 : wi ≤ 9223372036854775807) (wnu : 0 ≤ nu) (wnu2 : nu ≤ 18446744073709551615) (EB : lawB dc sc tk = false) (ws : sx.length ≤ 9223372036854775807) :
    Calls Tryd.prog 4 #[.agg #[.bool lg, .bool sp, .bool ph, .int .i64 ty, .int .u32 ve, .string ⟨dc.toArray⟩, .string ⟨sc.toArray⟩, .string ⟨tk.toArray⟩, .int .u64 le, .int .i64 wi, .int .u64 nu], .string ⟨sx.toArray⟩] w fun e w' => e = .returned (.bool true) ∧ Below w.heap.size w w' := by
  have hlt := ht.lt
  have HT := Lib.hid ht
  clear ht
  have HX := Lib.hid (Box.made w (.bool lg) (.bool sp) (.bool ph) (.int .i64 ty) (.int .u32 ve) (.string ⟨dc.toArray⟩) (.string ⟨sc.toArray⟩) (.string ⟨tk.toArray⟩) (.int .u64 le) (.int .i64 wi) (.int .u64 nu) 25)
  have CB := Lib.hid (fun w => lawBounded_any lg sp ph ty ve dc sc tk le wi nu w wty wty2 wve wve2 wdc wsc wtk wle wle2 wwi wwi2 wnu wnu2)
  rw [EB] at CB
  go_enter Tryd.func4, Tryd.ntmps4
  have HT1 := Lib.hid (HT.out.below HX.out.bel hlt)
  go_wp2_with fail
  refine (CB.out _).mono ?_
  rintro e w1 ⟨rfl, hb⟩
  replace HX := Lib.hid (HX.out.keep hb)
  clear hb
  have HT1 := Lib.hid (HT.out.below HX.out.bel hlt)
  (try clear z0 z1 z2 z3 z4 z5 z6 z7 z8 z9 z10)
  have z0 := HX.out.cell0
  have z1 := HX.out.cell1
  have z2 := HX.out.cell2
  have z3 := HX.out.cell3
  have z4 := HX.out.cell4
  have z5 := HX.out.cell5
  have z6 := HX.out.cell6
  have z7 := HX.out.cell7
  have z8 := HX.out.cell8
  have z9 := HX.out.cell9
  have z10 := HX.out.cell10
  go_wp2_with fail
  refine (shown_any _ HT1.out).mono ?_
  rintro e w1 ⟨rfl, hb⟩
  replace HX := Lib.hid (HX.out.keep hb)
  clear hb
  have HT1 := Lib.hid (HT.out.below HX.out.bel hlt)
  (try clear z0 z1 z2 z3 z4 z5 z6 z7 z8 z9 z10)
  have z0 := HX.out.cell0
  have z1 := HX.out.cell1
  have z2 := HX.out.cell2
  have z3 := HX.out.cell3
  have z4 := HX.out.cell4
  have z5 := HX.out.cell5
  have z6 := HX.out.cell6
  have z7 := HX.out.cell7
  have z8 := HX.out.cell8
  have z9 := HX.out.cell9
  have z10 := HX.out.cell10
  have HB := Lib.hid HX.out.bel
  clear HX
  go_wp2
  go_ret
  exact ⟨rfl, HB.out⟩
set_option maxHeartbeats 4000000 in
theorem back_no1 (lg sp ph : Bool) (ty ve : Int) (dc sc tk : List UInt8) (le wi nu : Int) (sx : List UInt8)  (w : World) (ht : Tab w) (wty : -9223372036854775808 ≤ ty) (wty2 : ty ≤ 9223372036854775807) (wve : 0 ≤ ve) (wve2 : ve ≤ 4294967295) (wdc : dc.length ≤ 9223372036854775807) (wsc : sc.length ≤ 9223372036854775807) (wtk : tk.length ≤ 9223372036854775807) (wle : 0 ≤ le) (wle2 : le ≤ 18446744073709551615) (wwi : -9223372036854775808 ≤ wi) (wwi2 : wi ≤ 9223372036854775807) (wnu : 0 ≤ nu) (wnu2 : nu ≤ 18446744073709551615) (EB : lawB dc sc tk = true) (ws : sx.length ≤ 9223372036854775807) (gs : ¬ sx.length ≤ 1200) :
    Calls Tryd.prog 4 #[.agg #[.bool lg, .bool sp, .bool ph, .int .i64 ty, .int .u32 ve, .string ⟨dc.toArray⟩, .string ⟨sc.toArray⟩, .string ⟨tk.toArray⟩, .int .u64 le, .int .i64 wi, .int .u64 nu], .string ⟨sx.toArray⟩] w fun e w' => e = .returned (.bool true) ∧ Below w.heap.size w w' := by
  have hlt := ht.lt
  have HT := Lib.hid ht
  clear ht
  have HX := Lib.hid (Box.made w (.bool lg) (.bool sp) (.bool ph) (.int .i64 ty) (.int .u32 ve) (.string ⟨dc.toArray⟩) (.string ⟨sc.toArray⟩) (.string ⟨tk.toArray⟩) (.int .u64 le) (.int .i64 wi) (.int .u64 nu) 25)
  have CB := Lib.hid (fun w => lawBounded_any lg sp ph ty ve dc sc tk le wi nu w wty wty2 wve wve2 wdc wsc wtk wle wle2 wwi wwi2 wnu wnu2)
  rw [EB] at CB
  go_enter Tryd.func4, Tryd.ntmps4
  have HT1 := Lib.hid (HT.out.below HX.out.bel hlt)
  go_wp2_with fail
  refine (CB.out _).mono ?_
  rintro e w1 ⟨rfl, hb⟩
  replace HX := Lib.hid (HX.out.keep hb)
  clear hb
  have HT1 := Lib.hid (HT.out.below HX.out.bel hlt)
  (try clear z0 z1 z2 z3 z4 z5 z6 z7 z8 z9 z10)
  have z0 := HX.out.cell0
  have z1 := HX.out.cell1
  have z2 := HX.out.cell2
  have z3 := HX.out.cell3
  have z4 := HX.out.cell4
  have z5 := HX.out.cell5
  have z6 := HX.out.cell6
  have z7 := HX.out.cell7
  have z8 := HX.out.cell8
  have z9 := HX.out.cell9
  have z10 := HX.out.cell10
  go_wp2_with fail
  refine (shown_any _ HT1.out).mono ?_
  rintro e w1 ⟨rfl, hb⟩
  replace HX := Lib.hid (HX.out.keep hb)
  clear hb
  have HT1 := Lib.hid (HT.out.below HX.out.bel hlt)
  (try clear z0 z1 z2 z3 z4 z5 z6 z7 z8 z9 z10)
  have z0 := HX.out.cell0
  have z1 := HX.out.cell1
  have z2 := HX.out.cell2
  have z3 := HX.out.cell3
  have z4 := HX.out.cell4
  have z5 := HX.out.cell5
  have z6 := HX.out.cell6
  have z7 := HX.out.cell7
  have z8 := HX.out.cell8
  have z9 := HX.out.cell9
  have z10 := HX.out.cell10
  have HB := Lib.hid HX.out.bel
  clear HX
  go_wp2
  go_ret
  exact ⟨rfl, HB.out⟩
set_option maxHeartbeats 4000000 in
theorem back_00 (lg sp ph : Bool) (ty ve : Int) (dc sc tk : List UInt8) (le wi nu : Int) (sx : List UInt8)  (w : World) (ht : Tab w) (wty : -9223372036854775808 ≤ ty) (wty2 : ty ≤ 9223372036854775807) (wve : 0 ≤ ve) (wve2 : ve ≤ 4294967295) (wdc : dc.length ≤ 9223372036854775807) (wsc : sc.length ≤ 9223372036854775807) (wtk : tk.length ≤ 9223372036854775807) (wle : 0 ≤ le) (wle2 : le ≤ 18446744073709551615) (wwi : -9223372036854775808 ≤ wi) (wwi2 : wi ≤ 9223372036854775807) (wnu : 0 ≤ nu) (wnu2 : nu ≤ 18446744073709551615) (EB : lawB dc sc tk = true) (gs : sx.length ≤ 1200) (CP : Hid (∀ w (ht : Tab w), Calls Tryd.prog 12 #[.agg #[.bool lg, .bool sp, .bool ph, .int .i64 ty, .int .u32 ve, .string ⟨dc.toArray⟩, .string ⟨sc.toArray⟩, .string ⟨tk.toArray⟩, .int .u64 le, .int .i64 wi, .int .u64 nu]] w fun e w' => e = .returned (.tuple #[.string ⟨#[]⟩, .int .i64 1]) ∧ Below w.heap.size w w')) (CS : Hid (∀ w (ht : Tab w), Calls Tryd.prog 14 #[.string ⟨sx.toArray⟩] w fun e w' => e = .returned (.tuple #[.agg #[.bool false, .bool false, .bool false, .int .i64 0, .int .u32 0, .string ⟨#[]⟩, .string ⟨#[]⟩, .string ⟨#[]⟩, .int .u64 0, .int .i64 0, .int .u64 0], .string ⟨#[]⟩, .int .i64 40]) ∧ Below w.heap.size w w')) :
    Calls Tryd.prog 4 #[.agg #[.bool lg, .bool sp, .bool ph, .int .i64 ty, .int .u32 ve, .string ⟨dc.toArray⟩, .string ⟨sc.toArray⟩, .string ⟨tk.toArray⟩, .int .u64 le, .int .i64 wi, .int .u64 nu], .string ⟨sx.toArray⟩] w fun e w' => e = .returned (.bool true) ∧ Below w.heap.size w w' := by
  have hlt := ht.lt
  have HT := Lib.hid ht
  clear ht
  have HX := Lib.hid (Box.made w (.bool lg) (.bool sp) (.bool ph) (.int .i64 ty) (.int .u32 ve) (.string ⟨dc.toArray⟩) (.string ⟨sc.toArray⟩) (.string ⟨tk.toArray⟩) (.int .u64 le) (.int .i64 wi) (.int .u64 nu) 25)
  have CB := Lib.hid (fun w => lawBounded_any lg sp ph ty ve dc sc tk le wi nu w wty wty2 wve wve2 wdc wsc wtk wle wle2 wwi wwi2 wnu wnu2)
  rw [EB] at CB
  go_enter Tryd.func4, Tryd.ntmps4
  have HT1 := Lib.hid (HT.out.below HX.out.bel hlt)
  go_wp2_with fail
  refine (CB.out _).mono ?_
  rintro e w1 ⟨rfl, hb⟩
  replace HX := Lib.hid (HX.out.keep hb)
  clear hb
  have HT1 := Lib.hid (HT.out.below HX.out.bel hlt)
  (try clear z0 z1 z2 z3 z4 z5 z6 z7 z8 z9 z10)
  have z0 := HX.out.cell0
  have z1 := HX.out.cell1
  have z2 := HX.out.cell2
  have z3 := HX.out.cell3
  have z4 := HX.out.cell4
  have z5 := HX.out.cell5
  have z6 := HX.out.cell6
  have z7 := HX.out.cell7
  have z8 := HX.out.cell8
  have z9 := HX.out.cell9
  have z10 := HX.out.cell10
  go_wp2_with fail
  refine (shown_any _ HT1.out).mono ?_
  rintro e w1 ⟨rfl, hb⟩
  replace HX := Lib.hid (HX.out.keep hb)
  clear hb
  have HT1 := Lib.hid (HT.out.below HX.out.bel hlt)
  (try clear z0 z1 z2 z3 z4 z5 z6 z7 z8 z9 z10)
  have z0 := HX.out.cell0
  have z1 := HX.out.cell1
  have z2 := HX.out.cell2
  have z3 := HX.out.cell3
  have z4 := HX.out.cell4
  have z5 := HX.out.cell5
  have z6 := HX.out.cell6
  have z7 := HX.out.cell7
  have z8 := HX.out.cell8
  have z9 := HX.out.cell9
  have z10 := HX.out.cell10
  go_wp2_with fail
  refine (CP.out _ HT1.out).mono ?_
  rintro e w1 ⟨rfl, hb⟩
  replace HX := Lib.hid (HX.out.keep hb)
  clear hb
  have HT1 := Lib.hid (HT.out.below HX.out.bel hlt)
  (try clear z0 z1 z2 z3 z4 z5 z6 z7 z8 z9 z10)
  have z0 := HX.out.cell0
  have z1 := HX.out.cell1
  have z2 := HX.out.cell2
  have z3 := HX.out.cell3
  have z4 := HX.out.cell4
  have z5 := HX.out.cell5
  have z6 := HX.out.cell6
  have z7 := HX.out.cell7
  have z8 := HX.out.cell8
  have z9 := HX.out.cell9
  have z10 := HX.out.cell10
  go_wp2_with fail
  refine (CS.out _ HT1.out).mono ?_
  rintro e w9 ⟨rfl, hb⟩
  replace HX := Lib.hid (HX.out.keep hb)
  replace HX := Lib.hid (HX.out.keep ((Below.refl w9.heap.size w9).alloc (Nat.le_refl _) (.cells #[.bool false, .bool false, .bool false, .int .i64 0, .int .u32 0, .string ⟨#[]⟩, .string ⟨#[]⟩, .string ⟨#[]⟩, .int .u64 0, .int .i64 0, .int .u64 0] 25)))
  clear hb
  replace HT1 := Lib.hid (HT.out.below HX.out.bel hlt)
  (try clear z0 z1 z2 z3 z4 z5 z6 z7 z8 z9 z10)
  have z0 := HX.out.cell0
  have z1 := HX.out.cell1
  have z2 := HX.out.cell2
  have z3 := HX.out.cell3
  have z4 := HX.out.cell4
  have z5 := HX.out.cell5
  have z6 := HX.out.cell6
  have z7 := HX.out.cell7
  have z8 := HX.out.cell8
  have z9 := HX.out.cell9
  have z10 := HX.out.cell10
  have HB := Lib.hid HX.out.bel
  clear HX
  go_wp2
  go_ret
  exact ⟨by simp <;> omega, HB.out⟩
set_option maxHeartbeats 4000000 in
theorem back_01 (lg sp ph : Bool) (ty ve : Int) (dc sc tk : List UInt8) (le wi nu : Int) (sx : List UInt8)  (glg gsp gph : Bool) (gty gve : Int) (gdc gsc gtk : List UInt8) (gle gwi gnu : Int) (rs : List UInt8) (w : World) (ht : Tab w) (wty : -9223372036854775808 ≤ ty) (wty2 : ty ≤ 9223372036854775807) (wve : 0 ≤ ve) (wve2 : ve ≤ 4294967295) (wdc : dc.length ≤ 9223372036854775807) (wsc : sc.length ≤ 9223372036854775807) (wtk : tk.length ≤ 9223372036854775807) (wle : 0 ≤ le) (wle2 : le ≤ 18446744073709551615) (wwi : -9223372036854775808 ≤ wi) (wwi2 : wi ≤ 9223372036854775807) (wnu : 0 ≤ nu) (wnu2 : nu ≤ 18446744073709551615) (EB : lawB dc sc tk = true) (gs : sx.length ≤ 1200) (CP : Hid (∀ w (ht : Tab w), Calls Tryd.prog 12 #[.agg #[.bool lg, .bool sp, .bool ph, .int .i64 ty, .int .u32 ve, .string ⟨dc.toArray⟩, .string ⟨sc.toArray⟩, .string ⟨tk.toArray⟩, .int .u64 le, .int .i64 wi, .int .u64 nu]] w fun e w' => e = .returned (.tuple #[.string ⟨#[]⟩, .int .i64 1]) ∧ Below w.heap.size w w')) (CS : Hid (∀ w (ht : Tab w), Calls Tryd.prog 14 #[.string ⟨sx.toArray⟩] w fun e w' => e = .returned (.tuple #[.agg #[.bool glg, .bool gsp, .bool gph, .int .i64 gty, .int .u32 gve, .string ⟨(gdc).toArray⟩, .string ⟨(gsc).toArray⟩, .string ⟨(gtk).toArray⟩, .int .u64 gle, .int .i64 gwi, .int .u64 gnu], .string ⟨rs.toArray⟩, .int .i64 0]) ∧ Below w.heap.size w w')) (CY : Hid (∀ w, Calls Tryd.prog 18 #[.agg #[.bool glg, .bool gsp, .bool gph, .int .i64 gty, .int .u32 gve, .string ⟨(gdc).toArray⟩, .string ⟨(gsc).toArray⟩, .string ⟨(gtk).toArray⟩, .int .u64 gle, .int .i64 gwi, .int .u64 gnu]] w fun e w' => e = .returned (.bool true) ∧ Below w.heap.size w w')) (hr : rs.length < sx.length) :
    Calls Tryd.prog 4 #[.agg #[.bool lg, .bool sp, .bool ph, .int .i64 ty, .int .u32 ve, .string ⟨dc.toArray⟩, .string ⟨sc.toArray⟩, .string ⟨tk.toArray⟩, .int .u64 le, .int .i64 wi, .int .u64 nu], .string ⟨sx.toArray⟩] w fun e w' => e = .returned (.bool true) ∧ Below w.heap.size w w' := by
  have hlt := ht.lt
  have HT := Lib.hid ht
  clear ht
  have HX := Lib.hid (Box.made w (.bool lg) (.bool sp) (.bool ph) (.int .i64 ty) (.int .u32 ve) (.string ⟨dc.toArray⟩) (.string ⟨sc.toArray⟩) (.string ⟨tk.toArray⟩) (.int .u64 le) (.int .i64 wi) (.int .u64 nu) 25)
  have CB := Lib.hid (fun w => lawBounded_any lg sp ph ty ve dc sc tk le wi nu w wty wty2 wve wve2 wdc wsc wtk wle wle2 wwi wwi2 wnu wnu2)
  rw [EB] at CB
  go_enter Tryd.func4, Tryd.ntmps4
  have HT1 := Lib.hid (HT.out.below HX.out.bel hlt)
  go_wp2_with fail
  refine (CB.out _).mono ?_
  rintro e w1 ⟨rfl, hb⟩
  replace HX := Lib.hid (HX.out.keep hb)
  clear hb
  have HT1 := Lib.hid (HT.out.below HX.out.bel hlt)
  (try clear z0 z1 z2 z3 z4 z5 z6 z7 z8 z9 z10)
  have z0 := HX.out.cell0
  have z1 := HX.out.cell1
  have z2 := HX.out.cell2
  have z3 := HX.out.cell3
  have z4 := HX.out.cell4
  have z5 := HX.out.cell5
  have z6 := HX.out.cell6
  have z7 := HX.out.cell7
  have z8 := HX.out.cell8
  have z9 := HX.out.cell9
  have z10 := HX.out.cell10
  go_wp2_with fail
  refine (shown_any _ HT1.out).mono ?_
  rintro e w1 ⟨rfl, hb⟩
  replace HX := Lib.hid (HX.out.keep hb)
  clear hb
  have HT1 := Lib.hid (HT.out.below HX.out.bel hlt)
  (try clear z0 z1 z2 z3 z4 z5 z6 z7 z8 z9 z10)
  have z0 := HX.out.cell0
  have z1 := HX.out.cell1
  have z2 := HX.out.cell2
  have z3 := HX.out.cell3
  have z4 := HX.out.cell4
  have z5 := HX.out.cell5
  have z6 := HX.out.cell6
  have z7 := HX.out.cell7
  have z8 := HX.out.cell8
  have z9 := HX.out.cell9
  have z10 := HX.out.cell10
  go_wp2_with fail
  refine (CP.out _ HT1.out).mono ?_
  rintro e w1 ⟨rfl, hb⟩
  replace HX := Lib.hid (HX.out.keep hb)
  clear hb
  have HT1 := Lib.hid (HT.out.below HX.out.bel hlt)
  (try clear z0 z1 z2 z3 z4 z5 z6 z7 z8 z9 z10)
  have z0 := HX.out.cell0
  have z1 := HX.out.cell1
  have z2 := HX.out.cell2
  have z3 := HX.out.cell3
  have z4 := HX.out.cell4
  have z5 := HX.out.cell5
  have z6 := HX.out.cell6
  have z7 := HX.out.cell7
  have z8 := HX.out.cell8
  have z9 := HX.out.cell9
  have z10 := HX.out.cell10
  go_wp2_with fail
  refine (CS.out _ HT1.out).mono ?_
  rintro e w9 ⟨rfl, hb⟩
  replace HX := Lib.hid (HX.out.keep hb)
  replace HX := Lib.hid (HX.out.keep ((Below.refl w9.heap.size w9).alloc (Nat.le_refl _) (.cells #[.bool glg, .bool gsp, .bool gph, .int .i64 gty, .int .u32 gve, .string ⟨(gdc).toArray⟩, .string ⟨(gsc).toArray⟩, .string ⟨(gtk).toArray⟩, .int .u64 gle, .int .i64 gwi, .int .u64 gnu] 25)))
  clear hb
  replace HT1 := Lib.hid (HT.out.below HX.out.bel hlt)
  (try clear z0 z1 z2 z3 z4 z5 z6 z7 z8 z9 z10)
  have z0 := HX.out.cell0
  have z1 := HX.out.cell1
  have z2 := HX.out.cell2
  have z3 := HX.out.cell3
  have z4 := HX.out.cell4
  have z5 := HX.out.cell5
  have z6 := HX.out.cell6
  have z7 := HX.out.cell7
  have z8 := HX.out.cell8
  have z9 := HX.out.cell9
  have z10 := HX.out.cell10
  go_wp2_with fail
  refine (CY.out _).mono ?_
  rintro e w8 ⟨rfl, hb⟩
  replace HX := Lib.hid (HX.out.keep hb)
  clear hb
  have HB := Lib.hid HX.out.bel
  clear HX
  go_wp2
  go_ret
  exact ⟨by simp <;> omega, HB.out⟩
set_option maxHeartbeats 4000000 in
theorem back_10 (lg sp ph : Bool) (ty ve : Int) (dc sc tk : List UInt8) (le wi nu : Int) (sx : List UInt8) (pl x : List UInt8) (w : World) (ht : Tab w) (wty : -9223372036854775808 ≤ ty) (wty2 : ty ≤ 9223372036854775807) (wve : 0 ≤ ve) (wve2 : ve ≤ 4294967295) (wdc : dc.length ≤ 9223372036854775807) (wsc : sc.length ≤ 9223372036854775807) (wtk : tk.length ≤ 9223372036854775807) (wle : 0 ≤ le) (wle2 : le ≤ 18446744073709551615) (wwi : -9223372036854775808 ≤ wi) (wwi2 : wi ≤ 9223372036854775807) (wnu : 0 ≤ nu) (wnu2 : nu ≤ 18446744073709551615) (EB : lawB dc sc tk = true) (gs : sx.length ≤ 1200) (CP : Hid (∀ w (ht : Tab w), Calls Tryd.prog 12 #[.agg #[.bool lg, .bool sp, .bool ph, .int .i64 ty, .int .u32 ve, .string ⟨dc.toArray⟩, .string ⟨sc.toArray⟩, .string ⟨tk.toArray⟩, .int .u64 le, .int .i64 wi, .int .u64 nu]] w fun e w' => e = .returned (.tuple #[.string ⟨pl.toArray⟩, .int .i64 0]) ∧ Below w.heap.size w w')) (hp9 : pl.length ≤ 20000) (hx9 : x.length ≤ 30000) (EX : (⟨pl.toArray⟩ : ByteArray) ++ (⟨sx.toArray⟩ : ByteArray) = ⟨x.toArray⟩) (CG : Hid (∀ w (ht : Tab w), Calls Tryd.prog 14 #[.string ⟨x.toArray⟩] w fun e w' => e = .returned (.tuple #[.agg #[.bool lg, .bool sp, .bool ph, .int .i64 ty, .int .u32 ve, .string ⟨dc.toArray⟩, .string ⟨sc.toArray⟩, .string ⟨tk.toArray⟩, .int .u64 le, .int .i64 wi, .int .u64 nu], .string ⟨sx.toArray⟩, .int .i64 0]) ∧ Below w.heap.size w w')) (CS : Hid (∀ w (ht : Tab w), Calls Tryd.prog 14 #[.string ⟨sx.toArray⟩] w fun e w' => e = .returned (.tuple #[.agg #[.bool false, .bool false, .bool false, .int .i64 0, .int .u32 0, .string ⟨#[]⟩, .string ⟨#[]⟩, .string ⟨#[]⟩, .int .u64 0, .int .i64 0, .int .u64 0], .string ⟨#[]⟩, .int .i64 40]) ∧ Below w.heap.size w w')) :
    Calls Tryd.prog 4 #[.agg #[.bool lg, .bool sp, .bool ph, .int .i64 ty, .int .u32 ve, .string ⟨dc.toArray⟩, .string ⟨sc.toArray⟩, .string ⟨tk.toArray⟩, .int .u64 le, .int .i64 wi, .int .u64 nu], .string ⟨sx.toArray⟩] w fun e w' => e = .returned (.bool true) ∧ Below w.heap.size w w' := by
  have hlt := ht.lt
  have HT := Lib.hid ht
  clear ht
  have HX := Lib.hid (Box.made w (.bool lg) (.bool sp) (.bool ph) (.int .i64 ty) (.int .u32 ve) (.string ⟨dc.toArray⟩) (.string ⟨sc.toArray⟩) (.string ⟨tk.toArray⟩) (.int .u64 le) (.int .i64 wi) (.int .u64 nu) 25)
  have CB := Lib.hid (fun w => lawBounded_any lg sp ph ty ve dc sc tk le wi nu w wty wty2 wve wve2 wdc wsc wtk wle wle2 wwi wwi2 wnu wnu2)
  rw [EB] at CB
  go_enter Tryd.func4, Tryd.ntmps4
  have HT1 := Lib.hid (HT.out.below HX.out.bel hlt)
  go_wp2_with fail
  refine (CB.out _).mono ?_
  rintro e w1 ⟨rfl, hb⟩
  replace HX := Lib.hid (HX.out.keep hb)
  clear hb
  have HT1 := Lib.hid (HT.out.below HX.out.bel hlt)
  (try clear z0 z1 z2 z3 z4 z5 z6 z7 z8 z9 z10)
  have z0 := HX.out.cell0
  have z1 := HX.out.cell1
  have z2 := HX.out.cell2
  have z3 := HX.out.cell3
  have z4 := HX.out.cell4
  have z5 := HX.out.cell5
  have z6 := HX.out.cell6
  have z7 := HX.out.cell7
  have z8 := HX.out.cell8
  have z9 := HX.out.cell9
  have z10 := HX.out.cell10
  go_wp2_with fail
  refine (shown_any _ HT1.out).mono ?_
  rintro e w1 ⟨rfl, hb⟩
  replace HX := Lib.hid (HX.out.keep hb)
  clear hb
  have HT1 := Lib.hid (HT.out.below HX.out.bel hlt)
  (try clear z0 z1 z2 z3 z4 z5 z6 z7 z8 z9 z10)
  have z0 := HX.out.cell0
  have z1 := HX.out.cell1
  have z2 := HX.out.cell2
  have z3 := HX.out.cell3
  have z4 := HX.out.cell4
  have z5 := HX.out.cell5
  have z6 := HX.out.cell6
  have z7 := HX.out.cell7
  have z8 := HX.out.cell8
  have z9 := HX.out.cell9
  have z10 := HX.out.cell10
  go_wp2_with fail
  refine (CP.out _ HT1.out).mono ?_
  rintro e w1 ⟨rfl, hb⟩
  replace HX := Lib.hid (HX.out.keep hb)
  clear hb
  have HT1 := Lib.hid (HT.out.below HX.out.bel hlt)
  (try clear z0 z1 z2 z3 z4 z5 z6 z7 z8 z9 z10)
  have z0 := HX.out.cell0
  have z1 := HX.out.cell1
  have z2 := HX.out.cell2
  have z3 := HX.out.cell3
  have z4 := HX.out.cell4
  have z5 := HX.out.cell5
  have z6 := HX.out.cell6
  have z7 := HX.out.cell7
  have z8 := HX.out.cell8
  have z9 := HX.out.cell9
  have z10 := HX.out.cell10
  go_wp2_with fail
  refine (CG.out _ HT1.out).mono ?_
  rintro e w9 ⟨rfl, hb⟩
  replace HX := Lib.hid (HX.out.keep hb)
  replace HX := Lib.hid (HX.out.keep ((Below.refl w9.heap.size w9).alloc (Nat.le_refl _) (.cells #[.bool lg, .bool sp, .bool ph, .int .i64 ty, .int .u32 ve, .string ⟨dc.toArray⟩, .string ⟨sc.toArray⟩, .string ⟨tk.toArray⟩, .int .u64 le, .int .i64 wi, .int .u64 nu] 25)))
  clear hb
  replace HT1 := Lib.hid (HT.out.below HX.out.bel hlt)
  (try clear z0 z1 z2 z3 z4 z5 z6 z7 z8 z9 z10)
  have z0 := HX.out.cell0
  have z1 := HX.out.cell1
  have z2 := HX.out.cell2
  have z3 := HX.out.cell3
  have z4 := HX.out.cell4
  have z5 := HX.out.cell5
  have z6 := HX.out.cell6
  have z7 := HX.out.cell7
  have z8 := HX.out.cell8
  have z9 := HX.out.cell9
  have z10 := HX.out.cell10
  go_wp2_with fail
  refine (CS.out _ HT1.out).mono ?_
  rintro e w9 ⟨rfl, hb⟩
  replace HX := Lib.hid (HX.out.keep hb)
  replace HX := Lib.hid (HX.out.keep ((Below.refl w9.heap.size w9).alloc (Nat.le_refl _) (.cells #[.bool false, .bool false, .bool false, .int .i64 0, .int .u32 0, .string ⟨#[]⟩, .string ⟨#[]⟩, .string ⟨#[]⟩, .int .u64 0, .int .i64 0, .int .u64 0] 25)))
  clear hb
  replace HT1 := Lib.hid (HT.out.below HX.out.bel hlt)
  (try clear z0 z1 z2 z3 z4 z5 z6 z7 z8 z9 z10)
  have z0 := HX.out.cell0
  have z1 := HX.out.cell1
  have z2 := HX.out.cell2
  have z3 := HX.out.cell3
  have z4 := HX.out.cell4
  have z5 := HX.out.cell5
  have z6 := HX.out.cell6
  have z7 := HX.out.cell7
  have z8 := HX.out.cell8
  have z9 := HX.out.cell9
  have z10 := HX.out.cell10
  have HB := Lib.hid HX.out.bel
  clear HX
  go_wp2
  go_ret
  exact ⟨by simp <;> omega, HB.out⟩
set_option maxHeartbeats 4000000 in
theorem back_11 (lg sp ph : Bool) (ty ve : Int) (dc sc tk : List UInt8) (le wi nu : Int) (sx : List UInt8) (pl x : List UInt8) (glg gsp gph : Bool) (gty gve : Int) (gdc gsc gtk : List UInt8) (gle gwi gnu : Int) (rs : List UInt8) (w : World) (ht : Tab w) (wty : -9223372036854775808 ≤ ty) (wty2 : ty ≤ 9223372036854775807) (wve : 0 ≤ ve) (wve2 : ve ≤ 4294967295) (wdc : dc.length ≤ 9223372036854775807) (wsc : sc.length ≤ 9223372036854775807) (wtk : tk.length ≤ 9223372036854775807) (wle : 0 ≤ le) (wle2 : le ≤ 18446744073709551615) (wwi : -9223372036854775808 ≤ wi) (wwi2 : wi ≤ 9223372036854775807) (wnu : 0 ≤ nu) (wnu2 : nu ≤ 18446744073709551615) (EB : lawB dc sc tk = true) (gs : sx.length ≤ 1200) (CP : Hid (∀ w (ht : Tab w), Calls Tryd.prog 12 #[.agg #[.bool lg, .bool sp, .bool ph, .int .i64 ty, .int .u32 ve, .string ⟨dc.toArray⟩, .string ⟨sc.toArray⟩, .string ⟨tk.toArray⟩, .int .u64 le, .int .i64 wi, .int .u64 nu]] w fun e w' => e = .returned (.tuple #[.string ⟨pl.toArray⟩, .int .i64 0]) ∧ Below w.heap.size w w')) (hp9 : pl.length ≤ 20000) (hx9 : x.length ≤ 30000) (EX : (⟨pl.toArray⟩ : ByteArray) ++ (⟨sx.toArray⟩ : ByteArray) = ⟨x.toArray⟩) (CG : Hid (∀ w (ht : Tab w), Calls Tryd.prog 14 #[.string ⟨x.toArray⟩] w fun e w' => e = .returned (.tuple #[.agg #[.bool lg, .bool sp, .bool ph, .int .i64 ty, .int .u32 ve, .string ⟨dc.toArray⟩, .string ⟨sc.toArray⟩, .string ⟨tk.toArray⟩, .int .u64 le, .int .i64 wi, .int .u64 nu], .string ⟨sx.toArray⟩, .int .i64 0]) ∧ Below w.heap.size w w')) (CS : Hid (∀ w (ht : Tab w), Calls Tryd.prog 14 #[.string ⟨sx.toArray⟩] w fun e w' => e = .returned (.tuple #[.agg #[.bool glg, .bool gsp, .bool gph, .int .i64 gty, .int .u32 gve, .string ⟨(gdc).toArray⟩, .string ⟨(gsc).toArray⟩, .string ⟨(gtk).toArray⟩, .int .u64 gle, .int .i64 gwi, .int .u64 gnu], .string ⟨rs.toArray⟩, .int .i64 0]) ∧ Below w.heap.size w w')) (CY : Hid (∀ w, Calls Tryd.prog 18 #[.agg #[.bool glg, .bool gsp, .bool gph, .int .i64 gty, .int .u32 gve, .string ⟨(gdc).toArray⟩, .string ⟨(gsc).toArray⟩, .string ⟨(gtk).toArray⟩, .int .u64 gle, .int .i64 gwi, .int .u64 gnu]] w fun e w' => e = .returned (.bool true) ∧ Below w.heap.size w w')) (hr : rs.length < sx.length) :
    Calls Tryd.prog 4 #[.agg #[.bool lg, .bool sp, .bool ph, .int .i64 ty, .int .u32 ve, .string ⟨dc.toArray⟩, .string ⟨sc.toArray⟩, .string ⟨tk.toArray⟩, .int .u64 le, .int .i64 wi, .int .u64 nu], .string ⟨sx.toArray⟩] w fun e w' => e = .returned (.bool true) ∧ Below w.heap.size w w' := by
  have hlt := ht.lt
  have HT := Lib.hid ht
  clear ht
  have HX := Lib.hid (Box.made w (.bool lg) (.bool sp) (.bool ph) (.int .i64 ty) (.int .u32 ve) (.string ⟨dc.toArray⟩) (.string ⟨sc.toArray⟩) (.string ⟨tk.toArray⟩) (.int .u64 le) (.int .i64 wi) (.int .u64 nu) 25)
  have CB := Lib.hid (fun w => lawBounded_any lg sp ph ty ve dc sc tk le wi nu w wty wty2 wve wve2 wdc wsc wtk wle wle2 wwi wwi2 wnu wnu2)
  rw [EB] at CB
  go_enter Tryd.func4, Tryd.ntmps4
  have HT1 := Lib.hid (HT.out.below HX.out.bel hlt)
  go_wp2_with fail
  refine (CB.out _).mono ?_
  rintro e w1 ⟨rfl, hb⟩
  replace HX := Lib.hid (HX.out.keep hb)
  clear hb
  have HT1 := Lib.hid (HT.out.below HX.out.bel hlt)
  (try clear z0 z1 z2 z3 z4 z5 z6 z7 z8 z9 z10)
  have z0 := HX.out.cell0
  have z1 := HX.out.cell1
  have z2 := HX.out.cell2
  have z3 := HX.out.cell3
  have z4 := HX.out.cell4
  have z5 := HX.out.cell5
  have z6 := HX.out.cell6
  have z7 := HX.out.cell7
  have z8 := HX.out.cell8
  have z9 := HX.out.cell9
  have z10 := HX.out.cell10
  go_wp2_with fail
  refine (shown_any _ HT1.out).mono ?_
  rintro e w1 ⟨rfl, hb⟩
  replace HX := Lib.hid (HX.out.keep hb)
  clear hb
  have HT1 := Lib.hid (HT.out.below HX.out.bel hlt)
  (try clear z0 z1 z2 z3 z4 z5 z6 z7 z8 z9 z10)
  have z0 := HX.out.cell0
  have z1 := HX.out.cell1
  have z2 := HX.out.cell2
  have z3 := HX.out.cell3
  have z4 := HX.out.cell4
  have z5 := HX.out.cell5
  have z6 := HX.out.cell6
  have z7 := HX.out.cell7
  have z8 := HX.out.cell8
  have z9 := HX.out.cell9
  have z10 := HX.out.cell10
  go_wp2_with fail
  refine (CP.out _ HT1.out).mono ?_
  rintro e w1 ⟨rfl, hb⟩
  replace HX := Lib.hid (HX.out.keep hb)
  clear hb
  have HT1 := Lib.hid (HT.out.below HX.out.bel hlt)
  (try clear z0 z1 z2 z3 z4 z5 z6 z7 z8 z9 z10)
  have z0 := HX.out.cell0
  have z1 := HX.out.cell1
  have z2 := HX.out.cell2
  have z3 := HX.out.cell3
  have z4 := HX.out.cell4
  have z5 := HX.out.cell5
  have z6 := HX.out.cell6
  have z7 := HX.out.cell7
  have z8 := HX.out.cell8
  have z9 := HX.out.cell9
  have z10 := HX.out.cell10
  go_wp2_with fail
  refine (CG.out _ HT1.out).mono ?_
  rintro e w9 ⟨rfl, hb⟩
  replace HX := Lib.hid (HX.out.keep hb)
  replace HX := Lib.hid (HX.out.keep ((Below.refl w9.heap.size w9).alloc (Nat.le_refl _) (.cells #[.bool lg, .bool sp, .bool ph, .int .i64 ty, .int .u32 ve, .string ⟨dc.toArray⟩, .string ⟨sc.toArray⟩, .string ⟨tk.toArray⟩, .int .u64 le, .int .i64 wi, .int .u64 nu] 25)))
  clear hb
  replace HT1 := Lib.hid (HT.out.below HX.out.bel hlt)
  (try clear z0 z1 z2 z3 z4 z5 z6 z7 z8 z9 z10)
  have z0 := HX.out.cell0
  have z1 := HX.out.cell1
  have z2 := HX.out.cell2
  have z3 := HX.out.cell3
  have z4 := HX.out.cell4
  have z5 := HX.out.cell5
  have z6 := HX.out.cell6
  have z7 := HX.out.cell7
  have z8 := HX.out.cell8
  have z9 := HX.out.cell9
  have z10 := HX.out.cell10
  go_wp2_with fail
  refine (CS.out _ HT1.out).mono ?_
  rintro e w9 ⟨rfl, hb⟩
  replace HX := Lib.hid (HX.out.keep hb)
  replace HX := Lib.hid (HX.out.keep ((Below.refl w9.heap.size w9).alloc (Nat.le_refl _) (.cells #[.bool glg, .bool gsp, .bool gph, .int .i64 gty, .int .u32 gve, .string ⟨(gdc).toArray⟩, .string ⟨(gsc).toArray⟩, .string ⟨(gtk).toArray⟩, .int .u64 gle, .int .i64 gwi, .int .u64 gnu] 25)))
  clear hb
  replace HT1 := Lib.hid (HT.out.below HX.out.bel hlt)
  (try clear z0 z1 z2 z3 z4 z5 z6 z7 z8 z9 z10)
  have z0 := HX.out.cell0
  have z1 := HX.out.cell1
  have z2 := HX.out.cell2
  have z3 := HX.out.cell3
  have z4 := HX.out.cell4
  have z5 := HX.out.cell5
  have z6 := HX.out.cell6
  have z7 := HX.out.cell7
  have z8 := HX.out.cell8
  have z9 := HX.out.cell9
  have z10 := HX.out.cell10
  go_wp2_with fail
  refine (CY.out _).mono ?_
  rintro e w8 ⟨rfl, hb⟩
  replace HX := Lib.hid (HX.out.keep hb)
  clear hb
  have HB := Lib.hid HX.out.bel
  clear HX
  go_wp2
  go_ret
  exact ⟨by simp <;> omega, HB.out⟩
theorem back_any (lg sp ph : Bool) (ty ve : Int) (dc sc tk : List UInt8) (le wi nu : Int) (sx : List UInt8) (w : World) (ht : Tab w) (wty : -9223372036854775808 ≤ ty) (wty2 : ty ≤ 9223372036854775807) (wve : 0 ≤ ve) (wve2 : ve ≤ 4294967295) (wdc : dc.length ≤ 9223372036854775807) (wsc : sc.length ≤ 9223372036854775807) (wtk : tk.length ≤ 9223372036854775807) (wle : 0 ≤ le) (wle2 : le ≤ 18446744073709551615) (wwi : -9223372036854775808 ≤ wi) (wwi2 : wi ≤ 9223372036854775807) (wnu : 0 ≤ nu) (wnu2 : nu ≤ 18446744073709551615) (ws : sx.length ≤ 9223372036854775807) :
    Calls Tryd.prog 4 #[.agg #[.bool lg, .bool sp, .bool ph, .int .i64 ty, .int .u32 ve, .string ⟨dc.toArray⟩, .string ⟨sc.toArray⟩, .string ⟨tk.toArray⟩, .int .u64 le, .int .i64 wi, .int .u64 nu], .string ⟨sx.toArray⟩] w fun e w' => e = .returned (.bool true) ∧ Below w.heap.size w w' := by
  cases EB : lawB dc sc tk with
  | false => exact back_no0 lg sp ph ty ve dc sc tk le wi nu sx w ht wty wty2 wve wve2 wdc wsc wtk wle wle2 wwi wwi2 wnu wnu2 EB ws
  | true =>
    by_cases gs : sx.length ≤ 1200
    rotate_left
    · exact back_no1 lg sp ph ty ve dc sc tk le wi nu sx w ht wty wty2 wve wve2 wdc wsc wtk wle wle2 wwi wwi2 wnu wnu2 EB ws gs
    have CS0 := fun w (ht : Tab w) => Get_any sx w ht (by omega)
    cases EM : mayB lg sp ph ty ve dc sc tk le wi nu with
    | false =>
      have CP := Lib.hid (fun w (ht : Tab w) => Put_no lg sp ph ty ve dc sc tk le wi nu w ht wty wty2 wve wve2 wdc wsc wtk wle wle2 wwi wwi2 wnu wnu2 EM)
      cases hs : getO sx with
      | none =>
        have hn := none_get hs
        rw [hn.1, hn.2.1, hn.2.2] at CS0
        exact back_00 lg sp ph ty ve dc sc tk le wi nu sx w ht wty wty2 wve wve2 wdc wsc wtk wle wle2 wwi wwi2 wnu wnu2 EB gs CP (Lib.hid CS0)
      | some y =>
        obtain ⟨a1, a2, a3, a4, a5, a6, a7, a8, a9, a10⟩ := get_wf hs
        have e1 : gHd sx = y.1 := by unfold gHd; rw [hs]
        have e2 : gRs sx = y.2 := by unfold gRs; rw [hs]
        have e3 : gEr sx = 0 := by unfold gEr; rw [hs]
        rw [e1, e2, e3] at CS0
        have CY := fun w => may_any y.1.lg y.1.sp y.1.ph y.1.ty y.1.ve y.1.dc y.1.sc y.1.tk y.1.le y.1.wi y.1.nu w (by omega) (by omega) a2.1 a2.2 (by omega) (by omega) (by omega) a6.1 (by omega) (by omega) (by omega) a8.1 (by omega)
        rw [a10] at CY
        exact back_01 lg sp ph ty ve dc sc tk le wi nu sx y.1.lg y.1.sp y.1.ph y.1.ty y.1.ve y.1.dc y.1.sc y.1.tk y.1.le y.1.wi y.1.nu y.2 w ht wty wty2 wve wve2 wdc wsc wtk wle wle2 wwi wwi2 wnu wnu2 EB gs CP (Lib.hid CS0) (Lib.hid CY) a9
    | true =>
      have CP := Lib.hid (fun w (ht : Tab w) => Put_yes lg sp ph ty ve dc sc tk le wi nu w ht wty wty2 wve wve2 wdc wsc wtk wle wle2 wwi wwi2 wnu wnu2 EM)
      have hg := get_put EM wve wve2 wle wnu sx
      have hpl := putL_len EM
      generalize putL lg sp ph ty ve dc sc tk le wi nu = pl at CP hg hpl
      have hxl : (pl ++ sx).length ≤ 30000 := by rw [List.length_append]; omega
      have CG0 := fun w (ht : Tab w) => Get_any (pl ++ sx) w ht (by omega)
      have e1 : gHd (pl ++ sx) = ⟨lg, sp, ph, ty, ve, dc, sc, tk, le, wi, nu⟩ := by unfold gHd; rw [hg]
      have e2 : gRs (pl ++ sx) = sx := by unfold gRs; rw [hg]
      have e3 : gEr (pl ++ sx) = 0 := by unfold gEr; rw [hg]
      rw [e1, e2, e3] at CG0
      cases hs : getO sx with
      | none =>
        have hn := none_get hs
        rw [hn.1, hn.2.1, hn.2.2] at CS0
        exact back_10 lg sp ph ty ve dc sc tk le wi nu sx pl (pl ++ sx) w ht wty wty2 wve wve2 wdc wsc wtk wle wle2 wwi wwi2 wnu wnu2 EB gs CP hpl.1 hxl (app_two _ _) (Lib.hid CG0) (Lib.hid CS0)
      | some y =>
        obtain ⟨a1, a2, a3, a4, a5, a6, a7, a8, a9, a10⟩ := get_wf hs
        have e1 : gHd sx = y.1 := by unfold gHd; rw [hs]
        have e2 : gRs sx = y.2 := by unfold gRs; rw [hs]
        have e3 : gEr sx = 0 := by unfold gEr; rw [hs]
        rw [e1, e2, e3] at CS0
        have CY := fun w => may_any y.1.lg y.1.sp y.1.ph y.1.ty y.1.ve y.1.dc y.1.sc y.1.tk y.1.le y.1.wi y.1.nu w (by omega) (by omega) a2.1 a2.2 (by omega) (by omega) (by omega) a6.1 (by omega) (by omega) (by omega) a8.1 (by omega)
        rw [a10] at CY
        exact back_11 lg sp ph ty ve dc sc tk le wi nu sx pl (pl ++ sx) y.1.lg y.1.sp y.1.ph y.1.ty y.1.ve y.1.dc y.1.sc y.1.tk y.1.le y.1.wi y.1.nu y.2 w ht wty wty2 wve wve2 wdc wsc wtk wle wle2 wwi wwi2 wnu wnu2 EB gs CP hpl.1 hxl (app_two _ _) (Lib.hid CG0) (Lib.hid CS0) (Lib.hid CY) a9
theorem law_back (lg sp ph : Bool) (ty ve : Int) (dc sc tk : List UInt8) (le wi nu : Int) (sx : List UInt8) (w : World) (ht : Tab w) (w3 : (Lit.int .i64 ty).wf = true) (w4 : (Lit.int .u32 ve).wf = true) (w5 : (⟨dc.toArray⟩ : ByteArray).size ≤ maxLen) (w6 : (⟨sc.toArray⟩ : ByteArray).size ≤ maxLen) (w7 : (⟨tk.toArray⟩ : ByteArray).size ≤ maxLen) (w8 : (Lit.int .u64 le).wf = true) (w9 : (Lit.int .i64 wi).wf = true) (w10 : (Lit.int .u64 nu).wf = true) (ws : (⟨sx.toArray⟩ : ByteArray).size ≤ maxLen) :
    Calls Tryd.prog 4 #[.agg #[.bool lg, .bool sp, .bool ph, .int .i64 ty, .int .u32 ve, .string ⟨dc.toArray⟩, .string ⟨sc.toArray⟩, .string ⟨tk.toArray⟩, .int .u64 le, .int .i64 wi, .int .u64 nu], .string ⟨sx.toArray⟩] w fun e w' => e = .returned (.bool true) ∧ Below w.heap.size w w' :=
  back_any lg sp ph ty ve dc sc tk le wi nu sx w ht (bounds_i64 w3).1 (bounds_i64 w3).2 (bounds_u32 w4).1 (bounds_u32 w4).2 (str_len w5) (str_len w6) (str_len w7) (bounds_u64 w8).1 (bounds_u64 w8).2 (bounds_i64 w9).1 (bounds_i64 w9).2 (bounds_u64 w10).1 (bounds_u64 w10).2 (str_len ws)
end Go.Proofs.YtpjhpknbnbiabaaDoor.Hd
