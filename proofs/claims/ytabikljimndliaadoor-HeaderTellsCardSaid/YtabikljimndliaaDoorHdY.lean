/- The walks of layer 4: Put in one word; the law's bound; the small case that must go well. By tools/gen-header-shown.py. -/
import Derived.Test.YtabikljimndliaaDoorHdX
namespace Go.Proofs.YtabikljimndliaaDoor.Hd
open Go.RowKit Vm
set_option linter.unusedVariables false
set_option linter.unusedSimpArgs false

/-- A header's bytes. -/
def putL (lg sp ph : Bool) (ty ve : Int) (dc sc tk : List UInt8) (le wi nu : Int) : List UInt8 :=
  by1 (fbN lg sp ph ty wi) :: (if lg then lpL ty ve dc sc tk le else dc) ++ fx nu.toNat wi.toNat
theorem may_parts {lg sp ph : Bool} {ty ve : Int} {dc sc tk : List UInt8} {le wi nu : Int} (h : mayB lg sp ph ty ve dc sc tk le wi nu = true) : keptB lg sp ph ty ve sc tk le = true ∧ bndB lg ty dc sc tk le = true ∧ 1 ≤ wi ∧ wi ≤ 4 ∧ nu < 256 ^ wi.toNat := by
  unfold mayB at h
  simp only [Bool.and_eq_true] at h
  have h2 := h.2
  unfold numB at h2
  have := of_decide_eq_true h2
  exact ⟨h.1.1, h.1.2, this⟩
theorem bnd_parts {ty : Int} {dc sc tk : List UInt8} {le : Int} (h : bndB true ty dc sc tk le = true) : 0 ≤ ty ∧ ty ≤ 2 ∧ dc.length ≤ 20 ∧ sc.length ≤ 20 ∧ tk.length ≤ 1000 ∧ le ≤ 4611686018427387903 := by
  unfold bndB at h; rw [if_pos rfl] at h; exact of_decide_eq_true h
theorem bnd_short {ty : Int} {dc sc tk : List UInt8} {le : Int} (h : bndB false ty dc sc tk le = true) : dc.length = 8 := by
  unfold bndB at h; rw [if_neg (by decide)] at h; exact of_decide_eq_true h
theorem Put_yes (lg sp ph : Bool) (ty ve : Int) (dc sc tk : List UInt8) (le wi nu : Int) (w : World) (ht : Tab w) (wty : -9223372036854775808 ≤ ty) (wty2 : ty ≤ 9223372036854775807) (wve : 0 ≤ ve) (wve2 : ve ≤ 4294967295) (wdc : dc.length ≤ 9223372036854775807) (wsc : sc.length ≤ 9223372036854775807) (wtk : tk.length ≤ 9223372036854775807) (wle : 0 ≤ le) (wle2 : le ≤ 18446744073709551615) (wwi : -9223372036854775808 ≤ wi) (wwi2 : wi ≤ 9223372036854775807) (wnu : 0 ≤ nu) (wnu2 : nu ≤ 18446744073709551615) (EM : mayB lg sp ph ty ve dc sc tk le wi nu = true) :
    Calls Tryd.prog 7 #[.agg #[.bool lg, .bool sp, .bool ph, .int .i64 ty, .int .u32 ve, .string ⟨dc.toArray⟩, .string ⟨sc.toArray⟩, .string ⟨tk.toArray⟩, .int .u64 le, .int .i64 wi, .int .u64 nu]] w fun e w' => e = .returned (.tuple #[.string ⟨(putL lg sp ph ty ve dc sc tk le wi nu).toArray⟩, .int .i64 0]) ∧ Below w.heap.size w w' := by
  have hp := may_parts EM
  cases lg with
  | true =>
    have hb := bnd_parts hp.2.1
    exact put_l sp ph ty ve dc sc tk le wi nu w ht wty wty2 wve wve2 wdc wsc wtk wle wle2 wwi wwi2 wnu wnu2 (Lib.hid EM) hp.2.2.1 hp.2.2.2.1 hb.1 hb.2.1 hb.2.2.1 hb.2.2.2.1 hb.2.2.2.2.1
  | false =>
    have hb := bnd_short hp.2.1
    exact put_s sp ph ty ve dc sc tk le wi nu w ht wty wty2 wve wve2 wdc wsc wtk wle wle2 wwi wwi2 wnu wnu2 (Lib.hid EM) hp.2.2.1 hp.2.2.2.1 (by omega)
theorem Put_no (lg sp ph : Bool) (ty ve : Int) (dc sc tk : List UInt8) (le wi nu : Int) (w : World) (ht : Tab w) (wty : -9223372036854775808 ≤ ty) (wty2 : ty ≤ 9223372036854775807) (wve : 0 ≤ ve) (wve2 : ve ≤ 4294967295) (wdc : dc.length ≤ 9223372036854775807) (wsc : sc.length ≤ 9223372036854775807) (wtk : tk.length ≤ 9223372036854775807) (wle : 0 ≤ le) (wle2 : le ≤ 18446744073709551615) (wwi : -9223372036854775808 ≤ wi) (wwi2 : wi ≤ 9223372036854775807) (wnu : 0 ≤ nu) (wnu2 : nu ≤ 18446744073709551615) (EM : mayB lg sp ph ty ve dc sc tk le wi nu = false) :
    Calls Tryd.prog 7 #[.agg #[.bool lg, .bool sp, .bool ph, .int .i64 ty, .int .u32 ve, .string ⟨dc.toArray⟩, .string ⟨sc.toArray⟩, .string ⟨tk.toArray⟩, .int .u64 le, .int .i64 wi, .int .u64 nu]] w fun e w' => e = .returned (.tuple #[.string ⟨#[]⟩, .int .i64 1]) ∧ Below w.heap.size w w' :=
  put_no lg sp ph ty ve dc sc tk le wi nu w ht wty wty2 wve wve2 wdc wsc wtk wle wle2 wwi wwi2 wnu wnu2 (Lib.hid EM)
theorem may_shown : mayB false false false 0 0 [1, 1, 1, 1, 1, 1, 1, 1] [] [] 0 2 258 = true := by decide
theorem put_shown : putL false false false 0 0 [1, 1, 1, 1, 1, 1, 1, 1] [] [] 0 2 258 = [65, 1, 1, 1, 1, 1, 1, 1, 1, 1, 2] := by decide
theorem hd_shown : gHd [65, 1, 1, 1, 1, 1, 1, 1, 1, 1, 2, 120] = ⟨false, false, false, 0, 0, [1, 1, 1, 1, 1, 1, 1, 1], [], [], 0, 2, 258⟩ := by kernel_rfl
theorem rs_shown : gRs [65, 1, 1, 1, 1, 1, 1, 1, 1, 1, 2, 120] = [120] := by kernel_rfl
theorem er_shown : gEr [65, 1, 1, 1, 1, 1, 1, 1, 1, 1, 2, 120] = 0 := by kernel_rfl
theorem mk_shown : mskL [65, 1, 1, 1, 1, 1, 1, 1, 1, 1, 2, 120] [255, 1, 2, 3, 4] = [94, 1, 1, 1, 1, 1, 1, 1, 1, 0, 0, 120] := by kernel_rfl
theorem mke_shown : mskE [65, 1, 1, 1, 1, 1, 1, 1, 1, 1, 2, 120] [255, 1, 2, 3, 4] = 0 := by kernel_rfl
theorem um_shown : umL [94, 1, 1, 1, 1, 1, 1, 1, 1, 0, 0, 120] [255, 1, 2, 3, 4] = [65, 1, 1, 1, 1, 1, 1, 1, 1, 1, 2, 120] := by kernel_rfl
theorem ume_shown : umE [94, 1, 1, 1, 1, 1, 1, 1, 1, 0, 0, 120] [255, 1, 2, 3, 4] = 0 := by kernel_rfl
set_option maxHeartbeats 4000000 in
theorem shown_any (w : World) (ht : Tab w) :
    Calls Tryd.prog 6 #[] w fun e w' => e = .returned (.bool true) ∧ Below w.heap.size w w' := by
  have hlt := ht.lt
  have HT := Lib.hid ht
  clear ht
  have C1 := Lib.hid (fun w (ht : Tab w) => Put_yes false false false 0 0 [1, 1, 1, 1, 1, 1, 1, 1] [] [] 0 2 258 w ht (by omega) (by omega) (by omega) (by omega) (by decide) (by decide) (by decide) (by omega) (by omega) (by omega) (by omega) (by omega) (by omega) may_shown)
  rw [put_shown] at C1
  have C2 := Lib.hid (fun w (ht : Tab w) => Get_any [65, 1, 1, 1, 1, 1, 1, 1, 1, 1, 2, 120] w ht (by decide))
  rw [hd_shown, rs_shown, er_shown] at C2
  have C3 := Lib.hid (fun w (ht : Tab w) => Mask_any [65, 1, 1, 1, 1, 1, 1, 1, 1, 1, 2, 120] [255, 1, 2, 3, 4] w ht (by decide))
  rw [mk_shown, mke_shown] at C3
  have C4 := Lib.hid (fun w (ht : Tab w) => Unmask_any [94, 1, 1, 1, 1, 1, 1, 1, 1, 0, 0, 120] [255, 1, 2, 3, 4] w ht (by decide))
  rw [um_shown, ume_shown] at C4
  have HX := Lib.hid (Box.made w (.bool false) (.bool false) (.bool false) (.int .i64 0) (.int .u32 0) (.string ⟨#[1, 1, 1, 1, 1, 1, 1, 1]⟩) (.string ⟨#[]⟩) (.string ⟨#[]⟩) (.int .u64 0) (.int .i64 2) (.int .u64 258) 25)
  go_enter Tryd.func6, Tryd.ntmps6
  go_wp2_with fail
  refine (C1.out _ ?_).mono ?_
  · exact HT.out.below HX.out.bel hlt
  rintro e w1 ⟨rfl, hb⟩
  replace HX := Lib.hid (HX.out.keep hb)
  clear hb
  have HT1 := Lib.hid (HT.out.below HX.out.bel hlt)
  have E12 : (⟨#[65, 1, 1, 1, 1, 1, 1, 1, 1, 1, 2]⟩ : ByteArray) ++ (⟨#[120]⟩ : ByteArray) = ⟨#[65, 1, 1, 1, 1, 1, 1, 1, 1, 1, 2, 120]⟩ := rfl
  go_wp2_with fail
  refine (C2.out _ HT1.out).mono ?_
  rintro e w2 ⟨rfl, hb⟩
  replace HX := Lib.hid (HX.out.keep hb)
  clear hb HT1
  have HY := Lib.hid (Box.made w2 (.bool false) (.bool false) (.bool false) (.int .i64 0) (.int .u32 0) (.string ⟨#[1, 1, 1, 1, 1, 1, 1, 1]⟩) (.string ⟨#[]⟩) (.string ⟨#[]⟩) (.int .u64 0) (.int .i64 2) (.int .u64 258) 25)
  replace HX := Lib.hid (HX.out.keep ((Below.refl w2.heap.size w2).alloc (Nat.le_refl _) (.cells #[.bool false, .bool false, .bool false, .int .i64 0, .int .u32 0, .string ⟨#[1, 1, 1, 1, 1, 1, 1, 1]⟩, .string ⟨#[]⟩, .string ⟨#[]⟩, .int .u64 0, .int .i64 2, .int .u64 258] 25)))
  have HT1 := Lib.hid (HT.out.below HX.out.bel hlt)
  go_wp2_with fail
  refine (C3.out _ HT1.out).mono ?_
  rintro e w3 ⟨rfl, hb⟩
  replace HX := Lib.hid (HX.out.keep hb)
  replace HY := Lib.hid (HY.out.keep hb)
  clear hb HT1
  have HT1 := Lib.hid (HT.out.below HX.out.bel hlt)
  go_wp2_with fail
  refine (C4.out _ HT1.out).mono ?_
  rintro e w4 ⟨rfl, hb⟩
  replace HX := Lib.hid (HX.out.keep hb)
  replace HY := Lib.hid (HY.out.keep hb)
  clear hb HT1
  obtain ⟨x0, x1, x2, x3, x4, x5, x6, x7, x8, x9, x10, hxB, hxs⟩ := HX.out
  obtain ⟨y0, y1, y2, y3, y4, y5, y6, y7, y8, y9, y10, hyB, hys⟩ := HY.out
  have HB := Lib.hid hxB
  clear hxB hxs hyB hys
  go_wp2
  go_ret
  exact ⟨by simp, HB.out⟩
end Go.Proofs.YtabikljimndliaaDoor.Hd
