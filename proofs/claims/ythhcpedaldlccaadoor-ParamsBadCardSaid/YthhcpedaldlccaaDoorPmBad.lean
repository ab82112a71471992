/- The walk of the law ParamsBad. By tools/gen-params-7.py. -/
import Derived.Test.YthhcpedaldlccaaDoorPmNone
namespace Go.Proofs.YthhcpedaldlccaaDoor.Pm
open Go.RowKit Vm
set_option linter.unusedVariables false
set_option linter.unusedSimpArgs false

theorem none_of {l : List UInt8} (h : (getO l).isNone = true) : getO l = none := Option.isNone_iff_eq_none.1 h
def okP0 : Prm := { usual with size := 1200 }
def noP0 : Prm := { usual with size := 1199 }
theorem okP0_put : putL okP0 = [3, 2, 68, 176] := by decide
theorem okP0_chk : chkB okP0 = true := by decide
theorem noP0_chk : chkB noP0 = false := by decide
theorem okP0_wf : Wf okP0 := ⟨by decide, by decide, by decide, by decide, by decide, by decide, by decide, by decide, by decide, by decide, by decide, by decide⟩
theorem noP0_wf : Wf noP0 := ⟨by decide, by decide, by decide, by decide, by decide, by decide, by decide, by decide, by decide, by decide, by decide, by decide⟩
theorem bad0_get : getO [3, 2, 68, 175] = none := none_of (by decide)
set_option maxHeartbeats 8000000 in
theorem bad_0 (n : Int) (w : World) (ht : Tabs w) (h0 : 0 ≤ n ∧ n ≤ 255) (hx : n.tmod 5 = 0) : Calls Tryd.prog 7 #[.int .u8 n] w fun e w' => e = .returned (.bool true) ∧ Below w.heap.size w w' := by
  have CP : Hid (∀ w, Tabs w → Calls Tryd.prog 9 #[(.agg #[.int .u64 0, .int .u64 1200, .int .u64 0, .int .u64 0, .int .u64 0, .int .u64 0, .int .u64 0, .int .u64 0, .int .u64 3, .int .u64 25, .int .u64 2, .string ⟨#[]⟩])] w fun e w' => e = .returned (.tuple #[.string ⟨#[3, 2, 68, 176]⟩, .int .i64 0]) ∧ Below w.heap.size w w') := Lib.hid (fun w ht => by
    have := put_some okP0_chk w okP0_wf ht
    rw [okP0_put] at this
    exact this)
  have CQ : Hid (∀ w, Tabs w → Calls Tryd.prog 9 #[(.agg #[.int .u64 0, .int .u64 1199, .int .u64 0, .int .u64 0, .int .u64 0, .int .u64 0, .int .u64 0, .int .u64 0, .int .u64 3, .int .u64 25, .int .u64 2, .string ⟨#[]⟩])] w fun e w' => e = .returned (.tuple #[.string ⟨#[]⟩, .int .i64 50]) ∧ Below w.heap.size w w') := Lib.hid (fun w ht => put_none noP0_chk w noP0_wf ht)
  have CG : Hid (∀ w, Tabs w → Calls Tryd.prog 11 #[.string ⟨#[3, 2, 68, 176]⟩] w fun e w' => e = .returned (.tuple #[(.agg #[.int .u64 0, .int .u64 1200, .int .u64 0, .int .u64 0, .int .u64 0, .int .u64 0, .int .u64 0, .int .u64 0, .int .u64 3, .int .u64 25, .int .u64 2, .string ⟨#[]⟩]), .int .i64 0]) ∧ Below w.heap.size w w') := Lib.hid (fun w ht => by
    have := back_some okP0_chk w okP0_wf (putL_few okP0_chk) ht
    rw [okP0_put] at this
    exact this)
  have CB : Hid (∀ w, Tabs w → Calls Tryd.prog 11 #[.string ⟨#[3, 2, 68, 175]⟩] w fun e w' => e = .returned (.tuple #[pv zeroP, .int .i64 50]) ∧ Below w.heap.size w w') := Lib.hid (fun w ht => get_none bad0_get w (by decide) ht)
  have CS : Hid (∀ w, Tabs w → Calls Tryd.prog 8 #[] w fun e w' => e = .returned (.bool true) ∧ Below w.heap.size w w') := Lib.hid shown_any
  have HT := Lib.hid ht
  clear ht
  go_enter Tryd.func7, Tryd.ntmps7
  go_wp2_with fail
  refine (default_any _).mono ?_
  rintro e w1 ⟨rfl, hb1⟩
  have H1 := Lib.hid hb1
  clear hb1
  go_wp2_with fail
  refine (default_any _).mono ?_
  rintro e w2 ⟨rfl, hb⟩
  have HA : Hid (PBk w1.heap.size usual w2) := Lib.hid ((PBk.made w1 usual).keep hb)
  have H2 := Lib.hid ((H1.out.alloc H1.out.size _).trans (hb.mono (by have := H1.out.size; simp; omega)))
  have hlA := HA.out.lt
  clear hb
  obtain ⟨a0, a1, a2, a3, a4, a5, a6, a7, a8, a9, a10, a11⟩ := pcells (v0 := 0) (v1 := 65527) (v2 := 0) (v3 := 0) (v4 := 0) (v5 := 0) (v6 := 0) (v7 := 0) (v8 := 3) (v9 := 25) (v10 := 2) (v11 := #[]) HA.out rfl
  have fA := HA.out.fz
  go_wp2_with fail
  have HX : Hid (Below w.heap.size w ((w2.setCell ⟨w1.heap.size, 1, none⟩ (.int .u64 1200)).alloc (.cells #[.int .u64 0, .int .u64 1199, .int .u64 0, .int .u64 0, .int .u64 0, .int .u64 0, .int .u64 0, .int .u64 0, .int .u64 3, .int .u64 25, .int .u64 2, .string ⟨#[]⟩] 24))) := Lib.hid ((H2.out.setCell (p := ⟨w1.heap.size, 1, none⟩) H1.out.size _).alloc (by have := H2.out.size; simp; omega) _)
  refine (CP.out _ (HT.out.below HX.out (Nat.le_refl _))).mono ?_
  rintro e w3 ⟨rfl, hb⟩
  have HP3 : Hid (PBk w1.heap.size okP0 w3) := Lib.hid (((HA.out.set1 1200).keep ((Below.refl _ _).alloc (Nat.le_refl _) _)).keep hb)
  have HQ3 : Hid (PBk w2.heap.size noP0 w3) := Lib.hid (by
    have h := PBk.made (w2.setCell ⟨w1.heap.size, 1, none⟩ (.int .u64 1200)) noP0
    have e : (w2.setCell ⟨w1.heap.size, 1, none⟩ (.int .u64 1200)).heap.size = w2.heap.size := by simp
    rw [e] at h
    exact h.keep hb)
  have H3 := Lib.hid (HX.out.trans (hb.mono HX.out.size))
  clear hb HA HX fA a0 a1 a2 a3 a4 a5 a6 a7 a8 a9 a10 a11
  obtain ⟨b0, b1, b2, b3, b4, b5, b6, b7, b8, b9, b10, b11⟩ := pcells (v0 := 0) (v1 := 1199) (v2 := 0) (v3 := 0) (v4 := 0) (v5 := 0) (v6 := 0) (v7 := 0) (v8 := 3) (v9 := 25) (v10 := 2) (v11 := #[]) HQ3.out rfl
  go_wp2_with fail
  refine (CQ.out _ (HT.out.below H3.out (Nat.le_refl _))).mono ?_
  rintro e w4 ⟨rfl, hb⟩
  have HP4 := Lib.hid (HP3.out.keep hb)
  have H4 := Lib.hid (H3.out.trans (hb.mono H3.out.size))
  clear hb HP3 HQ3 b0 b1 b2 b3 b4 b5 b6 b7 b8 b9 b10 b11
  go_wp2_with fail
  refine (CG.out _ (HT.out.below H4.out (Nat.le_refl _))).mono ?_
  rintro e w5 ⟨rfl, hb⟩
  have HP5 := Lib.hid (HP4.out.keep hb)
  have H5 := Lib.hid (H4.out.trans (hb.mono H4.out.size))
  clear hb HP4
  go_wp2_with fail
  refine (CB.out _ (HT.out.below ((H5.out.alloc H5.out.size _).alloc (by have := H5.out.size; simp; omega) _) (Nat.le_refl _))).mono ?_
  rintro e w6 ⟨rfl, hb⟩
  have HP6 := Lib.hid ((HP5.out.keep (((Below.refl _ _).alloc (Nat.le_refl _) _).alloc (by simp) _)).keep hb)
  have HR6 : Hid (PBk w5.heap.size okP0 w6) := Lib.hid (((PBk.made w5 okP0).keep ((Below.refl _ _).alloc (Nat.le_refl _) _)).keep hb)
  have H6 := Lib.hid (((H5.out.alloc H5.out.size _).alloc (by have := H5.out.size; simp; omega) _).trans (hb.mono (by have := H5.out.size; simp; omega)))
  clear hb HP5
  have hlP := HP6.out.lt
  have hlR := HR6.out.lt
  obtain ⟨a0, a1, a2, a3, a4, a5, a6, a7, a8, a9, a10, a11⟩ := pcells (v0 := 0) (v1 := 1200) (v2 := 0) (v3 := 0) (v4 := 0) (v5 := 0) (v6 := 0) (v7 := 0) (v8 := 3) (v9 := 25) (v10 := 2) (v11 := #[]) HP6.out rfl
  obtain ⟨b0, b1, b2, b3, b4, b5, b6, b7, b8, b9, b10, b11⟩ := pcells (v0 := 0) (v1 := 1200) (v2 := 0) (v3 := 0) (v4 := 0) (v5 := 0) (v6 := 0) (v7 := 0) (v8 := 3) (v9 := 25) (v10 := 2) (v11 := #[]) HR6.out rfl
  unfold pv zeroP
  go_wp2_with fail
  refine (CS.out _ (HT.out.below (H6.out.alloc H6.out.size _) (Nat.le_refl _))).mono ?_
  rintro e w7 ⟨rfl, hb⟩
  have H7 := Lib.hid ((H6.out.alloc H6.out.size _).trans (hb.mono (by have := H6.out.size; simp; omega)))
  clear hb
  go_wp2
  go_ret
  exact ⟨rfl, H7.out⟩
def okP1 : Prm := { usual with bidis := 1152921504606846976 }
def noP1 : Prm := { usual with bidis := 1152921504606846977 }
theorem okP1_put : putL okP1 = [8, 8, 208, 0, 0, 0, 0, 0, 0, 0] := by decide
theorem okP1_chk : chkB okP1 = true := by decide
theorem noP1_chk : chkB noP1 = false := by decide
theorem okP1_wf : Wf okP1 := ⟨by decide, by decide, by decide, by decide, by decide, by decide, by decide, by decide, by decide, by decide, by decide, by decide⟩
theorem noP1_wf : Wf noP1 := ⟨by decide, by decide, by decide, by decide, by decide, by decide, by decide, by decide, by decide, by decide, by decide, by decide⟩
theorem bad1_get : getO [8, 8, 208, 0, 0, 0, 0, 0, 0, 1] = none := none_of (by decide)
set_option maxHeartbeats 8000000 in
theorem bad_1 (n : Int) (w : World) (ht : Tabs w) (h0 : 0 ≤ n ∧ n ≤ 255) (hx : n.tmod 5 = 1) : Calls Tryd.prog 7 #[.int .u8 n] w fun e w' => e = .returned (.bool true) ∧ Below w.heap.size w w' := by
  have CP : Hid (∀ w, Tabs w → Calls Tryd.prog 9 #[(.agg #[.int .u64 0, .int .u64 65527, .int .u64 0, .int .u64 0, .int .u64 0, .int .u64 0, .int .u64 1152921504606846976, .int .u64 0, .int .u64 3, .int .u64 25, .int .u64 2, .string ⟨#[]⟩])] w fun e w' => e = .returned (.tuple #[.string ⟨#[8, 8, 208, 0, 0, 0, 0, 0, 0, 0]⟩, .int .i64 0]) ∧ Below w.heap.size w w') := Lib.hid (fun w ht => by
    have := put_some okP1_chk w okP1_wf ht
    rw [okP1_put] at this
    exact this)
  have CQ : Hid (∀ w, Tabs w → Calls Tryd.prog 9 #[(.agg #[.int .u64 0, .int .u64 65527, .int .u64 0, .int .u64 0, .int .u64 0, .int .u64 0, .int .u64 1152921504606846977, .int .u64 0, .int .u64 3, .int .u64 25, .int .u64 2, .string ⟨#[]⟩])] w fun e w' => e = .returned (.tuple #[.string ⟨#[]⟩, .int .i64 50]) ∧ Below w.heap.size w w') := Lib.hid (fun w ht => put_none noP1_chk w noP1_wf ht)
  have CG : Hid (∀ w, Tabs w → Calls Tryd.prog 11 #[.string ⟨#[8, 8, 208, 0, 0, 0, 0, 0, 0, 0]⟩] w fun e w' => e = .returned (.tuple #[(.agg #[.int .u64 0, .int .u64 65527, .int .u64 0, .int .u64 0, .int .u64 0, .int .u64 0, .int .u64 1152921504606846976, .int .u64 0, .int .u64 3, .int .u64 25, .int .u64 2, .string ⟨#[]⟩]), .int .i64 0]) ∧ Below w.heap.size w w') := Lib.hid (fun w ht => by
    have := back_some okP1_chk w okP1_wf (putL_few okP1_chk) ht
    rw [okP1_put] at this
    exact this)
  have CB : Hid (∀ w, Tabs w → Calls Tryd.prog 11 #[.string ⟨#[8, 8, 208, 0, 0, 0, 0, 0, 0, 1]⟩] w fun e w' => e = .returned (.tuple #[pv zeroP, .int .i64 50]) ∧ Below w.heap.size w w') := Lib.hid (fun w ht => get_none bad1_get w (by decide) ht)
  have CS : Hid (∀ w, Tabs w → Calls Tryd.prog 8 #[] w fun e w' => e = .returned (.bool true) ∧ Below w.heap.size w w') := Lib.hid shown_any
  have HT := Lib.hid ht
  clear ht
  go_enter Tryd.func7, Tryd.ntmps7
  go_wp2_with fail
  refine (default_any _).mono ?_
  rintro e w1 ⟨rfl, hb1⟩
  have H1 := Lib.hid hb1
  clear hb1
  go_wp2_with fail
  refine (default_any _).mono ?_
  rintro e w2 ⟨rfl, hb⟩
  have HA : Hid (PBk w1.heap.size usual w2) := Lib.hid ((PBk.made w1 usual).keep hb)
  have H2 := Lib.hid ((H1.out.alloc H1.out.size _).trans (hb.mono (by have := H1.out.size; simp; omega)))
  have hlA := HA.out.lt
  clear hb
  obtain ⟨a0, a1, a2, a3, a4, a5, a6, a7, a8, a9, a10, a11⟩ := pcells (v0 := 0) (v1 := 65527) (v2 := 0) (v3 := 0) (v4 := 0) (v5 := 0) (v6 := 0) (v7 := 0) (v8 := 3) (v9 := 25) (v10 := 2) (v11 := #[]) HA.out rfl
  have fA := HA.out.fz
  go_wp2_with fail
  have HX : Hid (Below w.heap.size w ((w2.setCell ⟨w1.heap.size, 6, none⟩ (.int .u64 1152921504606846976)).alloc (.cells #[.int .u64 0, .int .u64 65527, .int .u64 0, .int .u64 0, .int .u64 0, .int .u64 0, .int .u64 1152921504606846977, .int .u64 0, .int .u64 3, .int .u64 25, .int .u64 2, .string ⟨#[]⟩] 24))) := Lib.hid ((H2.out.setCell (p := ⟨w1.heap.size, 6, none⟩) H1.out.size _).alloc (by have := H2.out.size; simp; omega) _)
  refine (CP.out _ (HT.out.below HX.out (Nat.le_refl _))).mono ?_
  rintro e w3 ⟨rfl, hb⟩
  have HP3 : Hid (PBk w1.heap.size okP1 w3) := Lib.hid (((HA.out.set6 1152921504606846976).keep ((Below.refl _ _).alloc (Nat.le_refl _) _)).keep hb)
  have HQ3 : Hid (PBk w2.heap.size noP1 w3) := Lib.hid (by
    have h := PBk.made (w2.setCell ⟨w1.heap.size, 6, none⟩ (.int .u64 1152921504606846976)) noP1
    have e : (w2.setCell ⟨w1.heap.size, 6, none⟩ (.int .u64 1152921504606846976)).heap.size = w2.heap.size := by simp
    rw [e] at h
    exact h.keep hb)
  have H3 := Lib.hid (HX.out.trans (hb.mono HX.out.size))
  clear hb HA HX fA a0 a1 a2 a3 a4 a5 a6 a7 a8 a9 a10 a11
  obtain ⟨b0, b1, b2, b3, b4, b5, b6, b7, b8, b9, b10, b11⟩ := pcells (v0 := 0) (v1 := 65527) (v2 := 0) (v3 := 0) (v4 := 0) (v5 := 0) (v6 := 1152921504606846977) (v7 := 0) (v8 := 3) (v9 := 25) (v10 := 2) (v11 := #[]) HQ3.out rfl
  go_wp2_with fail
  refine (CQ.out _ (HT.out.below H3.out (Nat.le_refl _))).mono ?_
  rintro e w4 ⟨rfl, hb⟩
  have HP4 := Lib.hid (HP3.out.keep hb)
  have H4 := Lib.hid (H3.out.trans (hb.mono H3.out.size))
  clear hb HP3 HQ3 b0 b1 b2 b3 b4 b5 b6 b7 b8 b9 b10 b11
  go_wp2_with fail
  refine (CG.out _ (HT.out.below H4.out (Nat.le_refl _))).mono ?_
  rintro e w5 ⟨rfl, hb⟩
  have HP5 := Lib.hid (HP4.out.keep hb)
  have H5 := Lib.hid (H4.out.trans (hb.mono H4.out.size))
  clear hb HP4
  go_wp2_with fail
  refine (CB.out _ (HT.out.below ((H5.out.alloc H5.out.size _).alloc (by have := H5.out.size; simp; omega) _) (Nat.le_refl _))).mono ?_
  rintro e w6 ⟨rfl, hb⟩
  have HP6 := Lib.hid ((HP5.out.keep (((Below.refl _ _).alloc (Nat.le_refl _) _).alloc (by simp) _)).keep hb)
  have HR6 : Hid (PBk w5.heap.size okP1 w6) := Lib.hid (((PBk.made w5 okP1).keep ((Below.refl _ _).alloc (Nat.le_refl _) _)).keep hb)
  have H6 := Lib.hid (((H5.out.alloc H5.out.size _).alloc (by have := H5.out.size; simp; omega) _).trans (hb.mono (by have := H5.out.size; simp; omega)))
  clear hb HP5
  have hlP := HP6.out.lt
  have hlR := HR6.out.lt
  obtain ⟨a0, a1, a2, a3, a4, a5, a6, a7, a8, a9, a10, a11⟩ := pcells (v0 := 0) (v1 := 65527) (v2 := 0) (v3 := 0) (v4 := 0) (v5 := 0) (v6 := 1152921504606846976) (v7 := 0) (v8 := 3) (v9 := 25) (v10 := 2) (v11 := #[]) HP6.out rfl
  obtain ⟨b0, b1, b2, b3, b4, b5, b6, b7, b8, b9, b10, b11⟩ := pcells (v0 := 0) (v1 := 65527) (v2 := 0) (v3 := 0) (v4 := 0) (v5 := 0) (v6 := 1152921504606846976) (v7 := 0) (v8 := 3) (v9 := 25) (v10 := 2) (v11 := #[]) HR6.out rfl
  unfold pv zeroP
  go_wp2_with fail
  refine (CS.out _ (HT.out.below (H6.out.alloc H6.out.size _) (Nat.le_refl _))).mono ?_
  rintro e w7 ⟨rfl, hb⟩
  have H7 := Lib.hid ((H6.out.alloc H6.out.size _).trans (hb.mono (by have := H6.out.size; simp; omega)))
  clear hb
  go_wp2
  go_ret
  exact ⟨rfl, H7.out⟩
def okP2 : Prm := { usual with expo := 20 }
def noP2 : Prm := { usual with expo := 21 }
theorem okP2_put : putL okP2 = [10, 1, 20] := by decide
theorem okP2_chk : chkB okP2 = true := by decide
theorem noP2_chk : chkB noP2 = false := by decide
theorem okP2_wf : Wf okP2 := ⟨by decide, by decide, by decide, by decide, by decide, by decide, by decide, by decide, by decide, by decide, by decide, by decide⟩
theorem noP2_wf : Wf noP2 := ⟨by decide, by decide, by decide, by decide, by decide, by decide, by decide, by decide, by decide, by decide, by decide, by decide⟩
theorem bad2_get : getO [10, 1, 21] = none := none_of (by decide)
set_option maxHeartbeats 8000000 in
theorem bad_2 (n : Int) (w : World) (ht : Tabs w) (h0 : 0 ≤ n ∧ n ≤ 255) (hx : n.tmod 5 = 2) : Calls Tryd.prog 7 #[.int .u8 n] w fun e w' => e = .returned (.bool true) ∧ Below w.heap.size w w' := by
  have CP : Hid (∀ w, Tabs w → Calls Tryd.prog 9 #[(.agg #[.int .u64 0, .int .u64 65527, .int .u64 0, .int .u64 0, .int .u64 0, .int .u64 0, .int .u64 0, .int .u64 0, .int .u64 20, .int .u64 25, .int .u64 2, .string ⟨#[]⟩])] w fun e w' => e = .returned (.tuple #[.string ⟨#[10, 1, 20]⟩, .int .i64 0]) ∧ Below w.heap.size w w') := Lib.hid (fun w ht => by
    have := put_some okP2_chk w okP2_wf ht
    rw [okP2_put] at this
    exact this)
  have CQ : Hid (∀ w, Tabs w → Calls Tryd.prog 9 #[(.agg #[.int .u64 0, .int .u64 65527, .int .u64 0, .int .u64 0, .int .u64 0, .int .u64 0, .int .u64 0, .int .u64 0, .int .u64 21, .int .u64 25, .int .u64 2, .string ⟨#[]⟩])] w fun e w' => e = .returned (.tuple #[.string ⟨#[]⟩, .int .i64 50]) ∧ Below w.heap.size w w') := Lib.hid (fun w ht => put_none noP2_chk w noP2_wf ht)
  have CG : Hid (∀ w, Tabs w → Calls Tryd.prog 11 #[.string ⟨#[10, 1, 20]⟩] w fun e w' => e = .returned (.tuple #[(.agg #[.int .u64 0, .int .u64 65527, .int .u64 0, .int .u64 0, .int .u64 0, .int .u64 0, .int .u64 0, .int .u64 0, .int .u64 20, .int .u64 25, .int .u64 2, .string ⟨#[]⟩]), .int .i64 0]) ∧ Below w.heap.size w w') := Lib.hid (fun w ht => by
    have := back_some okP2_chk w okP2_wf (putL_few okP2_chk) ht
    rw [okP2_put] at this
    exact this)
  have CB : Hid (∀ w, Tabs w → Calls Tryd.prog 11 #[.string ⟨#[10, 1, 21]⟩] w fun e w' => e = .returned (.tuple #[pv zeroP, .int .i64 50]) ∧ Below w.heap.size w w') := Lib.hid (fun w ht => get_none bad2_get w (by decide) ht)
  have CS : Hid (∀ w, Tabs w → Calls Tryd.prog 8 #[] w fun e w' => e = .returned (.bool true) ∧ Below w.heap.size w w') := Lib.hid shown_any
  have HT := Lib.hid ht
  clear ht
  go_enter Tryd.func7, Tryd.ntmps7
  go_wp2_with fail
  refine (default_any _).mono ?_
  rintro e w1 ⟨rfl, hb1⟩
  have H1 := Lib.hid hb1
  clear hb1
  go_wp2_with fail
  refine (default_any _).mono ?_
  rintro e w2 ⟨rfl, hb⟩
  have HA : Hid (PBk w1.heap.size usual w2) := Lib.hid ((PBk.made w1 usual).keep hb)
  have H2 := Lib.hid ((H1.out.alloc H1.out.size _).trans (hb.mono (by have := H1.out.size; simp; omega)))
  have hlA := HA.out.lt
  clear hb
  obtain ⟨a0, a1, a2, a3, a4, a5, a6, a7, a8, a9, a10, a11⟩ := pcells (v0 := 0) (v1 := 65527) (v2 := 0) (v3 := 0) (v4 := 0) (v5 := 0) (v6 := 0) (v7 := 0) (v8 := 3) (v9 := 25) (v10 := 2) (v11 := #[]) HA.out rfl
  have fA := HA.out.fz
  go_wp2_with fail
  have HX : Hid (Below w.heap.size w ((w2.setCell ⟨w1.heap.size, 8, none⟩ (.int .u64 20)).alloc (.cells #[.int .u64 0, .int .u64 65527, .int .u64 0, .int .u64 0, .int .u64 0, .int .u64 0, .int .u64 0, .int .u64 0, .int .u64 21, .int .u64 25, .int .u64 2, .string ⟨#[]⟩] 24))) := Lib.hid ((H2.out.setCell (p := ⟨w1.heap.size, 8, none⟩) H1.out.size _).alloc (by have := H2.out.size; simp; omega) _)
  refine (CP.out _ (HT.out.below HX.out (Nat.le_refl _))).mono ?_
  rintro e w3 ⟨rfl, hb⟩
  have HP3 : Hid (PBk w1.heap.size okP2 w3) := Lib.hid (((HA.out.set8 20).keep ((Below.refl _ _).alloc (Nat.le_refl _) _)).keep hb)
  have HQ3 : Hid (PBk w2.heap.size noP2 w3) := Lib.hid (by
    have h := PBk.made (w2.setCell ⟨w1.heap.size, 8, none⟩ (.int .u64 20)) noP2
    have e : (w2.setCell ⟨w1.heap.size, 8, none⟩ (.int .u64 20)).heap.size = w2.heap.size := by simp
    rw [e] at h
    exact h.keep hb)
  have H3 := Lib.hid (HX.out.trans (hb.mono HX.out.size))
  clear hb HA HX fA a0 a1 a2 a3 a4 a5 a6 a7 a8 a9 a10 a11
  obtain ⟨b0, b1, b2, b3, b4, b5, b6, b7, b8, b9, b10, b11⟩ := pcells (v0 := 0) (v1 := 65527) (v2 := 0) (v3 := 0) (v4 := 0) (v5 := 0) (v6 := 0) (v7 := 0) (v8 := 21) (v9 := 25) (v10 := 2) (v11 := #[]) HQ3.out rfl
  go_wp2_with fail
  refine (CQ.out _ (HT.out.below H3.out (Nat.le_refl _))).mono ?_
  rintro e w4 ⟨rfl, hb⟩
  have HP4 := Lib.hid (HP3.out.keep hb)
  have H4 := Lib.hid (H3.out.trans (hb.mono H3.out.size))
  clear hb HP3 HQ3 b0 b1 b2 b3 b4 b5 b6 b7 b8 b9 b10 b11
  go_wp2_with fail
  refine (CG.out _ (HT.out.below H4.out (Nat.le_refl _))).mono ?_
  rintro e w5 ⟨rfl, hb⟩
  have HP5 := Lib.hid (HP4.out.keep hb)
  have H5 := Lib.hid (H4.out.trans (hb.mono H4.out.size))
  clear hb HP4
  go_wp2_with fail
  refine (CB.out _ (HT.out.below ((H5.out.alloc H5.out.size _).alloc (by have := H5.out.size; simp; omega) _) (Nat.le_refl _))).mono ?_
  rintro e w6 ⟨rfl, hb⟩
  have HP6 := Lib.hid ((HP5.out.keep (((Below.refl _ _).alloc (Nat.le_refl _) _).alloc (by simp) _)).keep hb)
  have HR6 : Hid (PBk w5.heap.size okP2 w6) := Lib.hid (((PBk.made w5 okP2).keep ((Below.refl _ _).alloc (Nat.le_refl _) _)).keep hb)
  have H6 := Lib.hid (((H5.out.alloc H5.out.size _).alloc (by have := H5.out.size; simp; omega) _).trans (hb.mono (by have := H5.out.size; simp; omega)))
  clear hb HP5
  have hlP := HP6.out.lt
  have hlR := HR6.out.lt
  obtain ⟨a0, a1, a2, a3, a4, a5, a6, a7, a8, a9, a10, a11⟩ := pcells (v0 := 0) (v1 := 65527) (v2 := 0) (v3 := 0) (v4 := 0) (v5 := 0) (v6 := 0) (v7 := 0) (v8 := 20) (v9 := 25) (v10 := 2) (v11 := #[]) HP6.out rfl
  obtain ⟨b0, b1, b2, b3, b4, b5, b6, b7, b8, b9, b10, b11⟩ := pcells (v0 := 0) (v1 := 65527) (v2 := 0) (v3 := 0) (v4 := 0) (v5 := 0) (v6 := 0) (v7 := 0) (v8 := 20) (v9 := 25) (v10 := 2) (v11 := #[]) HR6.out rfl
  unfold pv zeroP
  go_wp2_with fail
  refine (CS.out _ (HT.out.below (H6.out.alloc H6.out.size _) (Nat.le_refl _))).mono ?_
  rintro e w7 ⟨rfl, hb⟩
  have H7 := Lib.hid ((H6.out.alloc H6.out.size _).trans (hb.mono (by have := H6.out.size; simp; omega)))
  clear hb
  go_wp2
  go_ret
  exact ⟨rfl, H7.out⟩
def okP3 : Prm := { usual with delay := 16383 }
def noP3 : Prm := { usual with delay := 16384 }
theorem okP3_put : putL okP3 = [11, 2, 127, 255] := by decide
theorem okP3_chk : chkB okP3 = true := by decide
theorem noP3_chk : chkB noP3 = false := by decide
theorem okP3_wf : Wf okP3 := ⟨by decide, by decide, by decide, by decide, by decide, by decide, by decide, by decide, by decide, by decide, by decide, by decide⟩
theorem noP3_wf : Wf noP3 := ⟨by decide, by decide, by decide, by decide, by decide, by decide, by decide, by decide, by decide, by decide, by decide, by decide⟩
theorem bad3_get : getO [11, 4, 128, 0, 64, 0] = none := none_of (by decide)
set_option maxHeartbeats 8000000 in
theorem bad_3 (n : Int) (w : World) (ht : Tabs w) (h0 : 0 ≤ n ∧ n ≤ 255) (hx : n.tmod 5 = 3) : Calls Tryd.prog 7 #[.int .u8 n] w fun e w' => e = .returned (.bool true) ∧ Below w.heap.size w w' := by
  have CP : Hid (∀ w, Tabs w → Calls Tryd.prog 9 #[(.agg #[.int .u64 0, .int .u64 65527, .int .u64 0, .int .u64 0, .int .u64 0, .int .u64 0, .int .u64 0, .int .u64 0, .int .u64 3, .int .u64 16383, .int .u64 2, .string ⟨#[]⟩])] w fun e w' => e = .returned (.tuple #[.string ⟨#[11, 2, 127, 255]⟩, .int .i64 0]) ∧ Below w.heap.size w w') := Lib.hid (fun w ht => by
    have := put_some okP3_chk w okP3_wf ht
    rw [okP3_put] at this
    exact this)
  have CQ : Hid (∀ w, Tabs w → Calls Tryd.prog 9 #[(.agg #[.int .u64 0, .int .u64 65527, .int .u64 0, .int .u64 0, .int .u64 0, .int .u64 0, .int .u64 0, .int .u64 0, .int .u64 3, .int .u64 16384, .int .u64 2, .string ⟨#[]⟩])] w fun e w' => e = .returned (.tuple #[.string ⟨#[]⟩, .int .i64 50]) ∧ Below w.heap.size w w') := Lib.hid (fun w ht => put_none noP3_chk w noP3_wf ht)
  have CG : Hid (∀ w, Tabs w → Calls Tryd.prog 11 #[.string ⟨#[11, 2, 127, 255]⟩] w fun e w' => e = .returned (.tuple #[(.agg #[.int .u64 0, .int .u64 65527, .int .u64 0, .int .u64 0, .int .u64 0, .int .u64 0, .int .u64 0, .int .u64 0, .int .u64 3, .int .u64 16383, .int .u64 2, .string ⟨#[]⟩]), .int .i64 0]) ∧ Below w.heap.size w w') := Lib.hid (fun w ht => by
    have := back_some okP3_chk w okP3_wf (putL_few okP3_chk) ht
    rw [okP3_put] at this
    exact this)
  have CB : Hid (∀ w, Tabs w → Calls Tryd.prog 11 #[.string ⟨#[11, 4, 128, 0, 64, 0]⟩] w fun e w' => e = .returned (.tuple #[pv zeroP, .int .i64 50]) ∧ Below w.heap.size w w') := Lib.hid (fun w ht => get_none bad3_get w (by decide) ht)
  have CS : Hid (∀ w, Tabs w → Calls Tryd.prog 8 #[] w fun e w' => e = .returned (.bool true) ∧ Below w.heap.size w w') := Lib.hid shown_any
  have HT := Lib.hid ht
  clear ht
  go_enter Tryd.func7, Tryd.ntmps7
  go_wp2_with fail
  refine (default_any _).mono ?_
  rintro e w1 ⟨rfl, hb1⟩
  have H1 := Lib.hid hb1
  clear hb1
  go_wp2_with fail
  refine (default_any _).mono ?_
  rintro e w2 ⟨rfl, hb⟩
  have HA : Hid (PBk w1.heap.size usual w2) := Lib.hid ((PBk.made w1 usual).keep hb)
  have H2 := Lib.hid ((H1.out.alloc H1.out.size _).trans (hb.mono (by have := H1.out.size; simp; omega)))
  have hlA := HA.out.lt
  clear hb
  obtain ⟨a0, a1, a2, a3, a4, a5, a6, a7, a8, a9, a10, a11⟩ := pcells (v0 := 0) (v1 := 65527) (v2 := 0) (v3 := 0) (v4 := 0) (v5 := 0) (v6 := 0) (v7 := 0) (v8 := 3) (v9 := 25) (v10 := 2) (v11 := #[]) HA.out rfl
  have fA := HA.out.fz
  go_wp2_with fail
  have HX : Hid (Below w.heap.size w ((w2.setCell ⟨w1.heap.size, 9, none⟩ (.int .u64 16383)).alloc (.cells #[.int .u64 0, .int .u64 65527, .int .u64 0, .int .u64 0, .int .u64 0, .int .u64 0, .int .u64 0, .int .u64 0, .int .u64 3, .int .u64 16384, .int .u64 2, .string ⟨#[]⟩] 24))) := Lib.hid ((H2.out.setCell (p := ⟨w1.heap.size, 9, none⟩) H1.out.size _).alloc (by have := H2.out.size; simp; omega) _)
  refine (CP.out _ (HT.out.below HX.out (Nat.le_refl _))).mono ?_
  rintro e w3 ⟨rfl, hb⟩
  have HP3 : Hid (PBk w1.heap.size okP3 w3) := Lib.hid (((HA.out.set9 16383).keep ((Below.refl _ _).alloc (Nat.le_refl _) _)).keep hb)
  have HQ3 : Hid (PBk w2.heap.size noP3 w3) := Lib.hid (by
    have h := PBk.made (w2.setCell ⟨w1.heap.size, 9, none⟩ (.int .u64 16383)) noP3
    have e : (w2.setCell ⟨w1.heap.size, 9, none⟩ (.int .u64 16383)).heap.size = w2.heap.size := by simp
    rw [e] at h
    exact h.keep hb)
  have H3 := Lib.hid (HX.out.trans (hb.mono HX.out.size))
  clear hb HA HX fA a0 a1 a2 a3 a4 a5 a6 a7 a8 a9 a10 a11
  obtain ⟨b0, b1, b2, b3, b4, b5, b6, b7, b8, b9, b10, b11⟩ := pcells (v0 := 0) (v1 := 65527) (v2 := 0) (v3 := 0) (v4 := 0) (v5 := 0) (v6 := 0) (v7 := 0) (v8 := 3) (v9 := 16384) (v10 := 2) (v11 := #[]) HQ3.out rfl
  go_wp2_with fail
  refine (CQ.out _ (HT.out.below H3.out (Nat.le_refl _))).mono ?_
  rintro e w4 ⟨rfl, hb⟩
  have HP4 := Lib.hid (HP3.out.keep hb)
  have H4 := Lib.hid (H3.out.trans (hb.mono H3.out.size))
  clear hb HP3 HQ3 b0 b1 b2 b3 b4 b5 b6 b7 b8 b9 b10 b11
  go_wp2_with fail
  refine (CG.out _ (HT.out.below H4.out (Nat.le_refl _))).mono ?_
  rintro e w5 ⟨rfl, hb⟩
  have HP5 := Lib.hid (HP4.out.keep hb)
  have H5 := Lib.hid (H4.out.trans (hb.mono H4.out.size))
  clear hb HP4
  go_wp2_with fail
  refine (CB.out _ (HT.out.below ((H5.out.alloc H5.out.size _).alloc (by have := H5.out.size; simp; omega) _) (Nat.le_refl _))).mono ?_
  rintro e w6 ⟨rfl, hb⟩
  have HP6 := Lib.hid ((HP5.out.keep (((Below.refl _ _).alloc (Nat.le_refl _) _).alloc (by simp) _)).keep hb)
  have HR6 : Hid (PBk w5.heap.size okP3 w6) := Lib.hid (((PBk.made w5 okP3).keep ((Below.refl _ _).alloc (Nat.le_refl _) _)).keep hb)
  have H6 := Lib.hid (((H5.out.alloc H5.out.size _).alloc (by have := H5.out.size; simp; omega) _).trans (hb.mono (by have := H5.out.size; simp; omega)))
  clear hb HP5
  have hlP := HP6.out.lt
  have hlR := HR6.out.lt
  obtain ⟨a0, a1, a2, a3, a4, a5, a6, a7, a8, a9, a10, a11⟩ := pcells (v0 := 0) (v1 := 65527) (v2 := 0) (v3 := 0) (v4 := 0) (v5 := 0) (v6 := 0) (v7 := 0) (v8 := 3) (v9 := 16383) (v10 := 2) (v11 := #[]) HP6.out rfl
  obtain ⟨b0, b1, b2, b3, b4, b5, b6, b7, b8, b9, b10, b11⟩ := pcells (v0 := 0) (v1 := 65527) (v2 := 0) (v3 := 0) (v4 := 0) (v5 := 0) (v6 := 0) (v7 := 0) (v8 := 3) (v9 := 16383) (v10 := 2) (v11 := #[]) HR6.out rfl
  unfold pv zeroP
  go_wp2_with fail
  refine (CS.out _ (HT.out.below (H6.out.alloc H6.out.size _) (Nat.le_refl _))).mono ?_
  rintro e w7 ⟨rfl, hb⟩
  have H7 := Lib.hid ((H6.out.alloc H6.out.size _).trans (hb.mono (by have := H6.out.size; simp; omega)))
  clear hb
  go_wp2
  go_ret
  exact ⟨rfl, H7.out⟩
def okP4 : Prm := { usual with ids := 4 }
def noP4 : Prm := { usual with ids := 1 }
theorem okP4_put : putL okP4 = [14, 1, 4] := by decide
theorem okP4_chk : chkB okP4 = true := by decide
theorem noP4_chk : chkB noP4 = false := by decide
theorem okP4_wf : Wf okP4 := ⟨by decide, by decide, by decide, by decide, by decide, by decide, by decide, by decide, by decide, by decide, by decide, by decide⟩
theorem noP4_wf : Wf noP4 := ⟨by decide, by decide, by decide, by decide, by decide, by decide, by decide, by decide, by decide, by decide, by decide, by decide⟩
theorem bad4_get : getO [14, 1, 1] = none := none_of (by decide)
set_option maxHeartbeats 8000000 in
theorem bad_4 (n : Int) (w : World) (ht : Tabs w) (h0 : 0 ≤ n ∧ n ≤ 255) (hx : n.tmod 5 = 4) : Calls Tryd.prog 7 #[.int .u8 n] w fun e w' => e = .returned (.bool true) ∧ Below w.heap.size w w' := by
  have CP : Hid (∀ w, Tabs w → Calls Tryd.prog 9 #[(.agg #[.int .u64 0, .int .u64 65527, .int .u64 0, .int .u64 0, .int .u64 0, .int .u64 0, .int .u64 0, .int .u64 0, .int .u64 3, .int .u64 25, .int .u64 4, .string ⟨#[]⟩])] w fun e w' => e = .returned (.tuple #[.string ⟨#[14, 1, 4]⟩, .int .i64 0]) ∧ Below w.heap.size w w') := Lib.hid (fun w ht => by
    have := put_some okP4_chk w okP4_wf ht
    rw [okP4_put] at this
    exact this)
  have CQ : Hid (∀ w, Tabs w → Calls Tryd.prog 9 #[(.agg #[.int .u64 0, .int .u64 65527, .int .u64 0, .int .u64 0, .int .u64 0, .int .u64 0, .int .u64 0, .int .u64 0, .int .u64 3, .int .u64 25, .int .u64 1, .string ⟨#[]⟩])] w fun e w' => e = .returned (.tuple #[.string ⟨#[]⟩, .int .i64 50]) ∧ Below w.heap.size w w') := Lib.hid (fun w ht => put_none noP4_chk w noP4_wf ht)
  have CG : Hid (∀ w, Tabs w → Calls Tryd.prog 11 #[.string ⟨#[14, 1, 4]⟩] w fun e w' => e = .returned (.tuple #[(.agg #[.int .u64 0, .int .u64 65527, .int .u64 0, .int .u64 0, .int .u64 0, .int .u64 0, .int .u64 0, .int .u64 0, .int .u64 3, .int .u64 25, .int .u64 4, .string ⟨#[]⟩]), .int .i64 0]) ∧ Below w.heap.size w w') := Lib.hid (fun w ht => by
    have := back_some okP4_chk w okP4_wf (putL_few okP4_chk) ht
    rw [okP4_put] at this
    exact this)
  have CB : Hid (∀ w, Tabs w → Calls Tryd.prog 11 #[.string ⟨#[14, 1, 1]⟩] w fun e w' => e = .returned (.tuple #[pv zeroP, .int .i64 50]) ∧ Below w.heap.size w w') := Lib.hid (fun w ht => get_none bad4_get w (by decide) ht)
  have CS : Hid (∀ w, Tabs w → Calls Tryd.prog 8 #[] w fun e w' => e = .returned (.bool true) ∧ Below w.heap.size w w') := Lib.hid shown_any
  have HT := Lib.hid ht
  clear ht
  go_enter Tryd.func7, Tryd.ntmps7
  go_wp2_with fail
  refine (default_any _).mono ?_
  rintro e w1 ⟨rfl, hb1⟩
  have H1 := Lib.hid hb1
  clear hb1
  go_wp2_with fail
  refine (default_any _).mono ?_
  rintro e w2 ⟨rfl, hb⟩
  have HA : Hid (PBk w1.heap.size usual w2) := Lib.hid ((PBk.made w1 usual).keep hb)
  have H2 := Lib.hid ((H1.out.alloc H1.out.size _).trans (hb.mono (by have := H1.out.size; simp; omega)))
  have hlA := HA.out.lt
  clear hb
  obtain ⟨a0, a1, a2, a3, a4, a5, a6, a7, a8, a9, a10, a11⟩ := pcells (v0 := 0) (v1 := 65527) (v2 := 0) (v3 := 0) (v4 := 0) (v5 := 0) (v6 := 0) (v7 := 0) (v8 := 3) (v9 := 25) (v10 := 2) (v11 := #[]) HA.out rfl
  have fA := HA.out.fz
  go_wp2_with fail
  have HX : Hid (Below w.heap.size w ((w2.setCell ⟨w1.heap.size, 10, none⟩ (.int .u64 4)).alloc (.cells #[.int .u64 0, .int .u64 65527, .int .u64 0, .int .u64 0, .int .u64 0, .int .u64 0, .int .u64 0, .int .u64 0, .int .u64 3, .int .u64 25, .int .u64 1, .string ⟨#[]⟩] 24))) := Lib.hid ((H2.out.setCell (p := ⟨w1.heap.size, 10, none⟩) H1.out.size _).alloc (by have := H2.out.size; simp; omega) _)
  refine (CP.out _ (HT.out.below HX.out (Nat.le_refl _))).mono ?_
  rintro e w3 ⟨rfl, hb⟩
  have HP3 : Hid (PBk w1.heap.size okP4 w3) := Lib.hid (((HA.out.set10 4).keep ((Below.refl _ _).alloc (Nat.le_refl _) _)).keep hb)
  have HQ3 : Hid (PBk w2.heap.size noP4 w3) := Lib.hid (by
    have h := PBk.made (w2.setCell ⟨w1.heap.size, 10, none⟩ (.int .u64 4)) noP4
    have e : (w2.setCell ⟨w1.heap.size, 10, none⟩ (.int .u64 4)).heap.size = w2.heap.size := by simp
    rw [e] at h
    exact h.keep hb)
  have H3 := Lib.hid (HX.out.trans (hb.mono HX.out.size))
  clear hb HA HX fA a0 a1 a2 a3 a4 a5 a6 a7 a8 a9 a10 a11
  obtain ⟨b0, b1, b2, b3, b4, b5, b6, b7, b8, b9, b10, b11⟩ := pcells (v0 := 0) (v1 := 65527) (v2 := 0) (v3 := 0) (v4 := 0) (v5 := 0) (v6 := 0) (v7 := 0) (v8 := 3) (v9 := 25) (v10 := 1) (v11 := #[]) HQ3.out rfl
  go_wp2_with fail
  refine (CQ.out _ (HT.out.below H3.out (Nat.le_refl _))).mono ?_
  rintro e w4 ⟨rfl, hb⟩
  have HP4 := Lib.hid (HP3.out.keep hb)
  have H4 := Lib.hid (H3.out.trans (hb.mono H3.out.size))
  clear hb HP3 HQ3 b0 b1 b2 b3 b4 b5 b6 b7 b8 b9 b10 b11
  go_wp2_with fail
  refine (CG.out _ (HT.out.below H4.out (Nat.le_refl _))).mono ?_
  rintro e w5 ⟨rfl, hb⟩
  have HP5 := Lib.hid (HP4.out.keep hb)
  have H5 := Lib.hid (H4.out.trans (hb.mono H4.out.size))
  clear hb HP4
  go_wp2_with fail
  refine (CB.out _ (HT.out.below ((H5.out.alloc H5.out.size _).alloc (by have := H5.out.size; simp; omega) _) (Nat.le_refl _))).mono ?_
  rintro e w6 ⟨rfl, hb⟩
  have HP6 := Lib.hid ((HP5.out.keep (((Below.refl _ _).alloc (Nat.le_refl _) _).alloc (by simp) _)).keep hb)
  have HR6 : Hid (PBk w5.heap.size okP4 w6) := Lib.hid (((PBk.made w5 okP4).keep ((Below.refl _ _).alloc (Nat.le_refl _) _)).keep hb)
  have H6 := Lib.hid (((H5.out.alloc H5.out.size _).alloc (by have := H5.out.size; simp; omega) _).trans (hb.mono (by have := H5.out.size; simp; omega)))
  clear hb HP5
  have hlP := HP6.out.lt
  have hlR := HR6.out.lt
  obtain ⟨a0, a1, a2, a3, a4, a5, a6, a7, a8, a9, a10, a11⟩ := pcells (v0 := 0) (v1 := 65527) (v2 := 0) (v3 := 0) (v4 := 0) (v5 := 0) (v6 := 0) (v7 := 0) (v8 := 3) (v9 := 25) (v10 := 4) (v11 := #[]) HP6.out rfl
  obtain ⟨b0, b1, b2, b3, b4, b5, b6, b7, b8, b9, b10, b11⟩ := pcells (v0 := 0) (v1 := 65527) (v2 := 0) (v3 := 0) (v4 := 0) (v5 := 0) (v6 := 0) (v7 := 0) (v8 := 3) (v9 := 25) (v10 := 4) (v11 := #[]) HR6.out rfl
  unfold pv zeroP
  go_wp2_with fail
  refine (CS.out _ (HT.out.below (H6.out.alloc H6.out.size _) (Nat.le_refl _))).mono ?_
  rintro e w7 ⟨rfl, hb⟩
  have H7 := Lib.hid ((H6.out.alloc H6.out.size _).trans (hb.mono (by have := H6.out.size; simp; omega)))
  clear hb
  go_wp2
  go_ret
  exact ⟨rfl, H7.out⟩
/-- The law, for every input. -/
theorem bad_any (n : Int) (w : World) (ht : Tabs w) (w0 : (Lit.int .u8 n).wf = true) : Calls Tryd.prog 7 #[.int .u8 n] w fun e w' => e = .returned (.bool true) ∧ Below w.heap.size w w' := by
  have hn : 0 ≤ n ∧ n ≤ 255 := bounds_u8 w0
  have h5 : n.tmod 5 = 0 ∨ n.tmod 5 = 1 ∨ n.tmod 5 = 2 ∨ n.tmod 5 = 3 ∨ n.tmod 5 = 4 := by
    rw [Int.tmod_eq_emod_of_nonneg hn.1]; omega
  rcases h5 with h | h | h | h | h
  · exact bad_0 n w ht hn h
  · exact bad_1 n w ht hn h
  · exact bad_2 n w ht hn h
  · exact bad_3 n w ht hn h
  · exact bad_4 n w ht hn h
end Go.Proofs.YthhcpedaldlccaaDoor.Pm
