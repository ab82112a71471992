/- The walk of the law ParamsBack. By tools/gen-params-8.py. -/
import Derived.Test.YthhcpedaldlccaaDoorPmNone
namespace Go.Proofs.YthhcpedaldlccaaDoor.Pm
open Go.RowKit Vm
set_option linter.unusedVariables false
set_option linter.unusedSimpArgs false

set_option maxHeartbeats 4000000 in
theorem back_long1 (p : Prm) (l : List UInt8) (w : World) (ht : Tabs w) (h : (100 : Int) < (p.tok.length : Nat)) : Calls Tryd.prog 4 #[.agg #[.int .u64 p.idle, .int .u64 p.size, .int .u64 p.data, .int .u64 p.bl, .int .u64 p.br, .int .u64 p.uni, .int .u64 p.bidis, .int .u64 p.unis, .int .u64 p.expo, .int .u64 p.delay, .int .u64 p.ids, .string ⟨p.tok.toArray⟩], .string ⟨l.toArray⟩] w fun e w' => e = .returned (.bool true) ∧ Below w.heap.size w w' := by
  have CS : Hid (∀ w, Tabs w → Calls Tryd.prog 8 #[] w fun e w' => e = .returned (.bool true) ∧ Below w.heap.size w w') := Lib.hid shown_any
  have HT := Lib.hid ht
  clear ht
  have HX := Lib.hid ((Below.refl w.heap.size w).alloc (Nat.le_refl _) (.cells #[.int .u64 p.idle, .int .u64 p.size, .int .u64 p.data, .int .u64 p.bl, .int .u64 p.br, .int .u64 p.uni, .int .u64 p.bidis, .int .u64 p.unis, .int .u64 p.expo, .int .u64 p.delay, .int .u64 p.ids, .string ⟨p.tok.toArray⟩] 24))
  go_enter Tryd.func4, Tryd.ntmps4
  go_wp2_with fail
  refine (CS.out _ (HT.out.below HX.out (Nat.le_refl _))).mono ?_
  rintro e w1 ⟨rfl, hb⟩
  have H1 := Lib.hid (HX.out.trans (hb.mono HX.out.size))
  clear hb
  go_wp2
  go_ret
  exact ⟨rfl, H1.out⟩
set_option maxHeartbeats 4000000 in
theorem back_long2 (p : Prm) (l : List UInt8) (w : World) (ht : Tabs w) (h0 : ¬ (100 : Int) < (p.tok.length : Nat)) (h : (600 : Int) < (l.length : Nat)) : Calls Tryd.prog 4 #[.agg #[.int .u64 p.idle, .int .u64 p.size, .int .u64 p.data, .int .u64 p.bl, .int .u64 p.br, .int .u64 p.uni, .int .u64 p.bidis, .int .u64 p.unis, .int .u64 p.expo, .int .u64 p.delay, .int .u64 p.ids, .string ⟨p.tok.toArray⟩], .string ⟨l.toArray⟩] w fun e w' => e = .returned (.bool true) ∧ Below w.heap.size w w' := by
  have CS : Hid (∀ w, Tabs w → Calls Tryd.prog 8 #[] w fun e w' => e = .returned (.bool true) ∧ Below w.heap.size w w') := Lib.hid shown_any
  have HT := Lib.hid ht
  clear ht
  have HX := Lib.hid ((Below.refl w.heap.size w).alloc (Nat.le_refl _) (.cells #[.int .u64 p.idle, .int .u64 p.size, .int .u64 p.data, .int .u64 p.bl, .int .u64 p.br, .int .u64 p.uni, .int .u64 p.bidis, .int .u64 p.unis, .int .u64 p.expo, .int .u64 p.delay, .int .u64 p.ids, .string ⟨p.tok.toArray⟩] 24))
  go_enter Tryd.func4, Tryd.ntmps4
  go_wp2_with fail
  refine (CS.out _ (HT.out.below HX.out (Nat.le_refl _))).mono ?_
  rintro e w1 ⟨rfl, hb⟩
  have H1 := Lib.hid (HX.out.trans (hb.mono HX.out.size))
  clear hb
  go_wp2
  go_ret
  exact ⟨rfl, H1.out⟩
set_option maxHeartbeats 8000000 in
theorem back_yy (p : Prm) (l : List UInt8) (w : World) (ht : Tabs w) (hw : Wf p) (h0 : ¬ (100 : Int) < (p.tok.length : Nat)) (h1 : ¬ (600 : Int) < (l.length : Nat)) (hc : chkB p = true) (r : Prm) (hg : getO l = some r) : Calls Tryd.prog 4 #[.agg #[.int .u64 p.idle, .int .u64 p.size, .int .u64 p.data, .int .u64 p.bl, .int .u64 p.br, .int .u64 p.uni, .int .u64 p.bidis, .int .u64 p.unis, .int .u64 p.expo, .int .u64 p.delay, .int .u64 p.ids, .string ⟨p.tok.toArray⟩], .string ⟨l.toArray⟩] w fun e w' => e = .returned (.bool true) ∧ Below w.heap.size w w' := by
  obtain ⟨s, Es⟩ : ∃ s, putL p = s := ⟨_, rfl⟩
  have CP : Hid (∀ w, Tabs w → Calls Tryd.prog 9 #[.agg #[.int .u64 p.idle, .int .u64 p.size, .int .u64 p.data, .int .u64 p.bl, .int .u64 p.br, .int .u64 p.uni, .int .u64 p.bidis, .int .u64 p.unis, .int .u64 p.expo, .int .u64 p.delay, .int .u64 p.ids, .string ⟨p.tok.toArray⟩]] w fun e w' => e = .returned (.tuple #[.string ⟨s.toArray⟩, .int .i64 0]) ∧ Below w.heap.size w w') := Lib.hid (fun w ht => by
    have := put_some hc w hw ht
    rw [Es] at this
    exact this)
  have CQ : Hid (∀ w, Tabs w → Calls Tryd.prog 11 #[.string ⟨s.toArray⟩] w fun e w' => e = .returned (.tuple #[.agg #[.int .u64 p.idle, .int .u64 p.size, .int .u64 p.data, .int .u64 p.bl, .int .u64 p.br, .int .u64 p.uni, .int .u64 p.bidis, .int .u64 p.unis, .int .u64 p.expo, .int .u64 p.delay, .int .u64 p.ids, .string ⟨p.tok.toArray⟩], .int .i64 0]) ∧ Below w.heap.size w w') := Lib.hid (fun w ht => by
    have := back_some hc w hw (putL_few hc) ht
    rw [Es] at this
    exact this)
  have gw := getO_wf (show l.length ≤ 140737488351232 by omega) hg
  have gc := gw.2
  have CG : Hid (∀ w, Tabs w → Calls Tryd.prog 11 #[.string ⟨l.toArray⟩] w fun e w' => e = .returned (.tuple #[.agg #[.int .u64 r.idle, .int .u64 r.size, .int .u64 r.data, .int .u64 r.bl, .int .u64 r.br, .int .u64 r.uni, .int .u64 r.bidis, .int .u64 r.unis, .int .u64 r.expo, .int .u64 r.delay, .int .u64 r.ids, .string ⟨r.tok.toArray⟩], .int .i64 0]) ∧ Below w.heap.size w w') := Lib.hid (fun w ht => get_some hg w (by omega) ht)
  obtain ⟨t, Et⟩ : ∃ t, putL r = t := ⟨_, rfl⟩
  have CR : Hid (∀ w, Tabs w → Calls Tryd.prog 9 #[.agg #[.int .u64 r.idle, .int .u64 r.size, .int .u64 r.data, .int .u64 r.bl, .int .u64 r.br, .int .u64 r.uni, .int .u64 r.bidis, .int .u64 r.unis, .int .u64 r.expo, .int .u64 r.delay, .int .u64 r.ids, .string ⟨r.tok.toArray⟩]] w fun e w' => e = .returned (.tuple #[.string ⟨t.toArray⟩, .int .i64 0]) ∧ Below w.heap.size w w') := Lib.hid (fun w ht => by
    have := put_some gc w gw.1 ht
    rw [Et] at this
    exact this)
  have CT : Hid (∀ w, Tabs w → Calls Tryd.prog 11 #[.string ⟨t.toArray⟩] w fun e w' => e = .returned (.tuple #[.agg #[.int .u64 r.idle, .int .u64 r.size, .int .u64 r.data, .int .u64 r.bl, .int .u64 r.br, .int .u64 r.uni, .int .u64 r.bidis, .int .u64 r.unis, .int .u64 r.expo, .int .u64 r.delay, .int .u64 r.ids, .string ⟨r.tok.toArray⟩], .int .i64 0]) ∧ Below w.heap.size w w') := Lib.hid (fun w ht => by
    have := back_some gc w gw.1 (putL_few gc) ht
    rw [Et] at this
    exact this)
  have CC : Hid (∀ w, Tabs w → Calls Tryd.prog 13 #[.agg #[.int .u64 r.idle, .int .u64 r.size, .int .u64 r.data, .int .u64 r.bl, .int .u64 r.br, .int .u64 r.uni, .int .u64 r.bidis, .int .u64 r.unis, .int .u64 r.expo, .int .u64 r.delay, .int .u64 r.ids, .string ⟨r.tok.toArray⟩]] w fun e w' => e = .returned (.int .i64 0) ∧ Below w.heap.size w w') := Lib.hid (fun w ht => by
    have := check_any r w ht.2 gw.1
    rw [chkE_yes gc] at this
    exact this)
  have CS : Hid (∀ w, Tabs w → Calls Tryd.prog 8 #[] w fun e w' => e = .returned (.bool true) ∧ Below w.heap.size w w') := Lib.hid shown_any
  have HT := Lib.hid ht
  clear ht
  have HX := Lib.hid ((Below.refl w.heap.size w).alloc (Nat.le_refl _) (.cells #[.int .u64 p.idle, .int .u64 p.size, .int .u64 p.data, .int .u64 p.bl, .int .u64 p.br, .int .u64 p.uni, .int .u64 p.bidis, .int .u64 p.unis, .int .u64 p.expo, .int .u64 p.delay, .int .u64 p.ids, .string ⟨p.tok.toArray⟩] 24))
  clear hc hg hw Es Et gw gc
  go_enter Tryd.func4, Tryd.ntmps4
  go_wp2_with fail
  refine (CS.out _ (HT.out.below HX.out (Nat.le_refl _))).mono ?_
  rintro e w1 ⟨rfl, hb⟩
  have H1 := Lib.hid (HX.out.trans (hb.mono HX.out.size))
  have HP1 : Hid (PBk w.heap.size p w1) := Lib.hid ((PBk.made w p).keep hb)
  clear hb
  have a0 := HP1.out.cell0
  have a1 := HP1.out.cell1
  have a2 := HP1.out.cell2
  have a3 := HP1.out.cell3
  have a4 := HP1.out.cell4
  have a5 := HP1.out.cell5
  have a6 := HP1.out.cell6
  have a7 := HP1.out.cell7
  have a8 := HP1.out.cell8
  have a9 := HP1.out.cell9
  have a10 := HP1.out.cell10
  have a11 := HP1.out.cell11
  go_wp2_with fail
  refine (CP.out _ (HT.out.below H1.out (Nat.le_refl _))).mono ?_
  rintro e w2 ⟨rfl, hb⟩
  have HP2 := Lib.hid (HP1.out.keep hb)
  have H2 := Lib.hid (H1.out.trans (hb.mono H1.out.size))
  have hlHP2 := HP2.out.lt
  clear hb
  clear a0 a1 a2 a3 a4 a5 a6 a7 a8 a9 a10 a11
  go_wp2_with fail
  refine (CQ.out _ (HT.out.below H2.out (Nat.le_refl _))).mono ?_
  rintro e w3 ⟨rfl, hb⟩
  have HP3 := Lib.hid (HP2.out.keep hb)
  have H3 := Lib.hid (H2.out.trans (hb.mono H2.out.size))
  have hlHP3 := HP3.out.lt
  clear hb
  have a0 := HP3.out.cell0
  have a1 := HP3.out.cell1
  have a2 := HP3.out.cell2
  have a3 := HP3.out.cell3
  have a4 := HP3.out.cell4
  have a5 := HP3.out.cell5
  have a6 := HP3.out.cell6
  have a7 := HP3.out.cell7
  have a8 := HP3.out.cell8
  have a9 := HP3.out.cell9
  have a10 := HP3.out.cell10
  have a11 := HP3.out.cell11
  go_wp2_with fail
  refine (CG.out _ (HT.out.below (H3.out.alloc H3.out.size _) (Nat.le_refl _))).mono ?_
  rintro e w4 ⟨rfl, hb⟩
  have HU4 : Hid (PBk w3.heap.size p w4) := Lib.hid ((PBk.made w3 p).keep hb)
  have H4 := Lib.hid ((H3.out.alloc H3.out.size _).trans (hb.mono (by have := H3.out.size; simp; omega)))
  have hlHU4 := HU4.out.lt
  clear hb
  clear a0 a1 a2 a3 a4 a5 a6 a7 a8 a9 a10 a11
  go_wp2_with fail
  refine (CR.out _ (HT.out.below (H4.out.alloc H4.out.size _) (Nat.le_refl _))).mono ?_
  rintro e w5 ⟨rfl, hb⟩
  have HR5 : Hid (PBk w4.heap.size r w5) := Lib.hid ((PBk.made w4 r).keep hb)
  have H5 := Lib.hid ((H4.out.alloc H4.out.size _).trans (hb.mono (by have := H4.out.size; simp; omega)))
  have hlHR5 := HR5.out.lt
  clear hb
  go_wp2_with fail
  refine (CT.out _ (HT.out.below H5.out (Nat.le_refl _))).mono ?_
  rintro e w6 ⟨rfl, hb⟩
  have HR6 := Lib.hid (HR5.out.keep hb)
  have H6 := Lib.hid (H5.out.trans (hb.mono H5.out.size))
  have hlHR6 := HR6.out.lt
  clear hb
  have a0 := HR6.out.cell0
  have a1 := HR6.out.cell1
  have a2 := HR6.out.cell2
  have a3 := HR6.out.cell3
  have a4 := HR6.out.cell4
  have a5 := HR6.out.cell5
  have a6 := HR6.out.cell6
  have a7 := HR6.out.cell7
  have a8 := HR6.out.cell8
  have a9 := HR6.out.cell9
  have a10 := HR6.out.cell10
  have a11 := HR6.out.cell11
  go_wp2_with fail
  refine (CC.out _ (HT.out.below (H6.out.alloc H6.out.size _) (Nat.le_refl _))).mono ?_
  rintro e w7 ⟨rfl, hb⟩
  have HR7 := Lib.hid ((HR6.out.keep ((Below.refl _ _).alloc (Nat.le_refl _) _)).keep hb)
  have HS7 : Hid (PBk w6.heap.size r w7) := Lib.hid ((PBk.made w6 r).keep hb)
  have H7 := Lib.hid ((H6.out.alloc H6.out.size _).trans (hb.mono (by have := H6.out.size; simp; omega)))
  have hlHR7 := HR7.out.lt
  have hlHS7 := HS7.out.lt
  clear hb
  clear a0 a1 a2 a3 a4 a5 a6 a7 a8 a9 a10 a11
  have a0 := HR7.out.cell0
  have a1 := HR7.out.cell1
  have a2 := HR7.out.cell2
  have a3 := HR7.out.cell3
  have a4 := HR7.out.cell4
  have a5 := HR7.out.cell5
  have a6 := HR7.out.cell6
  have a7 := HR7.out.cell7
  have a8 := HR7.out.cell8
  have a9 := HR7.out.cell9
  have a10 := HR7.out.cell10
  have a11 := HR7.out.cell11
  have b0 := HS7.out.cell0
  have b1 := HS7.out.cell1
  have b2 := HS7.out.cell2
  have b3 := HS7.out.cell3
  have b4 := HS7.out.cell4
  have b5 := HS7.out.cell5
  have b6 := HS7.out.cell6
  have b7 := HS7.out.cell7
  have b8 := HS7.out.cell8
  have b9 := HS7.out.cell9
  have b10 := HS7.out.cell10
  have b11 := HS7.out.cell11
  go_wp2
  go_ret
  exact ⟨rfl, H7.out⟩
set_option maxHeartbeats 8000000 in
theorem back_yn (p : Prm) (l : List UInt8) (w : World) (ht : Tabs w) (hw : Wf p) (h0 : ¬ (100 : Int) < (p.tok.length : Nat)) (h1 : ¬ (600 : Int) < (l.length : Nat)) (hc : chkB p = true) (hg : getO l = none) : Calls Tryd.prog 4 #[.agg #[.int .u64 p.idle, .int .u64 p.size, .int .u64 p.data, .int .u64 p.bl, .int .u64 p.br, .int .u64 p.uni, .int .u64 p.bidis, .int .u64 p.unis, .int .u64 p.expo, .int .u64 p.delay, .int .u64 p.ids, .string ⟨p.tok.toArray⟩], .string ⟨l.toArray⟩] w fun e w' => e = .returned (.bool true) ∧ Below w.heap.size w w' := by
  obtain ⟨s, Es⟩ : ∃ s, putL p = s := ⟨_, rfl⟩
  have CP : Hid (∀ w, Tabs w → Calls Tryd.prog 9 #[.agg #[.int .u64 p.idle, .int .u64 p.size, .int .u64 p.data, .int .u64 p.bl, .int .u64 p.br, .int .u64 p.uni, .int .u64 p.bidis, .int .u64 p.unis, .int .u64 p.expo, .int .u64 p.delay, .int .u64 p.ids, .string ⟨p.tok.toArray⟩]] w fun e w' => e = .returned (.tuple #[.string ⟨s.toArray⟩, .int .i64 0]) ∧ Below w.heap.size w w') := Lib.hid (fun w ht => by
    have := put_some hc w hw ht
    rw [Es] at this
    exact this)
  have CQ : Hid (∀ w, Tabs w → Calls Tryd.prog 11 #[.string ⟨s.toArray⟩] w fun e w' => e = .returned (.tuple #[.agg #[.int .u64 p.idle, .int .u64 p.size, .int .u64 p.data, .int .u64 p.bl, .int .u64 p.br, .int .u64 p.uni, .int .u64 p.bidis, .int .u64 p.unis, .int .u64 p.expo, .int .u64 p.delay, .int .u64 p.ids, .string ⟨p.tok.toArray⟩], .int .i64 0]) ∧ Below w.heap.size w w') := Lib.hid (fun w ht => by
    have := back_some hc w hw (putL_few hc) ht
    rw [Es] at this
    exact this)
  have CG : Hid (∀ w, Tabs w → Calls Tryd.prog 11 #[.string ⟨l.toArray⟩] w fun e w' => e = .returned (.tuple #[(.agg #[.int .u64 0, .int .u64 0, .int .u64 0, .int .u64 0, .int .u64 0, .int .u64 0, .int .u64 0, .int .u64 0, .int .u64 0, .int .u64 0, .int .u64 0, .string ⟨#[]⟩]), .int .i64 50]) ∧ Below w.heap.size w w') := Lib.hid (fun w ht => get_none hg w (by omega) ht)
  have CS : Hid (∀ w, Tabs w → Calls Tryd.prog 8 #[] w fun e w' => e = .returned (.bool true) ∧ Below w.heap.size w w') := Lib.hid shown_any
  have HT := Lib.hid ht
  clear ht
  have HX := Lib.hid ((Below.refl w.heap.size w).alloc (Nat.le_refl _) (.cells #[.int .u64 p.idle, .int .u64 p.size, .int .u64 p.data, .int .u64 p.bl, .int .u64 p.br, .int .u64 p.uni, .int .u64 p.bidis, .int .u64 p.unis, .int .u64 p.expo, .int .u64 p.delay, .int .u64 p.ids, .string ⟨p.tok.toArray⟩] 24))
  clear hc hg hw Es
  go_enter Tryd.func4, Tryd.ntmps4
  go_wp2_with fail
  refine (CS.out _ (HT.out.below HX.out (Nat.le_refl _))).mono ?_
  rintro e w1 ⟨rfl, hb⟩
  have H1 := Lib.hid (HX.out.trans (hb.mono HX.out.size))
  have HP1 : Hid (PBk w.heap.size p w1) := Lib.hid ((PBk.made w p).keep hb)
  clear hb
  have a0 := HP1.out.cell0
  have a1 := HP1.out.cell1
  have a2 := HP1.out.cell2
  have a3 := HP1.out.cell3
  have a4 := HP1.out.cell4
  have a5 := HP1.out.cell5
  have a6 := HP1.out.cell6
  have a7 := HP1.out.cell7
  have a8 := HP1.out.cell8
  have a9 := HP1.out.cell9
  have a10 := HP1.out.cell10
  have a11 := HP1.out.cell11
  go_wp2_with fail
  refine (CP.out _ (HT.out.below H1.out (Nat.le_refl _))).mono ?_
  rintro e w2 ⟨rfl, hb⟩
  have HP2 := Lib.hid (HP1.out.keep hb)
  have H2 := Lib.hid (H1.out.trans (hb.mono H1.out.size))
  have hlHP2 := HP2.out.lt
  clear hb
  clear a0 a1 a2 a3 a4 a5 a6 a7 a8 a9 a10 a11
  go_wp2_with fail
  refine (CQ.out _ (HT.out.below H2.out (Nat.le_refl _))).mono ?_
  rintro e w3 ⟨rfl, hb⟩
  have HP3 := Lib.hid (HP2.out.keep hb)
  have H3 := Lib.hid (H2.out.trans (hb.mono H2.out.size))
  have hlHP3 := HP3.out.lt
  clear hb
  have a0 := HP3.out.cell0
  have a1 := HP3.out.cell1
  have a2 := HP3.out.cell2
  have a3 := HP3.out.cell3
  have a4 := HP3.out.cell4
  have a5 := HP3.out.cell5
  have a6 := HP3.out.cell6
  have a7 := HP3.out.cell7
  have a8 := HP3.out.cell8
  have a9 := HP3.out.cell9
  have a10 := HP3.out.cell10
  have a11 := HP3.out.cell11
  go_wp2_with fail
  refine (CG.out _ (HT.out.below (H3.out.alloc H3.out.size _) (Nat.le_refl _))).mono ?_
  rintro e w4 ⟨rfl, hb⟩
  have HU4 : Hid (PBk w3.heap.size p w4) := Lib.hid ((PBk.made w3 p).keep hb)
  have H4 := Lib.hid ((H3.out.alloc H3.out.size _).trans (hb.mono (by have := H3.out.size; simp; omega)))
  have hlHU4 := HU4.out.lt
  clear hb
  clear a0 a1 a2 a3 a4 a5 a6 a7 a8 a9 a10 a11
  go_wp2
  go_ret
  exact ⟨rfl, H4.out.alloc H4.out.size _⟩
set_option maxHeartbeats 8000000 in
theorem back_ny (p : Prm) (l : List UInt8) (w : World) (ht : Tabs w) (hw : Wf p) (h0 : ¬ (100 : Int) < (p.tok.length : Nat)) (h1 : ¬ (600 : Int) < (l.length : Nat)) (hc : chkB p = false) (r : Prm) (hg : getO l = some r) : Calls Tryd.prog 4 #[.agg #[.int .u64 p.idle, .int .u64 p.size, .int .u64 p.data, .int .u64 p.bl, .int .u64 p.br, .int .u64 p.uni, .int .u64 p.bidis, .int .u64 p.unis, .int .u64 p.expo, .int .u64 p.delay, .int .u64 p.ids, .string ⟨p.tok.toArray⟩], .string ⟨l.toArray⟩] w fun e w' => e = .returned (.bool true) ∧ Below w.heap.size w w' := by
  have CP : Hid (∀ w, Tabs w → Calls Tryd.prog 9 #[.agg #[.int .u64 p.idle, .int .u64 p.size, .int .u64 p.data, .int .u64 p.bl, .int .u64 p.br, .int .u64 p.uni, .int .u64 p.bidis, .int .u64 p.unis, .int .u64 p.expo, .int .u64 p.delay, .int .u64 p.ids, .string ⟨p.tok.toArray⟩]] w fun e w' => e = .returned (.tuple #[.string ⟨#[]⟩, .int .i64 50]) ∧ Below w.heap.size w w') := Lib.hid (fun w ht => put_none hc w hw ht)
  have gw := getO_wf (show l.length ≤ 140737488351232 by omega) hg
  have gc := gw.2
  have CG : Hid (∀ w, Tabs w → Calls Tryd.prog 11 #[.string ⟨l.toArray⟩] w fun e w' => e = .returned (.tuple #[.agg #[.int .u64 r.idle, .int .u64 r.size, .int .u64 r.data, .int .u64 r.bl, .int .u64 r.br, .int .u64 r.uni, .int .u64 r.bidis, .int .u64 r.unis, .int .u64 r.expo, .int .u64 r.delay, .int .u64 r.ids, .string ⟨r.tok.toArray⟩], .int .i64 0]) ∧ Below w.heap.size w w') := Lib.hid (fun w ht => get_some hg w (by omega) ht)
  obtain ⟨t, Et⟩ : ∃ t, putL r = t := ⟨_, rfl⟩
  have CR : Hid (∀ w, Tabs w → Calls Tryd.prog 9 #[.agg #[.int .u64 r.idle, .int .u64 r.size, .int .u64 r.data, .int .u64 r.bl, .int .u64 r.br, .int .u64 r.uni, .int .u64 r.bidis, .int .u64 r.unis, .int .u64 r.expo, .int .u64 r.delay, .int .u64 r.ids, .string ⟨r.tok.toArray⟩]] w fun e w' => e = .returned (.tuple #[.string ⟨t.toArray⟩, .int .i64 0]) ∧ Below w.heap.size w w') := Lib.hid (fun w ht => by
    have := put_some gc w gw.1 ht
    rw [Et] at this
    exact this)
  have CT : Hid (∀ w, Tabs w → Calls Tryd.prog 11 #[.string ⟨t.toArray⟩] w fun e w' => e = .returned (.tuple #[.agg #[.int .u64 r.idle, .int .u64 r.size, .int .u64 r.data, .int .u64 r.bl, .int .u64 r.br, .int .u64 r.uni, .int .u64 r.bidis, .int .u64 r.unis, .int .u64 r.expo, .int .u64 r.delay, .int .u64 r.ids, .string ⟨r.tok.toArray⟩], .int .i64 0]) ∧ Below w.heap.size w w') := Lib.hid (fun w ht => by
    have := back_some gc w gw.1 (putL_few gc) ht
    rw [Et] at this
    exact this)
  have CC : Hid (∀ w, Tabs w → Calls Tryd.prog 13 #[.agg #[.int .u64 r.idle, .int .u64 r.size, .int .u64 r.data, .int .u64 r.bl, .int .u64 r.br, .int .u64 r.uni, .int .u64 r.bidis, .int .u64 r.unis, .int .u64 r.expo, .int .u64 r.delay, .int .u64 r.ids, .string ⟨r.tok.toArray⟩]] w fun e w' => e = .returned (.int .i64 0) ∧ Below w.heap.size w w') := Lib.hid (fun w ht => by
    have := check_any r w ht.2 gw.1
    rw [chkE_yes gc] at this
    exact this)
  have CS : Hid (∀ w, Tabs w → Calls Tryd.prog 8 #[] w fun e w' => e = .returned (.bool true) ∧ Below w.heap.size w w') := Lib.hid shown_any
  have HT := Lib.hid ht
  clear ht
  have HX := Lib.hid ((Below.refl w.heap.size w).alloc (Nat.le_refl _) (.cells #[.int .u64 p.idle, .int .u64 p.size, .int .u64 p.data, .int .u64 p.bl, .int .u64 p.br, .int .u64 p.uni, .int .u64 p.bidis, .int .u64 p.unis, .int .u64 p.expo, .int .u64 p.delay, .int .u64 p.ids, .string ⟨p.tok.toArray⟩] 24))
  clear hc hg hw Et gw gc
  go_enter Tryd.func4, Tryd.ntmps4
  go_wp2_with fail
  refine (CS.out _ (HT.out.below HX.out (Nat.le_refl _))).mono ?_
  rintro e w1 ⟨rfl, hb⟩
  have H1 := Lib.hid (HX.out.trans (hb.mono HX.out.size))
  have HP1 : Hid (PBk w.heap.size p w1) := Lib.hid ((PBk.made w p).keep hb)
  clear hb
  have a0 := HP1.out.cell0
  have a1 := HP1.out.cell1
  have a2 := HP1.out.cell2
  have a3 := HP1.out.cell3
  have a4 := HP1.out.cell4
  have a5 := HP1.out.cell5
  have a6 := HP1.out.cell6
  have a7 := HP1.out.cell7
  have a8 := HP1.out.cell8
  have a9 := HP1.out.cell9
  have a10 := HP1.out.cell10
  have a11 := HP1.out.cell11
  go_wp2_with fail
  refine (CP.out _ (HT.out.below H1.out (Nat.le_refl _))).mono ?_
  rintro e w2 ⟨rfl, hb⟩
  have HP2 := Lib.hid (HP1.out.keep hb)
  have H2 := Lib.hid (H1.out.trans (hb.mono H1.out.size))
  have hlHP2 := HP2.out.lt
  clear hb
  clear a0 a1 a2 a3 a4 a5 a6 a7 a8 a9 a10 a11
  go_wp2_with fail
  refine (CG.out _ (HT.out.below H2.out (Nat.le_refl _))).mono ?_
  rintro e w4 ⟨rfl, hb⟩
  have H4 := Lib.hid (H2.out.trans (hb.mono H2.out.size))
  clear hb
  go_wp2_with fail
  refine (CR.out _ (HT.out.below (H4.out.alloc H4.out.size _) (Nat.le_refl _))).mono ?_
  rintro e w5 ⟨rfl, hb⟩
  have HR5 : Hid (PBk w4.heap.size r w5) := Lib.hid ((PBk.made w4 r).keep hb)
  have H5 := Lib.hid ((H4.out.alloc H4.out.size _).trans (hb.mono (by have := H4.out.size; simp; omega)))
  have hlHR5 := HR5.out.lt
  clear hb
  go_wp2_with fail
  refine (CT.out _ (HT.out.below H5.out (Nat.le_refl _))).mono ?_
  rintro e w6 ⟨rfl, hb⟩
  have HR6 := Lib.hid (HR5.out.keep hb)
  have H6 := Lib.hid (H5.out.trans (hb.mono H5.out.size))
  have hlHR6 := HR6.out.lt
  clear hb
  have a0 := HR6.out.cell0
  have a1 := HR6.out.cell1
  have a2 := HR6.out.cell2
  have a3 := HR6.out.cell3
  have a4 := HR6.out.cell4
  have a5 := HR6.out.cell5
  have a6 := HR6.out.cell6
  have a7 := HR6.out.cell7
  have a8 := HR6.out.cell8
  have a9 := HR6.out.cell9
  have a10 := HR6.out.cell10
  have a11 := HR6.out.cell11
  go_wp2_with fail
  refine (CC.out _ (HT.out.below (H6.out.alloc H6.out.size _) (Nat.le_refl _))).mono ?_
  rintro e w7 ⟨rfl, hb⟩
  have HR7 := Lib.hid ((HR6.out.keep ((Below.refl _ _).alloc (Nat.le_refl _) _)).keep hb)
  have HS7 : Hid (PBk w6.heap.size r w7) := Lib.hid ((PBk.made w6 r).keep hb)
  have H7 := Lib.hid ((H6.out.alloc H6.out.size _).trans (hb.mono (by have := H6.out.size; simp; omega)))
  have hlHR7 := HR7.out.lt
  have hlHS7 := HS7.out.lt
  clear hb
  clear a0 a1 a2 a3 a4 a5 a6 a7 a8 a9 a10 a11
  have a0 := HR7.out.cell0
  have a1 := HR7.out.cell1
  have a2 := HR7.out.cell2
  have a3 := HR7.out.cell3
  have a4 := HR7.out.cell4
  have a5 := HR7.out.cell5
  have a6 := HR7.out.cell6
  have a7 := HR7.out.cell7
  have a8 := HR7.out.cell8
  have a9 := HR7.out.cell9
  have a10 := HR7.out.cell10
  have a11 := HR7.out.cell11
  have b0 := HS7.out.cell0
  have b1 := HS7.out.cell1
  have b2 := HS7.out.cell2
  have b3 := HS7.out.cell3
  have b4 := HS7.out.cell4
  have b5 := HS7.out.cell5
  have b6 := HS7.out.cell6
  have b7 := HS7.out.cell7
  have b8 := HS7.out.cell8
  have b9 := HS7.out.cell9
  have b10 := HS7.out.cell10
  have b11 := HS7.out.cell11
  go_wp2
  go_ret
  exact ⟨rfl, H7.out⟩
set_option maxHeartbeats 8000000 in
theorem back_nn (p : Prm) (l : List UInt8) (w : World) (ht : Tabs w) (hw : Wf p) (h0 : ¬ (100 : Int) < (p.tok.length : Nat)) (h1 : ¬ (600 : Int) < (l.length : Nat)) (hc : chkB p = false) (hg : getO l = none) : Calls Tryd.prog 4 #[.agg #[.int .u64 p.idle, .int .u64 p.size, .int .u64 p.data, .int .u64 p.bl, .int .u64 p.br, .int .u64 p.uni, .int .u64 p.bidis, .int .u64 p.unis, .int .u64 p.expo, .int .u64 p.delay, .int .u64 p.ids, .string ⟨p.tok.toArray⟩], .string ⟨l.toArray⟩] w fun e w' => e = .returned (.bool true) ∧ Below w.heap.size w w' := by
  have CP : Hid (∀ w, Tabs w → Calls Tryd.prog 9 #[.agg #[.int .u64 p.idle, .int .u64 p.size, .int .u64 p.data, .int .u64 p.bl, .int .u64 p.br, .int .u64 p.uni, .int .u64 p.bidis, .int .u64 p.unis, .int .u64 p.expo, .int .u64 p.delay, .int .u64 p.ids, .string ⟨p.tok.toArray⟩]] w fun e w' => e = .returned (.tuple #[.string ⟨#[]⟩, .int .i64 50]) ∧ Below w.heap.size w w') := Lib.hid (fun w ht => put_none hc w hw ht)
  have CG : Hid (∀ w, Tabs w → Calls Tryd.prog 11 #[.string ⟨l.toArray⟩] w fun e w' => e = .returned (.tuple #[(.agg #[.int .u64 0, .int .u64 0, .int .u64 0, .int .u64 0, .int .u64 0, .int .u64 0, .int .u64 0, .int .u64 0, .int .u64 0, .int .u64 0, .int .u64 0, .string ⟨#[]⟩]), .int .i64 50]) ∧ Below w.heap.size w w') := Lib.hid (fun w ht => get_none hg w (by omega) ht)
  have CS : Hid (∀ w, Tabs w → Calls Tryd.prog 8 #[] w fun e w' => e = .returned (.bool true) ∧ Below w.heap.size w w') := Lib.hid shown_any
  have HT := Lib.hid ht
  clear ht
  have HX := Lib.hid ((Below.refl w.heap.size w).alloc (Nat.le_refl _) (.cells #[.int .u64 p.idle, .int .u64 p.size, .int .u64 p.data, .int .u64 p.bl, .int .u64 p.br, .int .u64 p.uni, .int .u64 p.bidis, .int .u64 p.unis, .int .u64 p.expo, .int .u64 p.delay, .int .u64 p.ids, .string ⟨p.tok.toArray⟩] 24))
  clear hc hg hw
  go_enter Tryd.func4, Tryd.ntmps4
  go_wp2_with fail
  refine (CS.out _ (HT.out.below HX.out (Nat.le_refl _))).mono ?_
  rintro e w1 ⟨rfl, hb⟩
  have H1 := Lib.hid (HX.out.trans (hb.mono HX.out.size))
  have HP1 : Hid (PBk w.heap.size p w1) := Lib.hid ((PBk.made w p).keep hb)
  clear hb
  have a0 := HP1.out.cell0
  have a1 := HP1.out.cell1
  have a2 := HP1.out.cell2
  have a3 := HP1.out.cell3
  have a4 := HP1.out.cell4
  have a5 := HP1.out.cell5
  have a6 := HP1.out.cell6
  have a7 := HP1.out.cell7
  have a8 := HP1.out.cell8
  have a9 := HP1.out.cell9
  have a10 := HP1.out.cell10
  have a11 := HP1.out.cell11
  go_wp2_with fail
  refine (CP.out _ (HT.out.below H1.out (Nat.le_refl _))).mono ?_
  rintro e w2 ⟨rfl, hb⟩
  have HP2 := Lib.hid (HP1.out.keep hb)
  have H2 := Lib.hid (H1.out.trans (hb.mono H1.out.size))
  have hlHP2 := HP2.out.lt
  clear hb
  clear a0 a1 a2 a3 a4 a5 a6 a7 a8 a9 a10 a11
  go_wp2_with fail
  refine (CG.out _ (HT.out.below H2.out (Nat.le_refl _))).mono ?_
  rintro e w4 ⟨rfl, hb⟩
  have H4 := Lib.hid (H2.out.trans (hb.mono H2.out.size))
  clear hb
  go_wp2
  go_ret
  exact ⟨rfl, H4.out.alloc H4.out.size _⟩
theorem back_any (idle size data bl br uni bidis unis expo delay ids : Int) (tok l : List UInt8) (w : World) (ht : Tabs w) (w0_0 : (Lit.int .u64 idle).wf = true) (w0_1 : (Lit.int .u64 size).wf = true) (w0_2 : (Lit.int .u64 data).wf = true) (w0_3 : (Lit.int .u64 bl).wf = true) (w0_4 : (Lit.int .u64 br).wf = true) (w0_5 : (Lit.int .u64 uni).wf = true) (w0_6 : (Lit.int .u64 bidis).wf = true) (w0_7 : (Lit.int .u64 unis).wf = true) (w0_8 : (Lit.int .u64 expo).wf = true) (w0_9 : (Lit.int .u64 delay).wf = true) (w0_10 : (Lit.int .u64 ids).wf = true) (w0_11 : (⟨tok.toArray⟩ : ByteArray).size ≤ maxLen) (w1 : (⟨l.toArray⟩ : ByteArray).size ≤ maxLen) :
    Calls Tryd.prog 4 #[.agg #[.int .u64 idle, .int .u64 size, .int .u64 data, .int .u64 bl, .int .u64 br, .int .u64 uni, .int .u64 bidis, .int .u64 unis, .int .u64 expo, .int .u64 delay, .int .u64 ids, .string ⟨tok.toArray⟩], .string ⟨l.toArray⟩] w fun e w' => e = .returned (.bool true) ∧ Below w.heap.size w w' := by
  obtain ⟨p, hp⟩ : ∃ p : Prm, p = ⟨idle, size, data, bl, br, uni, bidis, unis, expo, delay, ids, tok⟩ := ⟨_, rfl⟩
  have e : #[Value.agg #[.int .u64 idle, .int .u64 size, .int .u64 data, .int .u64 bl, .int .u64 br, .int .u64 uni, .int .u64 bidis, .int .u64 unis, .int .u64 expo, .int .u64 delay, .int .u64 ids, .string ⟨tok.toArray⟩], .string ⟨l.toArray⟩] = #[Value.agg #[.int .u64 p.idle, .int .u64 p.size, .int .u64 p.data, .int .u64 p.bl, .int .u64 p.br, .int .u64 p.uni, .int .u64 p.bidis, .int .u64 p.unis, .int .u64 p.expo, .int .u64 p.delay, .int .u64 p.ids, .string ⟨p.tok.toArray⟩], .string ⟨l.toArray⟩] := by rw [hp]
  rw [e]
  by_cases h0 : (100 : Int) < (p.tok.length : Nat)
  · exact back_long1 p l w ht h0
  by_cases h1 : (600 : Int) < (l.length : Nat)
  · exact back_long2 p l w ht h0 h1
  have hw : Wf p := by
    have ht : p.tok.length ≤ 140737488351232 := by omega
    rw [hp] at ht ⊢
    exact ⟨bounds_u64 w0_0, bounds_u64 w0_1, bounds_u64 w0_2, bounds_u64 w0_3, bounds_u64 w0_4, bounds_u64 w0_5, bounds_u64 w0_6, bounds_u64 w0_7, bounds_u64 w0_8, bounds_u64 w0_9, bounds_u64 w0_10, ht⟩
  cases hc : chkB p with
  | true =>
    cases hg : getO l with
    | some r => exact back_yy p l w ht hw h0 h1 hc r hg
    | none => exact back_yn p l w ht hw h0 h1 hc hg
  | false =>
    cases hg : getO l with
    | some r => exact back_ny p l w ht hw h0 h1 hc r hg
    | none => exact back_nn p l w ht hw h0 h1 hc hg
end Go.Proofs.YthhcpedaldlccaaDoor.Pm
