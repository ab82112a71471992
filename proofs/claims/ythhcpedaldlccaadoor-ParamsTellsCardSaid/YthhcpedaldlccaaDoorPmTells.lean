/- The walk of the law ParamsTells. By tools/gen-params-11.py. -/
import Derived.Test.YthhcpedaldlccaaDoorPrD
import Derived.Test.YthhcpedaldlccaaDoorPmNone
import Derived.Deep.RegionHeld3
namespace Go.Proofs.YthhcpedaldlccaaDoor.Pm
open Go.RowKit Vm
set_option linter.unusedVariables false
set_option linter.unusedSimpArgs false

/-- Two boxes of parameters of the program's, two of the document's. -/
structure Box4 (w : World) (A B C D : Nat) (p q : Prm) (W : World) : Prop where
  a : PBk A p W
  b : RBk B p W
  c : PBk C q W
  d : RBk D q W
  bel : Below w.heap.size w W
theorem Box4.keep {w W W' : World} {A B C D : Nat} {p q : Prm} (h : Box4 w A B C D p q W) (hb : Below W.heap.size W W') : Box4 w A B C D p q W' := ⟨h.a.keep hb, h.b.keep hb, h.c.keep hb, h.d.keep hb, h.bel.trans (hb.mono h.bel.size)⟩
theorem Box4.drew {w W : World} {A B C D : Nat} {p q : Prm} (h : Box4 w A B C D p q W) : Box4 w A B C D p q W.drew := h.keep ⟨rfl, rfl, rfl, Nat.le_refl _, fun _ _ => rfl⟩
set_option maxHeartbeats 4000000 in
theorem tells_long1 (p : Prm) (l : List UInt8) (w : World) (ht : Tabs w) (h : (100 : Int) < (p.tok.length : Nat)) : Calls Tryd.prog 3 #[.agg #[.int .u64 p.idle, .int .u64 p.size, .int .u64 p.data, .int .u64 p.bl, .int .u64 p.br, .int .u64 p.uni, .int .u64 p.bidis, .int .u64 p.unis, .int .u64 p.expo, .int .u64 p.delay, .int .u64 p.ids, .string ⟨p.tok.toArray⟩], .string ⟨l.toArray⟩] w fun e w' => e = .returned (.bool true) ∧ Below w.heap.size w w' := by
  have CS : Hid (∀ w, Tabs w → Calls Tryd.prog 8 #[] w fun e w' => e = .returned (.bool true) ∧ Below w.heap.size w w') := Lib.hid shown_any
  have HT := Lib.hid ht
  clear ht
  have HX := Lib.hid ((Below.refl w.heap.size w).alloc (Nat.le_refl _) (.cells #[.int .u64 p.idle, .int .u64 p.size, .int .u64 p.data, .int .u64 p.bl, .int .u64 p.br, .int .u64 p.uni, .int .u64 p.bidis, .int .u64 p.unis, .int .u64 p.expo, .int .u64 p.delay, .int .u64 p.ids, .string ⟨p.tok.toArray⟩] 24))
  go_enter Tryd.func3, Tryd.ntmps3
  go_wp2_with fail
  refine (CS.out _ (HT.out.below HX.out (Nat.le_refl _))).mono ?_
  rintro e w1 ⟨rfl, hb⟩
  have H1 := Lib.hid (HX.out.trans (hb.mono HX.out.size))
  clear hb
  go_wp2
  go_ret
  exact ⟨rfl, H1.out⟩
set_option maxHeartbeats 4000000 in
theorem tells_long2 (p : Prm) (l : List UInt8) (w : World) (ht : Tabs w) (h0 : ¬ (100 : Int) < (p.tok.length : Nat)) (h : (600 : Int) < (l.length : Nat)) : Calls Tryd.prog 3 #[.agg #[.int .u64 p.idle, .int .u64 p.size, .int .u64 p.data, .int .u64 p.bl, .int .u64 p.br, .int .u64 p.uni, .int .u64 p.bidis, .int .u64 p.unis, .int .u64 p.expo, .int .u64 p.delay, .int .u64 p.ids, .string ⟨p.tok.toArray⟩], .string ⟨l.toArray⟩] w fun e w' => e = .returned (.bool true) ∧ Below w.heap.size w w' := by
  have CS : Hid (∀ w, Tabs w → Calls Tryd.prog 8 #[] w fun e w' => e = .returned (.bool true) ∧ Below w.heap.size w w') := Lib.hid shown_any
  have HT := Lib.hid ht
  clear ht
  have HX := Lib.hid ((Below.refl w.heap.size w).alloc (Nat.le_refl _) (.cells #[.int .u64 p.idle, .int .u64 p.size, .int .u64 p.data, .int .u64 p.bl, .int .u64 p.br, .int .u64 p.uni, .int .u64 p.bidis, .int .u64 p.unis, .int .u64 p.expo, .int .u64 p.delay, .int .u64 p.ids, .string ⟨p.tok.toArray⟩] 24))
  go_enter Tryd.func3, Tryd.ntmps3
  go_wp2_with fail
  refine (CS.out _ (HT.out.below HX.out (Nat.le_refl _))).mono ?_
  rintro e w1 ⟨rfl, hb⟩
  have H1 := Lib.hid (HX.out.trans (hb.mono HX.out.size))
  clear hb
  go_wp2
  go_ret
  exact ⟨rfl, H1.out⟩
set_option maxHeartbeats 16000000 in
theorem tells_short (p : Prm) (l : List UInt8) (w : World) (ht : Tabs w) (hw : Wf p) (h0 : ¬ (100 : Int) < (p.tok.length : Nat)) (h1 : ¬ (600 : Int) < (l.length : Nat)) : Calls Tryd.prog 3 #[.agg #[.int .u64 p.idle, .int .u64 p.size, .int .u64 p.data, .int .u64 p.bl, .int .u64 p.br, .int .u64 p.uni, .int .u64 p.bidis, .int .u64 p.unis, .int .u64 p.expo, .int .u64 p.delay, .int .u64 p.ids, .string ⟨p.tok.toArray⟩], .string ⟨l.toArray⟩] w fun e w' => e = .returned (.bool true) ∧ Below w.heap.size w w' := by
  obtain ⟨s, Es⟩ : ∃ s, putS p = s := ⟨_, rfl⟩
  obtain ⟨ep, Ep⟩ : ∃ s, putE p = s := ⟨_, rfl⟩
  obtain ⟨c, Ec⟩ : ∃ s, chkE p = s := ⟨_, rfl⟩
  obtain ⟨q, Eq⟩ : ∃ s, getP l = s := ⟨_, rfl⟩
  obtain ⟨eg, Eg⟩ : ∃ s, getE l = s := ⟨_, rfl⟩
  have CP : Hid (∀ w, Tabs w → Calls Tryd.prog 9 #[.agg #[.int .u64 p.idle, .int .u64 p.size, .int .u64 p.data, .int .u64 p.bl, .int .u64 p.br, .int .u64 p.uni, .int .u64 p.bidis, .int .u64 p.unis, .int .u64 p.expo, .int .u64 p.delay, .int .u64 p.ids, .string ⟨p.tok.toArray⟩]] w fun e w' => e = .returned (.tuple #[.string ⟨s.toArray⟩, .int .i64 ep]) ∧ Below w.heap.size w w') := Lib.hid (fun w ht => by
    have := put_any p w ht.1 ht.2 hw
    rw [Es, Ep] at this
    exact this)
  have CRP : Hid (∀ w, Calls Tryd.prog 10 #[.agg #[.int .u64 p.idle, .int .u64 p.size, .int .u64 p.data, .int .u64 p.bl, .int .u64 p.br, .int .u64 p.uni, .int .u64 p.bidis, .int .u64 p.unis, .int .u64 p.expo, .int .u64 p.delay, .int .u64 p.ids, .string ⟨p.tok.toArray⟩]] w fun e w' => e = .returned (.tuple #[.string ⟨s.toArray⟩, .int .i64 ep]) ∧ Below w.heap.size w w') := Lib.hid (fun w => by
    have := rputP_any p w hw
    rw [Es, Ep] at this
    exact this)
  have CG : Hid (∀ w, Tabs w → Calls Tryd.prog 11 #[.string ⟨l.toArray⟩] w fun e w' => e = .returned (.tuple #[.agg #[.int .u64 q.idle, .int .u64 q.size, .int .u64 q.data, .int .u64 q.bl, .int .u64 q.br, .int .u64 q.uni, .int .u64 q.bidis, .int .u64 q.unis, .int .u64 q.expo, .int .u64 q.delay, .int .u64 q.ids, .string ⟨q.tok.toArray⟩], .int .i64 eg]) ∧ Below w.heap.size w w') := Lib.hid (fun w ht => by
    have := get_any l w (by omega) ht.1 ht.2
    rw [Eq, Eg] at this
    exact this)
  have CRG : Hid (∀ w, Calls Tryd.prog 12 #[.string ⟨l.toArray⟩] w fun e w' => e = .returned (.tuple #[.agg #[.int .u64 q.idle, .int .u64 q.size, .int .u64 q.data, .int .u64 q.bl, .int .u64 q.br, .int .u64 q.uni, .int .u64 q.bidis, .int .u64 q.unis, .int .u64 q.expo, .int .u64 q.delay, .int .u64 q.ids, .string ⟨q.tok.toArray⟩], .int .i64 eg]) ∧ Below w.heap.size w w') := Lib.hid (fun w => by
    have := rget_any' l w (by omega)
    rw [Eq, Eg] at this
    exact this)
  have CC : Hid (∀ w, Tabs w → Calls Tryd.prog 13 #[.agg #[.int .u64 p.idle, .int .u64 p.size, .int .u64 p.data, .int .u64 p.bl, .int .u64 p.br, .int .u64 p.uni, .int .u64 p.bidis, .int .u64 p.unis, .int .u64 p.expo, .int .u64 p.delay, .int .u64 p.ids, .string ⟨p.tok.toArray⟩]] w fun e w' => e = .returned (.int .i64 c) ∧ Below w.heap.size w w') := Lib.hid (fun w ht => by
    have := check_any p w ht.2 hw
    rw [Ec] at this
    exact this)
  have CRC : Hid (∀ w, Calls Tryd.prog 14 #[.agg #[.int .u64 p.idle, .int .u64 p.size, .int .u64 p.data, .int .u64 p.bl, .int .u64 p.br, .int .u64 p.uni, .int .u64 p.bidis, .int .u64 p.unis, .int .u64 p.expo, .int .u64 p.delay, .int .u64 p.ids, .string ⟨p.tok.toArray⟩]] w fun e w' => e = .returned (.int .i64 c) ∧ Below w.heap.size w w') := Lib.hid (fun w => by
    have := rcheck_any p w hw
    rw [Ec] at this
    exact this)
  have CS : Hid (∀ w, Tabs w → Calls Tryd.prog 8 #[] w fun e w' => e = .returned (.bool true) ∧ Below w.heap.size w w') := Lib.hid shown_any
  have HT := Lib.hid ht
  clear ht
  have HX := Lib.hid ((Below.refl w.heap.size w).alloc (Nat.le_refl _) (.cells #[.int .u64 p.idle, .int .u64 p.size, .int .u64 p.data, .int .u64 p.bl, .int .u64 p.br, .int .u64 p.uni, .int .u64 p.bidis, .int .u64 p.unis, .int .u64 p.expo, .int .u64 p.delay, .int .u64 p.ids, .string ⟨p.tok.toArray⟩] 24))
  clear hw Es Ep Ec Eq Eg
  go_enter Tryd.func3, Tryd.ntmps3
  go_wp2_with fail
  refine (CS.out _ (HT.out.below HX.out (Nat.le_refl _))).mono ?_
  rintro e w1 ⟨rfl, hb⟩
  have H1 := Lib.hid (HX.out.trans (hb.mono HX.out.size))
  have HP1 : Hid (PBk w.heap.size p w1) := Lib.hid ((PBk.made w p).keep hb)
  have hl1 := HP1.out.lt
  clear hb
  have a0 := HP1.out.cell0
  have a1 := HP1.out.cell1
  have a2 := HP1.out.cell2
  have a3 := HP1.out.cell3
  have a4 := HP1.out.cell4
  have a5 := HP1.out.cell5
  have a6 := HP1.out.cell6
  have a7 := HP1.out.cell7
  have a8 := HP1.out.cell8
  have a9 := HP1.out.cell9
  have a10 := HP1.out.cell10
  have a11 := HP1.out.cell11
  go_wp2_with fail
  refine (CP.out _ (HT.out.below (H1.out.alloc H1.out.size _) (Nat.le_refl _))).mono ?_
  rintro e w2 ⟨rfl, hb⟩
  have HP2 := Lib.hid ((HP1.out.keep ((Below.refl _ _).alloc (Nat.le_refl _) _)).keep hb)
  have HX2 : Hid (RBk w1.heap.size p w2) := Lib.hid ((RBk.made w1 p).keep hb)
  have H2 := Lib.hid ((H1.out.alloc H1.out.size _).trans (hb.mono (by have := H1.out.size; simp; omega)))
  clear hb
  clear a0 a1 a2 a3 a4 a5 a6 a7 a8 a9 a10 a11
  have a0 := HX2.out.cell0
  have a1 := HX2.out.cell1
  have a2 := HX2.out.cell2
  have a3 := HX2.out.cell3
  have a4 := HX2.out.cell4
  have a5 := HX2.out.cell5
  have a6 := HX2.out.cell6
  have a7 := HX2.out.cell7
  have a8 := HX2.out.cell8
  have a9 := HX2.out.cell9
  have a10 := HX2.out.cell10
  have a11 := HX2.out.cell11
  go_wp2_with fail
  refine (CRP.out _).mono ?_
  rintro e w3 ⟨rfl, hb⟩
  have HP3 := Lib.hid (HP2.out.keep hb)
  have HX3 := Lib.hid (HX2.out.keep hb)
  have H3 := Lib.hid (H2.out.trans (hb.mono H2.out.size))
  clear hb
  clear a0 a1 a2 a3 a4 a5 a6 a7 a8 a9 a10 a11
  go_wp2_with fail
  refine (CG.out _ (HT.out.below H3.out (Nat.le_refl _))).mono ?_
  rintro e w4 ⟨rfl, hb⟩
  have HP4 := Lib.hid (HP3.out.keep hb)
  have HX4 := Lib.hid (HX3.out.keep hb)
  have H4 := Lib.hid (H3.out.trans (hb.mono H3.out.size))
  clear hb
  go_wp2_with fail
  refine (CRG.out _).mono ?_
  rintro e w5 ⟨rfl, hb⟩
  have HP5 := Lib.hid ((HP4.out.keep ((Below.refl _ _).alloc (Nat.le_refl _) _)).keep hb)
  have HX5 := Lib.hid ((HX4.out.keep ((Below.refl _ _).alloc (Nat.le_refl _) _)).keep hb)
  have HA5 : Hid (PBk w4.heap.size q w5) := Lib.hid ((PBk.made w4 q).keep hb)
  have H5 := Lib.hid ((H4.out.alloc H4.out.size _).trans (hb.mono (by have := H4.out.size; simp; omega)))
  clear hb
  go_wp2_with fail
  generalize hW6 : w5.alloc (.cells #[.int .u64 q.idle, .int .u64 q.size, .int .u64 q.data, .int .u64 q.bl, .int .u64 q.br, .int .u64 q.uni, .int .u64 q.bidis, .int .u64 q.unis, .int .u64 q.expo, .int .u64 q.delay, .int .u64 q.ids, .string ⟨q.tok.toArray⟩] 26) = W6
  have HX6 : Hid (Box4 w w.heap.size w1.heap.size w4.heap.size w5.heap.size p q W6) := Lib.hid (by
    rw [← hW6]
    exact ⟨HP5.out.keep ((Below.refl _ _).alloc (Nat.le_refl _) _), HX5.out.keep ((Below.refl _ _).alloc (Nat.le_refl _) _), HA5.out.keep ((Below.refl _ _).alloc (Nat.le_refl _) _), RBk.made w5 q, H5.out.alloc H5.out.size _⟩)
  clear hW6
  refine wp_region_noPanic ?_
  refine wp_region_held_drew (S := Box4 w w.heap.size w1.heap.size w4.heap.size w5.heap.size p q) (by kernel_rfl) ?_ (fun hHeld => ?_)
  · exact HX6.out.drew
  clear HX6
  refine wpAnyH_take (i := 0) (v := ?_) rfl (by kernel_rfl) (by kernel_rfl) (by kernel_rfl) (fun _ _ _ h => h) (Or.inl ⟨by rfl, ?_⟩) (by assumption) ?_
  rotate_left
  · (intro w hSw; have z0 := hSw.a.cell0; have z1 := hSw.a.cell1; have z2 := hSw.a.cell2; have z3 := hSw.a.cell3; have z4 := hSw.a.cell4; have z5 := hSw.a.cell5; have z6 := hSw.a.cell6; have z7 := hSw.a.cell7; have z8 := hSw.a.cell8; have z9 := hSw.a.cell9; have z10 := hSw.a.cell10; have z11 := hSw.a.cell11; clear hSw; go_simp; (try with_reducible rfl))
  try simp only [Act.put, List.getElem_toArray, List.getElem_cons_zero, List.getElem_cons_succ, List.setIfInBounds_toArray, List.set_cons_zero, List.set_cons_succ]
  refine wpAnyH_take (i := 2) (v := ?_) rfl (by kernel_rfl) (by kernel_rfl) (by kernel_rfl) (fun _ _ _ h => h) (Or.inl ⟨by rfl, ?_⟩) (by assumption) ?_
  rotate_left
  · (intro w hSw; have z0 := hSw.b.cell0; have z1 := hSw.b.cell1; have z2 := hSw.b.cell2; have z3 := hSw.b.cell3; have z4 := hSw.b.cell4; have z5 := hSw.b.cell5; have z6 := hSw.b.cell6; have z7 := hSw.b.cell7; have z8 := hSw.b.cell8; have z9 := hSw.b.cell9; have z10 := hSw.b.cell10; have z11 := hSw.b.cell11; clear hSw; go_simp; (try with_reducible rfl))
  try simp only [Act.put, List.getElem_toArray, List.getElem_cons_zero, List.getElem_cons_succ, List.setIfInBounds_toArray, List.set_cons_zero, List.set_cons_succ]
  refine wpAnyH_ready (rs := [1]) (by kernel_rfl) (by simp) ?_
  refine AllReadyH.cons rfl (fun K hK => ?_) AllReadyH.nil
  rw [if_pos (by rfl)]
  go_simp
  refine (CC.out _ (HT.out.below hHeld.bel (Nat.le_refl _))).mono ?_
  rintro e b1 ⟨rfl, hb⟩
  refine hK.out _ _ ?_ (fun hHeld => ?_)
  · exact hHeld.keep hb
  clear hK K
  try simp only [Act.put, List.getElem_toArray, List.getElem_cons_zero, List.getElem_cons_succ, List.setIfInBounds_toArray, List.set_cons_zero, List.set_cons_succ]
  refine wpAnyH_ready (rs := [3]) (by kernel_rfl) (by simp) ?_
  refine AllReadyH.cons rfl (fun K hK => ?_) AllReadyH.nil
  rw [if_pos (by rfl)]
  go_simp
  refine (CRC.out _).mono ?_
  rintro e b3 ⟨rfl, hb⟩
  refine hK.out _ _ ?_ (fun hHeld => ?_)
  · exact hHeld.keep hb
  clear hK K
  try simp only [Act.put, List.getElem_toArray, List.getElem_cons_zero, List.getElem_cons_succ, List.setIfInBounds_toArray, List.set_cons_zero, List.set_cons_succ]
  refine wpAnyH_take (i := 4) (v := ?_) rfl (by kernel_rfl) (by kernel_rfl) (by kernel_rfl) (fun _ _ _ h => h) (Or.inl ⟨by rfl, ?_⟩) (by assumption) ?_
  rotate_left
  · (intro w hSw; clear hSw; go_simp; (try with_reducible rfl))
  try simp only [Act.put, List.getElem_toArray, List.getElem_cons_zero, List.getElem_cons_succ, List.setIfInBounds_toArray, List.set_cons_zero, List.set_cons_succ]
  refine wpAnyH_take (i := 5) (v := ?_) rfl (by kernel_rfl) (by kernel_rfl) (by kernel_rfl) (fun _ _ _ h => h) (Or.inl ⟨by rfl, ?_⟩) (by assumption) ?_
  rotate_left
  · (intro w hSw; clear hSw; go_simp; (try with_reducible rfl))
  try simp only [Act.put, List.getElem_toArray, List.getElem_cons_zero, List.getElem_cons_succ, List.setIfInBounds_toArray, List.set_cons_zero, List.set_cons_succ]
  refine wpAnyH_take (i := 6) (v := ?_) rfl (by kernel_rfl) (by kernel_rfl) (by kernel_rfl) (fun _ _ _ h => h) (Or.inl ⟨by rfl, ?_⟩) (by assumption) ?_
  rotate_left
  · (intro w hSw; clear hSw; go_simp; (try with_reducible rfl))
  try simp only [Act.put, List.getElem_toArray, List.getElem_cons_zero, List.getElem_cons_succ, List.setIfInBounds_toArray, List.set_cons_zero, List.set_cons_succ]
  refine wpAnyH_take (i := 7) (v := ?_) rfl (by kernel_rfl) (by kernel_rfl) (by kernel_rfl) (fun _ _ _ h => h) (Or.inl ⟨by rfl, ?_⟩) (by assumption) ?_
  rotate_left
  · (intro w hSw; clear hSw; go_simp; (try with_reducible rfl))
  try simp only [Act.put, List.getElem_toArray, List.getElem_cons_zero, List.getElem_cons_succ, List.setIfInBounds_toArray, List.set_cons_zero, List.set_cons_succ]
  refine wpAnyH_take (i := 8) (v := ?_) rfl (by kernel_rfl) (by kernel_rfl) (by kernel_rfl) (fun _ _ _ h => h) (Or.inl ⟨by rfl, ?_⟩) (by assumption) ?_
  rotate_left
  · (intro w hSw; clear hSw; go_simp; (try with_reducible rfl))
  try simp only [Act.put, List.getElem_toArray, List.getElem_cons_zero, List.getElem_cons_succ, List.setIfInBounds_toArray, List.set_cons_zero, List.set_cons_succ]
  refine wpAnyH_take (i := 9) (v := ?_) rfl (by kernel_rfl) (by kernel_rfl) (by kernel_rfl) (fun _ _ _ h => h) (Or.inl ⟨by rfl, ?_⟩) (by assumption) ?_
  rotate_left
  · (intro w hSw; clear hSw; go_simp; (try with_reducible rfl))
  try simp only [Act.put, List.getElem_toArray, List.getElem_cons_zero, List.getElem_cons_succ, List.setIfInBounds_toArray, List.set_cons_zero, List.set_cons_succ]
  refine wpAnyH_take (i := 10) (v := ?_) rfl (by kernel_rfl) (by kernel_rfl) (by kernel_rfl) (fun _ _ _ h => h) (Or.inl ⟨by rfl, ?_⟩) (by assumption) ?_
  rotate_left
  · (intro w hSw; clear hSw; go_simp; (try with_reducible rfl))
  try simp only [Act.put, List.getElem_toArray, List.getElem_cons_zero, List.getElem_cons_succ, List.setIfInBounds_toArray, List.set_cons_zero, List.set_cons_succ]
  refine wpAnyH_take (i := 11) (v := ?_) rfl (by kernel_rfl) (by kernel_rfl) (by kernel_rfl) (fun _ _ _ h => h) (Or.inl ⟨by rfl, ?_⟩) (by assumption) ?_
  rotate_left
  · (intro w hSw; clear hSw; go_simp; (try with_reducible rfl))
  try simp only [Act.put, List.getElem_toArray, List.getElem_cons_zero, List.getElem_cons_succ, List.setIfInBounds_toArray, List.set_cons_zero, List.set_cons_succ]
  refine wpAnyH_take (i := 12) (v := ?_) rfl (by kernel_rfl) (by kernel_rfl) (by kernel_rfl) (fun _ _ _ h => h) (Or.inl ⟨by rfl, ?_⟩) (by assumption) ?_
  rotate_left
  · (intro w hSw; clear hSw; go_simp; (try with_reducible rfl))
  try simp only [Act.put, List.getElem_toArray, List.getElem_cons_zero, List.getElem_cons_succ, List.setIfInBounds_toArray, List.set_cons_zero, List.set_cons_succ]
  refine wpAnyH_take (i := 13) (v := ?_) rfl (by kernel_rfl) (by kernel_rfl) (by kernel_rfl) (fun _ _ _ h => h) (Or.inl ⟨by rfl, ?_⟩) (by assumption) ?_
  rotate_left
  · (intro w hSw; clear hSw; go_simp; (try with_reducible rfl))
  try simp only [Act.put, List.getElem_toArray, List.getElem_cons_zero, List.getElem_cons_succ, List.setIfInBounds_toArray, List.set_cons_zero, List.set_cons_succ]
  refine wpAnyH_take (i := 14) (v := ?_) rfl (by kernel_rfl) (by kernel_rfl) (by kernel_rfl) (fun _ _ _ h => h) (Or.inl ⟨by rfl, ?_⟩) (by assumption) ?_
  rotate_left
  · (intro w hSw; clear hSw; go_simp; (try with_reducible rfl))
  try simp only [Act.put, List.getElem_toArray, List.getElem_cons_zero, List.getElem_cons_succ, List.setIfInBounds_toArray, List.set_cons_zero, List.set_cons_succ]
  refine wpAnyH_take (i := 15) (v := ?_) rfl (by kernel_rfl) (by kernel_rfl) (by kernel_rfl) (fun _ _ _ h => h) (Or.inl ⟨by rfl, ?_⟩) (by assumption) ?_
  rotate_left
  · (intro w hSw; clear hSw; go_simp; (try with_reducible rfl))
  try simp only [Act.put, List.getElem_toArray, List.getElem_cons_zero, List.getElem_cons_succ, List.setIfInBounds_toArray, List.set_cons_zero, List.set_cons_succ]
  refine wpAnyH_take (i := 16) (v := ?_) rfl (by kernel_rfl) (by kernel_rfl) (by kernel_rfl) (fun _ _ _ h => h) (Or.inl ⟨by rfl, ?_⟩) (by assumption) ?_
  rotate_left
  · (intro w hSw; have z0 := hSw.c.cell0; have z1 := hSw.c.cell1; have z2 := hSw.c.cell2; have z3 := hSw.c.cell3; have z4 := hSw.c.cell4; have z5 := hSw.c.cell5; have z6 := hSw.c.cell6; have z7 := hSw.c.cell7; have z8 := hSw.c.cell8; have z9 := hSw.c.cell9; have z10 := hSw.c.cell10; have z11 := hSw.c.cell11; clear hSw; go_simp; (try with_reducible rfl))
  try simp only [Act.put, List.getElem_toArray, List.getElem_cons_zero, List.getElem_cons_succ, List.setIfInBounds_toArray, List.set_cons_zero, List.set_cons_succ]
  refine wpAnyH_take (i := 17) (v := ?_) rfl (by kernel_rfl) (by kernel_rfl) (by kernel_rfl) (fun _ _ _ h => h) (Or.inl ⟨by rfl, ?_⟩) (by assumption) ?_
  rotate_left
  · (intro w hSw; have z0 := hSw.d.cell0; have z1 := hSw.d.cell1; have z2 := hSw.d.cell2; have z3 := hSw.d.cell3; have z4 := hSw.d.cell4; have z5 := hSw.d.cell5; have z6 := hSw.d.cell6; have z7 := hSw.d.cell7; have z8 := hSw.d.cell8; have z9 := hSw.d.cell9; have z10 := hSw.d.cell10; have z11 := hSw.d.cell11; clear hSw; go_simp; (try with_reducible rfl))
  try simp only [Act.put, List.getElem_toArray, List.getElem_cons_zero, List.getElem_cons_succ, List.setIfInBounds_toArray, List.set_cons_zero, List.set_cons_succ]
  refine wpAnyH_take (i := 18) (v := ?_) rfl (by kernel_rfl) (by kernel_rfl) (by kernel_rfl) (fun _ _ _ h => h) (Or.inl ⟨by rfl, ?_⟩) (by assumption) ?_
  rotate_left
  · (intro w hSw; clear hSw; go_simp; (try with_reducible rfl))
  try simp only [Act.put, List.getElem_toArray, List.getElem_cons_zero, List.getElem_cons_succ, List.setIfInBounds_toArray, List.set_cons_zero, List.set_cons_succ]
  refine wpAnyH_take (i := 19) (v := ?_) rfl (by kernel_rfl) (by kernel_rfl) (by kernel_rfl) (fun _ _ _ h => h) (Or.inl ⟨by rfl, ?_⟩) (by assumption) ?_
  rotate_left
  · (intro w hSw; clear hSw; go_simp; (try with_reducible rfl))
  try simp only [Act.put, List.getElem_toArray, List.getElem_cons_zero, List.getElem_cons_succ, List.setIfInBounds_toArray, List.set_cons_zero, List.set_cons_succ]
  refine wpAnyH_take (i := 20) (v := ?_) rfl (by kernel_rfl) (by kernel_rfl) (by kernel_rfl) (fun _ _ _ h => h) (Or.inl ⟨by rfl, ?_⟩) (by assumption) ?_
  rotate_left
  · (intro w hSw; clear hSw; go_simp; (try with_reducible rfl))
  try simp only [Act.put, List.getElem_toArray, List.getElem_cons_zero, List.getElem_cons_succ, List.setIfInBounds_toArray, List.set_cons_zero, List.set_cons_succ]
  refine wpAnyH_take (i := 21) (v := ?_) rfl (by kernel_rfl) (by kernel_rfl) (by kernel_rfl) (fun _ _ _ h => h) (Or.inl ⟨by rfl, ?_⟩) (by assumption) ?_
  rotate_left
  · (intro w hSw; clear hSw; go_simp; (try with_reducible rfl))
  try simp only [Act.put, List.getElem_toArray, List.getElem_cons_zero, List.getElem_cons_succ, List.setIfInBounds_toArray, List.set_cons_zero, List.set_cons_succ]
  refine wpAnyH_take (i := 22) (v := ?_) rfl (by kernel_rfl) (by kernel_rfl) (by kernel_rfl) (fun _ _ _ h => h) (Or.inl ⟨by rfl, ?_⟩) (by assumption) ?_
  rotate_left
  · (intro w hSw; clear hSw; go_simp; (try with_reducible rfl))
  try simp only [Act.put, List.getElem_toArray, List.getElem_cons_zero, List.getElem_cons_succ, List.setIfInBounds_toArray, List.set_cons_zero, List.set_cons_succ]
  refine wpAnyH_take (i := 23) (v := ?_) rfl (by kernel_rfl) (by kernel_rfl) (by kernel_rfl) (fun _ _ _ h => h) (Or.inl ⟨by rfl, ?_⟩) (by assumption) ?_
  rotate_left
  · (intro w hSw; clear hSw; go_simp; (try with_reducible rfl))
  try simp only [Act.put, List.getElem_toArray, List.getElem_cons_zero, List.getElem_cons_succ, List.setIfInBounds_toArray, List.set_cons_zero, List.set_cons_succ]
  refine wpAnyH_take (i := 24) (v := ?_) rfl (by kernel_rfl) (by kernel_rfl) (by kernel_rfl) (fun _ _ _ h => h) (Or.inl ⟨by rfl, ?_⟩) (by assumption) ?_
  rotate_left
  · (intro w hSw; clear hSw; go_simp; (try with_reducible rfl))
  try simp only [Act.put, List.getElem_toArray, List.getElem_cons_zero, List.getElem_cons_succ, List.setIfInBounds_toArray, List.set_cons_zero, List.set_cons_succ]
  refine wpAnyH_take (i := 25) (v := ?_) rfl (by kernel_rfl) (by kernel_rfl) (by kernel_rfl) (fun _ _ _ h => h) (Or.inl ⟨by rfl, ?_⟩) (by assumption) ?_
  rotate_left
  · (intro w hSw; clear hSw; go_simp; (try with_reducible rfl))
  try simp only [Act.put, List.getElem_toArray, List.getElem_cons_zero, List.getElem_cons_succ, List.setIfInBounds_toArray, List.set_cons_zero, List.set_cons_succ]
  refine wpAnyH_ready (rs := [26]) (by kernel_rfl) (by simp) ?_
  refine AllReadyH.cons rfl (fun K hK => ?_) AllReadyH.nil
  rw [if_pos (by rfl)]
  go_simp
  refine (default_any _).mono ?_
  rintro e b26 ⟨rfl, hb⟩
  refine hK.out _ _ ?_ (fun hHeld => ?_)
  · exact hHeld.keep hb
  clear hK K
  try simp only [Act.put, List.getElem_toArray, List.getElem_cons_zero, List.getElem_cons_succ, List.setIfInBounds_toArray, List.set_cons_zero, List.set_cons_succ]
  refine wpAnyH_ready (rs := [27]) (by kernel_rfl) (by simp) ?_
  refine AllReadyH.cons rfl (fun K hK => ?_) AllReadyH.nil
  rw [if_pos (by rfl)]
  go_simp
  refine (rdefault_any _).mono ?_
  rintro e b27 ⟨rfl, hb⟩
  refine hK.out _ _ ?_ (fun hHeld => ?_)
  · exact hHeld.keep hb
  clear hK K
  try simp only [Act.put, List.getElem_toArray, List.getElem_cons_zero, List.getElem_cons_succ, List.setIfInBounds_toArray, List.set_cons_zero, List.set_cons_succ]
  refine wpAnyH_take (i := 28) (v := ?_) rfl (by kernel_rfl) (by kernel_rfl) (by kernel_rfl) (fun _ _ _ h => h) (Or.inl ⟨by rfl, ?_⟩) (by assumption) ?_
  rotate_left
  · (intro w hSw; clear hSw; go_simp; (try with_reducible rfl))
  try simp only [Act.put, List.getElem_toArray, List.getElem_cons_zero, List.getElem_cons_succ, List.setIfInBounds_toArray, List.set_cons_zero, List.set_cons_succ]
  refine wpAnyH_take (i := 29) (v := ?_) rfl (by kernel_rfl) (by kernel_rfl) (by kernel_rfl) (fun _ _ _ h => h) (Or.inl ⟨by rfl, ?_⟩) (by assumption) ?_
  rotate_left
  · (intro w hSw; clear hSw; go_simp; (try with_reducible rfl))
  try simp only [Act.put, List.getElem_toArray, List.getElem_cons_zero, List.getElem_cons_succ, List.setIfInBounds_toArray, List.set_cons_zero, List.set_cons_succ]
  refine wpAnyH_take (i := 30) (v := ?_) rfl (by kernel_rfl) (by kernel_rfl) (by kernel_rfl) (fun _ _ _ h => h) (Or.inl ⟨by rfl, ?_⟩) (by assumption) ?_
  rotate_left
  · (intro w hSw; clear hSw; go_simp; (try with_reducible rfl))
  try simp only [Act.put, List.getElem_toArray, List.getElem_cons_zero, List.getElem_cons_succ, List.setIfInBounds_toArray, List.set_cons_zero, List.set_cons_succ]
  refine wpAnyH_done (by kernel_rfl) (NoPanic.normal ?_) _
  have HB := Lib.hid hHeld.bel
  clear hHeld
  go_wp2
  go_ret
  exact ⟨rfl, HB.out⟩
theorem tells_any (idle size data bl br uni bidis unis expo delay ids : Int) (tok l : List UInt8) (w : World) (ht : Tabs w) (w0_0 : (Lit.int .u64 idle).wf = true) (w0_1 : (Lit.int .u64 size).wf = true) (w0_2 : (Lit.int .u64 data).wf = true) (w0_3 : (Lit.int .u64 bl).wf = true) (w0_4 : (Lit.int .u64 br).wf = true) (w0_5 : (Lit.int .u64 uni).wf = true) (w0_6 : (Lit.int .u64 bidis).wf = true) (w0_7 : (Lit.int .u64 unis).wf = true) (w0_8 : (Lit.int .u64 expo).wf = true) (w0_9 : (Lit.int .u64 delay).wf = true) (w0_10 : (Lit.int .u64 ids).wf = true) (w0_11 : (⟨tok.toArray⟩ : ByteArray).size ≤ maxLen) (w1 : (⟨l.toArray⟩ : ByteArray).size ≤ maxLen) :
    Calls Tryd.prog 3 #[.agg #[.int .u64 idle, .int .u64 size, .int .u64 data, .int .u64 bl, .int .u64 br, .int .u64 uni, .int .u64 bidis, .int .u64 unis, .int .u64 expo, .int .u64 delay, .int .u64 ids, .string ⟨tok.toArray⟩], .string ⟨l.toArray⟩] w fun e w' => e = .returned (.bool true) ∧ Below w.heap.size w w' := by
  obtain ⟨p, hp⟩ : ∃ p : Prm, p = ⟨idle, size, data, bl, br, uni, bidis, unis, expo, delay, ids, tok⟩ := ⟨_, rfl⟩
  have e : #[Value.agg #[.int .u64 idle, .int .u64 size, .int .u64 data, .int .u64 bl, .int .u64 br, .int .u64 uni, .int .u64 bidis, .int .u64 unis, .int .u64 expo, .int .u64 delay, .int .u64 ids, .string ⟨tok.toArray⟩], .string ⟨l.toArray⟩] = #[Value.agg #[.int .u64 p.idle, .int .u64 p.size, .int .u64 p.data, .int .u64 p.bl, .int .u64 p.br, .int .u64 p.uni, .int .u64 p.bidis, .int .u64 p.unis, .int .u64 p.expo, .int .u64 p.delay, .int .u64 p.ids, .string ⟨p.tok.toArray⟩], .string ⟨l.toArray⟩] := by rw [hp]
  rw [e]
  by_cases h0 : (100 : Int) < (p.tok.length : Nat)
  · exact tells_long1 p l w ht h0
  by_cases h1 : (600 : Int) < (l.length : Nat)
  · exact tells_long2 p l w ht h0 h1
  have hw : Wf p := by
    have ht : p.tok.length ≤ 140737488351232 := by omega
    rw [hp] at ht ⊢
    exact ⟨bounds_u64 w0_0, bounds_u64 w0_1, bounds_u64 w0_2, bounds_u64 w0_3, bounds_u64 w0_4, bounds_u64 w0_5, bounds_u64 w0_6, bounds_u64 w0_7, bounds_u64 w0_8, bounds_u64 w0_9, bounds_u64 w0_10, ht⟩
  exact tells_short p l w ht hw h0 h1
end Go.Proofs.YthhcpedaldlccaaDoor.Pm
