/- The document's functions of layer 6: Put of a frame, but for an Ack. By tools/gen-frame-32.py. -/
import Derived.Test.YtpdfdhmhfdogcaaDoorFpC
import Derived.Test.YtpdfdhmhfdogcaaDoorFpB
import Derived.Deep.RegionHeld3
namespace Go.Proofs.YtpdfdhmhfdogcaaDoor.Fm
set_option maxRecDepth 20000
open Go.RowKit Vm
set_option linter.unusedVariables false
set_option linter.unusedSimpArgs false
set_option maxHeartbeats 8000000 in
theorem rput_0 (f : Frm) (rs : List (Nat × Nat)) (w : World) (hk : f.kind = 0) (hp : ∀ j, 0 ≤ nm f j) (hrd : Rd w (.slice f.set.a f.set.n f.set.c) (ints rs)) (hl : rs.length ≤ 1000) (hm : mayF 0 f (ints rs) = true) :
    Calls Tryd.prog 10 #[.agg #[.int .u64 f.kind, .int .u64 f.id, .int .u64 f.off, .int .u64 f.max, .int .u64 f.code, .int .u64 f.seq, .int .u64 f.prior, .int .u64 f.delay, .bool f.fin, .string ⟨f.data.toArray⟩, .string ⟨f.cid.toArray⟩, .string ⟨f.token.toArray⟩, .slice f.set.a f.set.n f.set.c]] w fun e w' => e = .returned (.tuple #[.string ⟨(putL f rs).toArray⟩, .int .i64 0]) ∧ Below w.heap.size w w' := by
  obtain ⟨hks, hHas, hnb⟩ := may_kind hm
  have hbd := may_bounds (k := 0) hk hm
  have CM := Lib.hid (fun W (h : Rd W (.slice f.set.a f.set.n f.set.c) (ints rs)) => rmayf 0 f (ints rs) W hk hp h (ints_pos rs) (by rw [ints_len]; exact hl) (by omega) (by omega) (by omega))
  rw [hm] at CM
  have HP : Hid (putL f rs = _) := Lib.hid (putL_0 f rs hk hHas)
  have CK : Hid (∀ W, Calls Tryd.prog 26 #[.int .u64 0] W fun e w' => e = .returned (.string ⟨(pt 0).toArray⟩) ∧ Below W.heap.size W w') := Lib.hid (fun W => rv_ok 0 W (by decide) (by decide))
  have hsk := pt_le8 0 (by decide)
  obtain ⟨sk, Ek⟩ : ∃ s, pt 0 = s := ⟨_, rfl⟩
  rw [Ek] at CK HP hsk
  have HC : Hid ((⟨sk.toArray⟩ : ByteArray) = ⟨(putL f rs).toArray⟩) := Lib.hid (by rw [HP.out] <;> (apply ByteArray.ext; simp))
  generalize putL f rs = R at *
  have HFR : Hid (FrD w.heap.size f (w.alloc (.cells #[.int .u64 f.kind, .int .u64 f.id, .int .u64 f.off, .int .u64 f.max, .int .u64 f.code, .int .u64 f.seq, .int .u64 f.prior, .int .u64 f.delay, .bool f.fin, .string ⟨f.data.toArray⟩, .string ⟨f.cid.toArray⟩, .string ⟨f.token.toArray⟩, .slice f.set.a f.set.n f.set.c] 36 (0, 0)))) := Lib.hid (World.alloc_heap_new w _)
  have HB0 : Hid (Below w.heap.size w (w.alloc (.cells #[.int .u64 f.kind, .int .u64 f.id, .int .u64 f.off, .int .u64 f.max, .int .u64 f.code, .int .u64 f.seq, .int .u64 f.prior, .int .u64 f.delay, .bool f.fin, .string ⟨f.data.toArray⟩, .string ⟨f.cid.toArray⟩, .string ⟨f.token.toArray⟩, .slice f.set.a f.set.n f.set.c] 36 (0, 0)))) := Lib.hid ((Below.refl w.heap.size w).alloc (Nat.le_refl _) _)
  have HRD := Lib.hid (hrd.below HB0.out)
  have HK := Lib.hid hk
  clear HP hm hp hrd hk hks hHas hnb hbd hl Ek 
  go_enter Tryd.func10, Tryd.ntmps10
  go_wp2_with fail
  refine (CM.out _ HRD.out).mono ?_
  rintro e w1 ⟨rfl, hb⟩
  have HF1 := Lib.hid (HFR.out.keep hb)
  have HB1 := Lib.hid (HB0.out.trans (hb.mono HB0.out.size))
  have c0 := HF1.out.cell0
  rw [HK.out] at c0
  clear hb HRD CM
  go_wp2_with fail
  refine (CK.out _).mono ?_
  rintro e w2 ⟨rfl, hb⟩
  have HF2 := Lib.hid (HF1.out.keep hb)
  have HB2 := Lib.hid (HB1.out.trans (hb.mono HB1.out.size))
  have d0 := HF2.out.cell0
  rw [HK.out] at d0
  clear hb c0
  go_wp2
  go_ret2
  exact ⟨by rw [← HC.out]; rfl, HB2.out⟩
set_option maxHeartbeats 8000000 in
theorem rput_1 (f : Frm) (rs : List (Nat × Nat)) (w : World) (hk : f.kind = 1) (hp : ∀ j, 0 ≤ nm f j) (hrd : Rd w (.slice f.set.a f.set.n f.set.c) (ints rs)) (hl : rs.length ≤ 1000) (hm : mayF 1 f (ints rs) = true) :
    Calls Tryd.prog 10 #[.agg #[.int .u64 f.kind, .int .u64 f.id, .int .u64 f.off, .int .u64 f.max, .int .u64 f.code, .int .u64 f.seq, .int .u64 f.prior, .int .u64 f.delay, .bool f.fin, .string ⟨f.data.toArray⟩, .string ⟨f.cid.toArray⟩, .string ⟨f.token.toArray⟩, .slice f.set.a f.set.n f.set.c]] w fun e w' => e = .returned (.tuple #[.string ⟨(putL f rs).toArray⟩, .int .i64 0]) ∧ Below w.heap.size w w' := by
  obtain ⟨hks, hHas, hnb⟩ := may_kind hm
  have hbd := may_bounds (k := 1) hk hm
  have CM := Lib.hid (fun W (h : Rd W (.slice f.set.a f.set.n f.set.c) (ints rs)) => rmayf 1 f (ints rs) W hk hp h (ints_pos rs) (by rw [ints_len]; exact hl) (by omega) (by omega) (by omega))
  rw [hm] at CM
  have HP : Hid (putL f rs = _) := Lib.hid (putL_1 f rs hk hHas)
  have CK : Hid (∀ W, Calls Tryd.prog 26 #[.int .u64 1] W fun e w' => e = .returned (.string ⟨(pt 1).toArray⟩) ∧ Below W.heap.size W w') := Lib.hid (fun W => rv_ok 1 W (by decide) (by decide))
  have hsk := pt_le8 1 (by decide)
  obtain ⟨sk, Ek⟩ : ∃ s, pt 1 = s := ⟨_, rfl⟩
  rw [Ek] at CK HP hsk
  have HC : Hid ((⟨sk.toArray⟩ : ByteArray) = ⟨(putL f rs).toArray⟩) := Lib.hid (by rw [HP.out] <;> (apply ByteArray.ext; simp))
  generalize putL f rs = R at *
  have HFR : Hid (FrD w.heap.size f (w.alloc (.cells #[.int .u64 f.kind, .int .u64 f.id, .int .u64 f.off, .int .u64 f.max, .int .u64 f.code, .int .u64 f.seq, .int .u64 f.prior, .int .u64 f.delay, .bool f.fin, .string ⟨f.data.toArray⟩, .string ⟨f.cid.toArray⟩, .string ⟨f.token.toArray⟩, .slice f.set.a f.set.n f.set.c] 36 (0, 0)))) := Lib.hid (World.alloc_heap_new w _)
  have HB0 : Hid (Below w.heap.size w (w.alloc (.cells #[.int .u64 f.kind, .int .u64 f.id, .int .u64 f.off, .int .u64 f.max, .int .u64 f.code, .int .u64 f.seq, .int .u64 f.prior, .int .u64 f.delay, .bool f.fin, .string ⟨f.data.toArray⟩, .string ⟨f.cid.toArray⟩, .string ⟨f.token.toArray⟩, .slice f.set.a f.set.n f.set.c] 36 (0, 0)))) := Lib.hid ((Below.refl w.heap.size w).alloc (Nat.le_refl _) _)
  have HRD := Lib.hid (hrd.below HB0.out)
  have HK := Lib.hid hk
  clear HP hm hp hrd hk hks hHas hnb hbd hl Ek 
  go_enter Tryd.func10, Tryd.ntmps10
  go_wp2_with fail
  refine (CM.out _ HRD.out).mono ?_
  rintro e w1 ⟨rfl, hb⟩
  have HF1 := Lib.hid (HFR.out.keep hb)
  have HB1 := Lib.hid (HB0.out.trans (hb.mono HB0.out.size))
  have c0 := HF1.out.cell0
  rw [HK.out] at c0
  clear hb HRD CM
  go_wp2_with fail
  refine (CK.out _).mono ?_
  rintro e w2 ⟨rfl, hb⟩
  have HF2 := Lib.hid (HF1.out.keep hb)
  have HB2 := Lib.hid (HB1.out.trans (hb.mono HB1.out.size))
  have d0 := HF2.out.cell0
  rw [HK.out] at d0
  clear hb c0
  go_wp2
  go_ret2
  exact ⟨by rw [← HC.out]; rfl, HB2.out⟩
set_option maxHeartbeats 8000000 in
theorem rput_30 (f : Frm) (rs : List (Nat × Nat)) (w : World) (hk : f.kind = 30) (hp : ∀ j, 0 ≤ nm f j) (hrd : Rd w (.slice f.set.a f.set.n f.set.c) (ints rs)) (hl : rs.length ≤ 1000) (hm : mayF 30 f (ints rs) = true) :
    Calls Tryd.prog 10 #[.agg #[.int .u64 f.kind, .int .u64 f.id, .int .u64 f.off, .int .u64 f.max, .int .u64 f.code, .int .u64 f.seq, .int .u64 f.prior, .int .u64 f.delay, .bool f.fin, .string ⟨f.data.toArray⟩, .string ⟨f.cid.toArray⟩, .string ⟨f.token.toArray⟩, .slice f.set.a f.set.n f.set.c]] w fun e w' => e = .returned (.tuple #[.string ⟨(putL f rs).toArray⟩, .int .i64 0]) ∧ Below w.heap.size w w' := by
  obtain ⟨hks, hHas, hnb⟩ := may_kind hm
  have hbd := may_bounds (k := 30) hk hm
  have CM := Lib.hid (fun W (h : Rd W (.slice f.set.a f.set.n f.set.c) (ints rs)) => rmayf 30 f (ints rs) W hk hp h (ints_pos rs) (by rw [ints_len]; exact hl) (by omega) (by omega) (by omega))
  rw [hm] at CM
  have HP : Hid (putL f rs = _) := Lib.hid (putL_30 f rs hk hHas)
  have CK : Hid (∀ W, Calls Tryd.prog 26 #[.int .u64 30] W fun e w' => e = .returned (.string ⟨(pt 30).toArray⟩) ∧ Below W.heap.size W w') := Lib.hid (fun W => rv_ok 30 W (by decide) (by decide))
  have hsk := pt_le8 30 (by decide)
  obtain ⟨sk, Ek⟩ : ∃ s, pt 30 = s := ⟨_, rfl⟩
  rw [Ek] at CK HP hsk
  have HC : Hid ((⟨sk.toArray⟩ : ByteArray) = ⟨(putL f rs).toArray⟩) := Lib.hid (by rw [HP.out] <;> (apply ByteArray.ext; simp))
  generalize putL f rs = R at *
  have HFR : Hid (FrD w.heap.size f (w.alloc (.cells #[.int .u64 f.kind, .int .u64 f.id, .int .u64 f.off, .int .u64 f.max, .int .u64 f.code, .int .u64 f.seq, .int .u64 f.prior, .int .u64 f.delay, .bool f.fin, .string ⟨f.data.toArray⟩, .string ⟨f.cid.toArray⟩, .string ⟨f.token.toArray⟩, .slice f.set.a f.set.n f.set.c] 36 (0, 0)))) := Lib.hid (World.alloc_heap_new w _)
  have HB0 : Hid (Below w.heap.size w (w.alloc (.cells #[.int .u64 f.kind, .int .u64 f.id, .int .u64 f.off, .int .u64 f.max, .int .u64 f.code, .int .u64 f.seq, .int .u64 f.prior, .int .u64 f.delay, .bool f.fin, .string ⟨f.data.toArray⟩, .string ⟨f.cid.toArray⟩, .string ⟨f.token.toArray⟩, .slice f.set.a f.set.n f.set.c] 36 (0, 0)))) := Lib.hid ((Below.refl w.heap.size w).alloc (Nat.le_refl _) _)
  have HRD := Lib.hid (hrd.below HB0.out)
  have HK := Lib.hid hk
  clear HP hm hp hrd hk hks hHas hnb hbd hl Ek 
  go_enter Tryd.func10, Tryd.ntmps10
  go_wp2_with fail
  refine (CM.out _ HRD.out).mono ?_
  rintro e w1 ⟨rfl, hb⟩
  have HF1 := Lib.hid (HFR.out.keep hb)
  have HB1 := Lib.hid (HB0.out.trans (hb.mono HB0.out.size))
  have c0 := HF1.out.cell0
  rw [HK.out] at c0
  clear hb HRD CM
  go_wp2_with fail
  refine (CK.out _).mono ?_
  rintro e w2 ⟨rfl, hb⟩
  have HF2 := Lib.hid (HF1.out.keep hb)
  have HB2 := Lib.hid (HB1.out.trans (hb.mono HB1.out.size))
  have d0 := HF2.out.cell0
  rw [HK.out] at d0
  clear hb c0
  go_wp2
  go_ret2
  exact ⟨by rw [← HC.out]; rfl, HB2.out⟩
set_option maxHeartbeats 8000000 in
theorem rput_4 (f : Frm) (rs : List (Nat × Nat)) (w : World) (hk : f.kind = 4) (hp : ∀ j, 0 ≤ nm f j) (hrd : Rd w (.slice f.set.a f.set.n f.set.c) (ints rs)) (hl : rs.length ≤ 1000) (hm : mayF 4 f (ints rs) = true) :
    Calls Tryd.prog 10 #[.agg #[.int .u64 f.kind, .int .u64 f.id, .int .u64 f.off, .int .u64 f.max, .int .u64 f.code, .int .u64 f.seq, .int .u64 f.prior, .int .u64 f.delay, .bool f.fin, .string ⟨f.data.toArray⟩, .string ⟨f.cid.toArray⟩, .string ⟨f.token.toArray⟩, .slice f.set.a f.set.n f.set.c]] w fun e w' => e = .returned (.tuple #[.string ⟨(putL f rs).toArray⟩, .int .i64 0]) ∧ Below w.heap.size w w' := by
  obtain ⟨hks, hHas, hnb⟩ := may_kind hm
  have hbd := may_bounds (k := 4) hk hm
  have CM := Lib.hid (fun W (h : Rd W (.slice f.set.a f.set.n f.set.c) (ints rs)) => rmayf 4 f (ints rs) W hk hp h (ints_pos rs) (by rw [ints_len]; exact hl) (by omega) (by omega) (by omega))
  rw [hm] at CM
  have HP : Hid (putL f rs = _) := Lib.hid (putL_4 f rs hk hHas)
  have hz0 : 0 ≤ f.id := hp 0
  have hy0 : f.id ≤ 4611686018427387903 := numB_nm hnb 0 (by decide)
  have hz2 : 0 ≤ f.code := hp 2
  have hy2 : f.code ≤ 4611686018427387903 := numB_nm hnb 2 (by decide)
  have hz3 : 0 ≤ f.max := hp 3
  have hy3 : f.max ≤ 4611686018427387903 := numB_nm hnb 3 (by decide)
  have CK : Hid (∀ W, Calls Tryd.prog 26 #[.int .u64 4] W fun e w' => e = .returned (.string ⟨(pt 4).toArray⟩) ∧ Below W.heap.size W w') := Lib.hid (fun W => rv_ok 4 W (by decide) (by decide))
  have hsk := pt_le8 4 (by decide)
  have Cid := Lib.hid (fun W => rv_ok f.id W hz0 hy0)
  have hsid := pt_le8 f.id.toNat (by omega)
  have Ccode := Lib.hid (fun W => rv_ok f.code W hz2 hy2)
  have hscode := pt_le8 f.code.toNat (by omega)
  have Cmax := Lib.hid (fun W => rv_ok f.max W hz3 hy3)
  have hsmax := pt_le8 f.max.toNat (by omega)
  obtain ⟨sk, Ek⟩ : ∃ s, pt 4 = s := ⟨_, rfl⟩
  rw [Ek] at CK HP hsk
  obtain ⟨sid, Eid⟩ : ∃ s, pt f.id.toNat = s := ⟨_, rfl⟩
  rw [Eid] at Cid HP hsid
  obtain ⟨scode, Ecode⟩ : ∃ s, pt f.code.toNat = s := ⟨_, rfl⟩
  rw [Ecode] at Ccode HP hscode
  obtain ⟨smax, Emax⟩ : ∃ s, pt f.max.toNat = s := ⟨_, rfl⟩
  rw [Emax] at Cmax HP hsmax
  have f2 : ¬ 9223372036854775807 < sk.length + sid.length := by omega
  have f3 : ¬ 9223372036854775807 < sk.length + sid.length + scode.length := by omega
  have f4 : ¬ 9223372036854775807 < sk.length + sid.length + scode.length + smax.length := by omega
  have HC : Hid ((⟨sk.toArray⟩ : ByteArray) ++ ⟨sid.toArray⟩ ++ ⟨scode.toArray⟩ ++ ⟨smax.toArray⟩ = ⟨(putL f rs).toArray⟩) := Lib.hid (by rw [HP.out] <;> (apply ByteArray.ext; simp))
  generalize putL f rs = R at *
  have HFR : Hid (FrD w.heap.size f (w.alloc (.cells #[.int .u64 f.kind, .int .u64 f.id, .int .u64 f.off, .int .u64 f.max, .int .u64 f.code, .int .u64 f.seq, .int .u64 f.prior, .int .u64 f.delay, .bool f.fin, .string ⟨f.data.toArray⟩, .string ⟨f.cid.toArray⟩, .string ⟨f.token.toArray⟩, .slice f.set.a f.set.n f.set.c] 36 (0, 0)))) := Lib.hid (World.alloc_heap_new w _)
  have HB0 : Hid (Below w.heap.size w (w.alloc (.cells #[.int .u64 f.kind, .int .u64 f.id, .int .u64 f.off, .int .u64 f.max, .int .u64 f.code, .int .u64 f.seq, .int .u64 f.prior, .int .u64 f.delay, .bool f.fin, .string ⟨f.data.toArray⟩, .string ⟨f.cid.toArray⟩, .string ⟨f.token.toArray⟩, .slice f.set.a f.set.n f.set.c] 36 (0, 0)))) := Lib.hid ((Below.refl w.heap.size w).alloc (Nat.le_refl _) _)
  have HRD := Lib.hid (hrd.below HB0.out)
  have HK := Lib.hid hk
  clear HP hm hp hrd hk hks hHas hnb hbd hl Ek Eid Ecode Emax  hz0 hy0 hz2 hy2 hz3 hy3
  go_enter Tryd.func10, Tryd.ntmps10
  go_wp2_with fail
  refine (CM.out _ HRD.out).mono ?_
  rintro e w1 ⟨rfl, hb⟩
  have HF1 := Lib.hid (HFR.out.keep hb)
  have HB1 := Lib.hid (HB0.out.trans (hb.mono HB0.out.size))
  have c0 := HF1.out.cell0
  rw [HK.out] at c0
  clear hb HRD CM
  go_wp2_with fail
  refine (CK.out _).mono ?_
  rintro e w2 ⟨rfl, hb⟩
  have HF2 := Lib.hid (HF1.out.keep hb)
  have HB2 := Lib.hid (HB1.out.trans (hb.mono HB1.out.size))
  have d0 := HF2.out.cell0
  rw [HK.out] at d0
  clear hb c0
  go_wp2_with fail
  refine wp_region_noPanic ?_
  refine wp_region_held_drew (S := fun W' : World => FrD w.heap.size f W' ∧ Below w.heap.size w W') (by kernel_rfl) ?_ (fun hHeld => ?_)
  · exact ⟨HF2.out, Below.drew HB2.out⟩
  refine wpAnyH_take (i := 0) (v := ?_) rfl (by kernel_rfl) (by kernel_rfl) (by kernel_rfl) (fun _ _ _ h => h) (Or.inl ⟨by rfl, ?_⟩) (by assumption) ?_
  rotate_left
  · (intro w hSw; (obtain ⟨hSf, hSb⟩ := hSw; have p1 := hSf.cell1; have p2 := hSf.cell2; have p3 := hSf.cell3; have p4 := hSf.cell4; have p5 := hSf.cell5; have p6 := hSf.cell6; have p7 := hSf.cell7; have p8 := hSf.cell8; have p9 := hSf.cell9; have p10 := hSf.cell10; have p11 := hSf.cell11; have p12 := hSf.cell12; clear hSf hSb); go_simp; (try with_reducible rfl))
  try simp only [Act.put, List.getElem_toArray, List.getElem_cons_zero, List.getElem_cons_succ, List.setIfInBounds_toArray, List.set_cons_zero, List.set_cons_succ]
  refine wpAnyH_take (i := 1) (v := ?_) rfl (by kernel_rfl) (by kernel_rfl) (by kernel_rfl) (fun _ _ _ h => h) (Or.inl ⟨by rfl, ?_⟩) (by assumption) ?_
  rotate_left
  · (intro w hSw; (obtain ⟨hSf, hSb⟩ := hSw; have p1 := hSf.cell1; have p2 := hSf.cell2; have p3 := hSf.cell3; have p4 := hSf.cell4; have p5 := hSf.cell5; have p6 := hSf.cell6; have p7 := hSf.cell7; have p8 := hSf.cell8; have p9 := hSf.cell9; have p10 := hSf.cell10; have p11 := hSf.cell11; have p12 := hSf.cell12; clear hSf hSb); go_simp; (try with_reducible rfl))
  try simp only [Act.put, List.getElem_toArray, List.getElem_cons_zero, List.getElem_cons_succ, List.setIfInBounds_toArray, List.set_cons_zero, List.set_cons_succ]
  refine wpAnyH_take (i := 2) (v := ?_) rfl (by kernel_rfl) (by kernel_rfl) (by kernel_rfl) (fun _ _ _ h => h) (Or.inl ⟨by rfl, ?_⟩) (by assumption) ?_
  rotate_left
  · (intro w hSw; (obtain ⟨hSf, hSb⟩ := hSw; have p1 := hSf.cell1; have p2 := hSf.cell2; have p3 := hSf.cell3; have p4 := hSf.cell4; have p5 := hSf.cell5; have p6 := hSf.cell6; have p7 := hSf.cell7; have p8 := hSf.cell8; have p9 := hSf.cell9; have p10 := hSf.cell10; have p11 := hSf.cell11; have p12 := hSf.cell12; clear hSf hSb); go_simp; (try with_reducible rfl))
  try simp only [Act.put, List.getElem_toArray, List.getElem_cons_zero, List.getElem_cons_succ, List.setIfInBounds_toArray, List.set_cons_zero, List.set_cons_succ]
  refine wpAnyH_take (i := 5) (v := ?_) rfl (by kernel_rfl) (by kernel_rfl) (by kernel_rfl) (fun _ _ _ h => h) (Or.inl ⟨by rfl, ?_⟩) (by assumption) ?_
  rotate_left
  · (intro w hSw; (obtain ⟨hSf, hSb⟩ := hSw; have p1 := hSf.cell1; have p2 := hSf.cell2; have p3 := hSf.cell3; have p4 := hSf.cell4; have p5 := hSf.cell5; have p6 := hSf.cell6; have p7 := hSf.cell7; have p8 := hSf.cell8; have p9 := hSf.cell9; have p10 := hSf.cell10; have p11 := hSf.cell11; have p12 := hSf.cell12; clear hSf hSb); go_simp; (try with_reducible rfl))
  try simp only [Act.put, List.getElem_toArray, List.getElem_cons_zero, List.getElem_cons_succ, List.setIfInBounds_toArray, List.set_cons_zero, List.set_cons_succ]
  refine wpAnyH_take (i := 6) (v := ?_) rfl (by kernel_rfl) (by kernel_rfl) (by kernel_rfl) (fun _ _ _ h => h) (Or.inl ⟨by rfl, ?_⟩) (by assumption) ?_
  rotate_left
  · (intro w hSw; (obtain ⟨hSf, hSb⟩ := hSw; have p1 := hSf.cell1; have p2 := hSf.cell2; have p3 := hSf.cell3; have p4 := hSf.cell4; have p5 := hSf.cell5; have p6 := hSf.cell6; have p7 := hSf.cell7; have p8 := hSf.cell8; have p9 := hSf.cell9; have p10 := hSf.cell10; have p11 := hSf.cell11; have p12 := hSf.cell12; clear hSf hSb); go_simp; (try with_reducible rfl))
  try simp only [Act.put, List.getElem_toArray, List.getElem_cons_zero, List.getElem_cons_succ, List.setIfInBounds_toArray, List.set_cons_zero, List.set_cons_succ]
  refine wpAnyH_take (i := 9) (v := ?_) rfl (by kernel_rfl) (by kernel_rfl) (by kernel_rfl) (fun _ _ _ h => h) (Or.inl ⟨by rfl, ?_⟩) (by assumption) ?_
  rotate_left
  · (intro w hSw; (obtain ⟨hSf, hSb⟩ := hSw; have p1 := hSf.cell1; have p2 := hSf.cell2; have p3 := hSf.cell3; have p4 := hSf.cell4; have p5 := hSf.cell5; have p6 := hSf.cell6; have p7 := hSf.cell7; have p8 := hSf.cell8; have p9 := hSf.cell9; have p10 := hSf.cell10; have p11 := hSf.cell11; have p12 := hSf.cell12; clear hSf hSb); go_simp; (try with_reducible rfl))
  try simp only [Act.put, List.getElem_toArray, List.getElem_cons_zero, List.getElem_cons_succ, List.setIfInBounds_toArray, List.set_cons_zero, List.set_cons_succ]
  refine wpAnyH_take (i := 10) (v := ?_) rfl (by kernel_rfl) (by kernel_rfl) (by kernel_rfl) (fun _ _ _ h => h) (Or.inl ⟨by rfl, ?_⟩) (by assumption) ?_
  rotate_left
  · (intro w hSw; (obtain ⟨hSf, hSb⟩ := hSw; have p1 := hSf.cell1; have p2 := hSf.cell2; have p3 := hSf.cell3; have p4 := hSf.cell4; have p5 := hSf.cell5; have p6 := hSf.cell6; have p7 := hSf.cell7; have p8 := hSf.cell8; have p9 := hSf.cell9; have p10 := hSf.cell10; have p11 := hSf.cell11; have p12 := hSf.cell12; clear hSf hSb); go_simp; (try with_reducible rfl))
  try simp only [Act.put, List.getElem_toArray, List.getElem_cons_zero, List.getElem_cons_succ, List.setIfInBounds_toArray, List.set_cons_zero, List.set_cons_succ]
  refine wpAnyH_ready (rs := [3]) (by kernel_rfl) (by simp) ?_
  refine AllReadyH.cons rfl (fun K hK => ?_) AllReadyH.nil
  rw [if_pos (by rfl)]
  go_simp
  with_reducible refine (Cid.out _).mono ?_
  rintro e u1 ⟨rfl, hb⟩
  refine hK.out _ _ ?_ (fun hHeld => ?_)
  · exact ⟨hHeld.1.keep hb, hHeld.2.trans (hb.mono hHeld.2.size)⟩
  clear hK K
  try simp only [Act.put, List.getElem_toArray, List.getElem_cons_zero, List.getElem_cons_succ, List.setIfInBounds_toArray, List.set_cons_zero, List.set_cons_succ]
  refine wpAnyH_take (i := 4) (v := ?_) rfl (by kernel_rfl) (by kernel_rfl) (by kernel_rfl) (fun _ _ _ h => h) (Or.inl ⟨by rfl, ?_⟩) (by assumption) ?_
  rotate_left
  · (intro w hSw; (obtain ⟨hSf, hSb⟩ := hSw; have p1 := hSf.cell1; have p2 := hSf.cell2; have p3 := hSf.cell3; have p4 := hSf.cell4; have p5 := hSf.cell5; have p6 := hSf.cell6; have p7 := hSf.cell7; have p8 := hSf.cell8; have p9 := hSf.cell9; have p10 := hSf.cell10; have p11 := hSf.cell11; have p12 := hSf.cell12; clear hSf hSb); go_simp; (try with_reducible rfl))
  try simp only [Act.put, List.getElem_toArray, List.getElem_cons_zero, List.getElem_cons_succ, List.setIfInBounds_toArray, List.set_cons_zero, List.set_cons_succ]
  refine wpAnyH_ready (rs := [7]) (by kernel_rfl) (by simp) ?_
  refine AllReadyH.cons rfl (fun K hK => ?_) AllReadyH.nil
  rw [if_pos (by rfl)]
  go_simp
  with_reducible refine (Ccode.out _).mono ?_
  rintro e u2 ⟨rfl, hb⟩
  refine hK.out _ _ ?_ (fun hHeld => ?_)
  · exact ⟨hHeld.1.keep hb, hHeld.2.trans (hb.mono hHeld.2.size)⟩
  clear hK K
  try simp only [Act.put, List.getElem_toArray, List.getElem_cons_zero, List.getElem_cons_succ, List.setIfInBounds_toArray, List.set_cons_zero, List.set_cons_succ]
  refine wpAnyH_take (i := 8) (v := ?_) rfl (by kernel_rfl) (by kernel_rfl) (by kernel_rfl) (fun _ _ _ h => h) (Or.inl ⟨by rfl, ?_⟩) (by assumption) ?_
  rotate_left
  · (intro w hSw; (obtain ⟨hSf, hSb⟩ := hSw; have p1 := hSf.cell1; have p2 := hSf.cell2; have p3 := hSf.cell3; have p4 := hSf.cell4; have p5 := hSf.cell5; have p6 := hSf.cell6; have p7 := hSf.cell7; have p8 := hSf.cell8; have p9 := hSf.cell9; have p10 := hSf.cell10; have p11 := hSf.cell11; have p12 := hSf.cell12; clear hSf hSb); go_simp; (try with_reducible rfl))
  try simp only [Act.put, List.getElem_toArray, List.getElem_cons_zero, List.getElem_cons_succ, List.setIfInBounds_toArray, List.set_cons_zero, List.set_cons_succ]
  refine wpAnyH_ready (rs := [11]) (by kernel_rfl) (by simp) ?_
  refine AllReadyH.cons rfl (fun K hK => ?_) AllReadyH.nil
  rw [if_pos (by rfl)]
  go_simp
  with_reducible refine (Cmax.out _).mono ?_
  rintro e u3 ⟨rfl, hb⟩
  refine hK.out _ _ ?_ (fun hHeld => ?_)
  · exact ⟨hHeld.1.keep hb, hHeld.2.trans (hb.mono hHeld.2.size)⟩
  clear hK K
  try simp only [Act.put, List.getElem_toArray, List.getElem_cons_zero, List.getElem_cons_succ, List.setIfInBounds_toArray, List.set_cons_zero, List.set_cons_succ]
  refine wpAnyH_take (i := 12) (v := ?_) rfl (by kernel_rfl) (by kernel_rfl) (by kernel_rfl) (fun _ _ _ h => h) (Or.inl ⟨by rfl, ?_⟩) (by assumption) ?_
  rotate_left
  · (intro w hSw; (obtain ⟨hSf, hSb⟩ := hSw; have p1 := hSf.cell1; have p2 := hSf.cell2; have p3 := hSf.cell3; have p4 := hSf.cell4; have p5 := hSf.cell5; have p6 := hSf.cell6; have p7 := hSf.cell7; have p8 := hSf.cell8; have p9 := hSf.cell9; have p10 := hSf.cell10; have p11 := hSf.cell11; have p12 := hSf.cell12; clear hSf hSb); go_simp; (try with_reducible rfl))
  try simp only [Act.put, List.getElem_toArray, List.getElem_cons_zero, List.getElem_cons_succ, List.setIfInBounds_toArray, List.set_cons_zero, List.set_cons_succ]
  refine wpAnyH_take (i := 13) (v := ?_) rfl (by kernel_rfl) (by kernel_rfl) (by kernel_rfl) (fun _ _ _ h => h) (Or.inl ⟨by rfl, ?_⟩) (by assumption) ?_
  rotate_left
  · (intro w hSw; (obtain ⟨hSf, hSb⟩ := hSw; have p1 := hSf.cell1; have p2 := hSf.cell2; have p3 := hSf.cell3; have p4 := hSf.cell4; have p5 := hSf.cell5; have p6 := hSf.cell6; have p7 := hSf.cell7; have p8 := hSf.cell8; have p9 := hSf.cell9; have p10 := hSf.cell10; have p11 := hSf.cell11; have p12 := hSf.cell12; clear hSf hSb); go_simp; (try with_reducible rfl))
  try simp only [Act.put, List.getElem_toArray, List.getElem_cons_zero, List.getElem_cons_succ, List.setIfInBounds_toArray, List.set_cons_zero, List.set_cons_succ]
  refine wpAnyH_take (i := 14) (v := ?_) rfl (by kernel_rfl) (by kernel_rfl) (by kernel_rfl) (fun _ _ _ h => h) (Or.inl ⟨by rfl, ?_⟩) (by assumption) ?_
  rotate_left
  · (intro w hSw; (obtain ⟨hSf, hSb⟩ := hSw; have p1 := hSf.cell1; have p2 := hSf.cell2; have p3 := hSf.cell3; have p4 := hSf.cell4; have p5 := hSf.cell5; have p6 := hSf.cell6; have p7 := hSf.cell7; have p8 := hSf.cell8; have p9 := hSf.cell9; have p10 := hSf.cell10; have p11 := hSf.cell11; have p12 := hSf.cell12; clear hSf hSb); go_simp; (try with_reducible rfl))
  try simp only [Act.put, List.getElem_toArray, List.getElem_cons_zero, List.getElem_cons_succ, List.setIfInBounds_toArray, List.set_cons_zero, List.set_cons_succ]
  refine wpAnyH_done (by kernel_rfl) (NoPanic.normal ?_) _
  have HB := Lib.hid hHeld.2
  clear hHeld
  go_wp2
  go_ret2
  exact ⟨by rw [← HC.out]; rfl, HB.out⟩
set_option maxHeartbeats 8000000 in
theorem rput_5 (f : Frm) (rs : List (Nat × Nat)) (w : World) (hk : f.kind = 5) (hp : ∀ j, 0 ≤ nm f j) (hrd : Rd w (.slice f.set.a f.set.n f.set.c) (ints rs)) (hl : rs.length ≤ 1000) (hm : mayF 5 f (ints rs) = true) :
    Calls Tryd.prog 10 #[.agg #[.int .u64 f.kind, .int .u64 f.id, .int .u64 f.off, .int .u64 f.max, .int .u64 f.code, .int .u64 f.seq, .int .u64 f.prior, .int .u64 f.delay, .bool f.fin, .string ⟨f.data.toArray⟩, .string ⟨f.cid.toArray⟩, .string ⟨f.token.toArray⟩, .slice f.set.a f.set.n f.set.c]] w fun e w' => e = .returned (.tuple #[.string ⟨(putL f rs).toArray⟩, .int .i64 0]) ∧ Below w.heap.size w w' := by
  obtain ⟨hks, hHas, hnb⟩ := may_kind hm
  have hbd := may_bounds (k := 5) hk hm
  have CM := Lib.hid (fun W (h : Rd W (.slice f.set.a f.set.n f.set.c) (ints rs)) => rmayf 5 f (ints rs) W hk hp h (ints_pos rs) (by rw [ints_len]; exact hl) (by omega) (by omega) (by omega))
  rw [hm] at CM
  have HP : Hid (putL f rs = _) := Lib.hid (putL_5 f rs hk hHas)
  have hz0 : 0 ≤ f.id := hp 0
  have hy0 : f.id ≤ 4611686018427387903 := numB_nm hnb 0 (by decide)
  have hz2 : 0 ≤ f.code := hp 2
  have hy2 : f.code ≤ 4611686018427387903 := numB_nm hnb 2 (by decide)
  have CK : Hid (∀ W, Calls Tryd.prog 26 #[.int .u64 5] W fun e w' => e = .returned (.string ⟨(pt 5).toArray⟩) ∧ Below W.heap.size W w') := Lib.hid (fun W => rv_ok 5 W (by decide) (by decide))
  have hsk := pt_le8 5 (by decide)
  have Cid := Lib.hid (fun W => rv_ok f.id W hz0 hy0)
  have hsid := pt_le8 f.id.toNat (by omega)
  have Ccode := Lib.hid (fun W => rv_ok f.code W hz2 hy2)
  have hscode := pt_le8 f.code.toNat (by omega)
  obtain ⟨sk, Ek⟩ : ∃ s, pt 5 = s := ⟨_, rfl⟩
  rw [Ek] at CK HP hsk
  obtain ⟨sid, Eid⟩ : ∃ s, pt f.id.toNat = s := ⟨_, rfl⟩
  rw [Eid] at Cid HP hsid
  obtain ⟨scode, Ecode⟩ : ∃ s, pt f.code.toNat = s := ⟨_, rfl⟩
  rw [Ecode] at Ccode HP hscode
  have f2 : ¬ 9223372036854775807 < sk.length + sid.length := by omega
  have f3 : ¬ 9223372036854775807 < sk.length + sid.length + scode.length := by omega
  have HC : Hid ((⟨sk.toArray⟩ : ByteArray) ++ ⟨sid.toArray⟩ ++ ⟨scode.toArray⟩ = ⟨(putL f rs).toArray⟩) := Lib.hid (by rw [HP.out] <;> (apply ByteArray.ext; simp))
  generalize putL f rs = R at *
  have HFR : Hid (FrD w.heap.size f (w.alloc (.cells #[.int .u64 f.kind, .int .u64 f.id, .int .u64 f.off, .int .u64 f.max, .int .u64 f.code, .int .u64 f.seq, .int .u64 f.prior, .int .u64 f.delay, .bool f.fin, .string ⟨f.data.toArray⟩, .string ⟨f.cid.toArray⟩, .string ⟨f.token.toArray⟩, .slice f.set.a f.set.n f.set.c] 36 (0, 0)))) := Lib.hid (World.alloc_heap_new w _)
  have HB0 : Hid (Below w.heap.size w (w.alloc (.cells #[.int .u64 f.kind, .int .u64 f.id, .int .u64 f.off, .int .u64 f.max, .int .u64 f.code, .int .u64 f.seq, .int .u64 f.prior, .int .u64 f.delay, .bool f.fin, .string ⟨f.data.toArray⟩, .string ⟨f.cid.toArray⟩, .string ⟨f.token.toArray⟩, .slice f.set.a f.set.n f.set.c] 36 (0, 0)))) := Lib.hid ((Below.refl w.heap.size w).alloc (Nat.le_refl _) _)
  have HRD := Lib.hid (hrd.below HB0.out)
  have HK := Lib.hid hk
  clear HP hm hp hrd hk hks hHas hnb hbd hl Ek Eid Ecode  hz0 hy0 hz2 hy2
  go_enter Tryd.func10, Tryd.ntmps10
  go_wp2_with fail
  refine (CM.out _ HRD.out).mono ?_
  rintro e w1 ⟨rfl, hb⟩
  have HF1 := Lib.hid (HFR.out.keep hb)
  have HB1 := Lib.hid (HB0.out.trans (hb.mono HB0.out.size))
  have c0 := HF1.out.cell0
  rw [HK.out] at c0
  clear hb HRD CM
  go_wp2_with fail
  refine (CK.out _).mono ?_
  rintro e w2 ⟨rfl, hb⟩
  have HF2 := Lib.hid (HF1.out.keep hb)
  have HB2 := Lib.hid (HB1.out.trans (hb.mono HB1.out.size))
  have d0 := HF2.out.cell0
  rw [HK.out] at d0
  clear hb c0
  go_wp2_with fail
  refine wp_region_noPanic ?_
  refine wp_region_held_drew (S := fun W' : World => FrD w.heap.size f W' ∧ Below w.heap.size w W') (by kernel_rfl) ?_ (fun hHeld => ?_)
  · exact ⟨HF2.out, Below.drew HB2.out⟩
  refine wpAnyH_take (i := 0) (v := ?_) rfl (by kernel_rfl) (by kernel_rfl) (by kernel_rfl) (fun _ _ _ h => h) (Or.inl ⟨by rfl, ?_⟩) (by assumption) ?_
  rotate_left
  · (intro w hSw; (obtain ⟨hSf, hSb⟩ := hSw; have p1 := hSf.cell1; have p2 := hSf.cell2; have p3 := hSf.cell3; have p4 := hSf.cell4; have p5 := hSf.cell5; have p6 := hSf.cell6; have p7 := hSf.cell7; have p8 := hSf.cell8; have p9 := hSf.cell9; have p10 := hSf.cell10; have p11 := hSf.cell11; have p12 := hSf.cell12; clear hSf hSb); go_simp; (try with_reducible rfl))
  try simp only [Act.put, List.getElem_toArray, List.getElem_cons_zero, List.getElem_cons_succ, List.setIfInBounds_toArray, List.set_cons_zero, List.set_cons_succ]
  refine wpAnyH_take (i := 1) (v := ?_) rfl (by kernel_rfl) (by kernel_rfl) (by kernel_rfl) (fun _ _ _ h => h) (Or.inl ⟨by rfl, ?_⟩) (by assumption) ?_
  rotate_left
  · (intro w hSw; (obtain ⟨hSf, hSb⟩ := hSw; have p1 := hSf.cell1; have p2 := hSf.cell2; have p3 := hSf.cell3; have p4 := hSf.cell4; have p5 := hSf.cell5; have p6 := hSf.cell6; have p7 := hSf.cell7; have p8 := hSf.cell8; have p9 := hSf.cell9; have p10 := hSf.cell10; have p11 := hSf.cell11; have p12 := hSf.cell12; clear hSf hSb); go_simp; (try with_reducible rfl))
  try simp only [Act.put, List.getElem_toArray, List.getElem_cons_zero, List.getElem_cons_succ, List.setIfInBounds_toArray, List.set_cons_zero, List.set_cons_succ]
  refine wpAnyH_take (i := 2) (v := ?_) rfl (by kernel_rfl) (by kernel_rfl) (by kernel_rfl) (fun _ _ _ h => h) (Or.inl ⟨by rfl, ?_⟩) (by assumption) ?_
  rotate_left
  · (intro w hSw; (obtain ⟨hSf, hSb⟩ := hSw; have p1 := hSf.cell1; have p2 := hSf.cell2; have p3 := hSf.cell3; have p4 := hSf.cell4; have p5 := hSf.cell5; have p6 := hSf.cell6; have p7 := hSf.cell7; have p8 := hSf.cell8; have p9 := hSf.cell9; have p10 := hSf.cell10; have p11 := hSf.cell11; have p12 := hSf.cell12; clear hSf hSb); go_simp; (try with_reducible rfl))
  try simp only [Act.put, List.getElem_toArray, List.getElem_cons_zero, List.getElem_cons_succ, List.setIfInBounds_toArray, List.set_cons_zero, List.set_cons_succ]
  refine wpAnyH_take (i := 5) (v := ?_) rfl (by kernel_rfl) (by kernel_rfl) (by kernel_rfl) (fun _ _ _ h => h) (Or.inl ⟨by rfl, ?_⟩) (by assumption) ?_
  rotate_left
  · (intro w hSw; (obtain ⟨hSf, hSb⟩ := hSw; have p1 := hSf.cell1; have p2 := hSf.cell2; have p3 := hSf.cell3; have p4 := hSf.cell4; have p5 := hSf.cell5; have p6 := hSf.cell6; have p7 := hSf.cell7; have p8 := hSf.cell8; have p9 := hSf.cell9; have p10 := hSf.cell10; have p11 := hSf.cell11; have p12 := hSf.cell12; clear hSf hSb); go_simp; (try with_reducible rfl))
  try simp only [Act.put, List.getElem_toArray, List.getElem_cons_zero, List.getElem_cons_succ, List.setIfInBounds_toArray, List.set_cons_zero, List.set_cons_succ]
  refine wpAnyH_take (i := 6) (v := ?_) rfl (by kernel_rfl) (by kernel_rfl) (by kernel_rfl) (fun _ _ _ h => h) (Or.inl ⟨by rfl, ?_⟩) (by assumption) ?_
  rotate_left
  · (intro w hSw; (obtain ⟨hSf, hSb⟩ := hSw; have p1 := hSf.cell1; have p2 := hSf.cell2; have p3 := hSf.cell3; have p4 := hSf.cell4; have p5 := hSf.cell5; have p6 := hSf.cell6; have p7 := hSf.cell7; have p8 := hSf.cell8; have p9 := hSf.cell9; have p10 := hSf.cell10; have p11 := hSf.cell11; have p12 := hSf.cell12; clear hSf hSb); go_simp; (try with_reducible rfl))
  try simp only [Act.put, List.getElem_toArray, List.getElem_cons_zero, List.getElem_cons_succ, List.setIfInBounds_toArray, List.set_cons_zero, List.set_cons_succ]
  refine wpAnyH_ready (rs := [3]) (by kernel_rfl) (by simp) ?_
  refine AllReadyH.cons rfl (fun K hK => ?_) AllReadyH.nil
  rw [if_pos (by rfl)]
  go_simp
  with_reducible refine (Cid.out _).mono ?_
  rintro e u1 ⟨rfl, hb⟩
  refine hK.out _ _ ?_ (fun hHeld => ?_)
  · exact ⟨hHeld.1.keep hb, hHeld.2.trans (hb.mono hHeld.2.size)⟩
  clear hK K
  try simp only [Act.put, List.getElem_toArray, List.getElem_cons_zero, List.getElem_cons_succ, List.setIfInBounds_toArray, List.set_cons_zero, List.set_cons_succ]
  refine wpAnyH_take (i := 4) (v := ?_) rfl (by kernel_rfl) (by kernel_rfl) (by kernel_rfl) (fun _ _ _ h => h) (Or.inl ⟨by rfl, ?_⟩) (by assumption) ?_
  rotate_left
  · (intro w hSw; (obtain ⟨hSf, hSb⟩ := hSw; have p1 := hSf.cell1; have p2 := hSf.cell2; have p3 := hSf.cell3; have p4 := hSf.cell4; have p5 := hSf.cell5; have p6 := hSf.cell6; have p7 := hSf.cell7; have p8 := hSf.cell8; have p9 := hSf.cell9; have p10 := hSf.cell10; have p11 := hSf.cell11; have p12 := hSf.cell12; clear hSf hSb); go_simp; (try with_reducible rfl))
  try simp only [Act.put, List.getElem_toArray, List.getElem_cons_zero, List.getElem_cons_succ, List.setIfInBounds_toArray, List.set_cons_zero, List.set_cons_succ]
  refine wpAnyH_ready (rs := [7]) (by kernel_rfl) (by simp) ?_
  refine AllReadyH.cons rfl (fun K hK => ?_) AllReadyH.nil
  rw [if_pos (by rfl)]
  go_simp
  with_reducible refine (Ccode.out _).mono ?_
  rintro e u2 ⟨rfl, hb⟩
  refine hK.out _ _ ?_ (fun hHeld => ?_)
  · exact ⟨hHeld.1.keep hb, hHeld.2.trans (hb.mono hHeld.2.size)⟩
  clear hK K
  try simp only [Act.put, List.getElem_toArray, List.getElem_cons_zero, List.getElem_cons_succ, List.setIfInBounds_toArray, List.set_cons_zero, List.set_cons_succ]
  refine wpAnyH_take (i := 8) (v := ?_) rfl (by kernel_rfl) (by kernel_rfl) (by kernel_rfl) (fun _ _ _ h => h) (Or.inl ⟨by rfl, ?_⟩) (by assumption) ?_
  rotate_left
  · (intro w hSw; (obtain ⟨hSf, hSb⟩ := hSw; have p1 := hSf.cell1; have p2 := hSf.cell2; have p3 := hSf.cell3; have p4 := hSf.cell4; have p5 := hSf.cell5; have p6 := hSf.cell6; have p7 := hSf.cell7; have p8 := hSf.cell8; have p9 := hSf.cell9; have p10 := hSf.cell10; have p11 := hSf.cell11; have p12 := hSf.cell12; clear hSf hSb); go_simp; (try with_reducible rfl))
  try simp only [Act.put, List.getElem_toArray, List.getElem_cons_zero, List.getElem_cons_succ, List.setIfInBounds_toArray, List.set_cons_zero, List.set_cons_succ]
  refine wpAnyH_take (i := 9) (v := ?_) rfl (by kernel_rfl) (by kernel_rfl) (by kernel_rfl) (fun _ _ _ h => h) (Or.inl ⟨by rfl, ?_⟩) (by assumption) ?_
  rotate_left
  · (intro w hSw; (obtain ⟨hSf, hSb⟩ := hSw; have p1 := hSf.cell1; have p2 := hSf.cell2; have p3 := hSf.cell3; have p4 := hSf.cell4; have p5 := hSf.cell5; have p6 := hSf.cell6; have p7 := hSf.cell7; have p8 := hSf.cell8; have p9 := hSf.cell9; have p10 := hSf.cell10; have p11 := hSf.cell11; have p12 := hSf.cell12; clear hSf hSb); go_simp; (try with_reducible rfl))
  try simp only [Act.put, List.getElem_toArray, List.getElem_cons_zero, List.getElem_cons_succ, List.setIfInBounds_toArray, List.set_cons_zero, List.set_cons_succ]
  refine wpAnyH_take (i := 10) (v := ?_) rfl (by kernel_rfl) (by kernel_rfl) (by kernel_rfl) (fun _ _ _ h => h) (Or.inl ⟨by rfl, ?_⟩) (by assumption) ?_
  rotate_left
  · (intro w hSw; (obtain ⟨hSf, hSb⟩ := hSw; have p1 := hSf.cell1; have p2 := hSf.cell2; have p3 := hSf.cell3; have p4 := hSf.cell4; have p5 := hSf.cell5; have p6 := hSf.cell6; have p7 := hSf.cell7; have p8 := hSf.cell8; have p9 := hSf.cell9; have p10 := hSf.cell10; have p11 := hSf.cell11; have p12 := hSf.cell12; clear hSf hSb); go_simp; (try with_reducible rfl))
  try simp only [Act.put, List.getElem_toArray, List.getElem_cons_zero, List.getElem_cons_succ, List.setIfInBounds_toArray, List.set_cons_zero, List.set_cons_succ]
  refine wpAnyH_done (by kernel_rfl) (NoPanic.normal ?_) _
  have HB := Lib.hid hHeld.2
  clear hHeld
  go_wp2
  go_ret2
  exact ⟨by rw [← HC.out]; rfl, HB.out⟩
set_option maxHeartbeats 8000000 in
theorem rput_6 (f : Frm) (rs : List (Nat × Nat)) (w : World) (hk : f.kind = 6) (hp : ∀ j, 0 ≤ nm f j) (hrd : Rd w (.slice f.set.a f.set.n f.set.c) (ints rs)) (hl : rs.length ≤ 1000) (hm : mayF 6 f (ints rs) = true) :
    Calls Tryd.prog 10 #[.agg #[.int .u64 f.kind, .int .u64 f.id, .int .u64 f.off, .int .u64 f.max, .int .u64 f.code, .int .u64 f.seq, .int .u64 f.prior, .int .u64 f.delay, .bool f.fin, .string ⟨f.data.toArray⟩, .string ⟨f.cid.toArray⟩, .string ⟨f.token.toArray⟩, .slice f.set.a f.set.n f.set.c]] w fun e w' => e = .returned (.tuple #[.string ⟨(putL f rs).toArray⟩, .int .i64 0]) ∧ Below w.heap.size w w' := by
  obtain ⟨hks, hHas, hnb⟩ := may_kind hm
  have hbd := may_bounds (k := 6) hk hm
  have CM := Lib.hid (fun W (h : Rd W (.slice f.set.a f.set.n f.set.c) (ints rs)) => rmayf 6 f (ints rs) W hk hp h (ints_pos rs) (by rw [ints_len]; exact hl) (by omega) (by omega) (by omega))
  rw [hm] at CM
  have HP : Hid (putL f rs = _) := Lib.hid (putL_6 f rs hk hHas)
  have hz1 : 0 ≤ f.off := hp 1
  have hy1 : f.off ≤ 4611686018427387903 := numB_nm hnb 1 (by decide)
  have CK : Hid (∀ W, Calls Tryd.prog 26 #[.int .u64 6] W fun e w' => e = .returned (.string ⟨(pt 6).toArray⟩) ∧ Below W.heap.size W w') := Lib.hid (fun W => rv_ok 6 W (by decide) (by decide))
  have hsk := pt_le8 6 (by decide)
  have Coff := Lib.hid (fun W => rv_ok f.off W hz1 hy1)
  have hsoff := pt_le8 f.off.toNat (by omega)
  have Cdata := Lib.hid (fun W => text_any f.data W (by omega))
  have hsdata : (pt f.data.length ++ f.data).length ≤ 2000 := by
    have := pt_le8 f.data.length (by omega)
    rw [List.length_append]; omega
  obtain ⟨sk, Ek⟩ : ∃ s, pt 6 = s := ⟨_, rfl⟩
  rw [Ek] at CK HP hsk
  obtain ⟨soff, Eoff⟩ : ∃ s, pt f.off.toNat = s := ⟨_, rfl⟩
  rw [Eoff] at Coff HP hsoff
  obtain ⟨sdata, Edata⟩ : ∃ s, pt f.data.length ++ f.data = s := ⟨_, rfl⟩
  rw [Edata] at Cdata HP hsdata
  have f2 : ¬ 9223372036854775807 < sk.length + soff.length := by omega
  have f3 : ¬ 9223372036854775807 < sk.length + soff.length + sdata.length := by omega
  have HC : Hid ((⟨sk.toArray⟩ : ByteArray) ++ ⟨soff.toArray⟩ ++ ⟨sdata.toArray⟩ = ⟨(putL f rs).toArray⟩) := Lib.hid (by rw [HP.out] <;> (apply ByteArray.ext; simp))
  generalize putL f rs = R at *
  have HFR : Hid (FrD w.heap.size f (w.alloc (.cells #[.int .u64 f.kind, .int .u64 f.id, .int .u64 f.off, .int .u64 f.max, .int .u64 f.code, .int .u64 f.seq, .int .u64 f.prior, .int .u64 f.delay, .bool f.fin, .string ⟨f.data.toArray⟩, .string ⟨f.cid.toArray⟩, .string ⟨f.token.toArray⟩, .slice f.set.a f.set.n f.set.c] 36 (0, 0)))) := Lib.hid (World.alloc_heap_new w _)
  have HB0 : Hid (Below w.heap.size w (w.alloc (.cells #[.int .u64 f.kind, .int .u64 f.id, .int .u64 f.off, .int .u64 f.max, .int .u64 f.code, .int .u64 f.seq, .int .u64 f.prior, .int .u64 f.delay, .bool f.fin, .string ⟨f.data.toArray⟩, .string ⟨f.cid.toArray⟩, .string ⟨f.token.toArray⟩, .slice f.set.a f.set.n f.set.c] 36 (0, 0)))) := Lib.hid ((Below.refl w.heap.size w).alloc (Nat.le_refl _) _)
  have HRD := Lib.hid (hrd.below HB0.out)
  have HK := Lib.hid hk
  clear HP hm hp hrd hk hks hHas hnb hbd hl Ek Eoff Edata hz1 hy1
  go_enter Tryd.func10, Tryd.ntmps10
  go_wp2_with fail
  refine (CM.out _ HRD.out).mono ?_
  rintro e w1 ⟨rfl, hb⟩
  have HF1 := Lib.hid (HFR.out.keep hb)
  have HB1 := Lib.hid (HB0.out.trans (hb.mono HB0.out.size))
  have c0 := HF1.out.cell0
  rw [HK.out] at c0
  clear hb HRD CM
  go_wp2_with fail
  refine (CK.out _).mono ?_
  rintro e w2 ⟨rfl, hb⟩
  have HF2 := Lib.hid (HF1.out.keep hb)
  have HB2 := Lib.hid (HB1.out.trans (hb.mono HB1.out.size))
  have d0 := HF2.out.cell0
  rw [HK.out] at d0
  clear hb c0
  go_wp2_with fail
  refine wp_region_noPanic ?_
  refine wp_region_held_drew (S := fun W' : World => FrD w.heap.size f W' ∧ Below w.heap.size w W') (by kernel_rfl) ?_ (fun hHeld => ?_)
  · exact ⟨HF2.out, Below.drew HB2.out⟩
  refine wpAnyH_take (i := 0) (v := ?_) rfl (by kernel_rfl) (by kernel_rfl) (by kernel_rfl) (fun _ _ _ h => h) (Or.inl ⟨by rfl, ?_⟩) (by assumption) ?_
  rotate_left
  · (intro w hSw; (obtain ⟨hSf, hSb⟩ := hSw; have p1 := hSf.cell1; have p2 := hSf.cell2; have p3 := hSf.cell3; have p4 := hSf.cell4; have p5 := hSf.cell5; have p6 := hSf.cell6; have p7 := hSf.cell7; have p8 := hSf.cell8; have p9 := hSf.cell9; have p10 := hSf.cell10; have p11 := hSf.cell11; have p12 := hSf.cell12; clear hSf hSb); go_simp; (try with_reducible rfl))
  try simp only [Act.put, List.getElem_toArray, List.getElem_cons_zero, List.getElem_cons_succ, List.setIfInBounds_toArray, List.set_cons_zero, List.set_cons_succ]
  refine wpAnyH_take (i := 1) (v := ?_) rfl (by kernel_rfl) (by kernel_rfl) (by kernel_rfl) (fun _ _ _ h => h) (Or.inl ⟨by rfl, ?_⟩) (by assumption) ?_
  rotate_left
  · (intro w hSw; (obtain ⟨hSf, hSb⟩ := hSw; have p1 := hSf.cell1; have p2 := hSf.cell2; have p3 := hSf.cell3; have p4 := hSf.cell4; have p5 := hSf.cell5; have p6 := hSf.cell6; have p7 := hSf.cell7; have p8 := hSf.cell8; have p9 := hSf.cell9; have p10 := hSf.cell10; have p11 := hSf.cell11; have p12 := hSf.cell12; clear hSf hSb); go_simp; (try with_reducible rfl))
  try simp only [Act.put, List.getElem_toArray, List.getElem_cons_zero, List.getElem_cons_succ, List.setIfInBounds_toArray, List.set_cons_zero, List.set_cons_succ]
  refine wpAnyH_take (i := 2) (v := ?_) rfl (by kernel_rfl) (by kernel_rfl) (by kernel_rfl) (fun _ _ _ h => h) (Or.inl ⟨by rfl, ?_⟩) (by assumption) ?_
  rotate_left
  · (intro w hSw; (obtain ⟨hSf, hSb⟩ := hSw; have p1 := hSf.cell1; have p2 := hSf.cell2; have p3 := hSf.cell3; have p4 := hSf.cell4; have p5 := hSf.cell5; have p6 := hSf.cell6; have p7 := hSf.cell7; have p8 := hSf.cell8; have p9 := hSf.cell9; have p10 := hSf.cell10; have p11 := hSf.cell11; have p12 := hSf.cell12; clear hSf hSb); go_simp; (try with_reducible rfl))
  try simp only [Act.put, List.getElem_toArray, List.getElem_cons_zero, List.getElem_cons_succ, List.setIfInBounds_toArray, List.set_cons_zero, List.set_cons_succ]
  refine wpAnyH_take (i := 5) (v := ?_) rfl (by kernel_rfl) (by kernel_rfl) (by kernel_rfl) (fun _ _ _ h => h) (Or.inl ⟨by rfl, ?_⟩) (by assumption) ?_
  rotate_left
  · (intro w hSw; (obtain ⟨hSf, hSb⟩ := hSw; have p1 := hSf.cell1; have p2 := hSf.cell2; have p3 := hSf.cell3; have p4 := hSf.cell4; have p5 := hSf.cell5; have p6 := hSf.cell6; have p7 := hSf.cell7; have p8 := hSf.cell8; have p9 := hSf.cell9; have p10 := hSf.cell10; have p11 := hSf.cell11; have p12 := hSf.cell12; clear hSf hSb); go_simp; (try with_reducible rfl))
  try simp only [Act.put, List.getElem_toArray, List.getElem_cons_zero, List.getElem_cons_succ, List.setIfInBounds_toArray, List.set_cons_zero, List.set_cons_succ]
  refine wpAnyH_take (i := 6) (v := ?_) rfl (by kernel_rfl) (by kernel_rfl) (by kernel_rfl) (fun _ _ _ h => h) (Or.inl ⟨by rfl, ?_⟩) (by assumption) ?_
  rotate_left
  · (intro w hSw; (obtain ⟨hSf, hSb⟩ := hSw; have p1 := hSf.cell1; have p2 := hSf.cell2; have p3 := hSf.cell3; have p4 := hSf.cell4; have p5 := hSf.cell5; have p6 := hSf.cell6; have p7 := hSf.cell7; have p8 := hSf.cell8; have p9 := hSf.cell9; have p10 := hSf.cell10; have p11 := hSf.cell11; have p12 := hSf.cell12; clear hSf hSb); go_simp; (try with_reducible rfl))
  try simp only [Act.put, List.getElem_toArray, List.getElem_cons_zero, List.getElem_cons_succ, List.setIfInBounds_toArray, List.set_cons_zero, List.set_cons_succ]
  refine wpAnyH_ready (rs := [3]) (by kernel_rfl) (by simp) ?_
  refine AllReadyH.cons rfl (fun K hK => ?_) AllReadyH.nil
  rw [if_pos (by rfl)]
  go_simp
  with_reducible refine (Coff.out _).mono ?_
  rintro e u1 ⟨rfl, hb⟩
  refine hK.out _ _ ?_ (fun hHeld => ?_)
  · exact ⟨hHeld.1.keep hb, hHeld.2.trans (hb.mono hHeld.2.size)⟩
  clear hK K
  try simp only [Act.put, List.getElem_toArray, List.getElem_cons_zero, List.getElem_cons_succ, List.setIfInBounds_toArray, List.set_cons_zero, List.set_cons_succ]
  refine wpAnyH_take (i := 4) (v := ?_) rfl (by kernel_rfl) (by kernel_rfl) (by kernel_rfl) (fun _ _ _ h => h) (Or.inl ⟨by rfl, ?_⟩) (by assumption) ?_
  rotate_left
  · (intro w hSw; (obtain ⟨hSf, hSb⟩ := hSw; have p1 := hSf.cell1; have p2 := hSf.cell2; have p3 := hSf.cell3; have p4 := hSf.cell4; have p5 := hSf.cell5; have p6 := hSf.cell6; have p7 := hSf.cell7; have p8 := hSf.cell8; have p9 := hSf.cell9; have p10 := hSf.cell10; have p11 := hSf.cell11; have p12 := hSf.cell12; clear hSf hSb); go_simp; (try with_reducible rfl))
  try simp only [Act.put, List.getElem_toArray, List.getElem_cons_zero, List.getElem_cons_succ, List.setIfInBounds_toArray, List.set_cons_zero, List.set_cons_succ]
  refine wpAnyH_ready (rs := [7]) (by kernel_rfl) (by simp) ?_
  refine AllReadyH.cons rfl (fun K hK => ?_) AllReadyH.nil
  rw [if_pos (by rfl)]
  go_simp
  with_reducible refine (Cdata.out _).mono ?_
  rintro e u2 ⟨rfl, hb⟩
  refine hK.out _ _ ?_ (fun hHeld => ?_)
  · exact ⟨hHeld.1.keep hb, hHeld.2.trans (hb.mono hHeld.2.size)⟩
  clear hK K
  try simp only [Act.put, List.getElem_toArray, List.getElem_cons_zero, List.getElem_cons_succ, List.setIfInBounds_toArray, List.set_cons_zero, List.set_cons_succ]
  refine wpAnyH_take (i := 8) (v := ?_) rfl (by kernel_rfl) (by kernel_rfl) (by kernel_rfl) (fun _ _ _ h => h) (Or.inl ⟨by rfl, ?_⟩) (by assumption) ?_
  rotate_left
  · (intro w hSw; (obtain ⟨hSf, hSb⟩ := hSw; have p1 := hSf.cell1; have p2 := hSf.cell2; have p3 := hSf.cell3; have p4 := hSf.cell4; have p5 := hSf.cell5; have p6 := hSf.cell6; have p7 := hSf.cell7; have p8 := hSf.cell8; have p9 := hSf.cell9; have p10 := hSf.cell10; have p11 := hSf.cell11; have p12 := hSf.cell12; clear hSf hSb); go_simp; (try with_reducible rfl))
  try simp only [Act.put, List.getElem_toArray, List.getElem_cons_zero, List.getElem_cons_succ, List.setIfInBounds_toArray, List.set_cons_zero, List.set_cons_succ]
  refine wpAnyH_take (i := 9) (v := ?_) rfl (by kernel_rfl) (by kernel_rfl) (by kernel_rfl) (fun _ _ _ h => h) (Or.inl ⟨by rfl, ?_⟩) (by assumption) ?_
  rotate_left
  · (intro w hSw; (obtain ⟨hSf, hSb⟩ := hSw; have p1 := hSf.cell1; have p2 := hSf.cell2; have p3 := hSf.cell3; have p4 := hSf.cell4; have p5 := hSf.cell5; have p6 := hSf.cell6; have p7 := hSf.cell7; have p8 := hSf.cell8; have p9 := hSf.cell9; have p10 := hSf.cell10; have p11 := hSf.cell11; have p12 := hSf.cell12; clear hSf hSb); go_simp; (try with_reducible rfl))
  try simp only [Act.put, List.getElem_toArray, List.getElem_cons_zero, List.getElem_cons_succ, List.setIfInBounds_toArray, List.set_cons_zero, List.set_cons_succ]
  refine wpAnyH_take (i := 10) (v := ?_) rfl (by kernel_rfl) (by kernel_rfl) (by kernel_rfl) (fun _ _ _ h => h) (Or.inl ⟨by rfl, ?_⟩) (by assumption) ?_
  rotate_left
  · (intro w hSw; (obtain ⟨hSf, hSb⟩ := hSw; have p1 := hSf.cell1; have p2 := hSf.cell2; have p3 := hSf.cell3; have p4 := hSf.cell4; have p5 := hSf.cell5; have p6 := hSf.cell6; have p7 := hSf.cell7; have p8 := hSf.cell8; have p9 := hSf.cell9; have p10 := hSf.cell10; have p11 := hSf.cell11; have p12 := hSf.cell12; clear hSf hSb); go_simp; (try with_reducible rfl))
  try simp only [Act.put, List.getElem_toArray, List.getElem_cons_zero, List.getElem_cons_succ, List.setIfInBounds_toArray, List.set_cons_zero, List.set_cons_succ]
  refine wpAnyH_done (by kernel_rfl) (NoPanic.normal ?_) _
  have HB := Lib.hid hHeld.2
  clear hHeld
  go_wp2
  go_ret2
  exact ⟨by rw [← HC.out]; rfl, HB.out⟩
set_option maxHeartbeats 8000000 in
theorem rput_16 (f : Frm) (rs : List (Nat × Nat)) (w : World) (hk : f.kind = 16) (hp : ∀ j, 0 ≤ nm f j) (hrd : Rd w (.slice f.set.a f.set.n f.set.c) (ints rs)) (hl : rs.length ≤ 1000) (hm : mayF 16 f (ints rs) = true) :
    Calls Tryd.prog 10 #[.agg #[.int .u64 f.kind, .int .u64 f.id, .int .u64 f.off, .int .u64 f.max, .int .u64 f.code, .int .u64 f.seq, .int .u64 f.prior, .int .u64 f.delay, .bool f.fin, .string ⟨f.data.toArray⟩, .string ⟨f.cid.toArray⟩, .string ⟨f.token.toArray⟩, .slice f.set.a f.set.n f.set.c]] w fun e w' => e = .returned (.tuple #[.string ⟨(putL f rs).toArray⟩, .int .i64 0]) ∧ Below w.heap.size w w' := by
  obtain ⟨hks, hHas, hnb⟩ := may_kind hm
  have hbd := may_bounds (k := 16) hk hm
  have CM := Lib.hid (fun W (h : Rd W (.slice f.set.a f.set.n f.set.c) (ints rs)) => rmayf 16 f (ints rs) W hk hp h (ints_pos rs) (by rw [ints_len]; exact hl) (by omega) (by omega) (by omega))
  rw [hm] at CM
  have HP : Hid (putL f rs = _) := Lib.hid (putL_16 f rs hk hHas)
  have hz3 : 0 ≤ f.max := hp 3
  have hy3 : f.max ≤ 4611686018427387903 := numB_nm hnb 3 (by decide)
  have CK : Hid (∀ W, Calls Tryd.prog 26 #[.int .u64 16] W fun e w' => e = .returned (.string ⟨(pt 16).toArray⟩) ∧ Below W.heap.size W w') := Lib.hid (fun W => rv_ok 16 W (by decide) (by decide))
  have hsk := pt_le8 16 (by decide)
  have Cmax := Lib.hid (fun W => rv_ok f.max W hz3 hy3)
  have hsmax := pt_le8 f.max.toNat (by omega)
  obtain ⟨sk, Ek⟩ : ∃ s, pt 16 = s := ⟨_, rfl⟩
  rw [Ek] at CK HP hsk
  obtain ⟨smax, Emax⟩ : ∃ s, pt f.max.toNat = s := ⟨_, rfl⟩
  rw [Emax] at Cmax HP hsmax
  have f2 : ¬ 9223372036854775807 < sk.length + smax.length := by omega
  have HC : Hid ((⟨sk.toArray⟩ : ByteArray) ++ ⟨smax.toArray⟩ = ⟨(putL f rs).toArray⟩) := Lib.hid (by rw [HP.out] <;> (apply ByteArray.ext; simp))
  generalize putL f rs = R at *
  have HFR : Hid (FrD w.heap.size f (w.alloc (.cells #[.int .u64 f.kind, .int .u64 f.id, .int .u64 f.off, .int .u64 f.max, .int .u64 f.code, .int .u64 f.seq, .int .u64 f.prior, .int .u64 f.delay, .bool f.fin, .string ⟨f.data.toArray⟩, .string ⟨f.cid.toArray⟩, .string ⟨f.token.toArray⟩, .slice f.set.a f.set.n f.set.c] 36 (0, 0)))) := Lib.hid (World.alloc_heap_new w _)
  have HB0 : Hid (Below w.heap.size w (w.alloc (.cells #[.int .u64 f.kind, .int .u64 f.id, .int .u64 f.off, .int .u64 f.max, .int .u64 f.code, .int .u64 f.seq, .int .u64 f.prior, .int .u64 f.delay, .bool f.fin, .string ⟨f.data.toArray⟩, .string ⟨f.cid.toArray⟩, .string ⟨f.token.toArray⟩, .slice f.set.a f.set.n f.set.c] 36 (0, 0)))) := Lib.hid ((Below.refl w.heap.size w).alloc (Nat.le_refl _) _)
  have HRD := Lib.hid (hrd.below HB0.out)
  have HK := Lib.hid hk
  clear HP hm hp hrd hk hks hHas hnb hbd hl Ek Emax  hz3 hy3
  go_enter Tryd.func10, Tryd.ntmps10
  go_wp2_with fail
  refine (CM.out _ HRD.out).mono ?_
  rintro e w1 ⟨rfl, hb⟩
  have HF1 := Lib.hid (HFR.out.keep hb)
  have HB1 := Lib.hid (HB0.out.trans (hb.mono HB0.out.size))
  have c0 := HF1.out.cell0
  rw [HK.out] at c0
  clear hb HRD CM
  go_wp2_with fail
  refine (CK.out _).mono ?_
  rintro e w2 ⟨rfl, hb⟩
  have HF2 := Lib.hid (HF1.out.keep hb)
  have HB2 := Lib.hid (HB1.out.trans (hb.mono HB1.out.size))
  have d0 := HF2.out.cell0
  rw [HK.out] at d0
  clear hb c0
  have d1 := HF2.out.cell3
  go_wp2_with fail
  refine (Cmax.out _).mono ?_
  rintro e w3 ⟨rfl, hb⟩
  have HB := Lib.hid (HB2.out.trans (hb.mono HB2.out.size))
  clear hb
  go_wp2
  go_ret2
  exact ⟨by rw [← HC.out]; rfl, HB.out⟩
set_option maxHeartbeats 8000000 in
theorem rput_18 (f : Frm) (rs : List (Nat × Nat)) (w : World) (hk : f.kind = 18) (hp : ∀ j, 0 ≤ nm f j) (hrd : Rd w (.slice f.set.a f.set.n f.set.c) (ints rs)) (hl : rs.length ≤ 1000) (hm : mayF 18 f (ints rs) = true) :
    Calls Tryd.prog 10 #[.agg #[.int .u64 f.kind, .int .u64 f.id, .int .u64 f.off, .int .u64 f.max, .int .u64 f.code, .int .u64 f.seq, .int .u64 f.prior, .int .u64 f.delay, .bool f.fin, .string ⟨f.data.toArray⟩, .string ⟨f.cid.toArray⟩, .string ⟨f.token.toArray⟩, .slice f.set.a f.set.n f.set.c]] w fun e w' => e = .returned (.tuple #[.string ⟨(putL f rs).toArray⟩, .int .i64 0]) ∧ Below w.heap.size w w' := by
  obtain ⟨hks, hHas, hnb⟩ := may_kind hm
  have hbd := may_bounds (k := 18) hk hm
  have CM := Lib.hid (fun W (h : Rd W (.slice f.set.a f.set.n f.set.c) (ints rs)) => rmayf 18 f (ints rs) W hk hp h (ints_pos rs) (by rw [ints_len]; exact hl) (by omega) (by omega) (by omega))
  rw [hm] at CM
  have HP : Hid (putL f rs = _) := Lib.hid (putL_18 f rs hk hHas)
  have hz3 : 0 ≤ f.max := hp 3
  have hy3 : f.max ≤ 4611686018427387903 := numB_nm hnb 3 (by decide)
  have CK : Hid (∀ W, Calls Tryd.prog 26 #[.int .u64 18] W fun e w' => e = .returned (.string ⟨(pt 18).toArray⟩) ∧ Below W.heap.size W w') := Lib.hid (fun W => rv_ok 18 W (by decide) (by decide))
  have hsk := pt_le8 18 (by decide)
  have Cmax := Lib.hid (fun W => rv_ok f.max W hz3 hy3)
  have hsmax := pt_le8 f.max.toNat (by omega)
  obtain ⟨sk, Ek⟩ : ∃ s, pt 18 = s := ⟨_, rfl⟩
  rw [Ek] at CK HP hsk
  obtain ⟨smax, Emax⟩ : ∃ s, pt f.max.toNat = s := ⟨_, rfl⟩
  rw [Emax] at Cmax HP hsmax
  have f2 : ¬ 9223372036854775807 < sk.length + smax.length := by omega
  have HC : Hid ((⟨sk.toArray⟩ : ByteArray) ++ ⟨smax.toArray⟩ = ⟨(putL f rs).toArray⟩) := Lib.hid (by rw [HP.out] <;> (apply ByteArray.ext; simp))
  generalize putL f rs = R at *
  have HFR : Hid (FrD w.heap.size f (w.alloc (.cells #[.int .u64 f.kind, .int .u64 f.id, .int .u64 f.off, .int .u64 f.max, .int .u64 f.code, .int .u64 f.seq, .int .u64 f.prior, .int .u64 f.delay, .bool f.fin, .string ⟨f.data.toArray⟩, .string ⟨f.cid.toArray⟩, .string ⟨f.token.toArray⟩, .slice f.set.a f.set.n f.set.c] 36 (0, 0)))) := Lib.hid (World.alloc_heap_new w _)
  have HB0 : Hid (Below w.heap.size w (w.alloc (.cells #[.int .u64 f.kind, .int .u64 f.id, .int .u64 f.off, .int .u64 f.max, .int .u64 f.code, .int .u64 f.seq, .int .u64 f.prior, .int .u64 f.delay, .bool f.fin, .string ⟨f.data.toArray⟩, .string ⟨f.cid.toArray⟩, .string ⟨f.token.toArray⟩, .slice f.set.a f.set.n f.set.c] 36 (0, 0)))) := Lib.hid ((Below.refl w.heap.size w).alloc (Nat.le_refl _) _)
  have HRD := Lib.hid (hrd.below HB0.out)
  have HK := Lib.hid hk
  clear HP hm hp hrd hk hks hHas hnb hbd hl Ek Emax  hz3 hy3
  go_enter Tryd.func10, Tryd.ntmps10
  go_wp2_with fail
  refine (CM.out _ HRD.out).mono ?_
  rintro e w1 ⟨rfl, hb⟩
  have HF1 := Lib.hid (HFR.out.keep hb)
  have HB1 := Lib.hid (HB0.out.trans (hb.mono HB0.out.size))
  have c0 := HF1.out.cell0
  rw [HK.out] at c0
  clear hb HRD CM
  go_wp2_with fail
  refine (CK.out _).mono ?_
  rintro e w2 ⟨rfl, hb⟩
  have HF2 := Lib.hid (HF1.out.keep hb)
  have HB2 := Lib.hid (HB1.out.trans (hb.mono HB1.out.size))
  have d0 := HF2.out.cell0
  rw [HK.out] at d0
  clear hb c0
  have d1 := HF2.out.cell3
  go_wp2_with fail
  refine (Cmax.out _).mono ?_
  rintro e w3 ⟨rfl, hb⟩
  have HB := Lib.hid (HB2.out.trans (hb.mono HB2.out.size))
  clear hb
  go_wp2
  go_ret2
  exact ⟨by rw [← HC.out]; rfl, HB.out⟩
set_option maxHeartbeats 8000000 in
theorem rput_19 (f : Frm) (rs : List (Nat × Nat)) (w : World) (hk : f.kind = 19) (hp : ∀ j, 0 ≤ nm f j) (hrd : Rd w (.slice f.set.a f.set.n f.set.c) (ints rs)) (hl : rs.length ≤ 1000) (hm : mayF 19 f (ints rs) = true) :
    Calls Tryd.prog 10 #[.agg #[.int .u64 f.kind, .int .u64 f.id, .int .u64 f.off, .int .u64 f.max, .int .u64 f.code, .int .u64 f.seq, .int .u64 f.prior, .int .u64 f.delay, .bool f.fin, .string ⟨f.data.toArray⟩, .string ⟨f.cid.toArray⟩, .string ⟨f.token.toArray⟩, .slice f.set.a f.set.n f.set.c]] w fun e w' => e = .returned (.tuple #[.string ⟨(putL f rs).toArray⟩, .int .i64 0]) ∧ Below w.heap.size w w' := by
  obtain ⟨hks, hHas, hnb⟩ := may_kind hm
  have hbd := may_bounds (k := 19) hk hm
  have CM := Lib.hid (fun W (h : Rd W (.slice f.set.a f.set.n f.set.c) (ints rs)) => rmayf 19 f (ints rs) W hk hp h (ints_pos rs) (by rw [ints_len]; exact hl) (by omega) (by omega) (by omega))
  rw [hm] at CM
  have HP : Hid (putL f rs = _) := Lib.hid (putL_19 f rs hk hHas)
  have hz3 : 0 ≤ f.max := hp 3
  have hy3 : f.max ≤ 4611686018427387903 := numB_nm hnb 3 (by decide)
  have CK : Hid (∀ W, Calls Tryd.prog 26 #[.int .u64 19] W fun e w' => e = .returned (.string ⟨(pt 19).toArray⟩) ∧ Below W.heap.size W w') := Lib.hid (fun W => rv_ok 19 W (by decide) (by decide))
  have hsk := pt_le8 19 (by decide)
  have Cmax := Lib.hid (fun W => rv_ok f.max W hz3 hy3)
  have hsmax := pt_le8 f.max.toNat (by omega)
  obtain ⟨sk, Ek⟩ : ∃ s, pt 19 = s := ⟨_, rfl⟩
  rw [Ek] at CK HP hsk
  obtain ⟨smax, Emax⟩ : ∃ s, pt f.max.toNat = s := ⟨_, rfl⟩
  rw [Emax] at Cmax HP hsmax
  have f2 : ¬ 9223372036854775807 < sk.length + smax.length := by omega
  have HC : Hid ((⟨sk.toArray⟩ : ByteArray) ++ ⟨smax.toArray⟩ = ⟨(putL f rs).toArray⟩) := Lib.hid (by rw [HP.out] <;> (apply ByteArray.ext; simp))
  generalize putL f rs = R at *
  have HFR : Hid (FrD w.heap.size f (w.alloc (.cells #[.int .u64 f.kind, .int .u64 f.id, .int .u64 f.off, .int .u64 f.max, .int .u64 f.code, .int .u64 f.seq, .int .u64 f.prior, .int .u64 f.delay, .bool f.fin, .string ⟨f.data.toArray⟩, .string ⟨f.cid.toArray⟩, .string ⟨f.token.toArray⟩, .slice f.set.a f.set.n f.set.c] 36 (0, 0)))) := Lib.hid (World.alloc_heap_new w _)
  have HB0 : Hid (Below w.heap.size w (w.alloc (.cells #[.int .u64 f.kind, .int .u64 f.id, .int .u64 f.off, .int .u64 f.max, .int .u64 f.code, .int .u64 f.seq, .int .u64 f.prior, .int .u64 f.delay, .bool f.fin, .string ⟨f.data.toArray⟩, .string ⟨f.cid.toArray⟩, .string ⟨f.token.toArray⟩, .slice f.set.a f.set.n f.set.c] 36 (0, 0)))) := Lib.hid ((Below.refl w.heap.size w).alloc (Nat.le_refl _) _)
  have HRD := Lib.hid (hrd.below HB0.out)
  have HK := Lib.hid hk
  clear HP hm hp hrd hk hks hHas hnb hbd hl Ek Emax  hz3 hy3
  go_enter Tryd.func10, Tryd.ntmps10
  go_wp2_with fail
  refine (CM.out _ HRD.out).mono ?_
  rintro e w1 ⟨rfl, hb⟩
  have HF1 := Lib.hid (HFR.out.keep hb)
  have HB1 := Lib.hid (HB0.out.trans (hb.mono HB0.out.size))
  have c0 := HF1.out.cell0
  rw [HK.out] at c0
  clear hb HRD CM
  go_wp2_with fail
  refine (CK.out _).mono ?_
  rintro e w2 ⟨rfl, hb⟩
  have HF2 := Lib.hid (HF1.out.keep hb)
  have HB2 := Lib.hid (HB1.out.trans (hb.mono HB1.out.size))
  have d0 := HF2.out.cell0
  rw [HK.out] at d0
  clear hb c0
  have d1 := HF2.out.cell3
  go_wp2_with fail
  refine (Cmax.out _).mono ?_
  rintro e w3 ⟨rfl, hb⟩
  have HB := Lib.hid (HB2.out.trans (hb.mono HB2.out.size))
  clear hb
  go_wp2
  go_ret2
  exact ⟨by rw [← HC.out]; rfl, HB.out⟩
set_option maxHeartbeats 8000000 in
theorem rput_20 (f : Frm) (rs : List (Nat × Nat)) (w : World) (hk : f.kind = 20) (hp : ∀ j, 0 ≤ nm f j) (hrd : Rd w (.slice f.set.a f.set.n f.set.c) (ints rs)) (hl : rs.length ≤ 1000) (hm : mayF 20 f (ints rs) = true) :
    Calls Tryd.prog 10 #[.agg #[.int .u64 f.kind, .int .u64 f.id, .int .u64 f.off, .int .u64 f.max, .int .u64 f.code, .int .u64 f.seq, .int .u64 f.prior, .int .u64 f.delay, .bool f.fin, .string ⟨f.data.toArray⟩, .string ⟨f.cid.toArray⟩, .string ⟨f.token.toArray⟩, .slice f.set.a f.set.n f.set.c]] w fun e w' => e = .returned (.tuple #[.string ⟨(putL f rs).toArray⟩, .int .i64 0]) ∧ Below w.heap.size w w' := by
  obtain ⟨hks, hHas, hnb⟩ := may_kind hm
  have hbd := may_bounds (k := 20) hk hm
  have CM := Lib.hid (fun W (h : Rd W (.slice f.set.a f.set.n f.set.c) (ints rs)) => rmayf 20 f (ints rs) W hk hp h (ints_pos rs) (by rw [ints_len]; exact hl) (by omega) (by omega) (by omega))
  rw [hm] at CM
  have HP : Hid (putL f rs = _) := Lib.hid (putL_20 f rs hk hHas)
  have hz3 : 0 ≤ f.max := hp 3
  have hy3 : f.max ≤ 4611686018427387903 := numB_nm hnb 3 (by decide)
  have CK : Hid (∀ W, Calls Tryd.prog 26 #[.int .u64 20] W fun e w' => e = .returned (.string ⟨(pt 20).toArray⟩) ∧ Below W.heap.size W w') := Lib.hid (fun W => rv_ok 20 W (by decide) (by decide))
  have hsk := pt_le8 20 (by decide)
  have Cmax := Lib.hid (fun W => rv_ok f.max W hz3 hy3)
  have hsmax := pt_le8 f.max.toNat (by omega)
  obtain ⟨sk, Ek⟩ : ∃ s, pt 20 = s := ⟨_, rfl⟩
  rw [Ek] at CK HP hsk
  obtain ⟨smax, Emax⟩ : ∃ s, pt f.max.toNat = s := ⟨_, rfl⟩
  rw [Emax] at Cmax HP hsmax
  have f2 : ¬ 9223372036854775807 < sk.length + smax.length := by omega
  have HC : Hid ((⟨sk.toArray⟩ : ByteArray) ++ ⟨smax.toArray⟩ = ⟨(putL f rs).toArray⟩) := Lib.hid (by rw [HP.out] <;> (apply ByteArray.ext; simp))
  generalize putL f rs = R at *
  have HFR : Hid (FrD w.heap.size f (w.alloc (.cells #[.int .u64 f.kind, .int .u64 f.id, .int .u64 f.off, .int .u64 f.max, .int .u64 f.code, .int .u64 f.seq, .int .u64 f.prior, .int .u64 f.delay, .bool f.fin, .string ⟨f.data.toArray⟩, .string ⟨f.cid.toArray⟩, .string ⟨f.token.toArray⟩, .slice f.set.a f.set.n f.set.c] 36 (0, 0)))) := Lib.hid (World.alloc_heap_new w _)
  have HB0 : Hid (Below w.heap.size w (w.alloc (.cells #[.int .u64 f.kind, .int .u64 f.id, .int .u64 f.off, .int .u64 f.max, .int .u64 f.code, .int .u64 f.seq, .int .u64 f.prior, .int .u64 f.delay, .bool f.fin, .string ⟨f.data.toArray⟩, .string ⟨f.cid.toArray⟩, .string ⟨f.token.toArray⟩, .slice f.set.a f.set.n f.set.c] 36 (0, 0)))) := Lib.hid ((Below.refl w.heap.size w).alloc (Nat.le_refl _) _)
  have HRD := Lib.hid (hrd.below HB0.out)
  have HK := Lib.hid hk
  clear HP hm hp hrd hk hks hHas hnb hbd hl Ek Emax  hz3 hy3
  go_enter Tryd.func10, Tryd.ntmps10
  go_wp2_with fail
  refine (CM.out _ HRD.out).mono ?_
  rintro e w1 ⟨rfl, hb⟩
  have HF1 := Lib.hid (HFR.out.keep hb)
  have HB1 := Lib.hid (HB0.out.trans (hb.mono HB0.out.size))
  have c0 := HF1.out.cell0
  rw [HK.out] at c0
  clear hb HRD CM
  go_wp2_with fail
  refine (CK.out _).mono ?_
  rintro e w2 ⟨rfl, hb⟩
  have HF2 := Lib.hid (HF1.out.keep hb)
  have HB2 := Lib.hid (HB1.out.trans (hb.mono HB1.out.size))
  have d0 := HF2.out.cell0
  rw [HK.out] at d0
  clear hb c0
  have d1 := HF2.out.cell3
  go_wp2_with fail
  refine (Cmax.out _).mono ?_
  rintro e w3 ⟨rfl, hb⟩
  have HB := Lib.hid (HB2.out.trans (hb.mono HB2.out.size))
  clear hb
  go_wp2
  go_ret2
  exact ⟨by rw [← HC.out]; rfl, HB.out⟩
set_option maxHeartbeats 8000000 in
theorem rput_22 (f : Frm) (rs : List (Nat × Nat)) (w : World) (hk : f.kind = 22) (hp : ∀ j, 0 ≤ nm f j) (hrd : Rd w (.slice f.set.a f.set.n f.set.c) (ints rs)) (hl : rs.length ≤ 1000) (hm : mayF 22 f (ints rs) = true) :
    Calls Tryd.prog 10 #[.agg #[.int .u64 f.kind, .int .u64 f.id, .int .u64 f.off, .int .u64 f.max, .int .u64 f.code, .int .u64 f.seq, .int .u64 f.prior, .int .u64 f.delay, .bool f.fin, .string ⟨f.data.toArray⟩, .string ⟨f.cid.toArray⟩, .string ⟨f.token.toArray⟩, .slice f.set.a f.set.n f.set.c]] w fun e w' => e = .returned (.tuple #[.string ⟨(putL f rs).toArray⟩, .int .i64 0]) ∧ Below w.heap.size w w' := by
  obtain ⟨hks, hHas, hnb⟩ := may_kind hm
  have hbd := may_bounds (k := 22) hk hm
  have CM := Lib.hid (fun W (h : Rd W (.slice f.set.a f.set.n f.set.c) (ints rs)) => rmayf 22 f (ints rs) W hk hp h (ints_pos rs) (by rw [ints_len]; exact hl) (by omega) (by omega) (by omega))
  rw [hm] at CM
  have HP : Hid (putL f rs = _) := Lib.hid (putL_22 f rs hk hHas)
  have hz3 : 0 ≤ f.max := hp 3
  have hy3 : f.max ≤ 4611686018427387903 := numB_nm hnb 3 (by decide)
  have CK : Hid (∀ W, Calls Tryd.prog 26 #[.int .u64 22] W fun e w' => e = .returned (.string ⟨(pt 22).toArray⟩) ∧ Below W.heap.size W w') := Lib.hid (fun W => rv_ok 22 W (by decide) (by decide))
  have hsk := pt_le8 22 (by decide)
  have Cmax := Lib.hid (fun W => rv_ok f.max W hz3 hy3)
  have hsmax := pt_le8 f.max.toNat (by omega)
  obtain ⟨sk, Ek⟩ : ∃ s, pt 22 = s := ⟨_, rfl⟩
  rw [Ek] at CK HP hsk
  obtain ⟨smax, Emax⟩ : ∃ s, pt f.max.toNat = s := ⟨_, rfl⟩
  rw [Emax] at Cmax HP hsmax
  have f2 : ¬ 9223372036854775807 < sk.length + smax.length := by omega
  have HC : Hid ((⟨sk.toArray⟩ : ByteArray) ++ ⟨smax.toArray⟩ = ⟨(putL f rs).toArray⟩) := Lib.hid (by rw [HP.out] <;> (apply ByteArray.ext; simp))
  generalize putL f rs = R at *
  have HFR : Hid (FrD w.heap.size f (w.alloc (.cells #[.int .u64 f.kind, .int .u64 f.id, .int .u64 f.off, .int .u64 f.max, .int .u64 f.code, .int .u64 f.seq, .int .u64 f.prior, .int .u64 f.delay, .bool f.fin, .string ⟨f.data.toArray⟩, .string ⟨f.cid.toArray⟩, .string ⟨f.token.toArray⟩, .slice f.set.a f.set.n f.set.c] 36 (0, 0)))) := Lib.hid (World.alloc_heap_new w _)
  have HB0 : Hid (Below w.heap.size w (w.alloc (.cells #[.int .u64 f.kind, .int .u64 f.id, .int .u64 f.off, .int .u64 f.max, .int .u64 f.code, .int .u64 f.seq, .int .u64 f.prior, .int .u64 f.delay, .bool f.fin, .string ⟨f.data.toArray⟩, .string ⟨f.cid.toArray⟩, .string ⟨f.token.toArray⟩, .slice f.set.a f.set.n f.set.c] 36 (0, 0)))) := Lib.hid ((Below.refl w.heap.size w).alloc (Nat.le_refl _) _)
  have HRD := Lib.hid (hrd.below HB0.out)
  have HK := Lib.hid hk
  clear HP hm hp hrd hk hks hHas hnb hbd hl Ek Emax  hz3 hy3
  go_enter Tryd.func10, Tryd.ntmps10
  go_wp2_with fail
  refine (CM.out _ HRD.out).mono ?_
  rintro e w1 ⟨rfl, hb⟩
  have HF1 := Lib.hid (HFR.out.keep hb)
  have HB1 := Lib.hid (HB0.out.trans (hb.mono HB0.out.size))
  have c0 := HF1.out.cell0
  rw [HK.out] at c0
  clear hb HRD CM
  go_wp2_with fail
  refine (CK.out _).mono ?_
  rintro e w2 ⟨rfl, hb⟩
  have HF2 := Lib.hid (HF1.out.keep hb)
  have HB2 := Lib.hid (HB1.out.trans (hb.mono HB1.out.size))
  have d0 := HF2.out.cell0
  rw [HK.out] at d0
  clear hb c0
  have d1 := HF2.out.cell3
  go_wp2_with fail
  refine (Cmax.out _).mono ?_
  rintro e w3 ⟨rfl, hb⟩
  have HB := Lib.hid (HB2.out.trans (hb.mono HB2.out.size))
  clear hb
  go_wp2
  go_ret2
  exact ⟨by rw [← HC.out]; rfl, HB.out⟩
set_option maxHeartbeats 8000000 in
theorem rput_23 (f : Frm) (rs : List (Nat × Nat)) (w : World) (hk : f.kind = 23) (hp : ∀ j, 0 ≤ nm f j) (hrd : Rd w (.slice f.set.a f.set.n f.set.c) (ints rs)) (hl : rs.length ≤ 1000) (hm : mayF 23 f (ints rs) = true) :
    Calls Tryd.prog 10 #[.agg #[.int .u64 f.kind, .int .u64 f.id, .int .u64 f.off, .int .u64 f.max, .int .u64 f.code, .int .u64 f.seq, .int .u64 f.prior, .int .u64 f.delay, .bool f.fin, .string ⟨f.data.toArray⟩, .string ⟨f.cid.toArray⟩, .string ⟨f.token.toArray⟩, .slice f.set.a f.set.n f.set.c]] w fun e w' => e = .returned (.tuple #[.string ⟨(putL f rs).toArray⟩, .int .i64 0]) ∧ Below w.heap.size w w' := by
  obtain ⟨hks, hHas, hnb⟩ := may_kind hm
  have hbd := may_bounds (k := 23) hk hm
  have CM := Lib.hid (fun W (h : Rd W (.slice f.set.a f.set.n f.set.c) (ints rs)) => rmayf 23 f (ints rs) W hk hp h (ints_pos rs) (by rw [ints_len]; exact hl) (by omega) (by omega) (by omega))
  rw [hm] at CM
  have HP : Hid (putL f rs = _) := Lib.hid (putL_23 f rs hk hHas)
  have hz3 : 0 ≤ f.max := hp 3
  have hy3 : f.max ≤ 4611686018427387903 := numB_nm hnb 3 (by decide)
  have CK : Hid (∀ W, Calls Tryd.prog 26 #[.int .u64 23] W fun e w' => e = .returned (.string ⟨(pt 23).toArray⟩) ∧ Below W.heap.size W w') := Lib.hid (fun W => rv_ok 23 W (by decide) (by decide))
  have hsk := pt_le8 23 (by decide)
  have Cmax := Lib.hid (fun W => rv_ok f.max W hz3 hy3)
  have hsmax := pt_le8 f.max.toNat (by omega)
  obtain ⟨sk, Ek⟩ : ∃ s, pt 23 = s := ⟨_, rfl⟩
  rw [Ek] at CK HP hsk
  obtain ⟨smax, Emax⟩ : ∃ s, pt f.max.toNat = s := ⟨_, rfl⟩
  rw [Emax] at Cmax HP hsmax
  have f2 : ¬ 9223372036854775807 < sk.length + smax.length := by omega
  have HC : Hid ((⟨sk.toArray⟩ : ByteArray) ++ ⟨smax.toArray⟩ = ⟨(putL f rs).toArray⟩) := Lib.hid (by rw [HP.out] <;> (apply ByteArray.ext; simp))
  generalize putL f rs = R at *
  have HFR : Hid (FrD w.heap.size f (w.alloc (.cells #[.int .u64 f.kind, .int .u64 f.id, .int .u64 f.off, .int .u64 f.max, .int .u64 f.code, .int .u64 f.seq, .int .u64 f.prior, .int .u64 f.delay, .bool f.fin, .string ⟨f.data.toArray⟩, .string ⟨f.cid.toArray⟩, .string ⟨f.token.toArray⟩, .slice f.set.a f.set.n f.set.c] 36 (0, 0)))) := Lib.hid (World.alloc_heap_new w _)
  have HB0 : Hid (Below w.heap.size w (w.alloc (.cells #[.int .u64 f.kind, .int .u64 f.id, .int .u64 f.off, .int .u64 f.max, .int .u64 f.code, .int .u64 f.seq, .int .u64 f.prior, .int .u64 f.delay, .bool f.fin, .string ⟨f.data.toArray⟩, .string ⟨f.cid.toArray⟩, .string ⟨f.token.toArray⟩, .slice f.set.a f.set.n f.set.c] 36 (0, 0)))) := Lib.hid ((Below.refl w.heap.size w).alloc (Nat.le_refl _) _)
  have HRD := Lib.hid (hrd.below HB0.out)
  have HK := Lib.hid hk
  clear HP hm hp hrd hk hks hHas hnb hbd hl Ek Emax  hz3 hy3
  go_enter Tryd.func10, Tryd.ntmps10
  go_wp2_with fail
  refine (CM.out _ HRD.out).mono ?_
  rintro e w1 ⟨rfl, hb⟩
  have HF1 := Lib.hid (HFR.out.keep hb)
  have HB1 := Lib.hid (HB0.out.trans (hb.mono HB0.out.size))
  have c0 := HF1.out.cell0
  rw [HK.out] at c0
  clear hb HRD CM
  go_wp2_with fail
  refine (CK.out _).mono ?_
  rintro e w2 ⟨rfl, hb⟩
  have HF2 := Lib.hid (HF1.out.keep hb)
  have HB2 := Lib.hid (HB1.out.trans (hb.mono HB1.out.size))
  have d0 := HF2.out.cell0
  rw [HK.out] at d0
  clear hb c0
  have d1 := HF2.out.cell3
  go_wp2_with fail
  refine (Cmax.out _).mono ?_
  rintro e w3 ⟨rfl, hb⟩
  have HB := Lib.hid (HB2.out.trans (hb.mono HB2.out.size))
  clear hb
  go_wp2
  go_ret2
  exact ⟨by rw [← HC.out]; rfl, HB.out⟩
set_option maxHeartbeats 8000000 in
theorem rput_17 (f : Frm) (rs : List (Nat × Nat)) (w : World) (hk : f.kind = 17) (hp : ∀ j, 0 ≤ nm f j) (hrd : Rd w (.slice f.set.a f.set.n f.set.c) (ints rs)) (hl : rs.length ≤ 1000) (hm : mayF 17 f (ints rs) = true) :
    Calls Tryd.prog 10 #[.agg #[.int .u64 f.kind, .int .u64 f.id, .int .u64 f.off, .int .u64 f.max, .int .u64 f.code, .int .u64 f.seq, .int .u64 f.prior, .int .u64 f.delay, .bool f.fin, .string ⟨f.data.toArray⟩, .string ⟨f.cid.toArray⟩, .string ⟨f.token.toArray⟩, .slice f.set.a f.set.n f.set.c]] w fun e w' => e = .returned (.tuple #[.string ⟨(putL f rs).toArray⟩, .int .i64 0]) ∧ Below w.heap.size w w' := by
  obtain ⟨hks, hHas, hnb⟩ := may_kind hm
  have hbd := may_bounds (k := 17) hk hm
  have CM := Lib.hid (fun W (h : Rd W (.slice f.set.a f.set.n f.set.c) (ints rs)) => rmayf 17 f (ints rs) W hk hp h (ints_pos rs) (by rw [ints_len]; exact hl) (by omega) (by omega) (by omega))
  rw [hm] at CM
  have HP : Hid (putL f rs = _) := Lib.hid (putL_17 f rs hk hHas)
  have hz0 : 0 ≤ f.id := hp 0
  have hy0 : f.id ≤ 4611686018427387903 := numB_nm hnb 0 (by decide)
  have hz3 : 0 ≤ f.max := hp 3
  have hy3 : f.max ≤ 4611686018427387903 := numB_nm hnb 3 (by decide)
  have CK : Hid (∀ W, Calls Tryd.prog 26 #[.int .u64 17] W fun e w' => e = .returned (.string ⟨(pt 17).toArray⟩) ∧ Below W.heap.size W w') := Lib.hid (fun W => rv_ok 17 W (by decide) (by decide))
  have hsk := pt_le8 17 (by decide)
  have Cid := Lib.hid (fun W => rv_ok f.id W hz0 hy0)
  have hsid := pt_le8 f.id.toNat (by omega)
  have Cmax := Lib.hid (fun W => rv_ok f.max W hz3 hy3)
  have hsmax := pt_le8 f.max.toNat (by omega)
  obtain ⟨sk, Ek⟩ : ∃ s, pt 17 = s := ⟨_, rfl⟩
  rw [Ek] at CK HP hsk
  obtain ⟨sid, Eid⟩ : ∃ s, pt f.id.toNat = s := ⟨_, rfl⟩
  rw [Eid] at Cid HP hsid
  obtain ⟨smax, Emax⟩ : ∃ s, pt f.max.toNat = s := ⟨_, rfl⟩
  rw [Emax] at Cmax HP hsmax
  have f2 : ¬ 9223372036854775807 < sk.length + sid.length := by omega
  have f3 : ¬ 9223372036854775807 < sk.length + sid.length + smax.length := by omega
  have HC : Hid ((⟨sk.toArray⟩ : ByteArray) ++ ⟨sid.toArray⟩ ++ ⟨smax.toArray⟩ = ⟨(putL f rs).toArray⟩) := Lib.hid (by rw [HP.out] <;> (apply ByteArray.ext; simp))
  generalize putL f rs = R at *
  have HFR : Hid (FrD w.heap.size f (w.alloc (.cells #[.int .u64 f.kind, .int .u64 f.id, .int .u64 f.off, .int .u64 f.max, .int .u64 f.code, .int .u64 f.seq, .int .u64 f.prior, .int .u64 f.delay, .bool f.fin, .string ⟨f.data.toArray⟩, .string ⟨f.cid.toArray⟩, .string ⟨f.token.toArray⟩, .slice f.set.a f.set.n f.set.c] 36 (0, 0)))) := Lib.hid (World.alloc_heap_new w _)
  have HB0 : Hid (Below w.heap.size w (w.alloc (.cells #[.int .u64 f.kind, .int .u64 f.id, .int .u64 f.off, .int .u64 f.max, .int .u64 f.code, .int .u64 f.seq, .int .u64 f.prior, .int .u64 f.delay, .bool f.fin, .string ⟨f.data.toArray⟩, .string ⟨f.cid.toArray⟩, .string ⟨f.token.toArray⟩, .slice f.set.a f.set.n f.set.c] 36 (0, 0)))) := Lib.hid ((Below.refl w.heap.size w).alloc (Nat.le_refl _) _)
  have HRD := Lib.hid (hrd.below HB0.out)
  have HK := Lib.hid hk
  clear HP hm hp hrd hk hks hHas hnb hbd hl Ek Eid Emax  hz0 hy0 hz3 hy3
  go_enter Tryd.func10, Tryd.ntmps10
  go_wp2_with fail
  refine (CM.out _ HRD.out).mono ?_
  rintro e w1 ⟨rfl, hb⟩
  have HF1 := Lib.hid (HFR.out.keep hb)
  have HB1 := Lib.hid (HB0.out.trans (hb.mono HB0.out.size))
  have c0 := HF1.out.cell0
  rw [HK.out] at c0
  clear hb HRD CM
  go_wp2_with fail
  refine (CK.out _).mono ?_
  rintro e w2 ⟨rfl, hb⟩
  have HF2 := Lib.hid (HF1.out.keep hb)
  have HB2 := Lib.hid (HB1.out.trans (hb.mono HB1.out.size))
  have d0 := HF2.out.cell0
  rw [HK.out] at d0
  clear hb c0
  go_wp2_with fail
  refine wp_region_noPanic ?_
  refine wp_region_held_drew (S := fun W' : World => FrD w.heap.size f W' ∧ Below w.heap.size w W') (by kernel_rfl) ?_ (fun hHeld => ?_)
  · exact ⟨HF2.out, Below.drew HB2.out⟩
  refine wpAnyH_take (i := 0) (v := ?_) rfl (by kernel_rfl) (by kernel_rfl) (by kernel_rfl) (fun _ _ _ h => h) (Or.inl ⟨by rfl, ?_⟩) (by assumption) ?_
  rotate_left
  · (intro w hSw; (obtain ⟨hSf, hSb⟩ := hSw; have p1 := hSf.cell1; have p2 := hSf.cell2; have p3 := hSf.cell3; have p4 := hSf.cell4; have p5 := hSf.cell5; have p6 := hSf.cell6; have p7 := hSf.cell7; have p8 := hSf.cell8; have p9 := hSf.cell9; have p10 := hSf.cell10; have p11 := hSf.cell11; have p12 := hSf.cell12; clear hSf hSb); go_simp; (try with_reducible rfl))
  try simp only [Act.put, List.getElem_toArray, List.getElem_cons_zero, List.getElem_cons_succ, List.setIfInBounds_toArray, List.set_cons_zero, List.set_cons_succ]
  refine wpAnyH_take (i := 1) (v := ?_) rfl (by kernel_rfl) (by kernel_rfl) (by kernel_rfl) (fun _ _ _ h => h) (Or.inl ⟨by rfl, ?_⟩) (by assumption) ?_
  rotate_left
  · (intro w hSw; (obtain ⟨hSf, hSb⟩ := hSw; have p1 := hSf.cell1; have p2 := hSf.cell2; have p3 := hSf.cell3; have p4 := hSf.cell4; have p5 := hSf.cell5; have p6 := hSf.cell6; have p7 := hSf.cell7; have p8 := hSf.cell8; have p9 := hSf.cell9; have p10 := hSf.cell10; have p11 := hSf.cell11; have p12 := hSf.cell12; clear hSf hSb); go_simp; (try with_reducible rfl))
  try simp only [Act.put, List.getElem_toArray, List.getElem_cons_zero, List.getElem_cons_succ, List.setIfInBounds_toArray, List.set_cons_zero, List.set_cons_succ]
  refine wpAnyH_take (i := 2) (v := ?_) rfl (by kernel_rfl) (by kernel_rfl) (by kernel_rfl) (fun _ _ _ h => h) (Or.inl ⟨by rfl, ?_⟩) (by assumption) ?_
  rotate_left
  · (intro w hSw; (obtain ⟨hSf, hSb⟩ := hSw; have p1 := hSf.cell1; have p2 := hSf.cell2; have p3 := hSf.cell3; have p4 := hSf.cell4; have p5 := hSf.cell5; have p6 := hSf.cell6; have p7 := hSf.cell7; have p8 := hSf.cell8; have p9 := hSf.cell9; have p10 := hSf.cell10; have p11 := hSf.cell11; have p12 := hSf.cell12; clear hSf hSb); go_simp; (try with_reducible rfl))
  try simp only [Act.put, List.getElem_toArray, List.getElem_cons_zero, List.getElem_cons_succ, List.setIfInBounds_toArray, List.set_cons_zero, List.set_cons_succ]
  refine wpAnyH_take (i := 5) (v := ?_) rfl (by kernel_rfl) (by kernel_rfl) (by kernel_rfl) (fun _ _ _ h => h) (Or.inl ⟨by rfl, ?_⟩) (by assumption) ?_
  rotate_left
  · (intro w hSw; (obtain ⟨hSf, hSb⟩ := hSw; have p1 := hSf.cell1; have p2 := hSf.cell2; have p3 := hSf.cell3; have p4 := hSf.cell4; have p5 := hSf.cell5; have p6 := hSf.cell6; have p7 := hSf.cell7; have p8 := hSf.cell8; have p9 := hSf.cell9; have p10 := hSf.cell10; have p11 := hSf.cell11; have p12 := hSf.cell12; clear hSf hSb); go_simp; (try with_reducible rfl))
  try simp only [Act.put, List.getElem_toArray, List.getElem_cons_zero, List.getElem_cons_succ, List.setIfInBounds_toArray, List.set_cons_zero, List.set_cons_succ]
  refine wpAnyH_take (i := 6) (v := ?_) rfl (by kernel_rfl) (by kernel_rfl) (by kernel_rfl) (fun _ _ _ h => h) (Or.inl ⟨by rfl, ?_⟩) (by assumption) ?_
  rotate_left
  · (intro w hSw; (obtain ⟨hSf, hSb⟩ := hSw; have p1 := hSf.cell1; have p2 := hSf.cell2; have p3 := hSf.cell3; have p4 := hSf.cell4; have p5 := hSf.cell5; have p6 := hSf.cell6; have p7 := hSf.cell7; have p8 := hSf.cell8; have p9 := hSf.cell9; have p10 := hSf.cell10; have p11 := hSf.cell11; have p12 := hSf.cell12; clear hSf hSb); go_simp; (try with_reducible rfl))
  try simp only [Act.put, List.getElem_toArray, List.getElem_cons_zero, List.getElem_cons_succ, List.setIfInBounds_toArray, List.set_cons_zero, List.set_cons_succ]
  refine wpAnyH_ready (rs := [3]) (by kernel_rfl) (by simp) ?_
  refine AllReadyH.cons rfl (fun K hK => ?_) AllReadyH.nil
  rw [if_pos (by rfl)]
  go_simp
  with_reducible refine (Cid.out _).mono ?_
  rintro e u1 ⟨rfl, hb⟩
  refine hK.out _ _ ?_ (fun hHeld => ?_)
  · exact ⟨hHeld.1.keep hb, hHeld.2.trans (hb.mono hHeld.2.size)⟩
  clear hK K
  try simp only [Act.put, List.getElem_toArray, List.getElem_cons_zero, List.getElem_cons_succ, List.setIfInBounds_toArray, List.set_cons_zero, List.set_cons_succ]
  refine wpAnyH_take (i := 4) (v := ?_) rfl (by kernel_rfl) (by kernel_rfl) (by kernel_rfl) (fun _ _ _ h => h) (Or.inl ⟨by rfl, ?_⟩) (by assumption) ?_
  rotate_left
  · (intro w hSw; (obtain ⟨hSf, hSb⟩ := hSw; have p1 := hSf.cell1; have p2 := hSf.cell2; have p3 := hSf.cell3; have p4 := hSf.cell4; have p5 := hSf.cell5; have p6 := hSf.cell6; have p7 := hSf.cell7; have p8 := hSf.cell8; have p9 := hSf.cell9; have p10 := hSf.cell10; have p11 := hSf.cell11; have p12 := hSf.cell12; clear hSf hSb); go_simp; (try with_reducible rfl))
  try simp only [Act.put, List.getElem_toArray, List.getElem_cons_zero, List.getElem_cons_succ, List.setIfInBounds_toArray, List.set_cons_zero, List.set_cons_succ]
  refine wpAnyH_ready (rs := [7]) (by kernel_rfl) (by simp) ?_
  refine AllReadyH.cons rfl (fun K hK => ?_) AllReadyH.nil
  rw [if_pos (by rfl)]
  go_simp
  with_reducible refine (Cmax.out _).mono ?_
  rintro e u2 ⟨rfl, hb⟩
  refine hK.out _ _ ?_ (fun hHeld => ?_)
  · exact ⟨hHeld.1.keep hb, hHeld.2.trans (hb.mono hHeld.2.size)⟩
  clear hK K
  try simp only [Act.put, List.getElem_toArray, List.getElem_cons_zero, List.getElem_cons_succ, List.setIfInBounds_toArray, List.set_cons_zero, List.set_cons_succ]
  refine wpAnyH_take (i := 8) (v := ?_) rfl (by kernel_rfl) (by kernel_rfl) (by kernel_rfl) (fun _ _ _ h => h) (Or.inl ⟨by rfl, ?_⟩) (by assumption) ?_
  rotate_left
  · (intro w hSw; (obtain ⟨hSf, hSb⟩ := hSw; have p1 := hSf.cell1; have p2 := hSf.cell2; have p3 := hSf.cell3; have p4 := hSf.cell4; have p5 := hSf.cell5; have p6 := hSf.cell6; have p7 := hSf.cell7; have p8 := hSf.cell8; have p9 := hSf.cell9; have p10 := hSf.cell10; have p11 := hSf.cell11; have p12 := hSf.cell12; clear hSf hSb); go_simp; (try with_reducible rfl))
  try simp only [Act.put, List.getElem_toArray, List.getElem_cons_zero, List.getElem_cons_succ, List.setIfInBounds_toArray, List.set_cons_zero, List.set_cons_succ]
  refine wpAnyH_take (i := 9) (v := ?_) rfl (by kernel_rfl) (by kernel_rfl) (by kernel_rfl) (fun _ _ _ h => h) (Or.inl ⟨by rfl, ?_⟩) (by assumption) ?_
  rotate_left
  · (intro w hSw; (obtain ⟨hSf, hSb⟩ := hSw; have p1 := hSf.cell1; have p2 := hSf.cell2; have p3 := hSf.cell3; have p4 := hSf.cell4; have p5 := hSf.cell5; have p6 := hSf.cell6; have p7 := hSf.cell7; have p8 := hSf.cell8; have p9 := hSf.cell9; have p10 := hSf.cell10; have p11 := hSf.cell11; have p12 := hSf.cell12; clear hSf hSb); go_simp; (try with_reducible rfl))
  try simp only [Act.put, List.getElem_toArray, List.getElem_cons_zero, List.getElem_cons_succ, List.setIfInBounds_toArray, List.set_cons_zero, List.set_cons_succ]
  refine wpAnyH_take (i := 10) (v := ?_) rfl (by kernel_rfl) (by kernel_rfl) (by kernel_rfl) (fun _ _ _ h => h) (Or.inl ⟨by rfl, ?_⟩) (by assumption) ?_
  rotate_left
  · (intro w hSw; (obtain ⟨hSf, hSb⟩ := hSw; have p1 := hSf.cell1; have p2 := hSf.cell2; have p3 := hSf.cell3; have p4 := hSf.cell4; have p5 := hSf.cell5; have p6 := hSf.cell6; have p7 := hSf.cell7; have p8 := hSf.cell8; have p9 := hSf.cell9; have p10 := hSf.cell10; have p11 := hSf.cell11; have p12 := hSf.cell12; clear hSf hSb); go_simp; (try with_reducible rfl))
  try simp only [Act.put, List.getElem_toArray, List.getElem_cons_zero, List.getElem_cons_succ, List.setIfInBounds_toArray, List.set_cons_zero, List.set_cons_succ]
  refine wpAnyH_done (by kernel_rfl) (NoPanic.normal ?_) _
  have HB := Lib.hid hHeld.2
  clear hHeld
  go_wp2
  go_ret2
  exact ⟨by rw [← HC.out]; rfl, HB.out⟩
set_option maxHeartbeats 8000000 in
theorem rput_21 (f : Frm) (rs : List (Nat × Nat)) (w : World) (hk : f.kind = 21) (hp : ∀ j, 0 ≤ nm f j) (hrd : Rd w (.slice f.set.a f.set.n f.set.c) (ints rs)) (hl : rs.length ≤ 1000) (hm : mayF 21 f (ints rs) = true) :
    Calls Tryd.prog 10 #[.agg #[.int .u64 f.kind, .int .u64 f.id, .int .u64 f.off, .int .u64 f.max, .int .u64 f.code, .int .u64 f.seq, .int .u64 f.prior, .int .u64 f.delay, .bool f.fin, .string ⟨f.data.toArray⟩, .string ⟨f.cid.toArray⟩, .string ⟨f.token.toArray⟩, .slice f.set.a f.set.n f.set.c]] w fun e w' => e = .returned (.tuple #[.string ⟨(putL f rs).toArray⟩, .int .i64 0]) ∧ Below w.heap.size w w' := by
  obtain ⟨hks, hHas, hnb⟩ := may_kind hm
  have hbd := may_bounds (k := 21) hk hm
  have CM := Lib.hid (fun W (h : Rd W (.slice f.set.a f.set.n f.set.c) (ints rs)) => rmayf 21 f (ints rs) W hk hp h (ints_pos rs) (by rw [ints_len]; exact hl) (by omega) (by omega) (by omega))
  rw [hm] at CM
  have HP : Hid (putL f rs = _) := Lib.hid (putL_21 f rs hk hHas)
  have hz0 : 0 ≤ f.id := hp 0
  have hy0 : f.id ≤ 4611686018427387903 := numB_nm hnb 0 (by decide)
  have hz3 : 0 ≤ f.max := hp 3
  have hy3 : f.max ≤ 4611686018427387903 := numB_nm hnb 3 (by decide)
  have CK : Hid (∀ W, Calls Tryd.prog 26 #[.int .u64 21] W fun e w' => e = .returned (.string ⟨(pt 21).toArray⟩) ∧ Below W.heap.size W w') := Lib.hid (fun W => rv_ok 21 W (by decide) (by decide))
  have hsk := pt_le8 21 (by decide)
  have Cid := Lib.hid (fun W => rv_ok f.id W hz0 hy0)
  have hsid := pt_le8 f.id.toNat (by omega)
  have Cmax := Lib.hid (fun W => rv_ok f.max W hz3 hy3)
  have hsmax := pt_le8 f.max.toNat (by omega)
  obtain ⟨sk, Ek⟩ : ∃ s, pt 21 = s := ⟨_, rfl⟩
  rw [Ek] at CK HP hsk
  obtain ⟨sid, Eid⟩ : ∃ s, pt f.id.toNat = s := ⟨_, rfl⟩
  rw [Eid] at Cid HP hsid
  obtain ⟨smax, Emax⟩ : ∃ s, pt f.max.toNat = s := ⟨_, rfl⟩
  rw [Emax] at Cmax HP hsmax
  have f2 : ¬ 9223372036854775807 < sk.length + sid.length := by omega
  have f3 : ¬ 9223372036854775807 < sk.length + sid.length + smax.length := by omega
  have HC : Hid ((⟨sk.toArray⟩ : ByteArray) ++ ⟨sid.toArray⟩ ++ ⟨smax.toArray⟩ = ⟨(putL f rs).toArray⟩) := Lib.hid (by rw [HP.out] <;> (apply ByteArray.ext; simp))
  generalize putL f rs = R at *
  have HFR : Hid (FrD w.heap.size f (w.alloc (.cells #[.int .u64 f.kind, .int .u64 f.id, .int .u64 f.off, .int .u64 f.max, .int .u64 f.code, .int .u64 f.seq, .int .u64 f.prior, .int .u64 f.delay, .bool f.fin, .string ⟨f.data.toArray⟩, .string ⟨f.cid.toArray⟩, .string ⟨f.token.toArray⟩, .slice f.set.a f.set.n f.set.c] 36 (0, 0)))) := Lib.hid (World.alloc_heap_new w _)
  have HB0 : Hid (Below w.heap.size w (w.alloc (.cells #[.int .u64 f.kind, .int .u64 f.id, .int .u64 f.off, .int .u64 f.max, .int .u64 f.code, .int .u64 f.seq, .int .u64 f.prior, .int .u64 f.delay, .bool f.fin, .string ⟨f.data.toArray⟩, .string ⟨f.cid.toArray⟩, .string ⟨f.token.toArray⟩, .slice f.set.a f.set.n f.set.c] 36 (0, 0)))) := Lib.hid ((Below.refl w.heap.size w).alloc (Nat.le_refl _) _)
  have HRD := Lib.hid (hrd.below HB0.out)
  have HK := Lib.hid hk
  clear HP hm hp hrd hk hks hHas hnb hbd hl Ek Eid Emax  hz0 hy0 hz3 hy3
  go_enter Tryd.func10, Tryd.ntmps10
  go_wp2_with fail
  refine (CM.out _ HRD.out).mono ?_
  rintro e w1 ⟨rfl, hb⟩
  have HF1 := Lib.hid (HFR.out.keep hb)
  have HB1 := Lib.hid (HB0.out.trans (hb.mono HB0.out.size))
  have c0 := HF1.out.cell0
  rw [HK.out] at c0
  clear hb HRD CM
  go_wp2_with fail
  refine (CK.out _).mono ?_
  rintro e w2 ⟨rfl, hb⟩
  have HF2 := Lib.hid (HF1.out.keep hb)
  have HB2 := Lib.hid (HB1.out.trans (hb.mono HB1.out.size))
  have d0 := HF2.out.cell0
  rw [HK.out] at d0
  clear hb c0
  go_wp2_with fail
  refine wp_region_noPanic ?_
  refine wp_region_held_drew (S := fun W' : World => FrD w.heap.size f W' ∧ Below w.heap.size w W') (by kernel_rfl) ?_ (fun hHeld => ?_)
  · exact ⟨HF2.out, Below.drew HB2.out⟩
  refine wpAnyH_take (i := 0) (v := ?_) rfl (by kernel_rfl) (by kernel_rfl) (by kernel_rfl) (fun _ _ _ h => h) (Or.inl ⟨by rfl, ?_⟩) (by assumption) ?_
  rotate_left
  · (intro w hSw; (obtain ⟨hSf, hSb⟩ := hSw; have p1 := hSf.cell1; have p2 := hSf.cell2; have p3 := hSf.cell3; have p4 := hSf.cell4; have p5 := hSf.cell5; have p6 := hSf.cell6; have p7 := hSf.cell7; have p8 := hSf.cell8; have p9 := hSf.cell9; have p10 := hSf.cell10; have p11 := hSf.cell11; have p12 := hSf.cell12; clear hSf hSb); go_simp; (try with_reducible rfl))
  try simp only [Act.put, List.getElem_toArray, List.getElem_cons_zero, List.getElem_cons_succ, List.setIfInBounds_toArray, List.set_cons_zero, List.set_cons_succ]
  refine wpAnyH_take (i := 1) (v := ?_) rfl (by kernel_rfl) (by kernel_rfl) (by kernel_rfl) (fun _ _ _ h => h) (Or.inl ⟨by rfl, ?_⟩) (by assumption) ?_
  rotate_left
  · (intro w hSw; (obtain ⟨hSf, hSb⟩ := hSw; have p1 := hSf.cell1; have p2 := hSf.cell2; have p3 := hSf.cell3; have p4 := hSf.cell4; have p5 := hSf.cell5; have p6 := hSf.cell6; have p7 := hSf.cell7; have p8 := hSf.cell8; have p9 := hSf.cell9; have p10 := hSf.cell10; have p11 := hSf.cell11; have p12 := hSf.cell12; clear hSf hSb); go_simp; (try with_reducible rfl))
  try simp only [Act.put, List.getElem_toArray, List.getElem_cons_zero, List.getElem_cons_succ, List.setIfInBounds_toArray, List.set_cons_zero, List.set_cons_succ]
  refine wpAnyH_take (i := 2) (v := ?_) rfl (by kernel_rfl) (by kernel_rfl) (by kernel_rfl) (fun _ _ _ h => h) (Or.inl ⟨by rfl, ?_⟩) (by assumption) ?_
  rotate_left
  · (intro w hSw; (obtain ⟨hSf, hSb⟩ := hSw; have p1 := hSf.cell1; have p2 := hSf.cell2; have p3 := hSf.cell3; have p4 := hSf.cell4; have p5 := hSf.cell5; have p6 := hSf.cell6; have p7 := hSf.cell7; have p8 := hSf.cell8; have p9 := hSf.cell9; have p10 := hSf.cell10; have p11 := hSf.cell11; have p12 := hSf.cell12; clear hSf hSb); go_simp; (try with_reducible rfl))
  try simp only [Act.put, List.getElem_toArray, List.getElem_cons_zero, List.getElem_cons_succ, List.setIfInBounds_toArray, List.set_cons_zero, List.set_cons_succ]
  refine wpAnyH_take (i := 5) (v := ?_) rfl (by kernel_rfl) (by kernel_rfl) (by kernel_rfl) (fun _ _ _ h => h) (Or.inl ⟨by rfl, ?_⟩) (by assumption) ?_
  rotate_left
  · (intro w hSw; (obtain ⟨hSf, hSb⟩ := hSw; have p1 := hSf.cell1; have p2 := hSf.cell2; have p3 := hSf.cell3; have p4 := hSf.cell4; have p5 := hSf.cell5; have p6 := hSf.cell6; have p7 := hSf.cell7; have p8 := hSf.cell8; have p9 := hSf.cell9; have p10 := hSf.cell10; have p11 := hSf.cell11; have p12 := hSf.cell12; clear hSf hSb); go_simp; (try with_reducible rfl))
  try simp only [Act.put, List.getElem_toArray, List.getElem_cons_zero, List.getElem_cons_succ, List.setIfInBounds_toArray, List.set_cons_zero, List.set_cons_succ]
  refine wpAnyH_take (i := 6) (v := ?_) rfl (by kernel_rfl) (by kernel_rfl) (by kernel_rfl) (fun _ _ _ h => h) (Or.inl ⟨by rfl, ?_⟩) (by assumption) ?_
  rotate_left
  · (intro w hSw; (obtain ⟨hSf, hSb⟩ := hSw; have p1 := hSf.cell1; have p2 := hSf.cell2; have p3 := hSf.cell3; have p4 := hSf.cell4; have p5 := hSf.cell5; have p6 := hSf.cell6; have p7 := hSf.cell7; have p8 := hSf.cell8; have p9 := hSf.cell9; have p10 := hSf.cell10; have p11 := hSf.cell11; have p12 := hSf.cell12; clear hSf hSb); go_simp; (try with_reducible rfl))
  try simp only [Act.put, List.getElem_toArray, List.getElem_cons_zero, List.getElem_cons_succ, List.setIfInBounds_toArray, List.set_cons_zero, List.set_cons_succ]
  refine wpAnyH_ready (rs := [3]) (by kernel_rfl) (by simp) ?_
  refine AllReadyH.cons rfl (fun K hK => ?_) AllReadyH.nil
  rw [if_pos (by rfl)]
  go_simp
  with_reducible refine (Cid.out _).mono ?_
  rintro e u1 ⟨rfl, hb⟩
  refine hK.out _ _ ?_ (fun hHeld => ?_)
  · exact ⟨hHeld.1.keep hb, hHeld.2.trans (hb.mono hHeld.2.size)⟩
  clear hK K
  try simp only [Act.put, List.getElem_toArray, List.getElem_cons_zero, List.getElem_cons_succ, List.setIfInBounds_toArray, List.set_cons_zero, List.set_cons_succ]
  refine wpAnyH_take (i := 4) (v := ?_) rfl (by kernel_rfl) (by kernel_rfl) (by kernel_rfl) (fun _ _ _ h => h) (Or.inl ⟨by rfl, ?_⟩) (by assumption) ?_
  rotate_left
  · (intro w hSw; (obtain ⟨hSf, hSb⟩ := hSw; have p1 := hSf.cell1; have p2 := hSf.cell2; have p3 := hSf.cell3; have p4 := hSf.cell4; have p5 := hSf.cell5; have p6 := hSf.cell6; have p7 := hSf.cell7; have p8 := hSf.cell8; have p9 := hSf.cell9; have p10 := hSf.cell10; have p11 := hSf.cell11; have p12 := hSf.cell12; clear hSf hSb); go_simp; (try with_reducible rfl))
  try simp only [Act.put, List.getElem_toArray, List.getElem_cons_zero, List.getElem_cons_succ, List.setIfInBounds_toArray, List.set_cons_zero, List.set_cons_succ]
  refine wpAnyH_ready (rs := [7]) (by kernel_rfl) (by simp) ?_
  refine AllReadyH.cons rfl (fun K hK => ?_) AllReadyH.nil
  rw [if_pos (by rfl)]
  go_simp
  with_reducible refine (Cmax.out _).mono ?_
  rintro e u2 ⟨rfl, hb⟩
  refine hK.out _ _ ?_ (fun hHeld => ?_)
  · exact ⟨hHeld.1.keep hb, hHeld.2.trans (hb.mono hHeld.2.size)⟩
  clear hK K
  try simp only [Act.put, List.getElem_toArray, List.getElem_cons_zero, List.getElem_cons_succ, List.setIfInBounds_toArray, List.set_cons_zero, List.set_cons_succ]
  refine wpAnyH_take (i := 8) (v := ?_) rfl (by kernel_rfl) (by kernel_rfl) (by kernel_rfl) (fun _ _ _ h => h) (Or.inl ⟨by rfl, ?_⟩) (by assumption) ?_
  rotate_left
  · (intro w hSw; (obtain ⟨hSf, hSb⟩ := hSw; have p1 := hSf.cell1; have p2 := hSf.cell2; have p3 := hSf.cell3; have p4 := hSf.cell4; have p5 := hSf.cell5; have p6 := hSf.cell6; have p7 := hSf.cell7; have p8 := hSf.cell8; have p9 := hSf.cell9; have p10 := hSf.cell10; have p11 := hSf.cell11; have p12 := hSf.cell12; clear hSf hSb); go_simp; (try with_reducible rfl))
  try simp only [Act.put, List.getElem_toArray, List.getElem_cons_zero, List.getElem_cons_succ, List.setIfInBounds_toArray, List.set_cons_zero, List.set_cons_succ]
  refine wpAnyH_take (i := 9) (v := ?_) rfl (by kernel_rfl) (by kernel_rfl) (by kernel_rfl) (fun _ _ _ h => h) (Or.inl ⟨by rfl, ?_⟩) (by assumption) ?_
  rotate_left
  · (intro w hSw; (obtain ⟨hSf, hSb⟩ := hSw; have p1 := hSf.cell1; have p2 := hSf.cell2; have p3 := hSf.cell3; have p4 := hSf.cell4; have p5 := hSf.cell5; have p6 := hSf.cell6; have p7 := hSf.cell7; have p8 := hSf.cell8; have p9 := hSf.cell9; have p10 := hSf.cell10; have p11 := hSf.cell11; have p12 := hSf.cell12; clear hSf hSb); go_simp; (try with_reducible rfl))
  try simp only [Act.put, List.getElem_toArray, List.getElem_cons_zero, List.getElem_cons_succ, List.setIfInBounds_toArray, List.set_cons_zero, List.set_cons_succ]
  refine wpAnyH_take (i := 10) (v := ?_) rfl (by kernel_rfl) (by kernel_rfl) (by kernel_rfl) (fun _ _ _ h => h) (Or.inl ⟨by rfl, ?_⟩) (by assumption) ?_
  rotate_left
  · (intro w hSw; (obtain ⟨hSf, hSb⟩ := hSw; have p1 := hSf.cell1; have p2 := hSf.cell2; have p3 := hSf.cell3; have p4 := hSf.cell4; have p5 := hSf.cell5; have p6 := hSf.cell6; have p7 := hSf.cell7; have p8 := hSf.cell8; have p9 := hSf.cell9; have p10 := hSf.cell10; have p11 := hSf.cell11; have p12 := hSf.cell12; clear hSf hSb); go_simp; (try with_reducible rfl))
  try simp only [Act.put, List.getElem_toArray, List.getElem_cons_zero, List.getElem_cons_succ, List.setIfInBounds_toArray, List.set_cons_zero, List.set_cons_succ]
  refine wpAnyH_done (by kernel_rfl) (NoPanic.normal ?_) _
  have HB := Lib.hid hHeld.2
  clear hHeld
  go_wp2
  go_ret2
  exact ⟨by rw [← HC.out]; rfl, HB.out⟩
set_option maxHeartbeats 8000000 in
theorem rput_24 (f : Frm) (rs : List (Nat × Nat)) (w : World) (hk : f.kind = 24) (hp : ∀ j, 0 ≤ nm f j) (hrd : Rd w (.slice f.set.a f.set.n f.set.c) (ints rs)) (hl : rs.length ≤ 1000) (hm : mayF 24 f (ints rs) = true) :
    Calls Tryd.prog 10 #[.agg #[.int .u64 f.kind, .int .u64 f.id, .int .u64 f.off, .int .u64 f.max, .int .u64 f.code, .int .u64 f.seq, .int .u64 f.prior, .int .u64 f.delay, .bool f.fin, .string ⟨f.data.toArray⟩, .string ⟨f.cid.toArray⟩, .string ⟨f.token.toArray⟩, .slice f.set.a f.set.n f.set.c]] w fun e w' => e = .returned (.tuple #[.string ⟨(putL f rs).toArray⟩, .int .i64 0]) ∧ Below w.heap.size w w' := by
  obtain ⟨hks, hHas, hnb⟩ := may_kind hm
  have hbd := may_bounds (k := 24) hk hm
  have CM := Lib.hid (fun W (h : Rd W (.slice f.set.a f.set.n f.set.c) (ints rs)) => rmayf 24 f (ints rs) W hk hp h (ints_pos rs) (by rw [ints_len]; exact hl) (by omega) (by omega) (by omega))
  rw [hm] at CM
  have hcid : f.cid.length = 8 := by
    obtain ⟨_, _, _, h4⟩ := mayF_k hm
    unfold kndB at h4
    rw [hk] at h4
    have h5 : (decide (f.prior ≤ f.seq) && decide (f.cid.length = 8) && decide (f.token.length = 16)) = true := h4
    rw [Bool.and_eq_true, Bool.and_eq_true] at h5
    exact of_decide_eq_true h5.1.2
  have HP : Hid (putL f rs = _) := Lib.hid (putL_24 f rs hk hHas hcid)
  have hz4 : 0 ≤ f.seq := hp 4
  have hy4 : f.seq ≤ 4611686018427387903 := numB_nm hnb 4 (by decide)
  have hz5 : 0 ≤ f.prior := hp 5
  have hy5 : f.prior ≤ 4611686018427387903 := numB_nm hnb 5 (by decide)
  have CK : Hid (∀ W, Calls Tryd.prog 26 #[.int .u64 24] W fun e w' => e = .returned (.string ⟨(pt 24).toArray⟩) ∧ Below W.heap.size W w') := Lib.hid (fun W => rv_ok 24 W (by decide) (by decide))
  have hsk := pt_le8 24 (by decide)
  have Cseq := Lib.hid (fun W => rv_ok f.seq W hz4 hy4)
  have hsseq := pt_le8 f.seq.toNat (by omega)
  have Cprior := Lib.hid (fun W => rv_ok f.prior W hz5 hy5)
  have hsprior := pt_le8 f.prior.toNat (by omega)
  obtain ⟨sk, Ek⟩ : ∃ s, pt 24 = s := ⟨_, rfl⟩
  rw [Ek] at CK HP hsk
  obtain ⟨sseq, Eseq⟩ : ∃ s, pt f.seq.toNat = s := ⟨_, rfl⟩
  rw [Eseq] at Cseq HP hsseq
  obtain ⟨sprior, Eprior⟩ : ∃ s, pt f.prior.toNat = s := ⟨_, rfl⟩
  rw [Eprior] at Cprior HP hsprior
  have f2 : ¬ 9223372036854775807 < sk.length + sseq.length := by omega
  have f3 : ¬ 9223372036854775807 < sk.length + sseq.length + sprior.length := by omega
  have f4 : ¬ 9223372036854775807 < sk.length + sseq.length + sprior.length + 1 := by omega
  have f5 : ¬ 9223372036854775807 < sk.length + sseq.length + sprior.length + 1 + f.cid.length := by omega
  have f6 : ¬ 9223372036854775807 < sk.length + sseq.length + sprior.length + 1 + f.cid.length + f.token.length := by omega
  have HC : Hid ((⟨sk.toArray⟩ : ByteArray) ++ ⟨sseq.toArray⟩ ++ ⟨sprior.toArray⟩ ++ ⟨#[8]⟩ ++ ⟨f.cid.toArray⟩ ++ ⟨f.token.toArray⟩ = ⟨(putL f rs).toArray⟩) := Lib.hid (by rw [HP.out] <;> (apply ByteArray.ext; simp))
  generalize putL f rs = R at *
  have HFR : Hid (FrD w.heap.size f (w.alloc (.cells #[.int .u64 f.kind, .int .u64 f.id, .int .u64 f.off, .int .u64 f.max, .int .u64 f.code, .int .u64 f.seq, .int .u64 f.prior, .int .u64 f.delay, .bool f.fin, .string ⟨f.data.toArray⟩, .string ⟨f.cid.toArray⟩, .string ⟨f.token.toArray⟩, .slice f.set.a f.set.n f.set.c] 36 (0, 0)))) := Lib.hid (World.alloc_heap_new w _)
  have HB0 : Hid (Below w.heap.size w (w.alloc (.cells #[.int .u64 f.kind, .int .u64 f.id, .int .u64 f.off, .int .u64 f.max, .int .u64 f.code, .int .u64 f.seq, .int .u64 f.prior, .int .u64 f.delay, .bool f.fin, .string ⟨f.data.toArray⟩, .string ⟨f.cid.toArray⟩, .string ⟨f.token.toArray⟩, .slice f.set.a f.set.n f.set.c] 36 (0, 0)))) := Lib.hid ((Below.refl w.heap.size w).alloc (Nat.le_refl _) _)
  have HRD := Lib.hid (hrd.below HB0.out)
  have HK := Lib.hid hk
  clear hcid
  clear HP hm hp hrd hk hks hHas hnb hbd hl Ek Eseq Eprior  hz4 hy4 hz5 hy5
  go_enter Tryd.func10, Tryd.ntmps10
  go_wp2_with fail
  refine (CM.out _ HRD.out).mono ?_
  rintro e w1 ⟨rfl, hb⟩
  have HF1 := Lib.hid (HFR.out.keep hb)
  have HB1 := Lib.hid (HB0.out.trans (hb.mono HB0.out.size))
  have c0 := HF1.out.cell0
  rw [HK.out] at c0
  clear hb HRD CM
  go_wp2_with fail
  refine (CK.out _).mono ?_
  rintro e w2 ⟨rfl, hb⟩
  have HF2 := Lib.hid (HF1.out.keep hb)
  have HB2 := Lib.hid (HB1.out.trans (hb.mono HB1.out.size))
  have d0 := HF2.out.cell0
  rw [HK.out] at d0
  clear hb c0
  go_wp2_with fail
  refine wp_region_noPanic ?_
  refine wp_region_held_drew (S := fun W' : World => FrD w.heap.size f W' ∧ Below w.heap.size w W') (by kernel_rfl) ?_ (fun hHeld => ?_)
  · exact ⟨HF2.out, Below.drew HB2.out⟩
  refine wpAnyH_take (i := 0) (v := ?_) rfl (by kernel_rfl) (by kernel_rfl) (by kernel_rfl) (fun _ _ _ h => h) (Or.inl ⟨by rfl, ?_⟩) (by assumption) ?_
  rotate_left
  · (intro w hSw; (obtain ⟨hSf, hSb⟩ := hSw; have p1 := hSf.cell1; have p2 := hSf.cell2; have p3 := hSf.cell3; have p4 := hSf.cell4; have p5 := hSf.cell5; have p6 := hSf.cell6; have p7 := hSf.cell7; have p8 := hSf.cell8; have p9 := hSf.cell9; have p10 := hSf.cell10; have p11 := hSf.cell11; have p12 := hSf.cell12; clear hSf hSb); go_simp; (try with_reducible rfl))
  try simp only [Act.put, List.getElem_toArray, List.getElem_cons_zero, List.getElem_cons_succ, List.setIfInBounds_toArray, List.set_cons_zero, List.set_cons_succ]
  refine wpAnyH_take (i := 1) (v := ?_) rfl (by kernel_rfl) (by kernel_rfl) (by kernel_rfl) (fun _ _ _ h => h) (Or.inl ⟨by rfl, ?_⟩) (by assumption) ?_
  rotate_left
  · (intro w hSw; (obtain ⟨hSf, hSb⟩ := hSw; have p1 := hSf.cell1; have p2 := hSf.cell2; have p3 := hSf.cell3; have p4 := hSf.cell4; have p5 := hSf.cell5; have p6 := hSf.cell6; have p7 := hSf.cell7; have p8 := hSf.cell8; have p9 := hSf.cell9; have p10 := hSf.cell10; have p11 := hSf.cell11; have p12 := hSf.cell12; clear hSf hSb); go_simp; (try with_reducible rfl))
  try simp only [Act.put, List.getElem_toArray, List.getElem_cons_zero, List.getElem_cons_succ, List.setIfInBounds_toArray, List.set_cons_zero, List.set_cons_succ]
  refine wpAnyH_take (i := 2) (v := ?_) rfl (by kernel_rfl) (by kernel_rfl) (by kernel_rfl) (fun _ _ _ h => h) (Or.inl ⟨by rfl, ?_⟩) (by assumption) ?_
  rotate_left
  · (intro w hSw; (obtain ⟨hSf, hSb⟩ := hSw; have p1 := hSf.cell1; have p2 := hSf.cell2; have p3 := hSf.cell3; have p4 := hSf.cell4; have p5 := hSf.cell5; have p6 := hSf.cell6; have p7 := hSf.cell7; have p8 := hSf.cell8; have p9 := hSf.cell9; have p10 := hSf.cell10; have p11 := hSf.cell11; have p12 := hSf.cell12; clear hSf hSb); go_simp; (try with_reducible rfl))
  try simp only [Act.put, List.getElem_toArray, List.getElem_cons_zero, List.getElem_cons_succ, List.setIfInBounds_toArray, List.set_cons_zero, List.set_cons_succ]
  refine wpAnyH_take (i := 5) (v := ?_) rfl (by kernel_rfl) (by kernel_rfl) (by kernel_rfl) (fun _ _ _ h => h) (Or.inl ⟨by rfl, ?_⟩) (by assumption) ?_
  rotate_left
  · (intro w hSw; (obtain ⟨hSf, hSb⟩ := hSw; have p1 := hSf.cell1; have p2 := hSf.cell2; have p3 := hSf.cell3; have p4 := hSf.cell4; have p5 := hSf.cell5; have p6 := hSf.cell6; have p7 := hSf.cell7; have p8 := hSf.cell8; have p9 := hSf.cell9; have p10 := hSf.cell10; have p11 := hSf.cell11; have p12 := hSf.cell12; clear hSf hSb); go_simp; (try with_reducible rfl))
  try simp only [Act.put, List.getElem_toArray, List.getElem_cons_zero, List.getElem_cons_succ, List.setIfInBounds_toArray, List.set_cons_zero, List.set_cons_succ]
  refine wpAnyH_take (i := 6) (v := ?_) rfl (by kernel_rfl) (by kernel_rfl) (by kernel_rfl) (fun _ _ _ h => h) (Or.inl ⟨by rfl, ?_⟩) (by assumption) ?_
  rotate_left
  · (intro w hSw; (obtain ⟨hSf, hSb⟩ := hSw; have p1 := hSf.cell1; have p2 := hSf.cell2; have p3 := hSf.cell3; have p4 := hSf.cell4; have p5 := hSf.cell5; have p6 := hSf.cell6; have p7 := hSf.cell7; have p8 := hSf.cell8; have p9 := hSf.cell9; have p10 := hSf.cell10; have p11 := hSf.cell11; have p12 := hSf.cell12; clear hSf hSb); go_simp; (try with_reducible rfl))
  try simp only [Act.put, List.getElem_toArray, List.getElem_cons_zero, List.getElem_cons_succ, List.setIfInBounds_toArray, List.set_cons_zero, List.set_cons_succ]
  refine wpAnyH_take (i := 10) (v := ?_) rfl (by kernel_rfl) (by kernel_rfl) (by kernel_rfl) (fun _ _ _ h => h) (Or.inl ⟨by rfl, ?_⟩) (by assumption) ?_
  rotate_left
  · (intro w hSw; (obtain ⟨hSf, hSb⟩ := hSw; have p1 := hSf.cell1; have p2 := hSf.cell2; have p3 := hSf.cell3; have p4 := hSf.cell4; have p5 := hSf.cell5; have p6 := hSf.cell6; have p7 := hSf.cell7; have p8 := hSf.cell8; have p9 := hSf.cell9; have p10 := hSf.cell10; have p11 := hSf.cell11; have p12 := hSf.cell12; clear hSf hSb); go_simp; (try with_reducible rfl))
  try simp only [Act.put, List.getElem_toArray, List.getElem_cons_zero, List.getElem_cons_succ, List.setIfInBounds_toArray, List.set_cons_zero, List.set_cons_succ]
  refine wpAnyH_take (i := 11) (v := ?_) rfl (by kernel_rfl) (by kernel_rfl) (by kernel_rfl) (fun _ _ _ h => h) (Or.inl ⟨by rfl, ?_⟩) (by assumption) ?_
  rotate_left
  · (intro w hSw; (obtain ⟨hSf, hSb⟩ := hSw; have p1 := hSf.cell1; have p2 := hSf.cell2; have p3 := hSf.cell3; have p4 := hSf.cell4; have p5 := hSf.cell5; have p6 := hSf.cell6; have p7 := hSf.cell7; have p8 := hSf.cell8; have p9 := hSf.cell9; have p10 := hSf.cell10; have p11 := hSf.cell11; have p12 := hSf.cell12; clear hSf hSb); go_simp; (try with_reducible rfl))
  try simp only [Act.put, List.getElem_toArray, List.getElem_cons_zero, List.getElem_cons_succ, List.setIfInBounds_toArray, List.set_cons_zero, List.set_cons_succ]
  refine wpAnyH_take (i := 13) (v := ?_) rfl (by kernel_rfl) (by kernel_rfl) (by kernel_rfl) (fun _ _ _ h => h) (Or.inl ⟨by rfl, ?_⟩) (by assumption) ?_
  rotate_left
  · (intro w hSw; (obtain ⟨hSf, hSb⟩ := hSw; have p1 := hSf.cell1; have p2 := hSf.cell2; have p3 := hSf.cell3; have p4 := hSf.cell4; have p5 := hSf.cell5; have p6 := hSf.cell6; have p7 := hSf.cell7; have p8 := hSf.cell8; have p9 := hSf.cell9; have p10 := hSf.cell10; have p11 := hSf.cell11; have p12 := hSf.cell12; clear hSf hSb); go_simp; (try with_reducible rfl))
  try simp only [Act.put, List.getElem_toArray, List.getElem_cons_zero, List.getElem_cons_succ, List.setIfInBounds_toArray, List.set_cons_zero, List.set_cons_succ]
  refine wpAnyH_take (i := 14) (v := ?_) rfl (by kernel_rfl) (by kernel_rfl) (by kernel_rfl) (fun _ _ _ h => h) (Or.inl ⟨by rfl, ?_⟩) (by assumption) ?_
  rotate_left
  · (intro w hSw; (obtain ⟨hSf, hSb⟩ := hSw; have p1 := hSf.cell1; have p2 := hSf.cell2; have p3 := hSf.cell3; have p4 := hSf.cell4; have p5 := hSf.cell5; have p6 := hSf.cell6; have p7 := hSf.cell7; have p8 := hSf.cell8; have p9 := hSf.cell9; have p10 := hSf.cell10; have p11 := hSf.cell11; have p12 := hSf.cell12; clear hSf hSb); go_simp; (try with_reducible rfl))
  try simp only [Act.put, List.getElem_toArray, List.getElem_cons_zero, List.getElem_cons_succ, List.setIfInBounds_toArray, List.set_cons_zero, List.set_cons_succ]
  refine wpAnyH_ready (rs := [3]) (by kernel_rfl) (by simp) ?_
  refine AllReadyH.cons rfl (fun K hK => ?_) AllReadyH.nil
  rw [if_pos (by rfl)]
  go_simp
  with_reducible refine (Cseq.out _).mono ?_
  rintro e u1 ⟨rfl, hb⟩
  refine hK.out _ _ ?_ (fun hHeld => ?_)
  · exact ⟨hHeld.1.keep hb, hHeld.2.trans (hb.mono hHeld.2.size)⟩
  clear hK K
  try simp only [Act.put, List.getElem_toArray, List.getElem_cons_zero, List.getElem_cons_succ, List.setIfInBounds_toArray, List.set_cons_zero, List.set_cons_succ]
  refine wpAnyH_take (i := 4) (v := ?_) rfl (by kernel_rfl) (by kernel_rfl) (by kernel_rfl) (fun _ _ _ h => h) (Or.inl ⟨by rfl, ?_⟩) (by assumption) ?_
  rotate_left
  · (intro w hSw; (obtain ⟨hSf, hSb⟩ := hSw; have p1 := hSf.cell1; have p2 := hSf.cell2; have p3 := hSf.cell3; have p4 := hSf.cell4; have p5 := hSf.cell5; have p6 := hSf.cell6; have p7 := hSf.cell7; have p8 := hSf.cell8; have p9 := hSf.cell9; have p10 := hSf.cell10; have p11 := hSf.cell11; have p12 := hSf.cell12; clear hSf hSb); go_simp; (try with_reducible rfl))
  try simp only [Act.put, List.getElem_toArray, List.getElem_cons_zero, List.getElem_cons_succ, List.setIfInBounds_toArray, List.set_cons_zero, List.set_cons_succ]
  refine wpAnyH_ready (rs := [7]) (by kernel_rfl) (by simp) ?_
  refine AllReadyH.cons rfl (fun K hK => ?_) AllReadyH.nil
  rw [if_pos (by rfl)]
  go_simp
  with_reducible refine (Cprior.out _).mono ?_
  rintro e u2 ⟨rfl, hb⟩
  refine hK.out _ _ ?_ (fun hHeld => ?_)
  · exact ⟨hHeld.1.keep hb, hHeld.2.trans (hb.mono hHeld.2.size)⟩
  clear hK K
  try simp only [Act.put, List.getElem_toArray, List.getElem_cons_zero, List.getElem_cons_succ, List.setIfInBounds_toArray, List.set_cons_zero, List.set_cons_succ]
  refine wpAnyH_take (i := 8) (v := ?_) rfl (by kernel_rfl) (by kernel_rfl) (by kernel_rfl) (fun _ _ _ h => h) (Or.inl ⟨by rfl, ?_⟩) (by assumption) ?_
  rotate_left
  · (intro w hSw; (obtain ⟨hSf, hSb⟩ := hSw; have p1 := hSf.cell1; have p2 := hSf.cell2; have p3 := hSf.cell3; have p4 := hSf.cell4; have p5 := hSf.cell5; have p6 := hSf.cell6; have p7 := hSf.cell7; have p8 := hSf.cell8; have p9 := hSf.cell9; have p10 := hSf.cell10; have p11 := hSf.cell11; have p12 := hSf.cell12; clear hSf hSb); go_simp; (try with_reducible rfl))
  try simp only [Act.put, List.getElem_toArray, List.getElem_cons_zero, List.getElem_cons_succ, List.setIfInBounds_toArray, List.set_cons_zero, List.set_cons_succ]
  refine wpAnyH_take (i := 9) (v := ?_) rfl (by kernel_rfl) (by kernel_rfl) (by kernel_rfl) (fun _ _ _ h => h) (Or.inl ⟨by rfl, ?_⟩) (by assumption) ?_
  rotate_left
  · (intro w hSw; (obtain ⟨hSf, hSb⟩ := hSw; have p1 := hSf.cell1; have p2 := hSf.cell2; have p3 := hSf.cell3; have p4 := hSf.cell4; have p5 := hSf.cell5; have p6 := hSf.cell6; have p7 := hSf.cell7; have p8 := hSf.cell8; have p9 := hSf.cell9; have p10 := hSf.cell10; have p11 := hSf.cell11; have p12 := hSf.cell12; clear hSf hSb); go_simp; (try with_reducible rfl))
  try simp only [Act.put, List.getElem_toArray, List.getElem_cons_zero, List.getElem_cons_succ, List.setIfInBounds_toArray, List.set_cons_zero, List.set_cons_succ]
  refine wpAnyH_take (i := 12) (v := ?_) rfl (by kernel_rfl) (by kernel_rfl) (by kernel_rfl) (fun _ _ _ h => h) (Or.inl ⟨by rfl, ?_⟩) (by assumption) ?_
  rotate_left
  · (intro w hSw; (obtain ⟨hSf, hSb⟩ := hSw; have p1 := hSf.cell1; have p2 := hSf.cell2; have p3 := hSf.cell3; have p4 := hSf.cell4; have p5 := hSf.cell5; have p6 := hSf.cell6; have p7 := hSf.cell7; have p8 := hSf.cell8; have p9 := hSf.cell9; have p10 := hSf.cell10; have p11 := hSf.cell11; have p12 := hSf.cell12; clear hSf hSb); go_simp; (try with_reducible rfl))
  try simp only [Act.put, List.getElem_toArray, List.getElem_cons_zero, List.getElem_cons_succ, List.setIfInBounds_toArray, List.set_cons_zero, List.set_cons_succ]
  refine wpAnyH_take (i := 15) (v := ?_) rfl (by kernel_rfl) (by kernel_rfl) (by kernel_rfl) (fun _ _ _ h => h) (Or.inl ⟨by rfl, ?_⟩) (by assumption) ?_
  rotate_left
  · (intro w hSw; (obtain ⟨hSf, hSb⟩ := hSw; have p1 := hSf.cell1; have p2 := hSf.cell2; have p3 := hSf.cell3; have p4 := hSf.cell4; have p5 := hSf.cell5; have p6 := hSf.cell6; have p7 := hSf.cell7; have p8 := hSf.cell8; have p9 := hSf.cell9; have p10 := hSf.cell10; have p11 := hSf.cell11; have p12 := hSf.cell12; clear hSf hSb); go_simp; (try with_reducible rfl))
  try simp only [Act.put, List.getElem_toArray, List.getElem_cons_zero, List.getElem_cons_succ, List.setIfInBounds_toArray, List.set_cons_zero, List.set_cons_succ]
  refine wpAnyH_take (i := 16) (v := ?_) rfl (by kernel_rfl) (by kernel_rfl) (by kernel_rfl) (fun _ _ _ h => h) (Or.inl ⟨by rfl, ?_⟩) (by assumption) ?_
  rotate_left
  · (intro w hSw; (obtain ⟨hSf, hSb⟩ := hSw; have p1 := hSf.cell1; have p2 := hSf.cell2; have p3 := hSf.cell3; have p4 := hSf.cell4; have p5 := hSf.cell5; have p6 := hSf.cell6; have p7 := hSf.cell7; have p8 := hSf.cell8; have p9 := hSf.cell9; have p10 := hSf.cell10; have p11 := hSf.cell11; have p12 := hSf.cell12; clear hSf hSb); go_simp; (try with_reducible rfl))
  try simp only [Act.put, List.getElem_toArray, List.getElem_cons_zero, List.getElem_cons_succ, List.setIfInBounds_toArray, List.set_cons_zero, List.set_cons_succ]
  refine wpAnyH_take (i := 17) (v := ?_) rfl (by kernel_rfl) (by kernel_rfl) (by kernel_rfl) (fun _ _ _ h => h) (Or.inl ⟨by rfl, ?_⟩) (by assumption) ?_
  rotate_left
  · (intro w hSw; (obtain ⟨hSf, hSb⟩ := hSw; have p1 := hSf.cell1; have p2 := hSf.cell2; have p3 := hSf.cell3; have p4 := hSf.cell4; have p5 := hSf.cell5; have p6 := hSf.cell6; have p7 := hSf.cell7; have p8 := hSf.cell8; have p9 := hSf.cell9; have p10 := hSf.cell10; have p11 := hSf.cell11; have p12 := hSf.cell12; clear hSf hSb); go_simp; (try with_reducible rfl))
  try simp only [Act.put, List.getElem_toArray, List.getElem_cons_zero, List.getElem_cons_succ, List.setIfInBounds_toArray, List.set_cons_zero, List.set_cons_succ]
  refine wpAnyH_done (by kernel_rfl) (NoPanic.normal ?_) _
  have HB := Lib.hid hHeld.2
  clear hHeld
  go_wp2
  go_ret2
  exact ⟨by rw [← HC.out]; rfl, HB.out⟩
set_option maxHeartbeats 8000000 in
theorem rput_25 (f : Frm) (rs : List (Nat × Nat)) (w : World) (hk : f.kind = 25) (hp : ∀ j, 0 ≤ nm f j) (hrd : Rd w (.slice f.set.a f.set.n f.set.c) (ints rs)) (hl : rs.length ≤ 1000) (hm : mayF 25 f (ints rs) = true) :
    Calls Tryd.prog 10 #[.agg #[.int .u64 f.kind, .int .u64 f.id, .int .u64 f.off, .int .u64 f.max, .int .u64 f.code, .int .u64 f.seq, .int .u64 f.prior, .int .u64 f.delay, .bool f.fin, .string ⟨f.data.toArray⟩, .string ⟨f.cid.toArray⟩, .string ⟨f.token.toArray⟩, .slice f.set.a f.set.n f.set.c]] w fun e w' => e = .returned (.tuple #[.string ⟨(putL f rs).toArray⟩, .int .i64 0]) ∧ Below w.heap.size w w' := by
  obtain ⟨hks, hHas, hnb⟩ := may_kind hm
  have hbd := may_bounds (k := 25) hk hm
  have CM := Lib.hid (fun W (h : Rd W (.slice f.set.a f.set.n f.set.c) (ints rs)) => rmayf 25 f (ints rs) W hk hp h (ints_pos rs) (by rw [ints_len]; exact hl) (by omega) (by omega) (by omega))
  rw [hm] at CM
  have HP : Hid (putL f rs = _) := Lib.hid (putL_25 f rs hk hHas)
  have hz4 : 0 ≤ f.seq := hp 4
  have hy4 : f.seq ≤ 4611686018427387903 := numB_nm hnb 4 (by decide)
  have CK : Hid (∀ W, Calls Tryd.prog 26 #[.int .u64 25] W fun e w' => e = .returned (.string ⟨(pt 25).toArray⟩) ∧ Below W.heap.size W w') := Lib.hid (fun W => rv_ok 25 W (by decide) (by decide))
  have hsk := pt_le8 25 (by decide)
  have Cseq := Lib.hid (fun W => rv_ok f.seq W hz4 hy4)
  have hsseq := pt_le8 f.seq.toNat (by omega)
  obtain ⟨sk, Ek⟩ : ∃ s, pt 25 = s := ⟨_, rfl⟩
  rw [Ek] at CK HP hsk
  obtain ⟨sseq, Eseq⟩ : ∃ s, pt f.seq.toNat = s := ⟨_, rfl⟩
  rw [Eseq] at Cseq HP hsseq
  have f2 : ¬ 9223372036854775807 < sk.length + sseq.length := by omega
  have HC : Hid ((⟨sk.toArray⟩ : ByteArray) ++ ⟨sseq.toArray⟩ = ⟨(putL f rs).toArray⟩) := Lib.hid (by rw [HP.out] <;> (apply ByteArray.ext; simp))
  generalize putL f rs = R at *
  have HFR : Hid (FrD w.heap.size f (w.alloc (.cells #[.int .u64 f.kind, .int .u64 f.id, .int .u64 f.off, .int .u64 f.max, .int .u64 f.code, .int .u64 f.seq, .int .u64 f.prior, .int .u64 f.delay, .bool f.fin, .string ⟨f.data.toArray⟩, .string ⟨f.cid.toArray⟩, .string ⟨f.token.toArray⟩, .slice f.set.a f.set.n f.set.c] 36 (0, 0)))) := Lib.hid (World.alloc_heap_new w _)
  have HB0 : Hid (Below w.heap.size w (w.alloc (.cells #[.int .u64 f.kind, .int .u64 f.id, .int .u64 f.off, .int .u64 f.max, .int .u64 f.code, .int .u64 f.seq, .int .u64 f.prior, .int .u64 f.delay, .bool f.fin, .string ⟨f.data.toArray⟩, .string ⟨f.cid.toArray⟩, .string ⟨f.token.toArray⟩, .slice f.set.a f.set.n f.set.c] 36 (0, 0)))) := Lib.hid ((Below.refl w.heap.size w).alloc (Nat.le_refl _) _)
  have HRD := Lib.hid (hrd.below HB0.out)
  have HK := Lib.hid hk
  clear HP hm hp hrd hk hks hHas hnb hbd hl Ek Eseq  hz4 hy4
  go_enter Tryd.func10, Tryd.ntmps10
  go_wp2_with fail
  refine (CM.out _ HRD.out).mono ?_
  rintro e w1 ⟨rfl, hb⟩
  have HF1 := Lib.hid (HFR.out.keep hb)
  have HB1 := Lib.hid (HB0.out.trans (hb.mono HB0.out.size))
  have c0 := HF1.out.cell0
  rw [HK.out] at c0
  clear hb HRD CM
  go_wp2_with fail
  refine (CK.out _).mono ?_
  rintro e w2 ⟨rfl, hb⟩
  have HF2 := Lib.hid (HF1.out.keep hb)
  have HB2 := Lib.hid (HB1.out.trans (hb.mono HB1.out.size))
  have d0 := HF2.out.cell0
  rw [HK.out] at d0
  clear hb c0
  have d1 := HF2.out.cell5
  go_wp2_with fail
  refine (Cseq.out _).mono ?_
  rintro e w3 ⟨rfl, hb⟩
  have HB := Lib.hid (HB2.out.trans (hb.mono HB2.out.size))
  clear hb
  go_wp2
  go_ret2
  exact ⟨by rw [← HC.out]; rfl, HB.out⟩
set_option maxHeartbeats 8000000 in
theorem rput_26 (f : Frm) (rs : List (Nat × Nat)) (w : World) (hk : f.kind = 26) (hp : ∀ j, 0 ≤ nm f j) (hrd : Rd w (.slice f.set.a f.set.n f.set.c) (ints rs)) (hl : rs.length ≤ 1000) (hm : mayF 26 f (ints rs) = true) :
    Calls Tryd.prog 10 #[.agg #[.int .u64 f.kind, .int .u64 f.id, .int .u64 f.off, .int .u64 f.max, .int .u64 f.code, .int .u64 f.seq, .int .u64 f.prior, .int .u64 f.delay, .bool f.fin, .string ⟨f.data.toArray⟩, .string ⟨f.cid.toArray⟩, .string ⟨f.token.toArray⟩, .slice f.set.a f.set.n f.set.c]] w fun e w' => e = .returned (.tuple #[.string ⟨(putL f rs).toArray⟩, .int .i64 0]) ∧ Below w.heap.size w w' := by
  obtain ⟨hks, hHas, hnb⟩ := may_kind hm
  have hbd := may_bounds (k := 26) hk hm
  have CM := Lib.hid (fun W (h : Rd W (.slice f.set.a f.set.n f.set.c) (ints rs)) => rmayf 26 f (ints rs) W hk hp h (ints_pos rs) (by rw [ints_len]; exact hl) (by omega) (by omega) (by omega))
  rw [hm] at CM
  have HP : Hid (putL f rs = _) := Lib.hid (putL_26 f rs hk hHas)
  have CK : Hid (∀ W, Calls Tryd.prog 26 #[.int .u64 26] W fun e w' => e = .returned (.string ⟨(pt 26).toArray⟩) ∧ Below W.heap.size W w') := Lib.hid (fun W => rv_ok 26 W (by decide) (by decide))
  have hsk := pt_le8 26 (by decide)
  obtain ⟨sk, Ek⟩ : ∃ s, pt 26 = s := ⟨_, rfl⟩
  rw [Ek] at CK HP hsk
  have f2 : ¬ 9223372036854775807 < sk.length + f.token.length := by omega
  have HC : Hid ((⟨sk.toArray⟩ : ByteArray) ++ ⟨f.token.toArray⟩ = ⟨(putL f rs).toArray⟩) := Lib.hid (by rw [HP.out] <;> (apply ByteArray.ext; simp))
  generalize putL f rs = R at *
  have HFR : Hid (FrD w.heap.size f (w.alloc (.cells #[.int .u64 f.kind, .int .u64 f.id, .int .u64 f.off, .int .u64 f.max, .int .u64 f.code, .int .u64 f.seq, .int .u64 f.prior, .int .u64 f.delay, .bool f.fin, .string ⟨f.data.toArray⟩, .string ⟨f.cid.toArray⟩, .string ⟨f.token.toArray⟩, .slice f.set.a f.set.n f.set.c] 36 (0, 0)))) := Lib.hid (World.alloc_heap_new w _)
  have HB0 : Hid (Below w.heap.size w (w.alloc (.cells #[.int .u64 f.kind, .int .u64 f.id, .int .u64 f.off, .int .u64 f.max, .int .u64 f.code, .int .u64 f.seq, .int .u64 f.prior, .int .u64 f.delay, .bool f.fin, .string ⟨f.data.toArray⟩, .string ⟨f.cid.toArray⟩, .string ⟨f.token.toArray⟩, .slice f.set.a f.set.n f.set.c] 36 (0, 0)))) := Lib.hid ((Below.refl w.heap.size w).alloc (Nat.le_refl _) _)
  have HRD := Lib.hid (hrd.below HB0.out)
  have HK := Lib.hid hk
  clear HP hm hp hrd hk hks hHas hnb hbd hl Ek 
  go_enter Tryd.func10, Tryd.ntmps10
  go_wp2_with fail
  refine (CM.out _ HRD.out).mono ?_
  rintro e w1 ⟨rfl, hb⟩
  have HF1 := Lib.hid (HFR.out.keep hb)
  have HB1 := Lib.hid (HB0.out.trans (hb.mono HB0.out.size))
  have c0 := HF1.out.cell0
  rw [HK.out] at c0
  clear hb HRD CM
  go_wp2_with fail
  refine (CK.out _).mono ?_
  rintro e w2 ⟨rfl, hb⟩
  have HF2 := Lib.hid (HF1.out.keep hb)
  have HB2 := Lib.hid (HB1.out.trans (hb.mono HB1.out.size))
  have d0 := HF2.out.cell0
  rw [HK.out] at d0
  clear hb c0
  have d1 := HF2.out.cell11
  go_wp2
  go_ret2
  exact ⟨by rw [← HC.out]; rfl, HB2.out⟩
set_option maxHeartbeats 8000000 in
theorem rput_27 (f : Frm) (rs : List (Nat × Nat)) (w : World) (hk : f.kind = 27) (hp : ∀ j, 0 ≤ nm f j) (hrd : Rd w (.slice f.set.a f.set.n f.set.c) (ints rs)) (hl : rs.length ≤ 1000) (hm : mayF 27 f (ints rs) = true) :
    Calls Tryd.prog 10 #[.agg #[.int .u64 f.kind, .int .u64 f.id, .int .u64 f.off, .int .u64 f.max, .int .u64 f.code, .int .u64 f.seq, .int .u64 f.prior, .int .u64 f.delay, .bool f.fin, .string ⟨f.data.toArray⟩, .string ⟨f.cid.toArray⟩, .string ⟨f.token.toArray⟩, .slice f.set.a f.set.n f.set.c]] w fun e w' => e = .returned (.tuple #[.string ⟨(putL f rs).toArray⟩, .int .i64 0]) ∧ Below w.heap.size w w' := by
  obtain ⟨hks, hHas, hnb⟩ := may_kind hm
  have hbd := may_bounds (k := 27) hk hm
  have CM := Lib.hid (fun W (h : Rd W (.slice f.set.a f.set.n f.set.c) (ints rs)) => rmayf 27 f (ints rs) W hk hp h (ints_pos rs) (by rw [ints_len]; exact hl) (by omega) (by omega) (by omega))
  rw [hm] at CM
  have HP : Hid (putL f rs = _) := Lib.hid (putL_27 f rs hk hHas)
  have CK : Hid (∀ W, Calls Tryd.prog 26 #[.int .u64 27] W fun e w' => e = .returned (.string ⟨(pt 27).toArray⟩) ∧ Below W.heap.size W w') := Lib.hid (fun W => rv_ok 27 W (by decide) (by decide))
  have hsk := pt_le8 27 (by decide)
  obtain ⟨sk, Ek⟩ : ∃ s, pt 27 = s := ⟨_, rfl⟩
  rw [Ek] at CK HP hsk
  have f2 : ¬ 9223372036854775807 < sk.length + f.token.length := by omega
  have HC : Hid ((⟨sk.toArray⟩ : ByteArray) ++ ⟨f.token.toArray⟩ = ⟨(putL f rs).toArray⟩) := Lib.hid (by rw [HP.out] <;> (apply ByteArray.ext; simp))
  generalize putL f rs = R at *
  have HFR : Hid (FrD w.heap.size f (w.alloc (.cells #[.int .u64 f.kind, .int .u64 f.id, .int .u64 f.off, .int .u64 f.max, .int .u64 f.code, .int .u64 f.seq, .int .u64 f.prior, .int .u64 f.delay, .bool f.fin, .string ⟨f.data.toArray⟩, .string ⟨f.cid.toArray⟩, .string ⟨f.token.toArray⟩, .slice f.set.a f.set.n f.set.c] 36 (0, 0)))) := Lib.hid (World.alloc_heap_new w _)
  have HB0 : Hid (Below w.heap.size w (w.alloc (.cells #[.int .u64 f.kind, .int .u64 f.id, .int .u64 f.off, .int .u64 f.max, .int .u64 f.code, .int .u64 f.seq, .int .u64 f.prior, .int .u64 f.delay, .bool f.fin, .string ⟨f.data.toArray⟩, .string ⟨f.cid.toArray⟩, .string ⟨f.token.toArray⟩, .slice f.set.a f.set.n f.set.c] 36 (0, 0)))) := Lib.hid ((Below.refl w.heap.size w).alloc (Nat.le_refl _) _)
  have HRD := Lib.hid (hrd.below HB0.out)
  have HK := Lib.hid hk
  clear HP hm hp hrd hk hks hHas hnb hbd hl Ek 
  go_enter Tryd.func10, Tryd.ntmps10
  go_wp2_with fail
  refine (CM.out _ HRD.out).mono ?_
  rintro e w1 ⟨rfl, hb⟩
  have HF1 := Lib.hid (HFR.out.keep hb)
  have HB1 := Lib.hid (HB0.out.trans (hb.mono HB0.out.size))
  have c0 := HF1.out.cell0
  rw [HK.out] at c0
  clear hb HRD CM
  go_wp2_with fail
  refine (CK.out _).mono ?_
  rintro e w2 ⟨rfl, hb⟩
  have HF2 := Lib.hid (HF1.out.keep hb)
  have HB2 := Lib.hid (HB1.out.trans (hb.mono HB1.out.size))
  have d0 := HF2.out.cell0
  rw [HK.out] at d0
  clear hb c0
  have d1 := HF2.out.cell11
  go_wp2
  go_ret2
  exact ⟨by rw [← HC.out]; rfl, HB2.out⟩
set_option maxHeartbeats 8000000 in
theorem rput_28 (f : Frm) (rs : List (Nat × Nat)) (w : World) (hk : f.kind = 28) (hp : ∀ j, 0 ≤ nm f j) (hrd : Rd w (.slice f.set.a f.set.n f.set.c) (ints rs)) (hl : rs.length ≤ 1000) (hm : mayF 28 f (ints rs) = true) :
    Calls Tryd.prog 10 #[.agg #[.int .u64 f.kind, .int .u64 f.id, .int .u64 f.off, .int .u64 f.max, .int .u64 f.code, .int .u64 f.seq, .int .u64 f.prior, .int .u64 f.delay, .bool f.fin, .string ⟨f.data.toArray⟩, .string ⟨f.cid.toArray⟩, .string ⟨f.token.toArray⟩, .slice f.set.a f.set.n f.set.c]] w fun e w' => e = .returned (.tuple #[.string ⟨(putL f rs).toArray⟩, .int .i64 0]) ∧ Below w.heap.size w w' := by
  obtain ⟨hks, hHas, hnb⟩ := may_kind hm
  have hbd := may_bounds (k := 28) hk hm
  have CM := Lib.hid (fun W (h : Rd W (.slice f.set.a f.set.n f.set.c) (ints rs)) => rmayf 28 f (ints rs) W hk hp h (ints_pos rs) (by rw [ints_len]; exact hl) (by omega) (by omega) (by omega))
  rw [hm] at CM
  have HP : Hid (putL f rs = _) := Lib.hid (putL_28 f rs hk hHas)
  have hz2 : 0 ≤ f.code := hp 2
  have hy2 : f.code ≤ 4611686018427387903 := numB_nm hnb 2 (by decide)
  have hz6 : 0 ≤ f.delay := hp 6
  have hy6 : f.delay ≤ 4611686018427387903 := numB_nm hnb 6 (by decide)
  have CK : Hid (∀ W, Calls Tryd.prog 26 #[.int .u64 28] W fun e w' => e = .returned (.string ⟨(pt 28).toArray⟩) ∧ Below W.heap.size W w') := Lib.hid (fun W => rv_ok 28 W (by decide) (by decide))
  have hsk := pt_le8 28 (by decide)
  have Ccode := Lib.hid (fun W => rv_ok f.code W hz2 hy2)
  have hscode := pt_le8 f.code.toNat (by omega)
  have Cdelay := Lib.hid (fun W => rv_ok f.delay W hz6 hy6)
  have hsdelay := pt_le8 f.delay.toNat (by omega)
  have Cdata := Lib.hid (fun W => text_any f.data W (by omega))
  have hsdata : (pt f.data.length ++ f.data).length ≤ 2000 := by
    have := pt_le8 f.data.length (by omega)
    rw [List.length_append]; omega
  obtain ⟨sk, Ek⟩ : ∃ s, pt 28 = s := ⟨_, rfl⟩
  rw [Ek] at CK HP hsk
  obtain ⟨scode, Ecode⟩ : ∃ s, pt f.code.toNat = s := ⟨_, rfl⟩
  rw [Ecode] at Ccode HP hscode
  obtain ⟨sdelay, Edelay⟩ : ∃ s, pt f.delay.toNat = s := ⟨_, rfl⟩
  rw [Edelay] at Cdelay HP hsdelay
  obtain ⟨sdata, Edata⟩ : ∃ s, pt f.data.length ++ f.data = s := ⟨_, rfl⟩
  rw [Edata] at Cdata HP hsdata
  have f2 : ¬ 9223372036854775807 < sk.length + scode.length := by omega
  have f3 : ¬ 9223372036854775807 < sk.length + scode.length + sdelay.length := by omega
  have f4 : ¬ 9223372036854775807 < sk.length + scode.length + sdelay.length + sdata.length := by omega
  have HC : Hid ((⟨sk.toArray⟩ : ByteArray) ++ ⟨scode.toArray⟩ ++ ⟨sdelay.toArray⟩ ++ ⟨sdata.toArray⟩ = ⟨(putL f rs).toArray⟩) := Lib.hid (by rw [HP.out] <;> (apply ByteArray.ext; simp))
  generalize putL f rs = R at *
  have HFR : Hid (FrD w.heap.size f (w.alloc (.cells #[.int .u64 f.kind, .int .u64 f.id, .int .u64 f.off, .int .u64 f.max, .int .u64 f.code, .int .u64 f.seq, .int .u64 f.prior, .int .u64 f.delay, .bool f.fin, .string ⟨f.data.toArray⟩, .string ⟨f.cid.toArray⟩, .string ⟨f.token.toArray⟩, .slice f.set.a f.set.n f.set.c] 36 (0, 0)))) := Lib.hid (World.alloc_heap_new w _)
  have HB0 : Hid (Below w.heap.size w (w.alloc (.cells #[.int .u64 f.kind, .int .u64 f.id, .int .u64 f.off, .int .u64 f.max, .int .u64 f.code, .int .u64 f.seq, .int .u64 f.prior, .int .u64 f.delay, .bool f.fin, .string ⟨f.data.toArray⟩, .string ⟨f.cid.toArray⟩, .string ⟨f.token.toArray⟩, .slice f.set.a f.set.n f.set.c] 36 (0, 0)))) := Lib.hid ((Below.refl w.heap.size w).alloc (Nat.le_refl _) _)
  have HRD := Lib.hid (hrd.below HB0.out)
  have HK := Lib.hid hk
  clear HP hm hp hrd hk hks hHas hnb hbd hl Ek Ecode Edelay Edata hz2 hy2 hz6 hy6
  go_enter Tryd.func10, Tryd.ntmps10
  go_wp2_with fail
  refine (CM.out _ HRD.out).mono ?_
  rintro e w1 ⟨rfl, hb⟩
  have HF1 := Lib.hid (HFR.out.keep hb)
  have HB1 := Lib.hid (HB0.out.trans (hb.mono HB0.out.size))
  have c0 := HF1.out.cell0
  rw [HK.out] at c0
  clear hb HRD CM
  go_wp2_with fail
  refine (CK.out _).mono ?_
  rintro e w2 ⟨rfl, hb⟩
  have HF2 := Lib.hid (HF1.out.keep hb)
  have HB2 := Lib.hid (HB1.out.trans (hb.mono HB1.out.size))
  have d0 := HF2.out.cell0
  rw [HK.out] at d0
  clear hb c0
  go_wp2_with fail
  refine wp_region_noPanic ?_
  refine wp_region_held_drew (S := fun W' : World => FrD w.heap.size f W' ∧ Below w.heap.size w W') (by kernel_rfl) ?_ (fun hHeld => ?_)
  · exact ⟨HF2.out, Below.drew HB2.out⟩
  refine wpAnyH_take (i := 0) (v := ?_) rfl (by kernel_rfl) (by kernel_rfl) (by kernel_rfl) (fun _ _ _ h => h) (Or.inl ⟨by rfl, ?_⟩) (by assumption) ?_
  rotate_left
  · (intro w hSw; (obtain ⟨hSf, hSb⟩ := hSw; have p1 := hSf.cell1; have p2 := hSf.cell2; have p3 := hSf.cell3; have p4 := hSf.cell4; have p5 := hSf.cell5; have p6 := hSf.cell6; have p7 := hSf.cell7; have p8 := hSf.cell8; have p9 := hSf.cell9; have p10 := hSf.cell10; have p11 := hSf.cell11; have p12 := hSf.cell12; clear hSf hSb); go_simp; (try with_reducible rfl))
  try simp only [Act.put, List.getElem_toArray, List.getElem_cons_zero, List.getElem_cons_succ, List.setIfInBounds_toArray, List.set_cons_zero, List.set_cons_succ]
  refine wpAnyH_take (i := 1) (v := ?_) rfl (by kernel_rfl) (by kernel_rfl) (by kernel_rfl) (fun _ _ _ h => h) (Or.inl ⟨by rfl, ?_⟩) (by assumption) ?_
  rotate_left
  · (intro w hSw; (obtain ⟨hSf, hSb⟩ := hSw; have p1 := hSf.cell1; have p2 := hSf.cell2; have p3 := hSf.cell3; have p4 := hSf.cell4; have p5 := hSf.cell5; have p6 := hSf.cell6; have p7 := hSf.cell7; have p8 := hSf.cell8; have p9 := hSf.cell9; have p10 := hSf.cell10; have p11 := hSf.cell11; have p12 := hSf.cell12; clear hSf hSb); go_simp; (try with_reducible rfl))
  try simp only [Act.put, List.getElem_toArray, List.getElem_cons_zero, List.getElem_cons_succ, List.setIfInBounds_toArray, List.set_cons_zero, List.set_cons_succ]
  refine wpAnyH_take (i := 2) (v := ?_) rfl (by kernel_rfl) (by kernel_rfl) (by kernel_rfl) (fun _ _ _ h => h) (Or.inl ⟨by rfl, ?_⟩) (by assumption) ?_
  rotate_left
  · (intro w hSw; (obtain ⟨hSf, hSb⟩ := hSw; have p1 := hSf.cell1; have p2 := hSf.cell2; have p3 := hSf.cell3; have p4 := hSf.cell4; have p5 := hSf.cell5; have p6 := hSf.cell6; have p7 := hSf.cell7; have p8 := hSf.cell8; have p9 := hSf.cell9; have p10 := hSf.cell10; have p11 := hSf.cell11; have p12 := hSf.cell12; clear hSf hSb); go_simp; (try with_reducible rfl))
  try simp only [Act.put, List.getElem_toArray, List.getElem_cons_zero, List.getElem_cons_succ, List.setIfInBounds_toArray, List.set_cons_zero, List.set_cons_succ]
  refine wpAnyH_take (i := 5) (v := ?_) rfl (by kernel_rfl) (by kernel_rfl) (by kernel_rfl) (fun _ _ _ h => h) (Or.inl ⟨by rfl, ?_⟩) (by assumption) ?_
  rotate_left
  · (intro w hSw; (obtain ⟨hSf, hSb⟩ := hSw; have p1 := hSf.cell1; have p2 := hSf.cell2; have p3 := hSf.cell3; have p4 := hSf.cell4; have p5 := hSf.cell5; have p6 := hSf.cell6; have p7 := hSf.cell7; have p8 := hSf.cell8; have p9 := hSf.cell9; have p10 := hSf.cell10; have p11 := hSf.cell11; have p12 := hSf.cell12; clear hSf hSb); go_simp; (try with_reducible rfl))
  try simp only [Act.put, List.getElem_toArray, List.getElem_cons_zero, List.getElem_cons_succ, List.setIfInBounds_toArray, List.set_cons_zero, List.set_cons_succ]
  refine wpAnyH_take (i := 6) (v := ?_) rfl (by kernel_rfl) (by kernel_rfl) (by kernel_rfl) (fun _ _ _ h => h) (Or.inl ⟨by rfl, ?_⟩) (by assumption) ?_
  rotate_left
  · (intro w hSw; (obtain ⟨hSf, hSb⟩ := hSw; have p1 := hSf.cell1; have p2 := hSf.cell2; have p3 := hSf.cell3; have p4 := hSf.cell4; have p5 := hSf.cell5; have p6 := hSf.cell6; have p7 := hSf.cell7; have p8 := hSf.cell8; have p9 := hSf.cell9; have p10 := hSf.cell10; have p11 := hSf.cell11; have p12 := hSf.cell12; clear hSf hSb); go_simp; (try with_reducible rfl))
  try simp only [Act.put, List.getElem_toArray, List.getElem_cons_zero, List.getElem_cons_succ, List.setIfInBounds_toArray, List.set_cons_zero, List.set_cons_succ]
  refine wpAnyH_take (i := 9) (v := ?_) rfl (by kernel_rfl) (by kernel_rfl) (by kernel_rfl) (fun _ _ _ h => h) (Or.inl ⟨by rfl, ?_⟩) (by assumption) ?_
  rotate_left
  · (intro w hSw; (obtain ⟨hSf, hSb⟩ := hSw; have p1 := hSf.cell1; have p2 := hSf.cell2; have p3 := hSf.cell3; have p4 := hSf.cell4; have p5 := hSf.cell5; have p6 := hSf.cell6; have p7 := hSf.cell7; have p8 := hSf.cell8; have p9 := hSf.cell9; have p10 := hSf.cell10; have p11 := hSf.cell11; have p12 := hSf.cell12; clear hSf hSb); go_simp; (try with_reducible rfl))
  try simp only [Act.put, List.getElem_toArray, List.getElem_cons_zero, List.getElem_cons_succ, List.setIfInBounds_toArray, List.set_cons_zero, List.set_cons_succ]
  refine wpAnyH_take (i := 10) (v := ?_) rfl (by kernel_rfl) (by kernel_rfl) (by kernel_rfl) (fun _ _ _ h => h) (Or.inl ⟨by rfl, ?_⟩) (by assumption) ?_
  rotate_left
  · (intro w hSw; (obtain ⟨hSf, hSb⟩ := hSw; have p1 := hSf.cell1; have p2 := hSf.cell2; have p3 := hSf.cell3; have p4 := hSf.cell4; have p5 := hSf.cell5; have p6 := hSf.cell6; have p7 := hSf.cell7; have p8 := hSf.cell8; have p9 := hSf.cell9; have p10 := hSf.cell10; have p11 := hSf.cell11; have p12 := hSf.cell12; clear hSf hSb); go_simp; (try with_reducible rfl))
  try simp only [Act.put, List.getElem_toArray, List.getElem_cons_zero, List.getElem_cons_succ, List.setIfInBounds_toArray, List.set_cons_zero, List.set_cons_succ]
  refine wpAnyH_ready (rs := [3]) (by kernel_rfl) (by simp) ?_
  refine AllReadyH.cons rfl (fun K hK => ?_) AllReadyH.nil
  rw [if_pos (by rfl)]
  go_simp
  with_reducible refine (Ccode.out _).mono ?_
  rintro e u1 ⟨rfl, hb⟩
  refine hK.out _ _ ?_ (fun hHeld => ?_)
  · exact ⟨hHeld.1.keep hb, hHeld.2.trans (hb.mono hHeld.2.size)⟩
  clear hK K
  try simp only [Act.put, List.getElem_toArray, List.getElem_cons_zero, List.getElem_cons_succ, List.setIfInBounds_toArray, List.set_cons_zero, List.set_cons_succ]
  refine wpAnyH_take (i := 4) (v := ?_) rfl (by kernel_rfl) (by kernel_rfl) (by kernel_rfl) (fun _ _ _ h => h) (Or.inl ⟨by rfl, ?_⟩) (by assumption) ?_
  rotate_left
  · (intro w hSw; (obtain ⟨hSf, hSb⟩ := hSw; have p1 := hSf.cell1; have p2 := hSf.cell2; have p3 := hSf.cell3; have p4 := hSf.cell4; have p5 := hSf.cell5; have p6 := hSf.cell6; have p7 := hSf.cell7; have p8 := hSf.cell8; have p9 := hSf.cell9; have p10 := hSf.cell10; have p11 := hSf.cell11; have p12 := hSf.cell12; clear hSf hSb); go_simp; (try with_reducible rfl))
  try simp only [Act.put, List.getElem_toArray, List.getElem_cons_zero, List.getElem_cons_succ, List.setIfInBounds_toArray, List.set_cons_zero, List.set_cons_succ]
  refine wpAnyH_ready (rs := [7]) (by kernel_rfl) (by simp) ?_
  refine AllReadyH.cons rfl (fun K hK => ?_) AllReadyH.nil
  rw [if_pos (by rfl)]
  go_simp
  with_reducible refine (Cdelay.out _).mono ?_
  rintro e u2 ⟨rfl, hb⟩
  refine hK.out _ _ ?_ (fun hHeld => ?_)
  · exact ⟨hHeld.1.keep hb, hHeld.2.trans (hb.mono hHeld.2.size)⟩
  clear hK K
  try simp only [Act.put, List.getElem_toArray, List.getElem_cons_zero, List.getElem_cons_succ, List.setIfInBounds_toArray, List.set_cons_zero, List.set_cons_succ]
  refine wpAnyH_take (i := 8) (v := ?_) rfl (by kernel_rfl) (by kernel_rfl) (by kernel_rfl) (fun _ _ _ h => h) (Or.inl ⟨by rfl, ?_⟩) (by assumption) ?_
  rotate_left
  · (intro w hSw; (obtain ⟨hSf, hSb⟩ := hSw; have p1 := hSf.cell1; have p2 := hSf.cell2; have p3 := hSf.cell3; have p4 := hSf.cell4; have p5 := hSf.cell5; have p6 := hSf.cell6; have p7 := hSf.cell7; have p8 := hSf.cell8; have p9 := hSf.cell9; have p10 := hSf.cell10; have p11 := hSf.cell11; have p12 := hSf.cell12; clear hSf hSb); go_simp; (try with_reducible rfl))
  try simp only [Act.put, List.getElem_toArray, List.getElem_cons_zero, List.getElem_cons_succ, List.setIfInBounds_toArray, List.set_cons_zero, List.set_cons_succ]
  refine wpAnyH_ready (rs := [11]) (by kernel_rfl) (by simp) ?_
  refine AllReadyH.cons rfl (fun K hK => ?_) AllReadyH.nil
  rw [if_pos (by rfl)]
  go_simp
  with_reducible refine (Cdata.out _).mono ?_
  rintro e u3 ⟨rfl, hb⟩
  refine hK.out _ _ ?_ (fun hHeld => ?_)
  · exact ⟨hHeld.1.keep hb, hHeld.2.trans (hb.mono hHeld.2.size)⟩
  clear hK K
  try simp only [Act.put, List.getElem_toArray, List.getElem_cons_zero, List.getElem_cons_succ, List.setIfInBounds_toArray, List.set_cons_zero, List.set_cons_succ]
  refine wpAnyH_take (i := 12) (v := ?_) rfl (by kernel_rfl) (by kernel_rfl) (by kernel_rfl) (fun _ _ _ h => h) (Or.inl ⟨by rfl, ?_⟩) (by assumption) ?_
  rotate_left
  · (intro w hSw; (obtain ⟨hSf, hSb⟩ := hSw; have p1 := hSf.cell1; have p2 := hSf.cell2; have p3 := hSf.cell3; have p4 := hSf.cell4; have p5 := hSf.cell5; have p6 := hSf.cell6; have p7 := hSf.cell7; have p8 := hSf.cell8; have p9 := hSf.cell9; have p10 := hSf.cell10; have p11 := hSf.cell11; have p12 := hSf.cell12; clear hSf hSb); go_simp; (try with_reducible rfl))
  try simp only [Act.put, List.getElem_toArray, List.getElem_cons_zero, List.getElem_cons_succ, List.setIfInBounds_toArray, List.set_cons_zero, List.set_cons_succ]
  refine wpAnyH_take (i := 13) (v := ?_) rfl (by kernel_rfl) (by kernel_rfl) (by kernel_rfl) (fun _ _ _ h => h) (Or.inl ⟨by rfl, ?_⟩) (by assumption) ?_
  rotate_left
  · (intro w hSw; (obtain ⟨hSf, hSb⟩ := hSw; have p1 := hSf.cell1; have p2 := hSf.cell2; have p3 := hSf.cell3; have p4 := hSf.cell4; have p5 := hSf.cell5; have p6 := hSf.cell6; have p7 := hSf.cell7; have p8 := hSf.cell8; have p9 := hSf.cell9; have p10 := hSf.cell10; have p11 := hSf.cell11; have p12 := hSf.cell12; clear hSf hSb); go_simp; (try with_reducible rfl))
  try simp only [Act.put, List.getElem_toArray, List.getElem_cons_zero, List.getElem_cons_succ, List.setIfInBounds_toArray, List.set_cons_zero, List.set_cons_succ]
  refine wpAnyH_take (i := 14) (v := ?_) rfl (by kernel_rfl) (by kernel_rfl) (by kernel_rfl) (fun _ _ _ h => h) (Or.inl ⟨by rfl, ?_⟩) (by assumption) ?_
  rotate_left
  · (intro w hSw; (obtain ⟨hSf, hSb⟩ := hSw; have p1 := hSf.cell1; have p2 := hSf.cell2; have p3 := hSf.cell3; have p4 := hSf.cell4; have p5 := hSf.cell5; have p6 := hSf.cell6; have p7 := hSf.cell7; have p8 := hSf.cell8; have p9 := hSf.cell9; have p10 := hSf.cell10; have p11 := hSf.cell11; have p12 := hSf.cell12; clear hSf hSb); go_simp; (try with_reducible rfl))
  try simp only [Act.put, List.getElem_toArray, List.getElem_cons_zero, List.getElem_cons_succ, List.setIfInBounds_toArray, List.set_cons_zero, List.set_cons_succ]
  refine wpAnyH_done (by kernel_rfl) (NoPanic.normal ?_) _
  have HB := Lib.hid hHeld.2
  clear hHeld
  go_wp2
  go_ret2
  exact ⟨by rw [← HC.out]; rfl, HB.out⟩
set_option maxHeartbeats 8000000 in
theorem rput_29 (f : Frm) (rs : List (Nat × Nat)) (w : World) (hk : f.kind = 29) (hp : ∀ j, 0 ≤ nm f j) (hrd : Rd w (.slice f.set.a f.set.n f.set.c) (ints rs)) (hl : rs.length ≤ 1000) (hm : mayF 29 f (ints rs) = true) :
    Calls Tryd.prog 10 #[.agg #[.int .u64 f.kind, .int .u64 f.id, .int .u64 f.off, .int .u64 f.max, .int .u64 f.code, .int .u64 f.seq, .int .u64 f.prior, .int .u64 f.delay, .bool f.fin, .string ⟨f.data.toArray⟩, .string ⟨f.cid.toArray⟩, .string ⟨f.token.toArray⟩, .slice f.set.a f.set.n f.set.c]] w fun e w' => e = .returned (.tuple #[.string ⟨(putL f rs).toArray⟩, .int .i64 0]) ∧ Below w.heap.size w w' := by
  obtain ⟨hks, hHas, hnb⟩ := may_kind hm
  have hbd := may_bounds (k := 29) hk hm
  have CM := Lib.hid (fun W (h : Rd W (.slice f.set.a f.set.n f.set.c) (ints rs)) => rmayf 29 f (ints rs) W hk hp h (ints_pos rs) (by rw [ints_len]; exact hl) (by omega) (by omega) (by omega))
  rw [hm] at CM
  have HP : Hid (putL f rs = _) := Lib.hid (putL_29 f rs hk hHas)
  have hz2 : 0 ≤ f.code := hp 2
  have hy2 : f.code ≤ 4611686018427387903 := numB_nm hnb 2 (by decide)
  have CK : Hid (∀ W, Calls Tryd.prog 26 #[.int .u64 29] W fun e w' => e = .returned (.string ⟨(pt 29).toArray⟩) ∧ Below W.heap.size W w') := Lib.hid (fun W => rv_ok 29 W (by decide) (by decide))
  have hsk := pt_le8 29 (by decide)
  have Ccode := Lib.hid (fun W => rv_ok f.code W hz2 hy2)
  have hscode := pt_le8 f.code.toNat (by omega)
  have Cdata := Lib.hid (fun W => text_any f.data W (by omega))
  have hsdata : (pt f.data.length ++ f.data).length ≤ 2000 := by
    have := pt_le8 f.data.length (by omega)
    rw [List.length_append]; omega
  obtain ⟨sk, Ek⟩ : ∃ s, pt 29 = s := ⟨_, rfl⟩
  rw [Ek] at CK HP hsk
  obtain ⟨scode, Ecode⟩ : ∃ s, pt f.code.toNat = s := ⟨_, rfl⟩
  rw [Ecode] at Ccode HP hscode
  obtain ⟨sdata, Edata⟩ : ∃ s, pt f.data.length ++ f.data = s := ⟨_, rfl⟩
  rw [Edata] at Cdata HP hsdata
  have f2 : ¬ 9223372036854775807 < sk.length + scode.length := by omega
  have f3 : ¬ 9223372036854775807 < sk.length + scode.length + sdata.length := by omega
  have HC : Hid ((⟨sk.toArray⟩ : ByteArray) ++ ⟨scode.toArray⟩ ++ ⟨sdata.toArray⟩ = ⟨(putL f rs).toArray⟩) := Lib.hid (by rw [HP.out] <;> (apply ByteArray.ext; simp))
  generalize putL f rs = R at *
  have HFR : Hid (FrD w.heap.size f (w.alloc (.cells #[.int .u64 f.kind, .int .u64 f.id, .int .u64 f.off, .int .u64 f.max, .int .u64 f.code, .int .u64 f.seq, .int .u64 f.prior, .int .u64 f.delay, .bool f.fin, .string ⟨f.data.toArray⟩, .string ⟨f.cid.toArray⟩, .string ⟨f.token.toArray⟩, .slice f.set.a f.set.n f.set.c] 36 (0, 0)))) := Lib.hid (World.alloc_heap_new w _)
  have HB0 : Hid (Below w.heap.size w (w.alloc (.cells #[.int .u64 f.kind, .int .u64 f.id, .int .u64 f.off, .int .u64 f.max, .int .u64 f.code, .int .u64 f.seq, .int .u64 f.prior, .int .u64 f.delay, .bool f.fin, .string ⟨f.data.toArray⟩, .string ⟨f.cid.toArray⟩, .string ⟨f.token.toArray⟩, .slice f.set.a f.set.n f.set.c] 36 (0, 0)))) := Lib.hid ((Below.refl w.heap.size w).alloc (Nat.le_refl _) _)
  have HRD := Lib.hid (hrd.below HB0.out)
  have HK := Lib.hid hk
  clear HP hm hp hrd hk hks hHas hnb hbd hl Ek Ecode Edata hz2 hy2
  go_enter Tryd.func10, Tryd.ntmps10
  go_wp2_with fail
  refine (CM.out _ HRD.out).mono ?_
  rintro e w1 ⟨rfl, hb⟩
  have HF1 := Lib.hid (HFR.out.keep hb)
  have HB1 := Lib.hid (HB0.out.trans (hb.mono HB0.out.size))
  have c0 := HF1.out.cell0
  rw [HK.out] at c0
  clear hb HRD CM
  go_wp2_with fail
  refine (CK.out _).mono ?_
  rintro e w2 ⟨rfl, hb⟩
  have HF2 := Lib.hid (HF1.out.keep hb)
  have HB2 := Lib.hid (HB1.out.trans (hb.mono HB1.out.size))
  have d0 := HF2.out.cell0
  rw [HK.out] at d0
  clear hb c0
  go_wp2_with fail
  refine wp_region_noPanic ?_
  refine wp_region_held_drew (S := fun W' : World => FrD w.heap.size f W' ∧ Below w.heap.size w W') (by kernel_rfl) ?_ (fun hHeld => ?_)
  · exact ⟨HF2.out, Below.drew HB2.out⟩
  refine wpAnyH_take (i := 0) (v := ?_) rfl (by kernel_rfl) (by kernel_rfl) (by kernel_rfl) (fun _ _ _ h => h) (Or.inl ⟨by rfl, ?_⟩) (by assumption) ?_
  rotate_left
  · (intro w hSw; (obtain ⟨hSf, hSb⟩ := hSw; have p1 := hSf.cell1; have p2 := hSf.cell2; have p3 := hSf.cell3; have p4 := hSf.cell4; have p5 := hSf.cell5; have p6 := hSf.cell6; have p7 := hSf.cell7; have p8 := hSf.cell8; have p9 := hSf.cell9; have p10 := hSf.cell10; have p11 := hSf.cell11; have p12 := hSf.cell12; clear hSf hSb); go_simp; (try with_reducible rfl))
  try simp only [Act.put, List.getElem_toArray, List.getElem_cons_zero, List.getElem_cons_succ, List.setIfInBounds_toArray, List.set_cons_zero, List.set_cons_succ]
  refine wpAnyH_take (i := 1) (v := ?_) rfl (by kernel_rfl) (by kernel_rfl) (by kernel_rfl) (fun _ _ _ h => h) (Or.inl ⟨by rfl, ?_⟩) (by assumption) ?_
  rotate_left
  · (intro w hSw; (obtain ⟨hSf, hSb⟩ := hSw; have p1 := hSf.cell1; have p2 := hSf.cell2; have p3 := hSf.cell3; have p4 := hSf.cell4; have p5 := hSf.cell5; have p6 := hSf.cell6; have p7 := hSf.cell7; have p8 := hSf.cell8; have p9 := hSf.cell9; have p10 := hSf.cell10; have p11 := hSf.cell11; have p12 := hSf.cell12; clear hSf hSb); go_simp; (try with_reducible rfl))
  try simp only [Act.put, List.getElem_toArray, List.getElem_cons_zero, List.getElem_cons_succ, List.setIfInBounds_toArray, List.set_cons_zero, List.set_cons_succ]
  refine wpAnyH_take (i := 2) (v := ?_) rfl (by kernel_rfl) (by kernel_rfl) (by kernel_rfl) (fun _ _ _ h => h) (Or.inl ⟨by rfl, ?_⟩) (by assumption) ?_
  rotate_left
  · (intro w hSw; (obtain ⟨hSf, hSb⟩ := hSw; have p1 := hSf.cell1; have p2 := hSf.cell2; have p3 := hSf.cell3; have p4 := hSf.cell4; have p5 := hSf.cell5; have p6 := hSf.cell6; have p7 := hSf.cell7; have p8 := hSf.cell8; have p9 := hSf.cell9; have p10 := hSf.cell10; have p11 := hSf.cell11; have p12 := hSf.cell12; clear hSf hSb); go_simp; (try with_reducible rfl))
  try simp only [Act.put, List.getElem_toArray, List.getElem_cons_zero, List.getElem_cons_succ, List.setIfInBounds_toArray, List.set_cons_zero, List.set_cons_succ]
  refine wpAnyH_take (i := 5) (v := ?_) rfl (by kernel_rfl) (by kernel_rfl) (by kernel_rfl) (fun _ _ _ h => h) (Or.inl ⟨by rfl, ?_⟩) (by assumption) ?_
  rotate_left
  · (intro w hSw; (obtain ⟨hSf, hSb⟩ := hSw; have p1 := hSf.cell1; have p2 := hSf.cell2; have p3 := hSf.cell3; have p4 := hSf.cell4; have p5 := hSf.cell5; have p6 := hSf.cell6; have p7 := hSf.cell7; have p8 := hSf.cell8; have p9 := hSf.cell9; have p10 := hSf.cell10; have p11 := hSf.cell11; have p12 := hSf.cell12; clear hSf hSb); go_simp; (try with_reducible rfl))
  try simp only [Act.put, List.getElem_toArray, List.getElem_cons_zero, List.getElem_cons_succ, List.setIfInBounds_toArray, List.set_cons_zero, List.set_cons_succ]
  refine wpAnyH_take (i := 6) (v := ?_) rfl (by kernel_rfl) (by kernel_rfl) (by kernel_rfl) (fun _ _ _ h => h) (Or.inl ⟨by rfl, ?_⟩) (by assumption) ?_
  rotate_left
  · (intro w hSw; (obtain ⟨hSf, hSb⟩ := hSw; have p1 := hSf.cell1; have p2 := hSf.cell2; have p3 := hSf.cell3; have p4 := hSf.cell4; have p5 := hSf.cell5; have p6 := hSf.cell6; have p7 := hSf.cell7; have p8 := hSf.cell8; have p9 := hSf.cell9; have p10 := hSf.cell10; have p11 := hSf.cell11; have p12 := hSf.cell12; clear hSf hSb); go_simp; (try with_reducible rfl))
  try simp only [Act.put, List.getElem_toArray, List.getElem_cons_zero, List.getElem_cons_succ, List.setIfInBounds_toArray, List.set_cons_zero, List.set_cons_succ]
  refine wpAnyH_ready (rs := [3]) (by kernel_rfl) (by simp) ?_
  refine AllReadyH.cons rfl (fun K hK => ?_) AllReadyH.nil
  rw [if_pos (by rfl)]
  go_simp
  with_reducible refine (Ccode.out _).mono ?_
  rintro e u1 ⟨rfl, hb⟩
  refine hK.out _ _ ?_ (fun hHeld => ?_)
  · exact ⟨hHeld.1.keep hb, hHeld.2.trans (hb.mono hHeld.2.size)⟩
  clear hK K
  try simp only [Act.put, List.getElem_toArray, List.getElem_cons_zero, List.getElem_cons_succ, List.setIfInBounds_toArray, List.set_cons_zero, List.set_cons_succ]
  refine wpAnyH_take (i := 4) (v := ?_) rfl (by kernel_rfl) (by kernel_rfl) (by kernel_rfl) (fun _ _ _ h => h) (Or.inl ⟨by rfl, ?_⟩) (by assumption) ?_
  rotate_left
  · (intro w hSw; (obtain ⟨hSf, hSb⟩ := hSw; have p1 := hSf.cell1; have p2 := hSf.cell2; have p3 := hSf.cell3; have p4 := hSf.cell4; have p5 := hSf.cell5; have p6 := hSf.cell6; have p7 := hSf.cell7; have p8 := hSf.cell8; have p9 := hSf.cell9; have p10 := hSf.cell10; have p11 := hSf.cell11; have p12 := hSf.cell12; clear hSf hSb); go_simp; (try with_reducible rfl))
  try simp only [Act.put, List.getElem_toArray, List.getElem_cons_zero, List.getElem_cons_succ, List.setIfInBounds_toArray, List.set_cons_zero, List.set_cons_succ]
  refine wpAnyH_ready (rs := [7]) (by kernel_rfl) (by simp) ?_
  refine AllReadyH.cons rfl (fun K hK => ?_) AllReadyH.nil
  rw [if_pos (by rfl)]
  go_simp
  with_reducible refine (Cdata.out _).mono ?_
  rintro e u2 ⟨rfl, hb⟩
  refine hK.out _ _ ?_ (fun hHeld => ?_)
  · exact ⟨hHeld.1.keep hb, hHeld.2.trans (hb.mono hHeld.2.size)⟩
  clear hK K
  try simp only [Act.put, List.getElem_toArray, List.getElem_cons_zero, List.getElem_cons_succ, List.setIfInBounds_toArray, List.set_cons_zero, List.set_cons_succ]
  refine wpAnyH_take (i := 8) (v := ?_) rfl (by kernel_rfl) (by kernel_rfl) (by kernel_rfl) (fun _ _ _ h => h) (Or.inl ⟨by rfl, ?_⟩) (by assumption) ?_
  rotate_left
  · (intro w hSw; (obtain ⟨hSf, hSb⟩ := hSw; have p1 := hSf.cell1; have p2 := hSf.cell2; have p3 := hSf.cell3; have p4 := hSf.cell4; have p5 := hSf.cell5; have p6 := hSf.cell6; have p7 := hSf.cell7; have p8 := hSf.cell8; have p9 := hSf.cell9; have p10 := hSf.cell10; have p11 := hSf.cell11; have p12 := hSf.cell12; clear hSf hSb); go_simp; (try with_reducible rfl))
  try simp only [Act.put, List.getElem_toArray, List.getElem_cons_zero, List.getElem_cons_succ, List.setIfInBounds_toArray, List.set_cons_zero, List.set_cons_succ]
  refine wpAnyH_take (i := 9) (v := ?_) rfl (by kernel_rfl) (by kernel_rfl) (by kernel_rfl) (fun _ _ _ h => h) (Or.inl ⟨by rfl, ?_⟩) (by assumption) ?_
  rotate_left
  · (intro w hSw; (obtain ⟨hSf, hSb⟩ := hSw; have p1 := hSf.cell1; have p2 := hSf.cell2; have p3 := hSf.cell3; have p4 := hSf.cell4; have p5 := hSf.cell5; have p6 := hSf.cell6; have p7 := hSf.cell7; have p8 := hSf.cell8; have p9 := hSf.cell9; have p10 := hSf.cell10; have p11 := hSf.cell11; have p12 := hSf.cell12; clear hSf hSb); go_simp; (try with_reducible rfl))
  try simp only [Act.put, List.getElem_toArray, List.getElem_cons_zero, List.getElem_cons_succ, List.setIfInBounds_toArray, List.set_cons_zero, List.set_cons_succ]
  refine wpAnyH_take (i := 10) (v := ?_) rfl (by kernel_rfl) (by kernel_rfl) (by kernel_rfl) (fun _ _ _ h => h) (Or.inl ⟨by rfl, ?_⟩) (by assumption) ?_
  rotate_left
  · (intro w hSw; (obtain ⟨hSf, hSb⟩ := hSw; have p1 := hSf.cell1; have p2 := hSf.cell2; have p3 := hSf.cell3; have p4 := hSf.cell4; have p5 := hSf.cell5; have p6 := hSf.cell6; have p7 := hSf.cell7; have p8 := hSf.cell8; have p9 := hSf.cell9; have p10 := hSf.cell10; have p11 := hSf.cell11; have p12 := hSf.cell12; clear hSf hSb); go_simp; (try with_reducible rfl))
  try simp only [Act.put, List.getElem_toArray, List.getElem_cons_zero, List.getElem_cons_succ, List.setIfInBounds_toArray, List.set_cons_zero, List.set_cons_succ]
  refine wpAnyH_done (by kernel_rfl) (NoPanic.normal ?_) _
  have HB := Lib.hid hHeld.2
  clear hHeld
  go_wp2
  go_ret2
  exact ⟨by rw [← HC.out]; rfl, HB.out⟩
set_option maxHeartbeats 8000000 in
theorem rput_8_10 (f : Frm) (rs : List (Nat × Nat)) (w : World) (hk : f.kind = 8) (hp : ∀ j, 0 ≤ nm f j) (hrd : Rd w (.slice f.set.a f.set.n f.set.c) (ints rs)) (hl : rs.length ≤ 1000) (hm : mayF 8 f (ints rs) = true) (hf : f.fin = false) (ho : f.off = 0) :
    Calls Tryd.prog 10 #[.agg #[.int .u64 f.kind, .int .u64 f.id, .int .u64 f.off, .int .u64 f.max, .int .u64 f.code, .int .u64 f.seq, .int .u64 f.prior, .int .u64 f.delay, .bool f.fin, .string ⟨f.data.toArray⟩, .string ⟨f.cid.toArray⟩, .string ⟨f.token.toArray⟩, .slice f.set.a f.set.n f.set.c]] w fun e w' => e = .returned (.tuple #[.string ⟨(putL f rs).toArray⟩, .int .i64 0]) ∧ Below w.heap.size w w' := by
  obtain ⟨hks, hHas, hnb⟩ := may_kind hm
  have hbd := may_bounds (k := 8) hk hm
  have CM := Lib.hid (fun W (h : Rd W (.slice f.set.a f.set.n f.set.c) (ints rs)) => rmayf 8 f (ints rs) W hk hp h (ints_pos rs) (by rw [ints_len]; exact hl) (by omega) (by omega) (by omega))
  rw [hm] at CM
  have HP : Hid (putL f rs = _) := Lib.hid (putL_8_10 f rs hk hHas hf ho)
  have hz0 : 0 ≤ f.id := hp 0
  have hy0 : f.id ≤ 4611686018427387903 := numB_nm hnb 0 (by decide)
  have CK : Hid (∀ W, Calls Tryd.prog 26 #[.int .u64 10] W fun e w' => e = .returned (.string ⟨(pt 10).toArray⟩) ∧ Below W.heap.size W w') := Lib.hid (fun W => rv_ok 10 W (by decide) (by decide))
  have CK0 : Hid (∀ W, Calls Tryd.prog 26 #[.int .u64 8] W fun e w' => e = .returned (.string ⟨(pt 8).toArray⟩) ∧ Below W.heap.size W w') := Lib.hid (fun W => rv_ok 8 W (by decide) (by decide))
  have hsk := pt_le8 10 (by decide)
  have Cid := Lib.hid (fun W => rv_ok f.id W hz0 hy0)
  have hsid := pt_le8 f.id.toNat (by omega)
  have Cdata := Lib.hid (fun W => text_any f.data W (by omega))
  have hsdata : (pt f.data.length ++ f.data).length ≤ 2000 := by
    have := pt_le8 f.data.length (by omega)
    rw [List.length_append]; omega
  obtain ⟨sk, Ek⟩ : ∃ s, pt 10 = s := ⟨_, rfl⟩
  rw [Ek] at CK HP hsk
  obtain ⟨sid, Eid⟩ : ∃ s, pt f.id.toNat = s := ⟨_, rfl⟩
  rw [Eid] at Cid HP hsid
  obtain ⟨sdata, Edata⟩ : ∃ s, pt f.data.length ++ f.data = s := ⟨_, rfl⟩
  rw [Edata] at Cdata HP hsdata
  have f2 : ¬ 9223372036854775807 < sk.length + sid.length := by omega
  have f3 : ¬ 9223372036854775807 < sk.length + sid.length + sdata.length := by omega
  have HC : Hid ((⟨sk.toArray⟩ : ByteArray) ++ ⟨sid.toArray⟩ ++ ⟨#[]⟩ ++ ⟨sdata.toArray⟩ = ⟨(putL f rs).toArray⟩) := Lib.hid (by rw [HP.out] <;> (apply ByteArray.ext; simp))
  generalize putL f rs = R at *
  have HFR : Hid (FrD w.heap.size f (w.alloc (.cells #[.int .u64 f.kind, .int .u64 f.id, .int .u64 f.off, .int .u64 f.max, .int .u64 f.code, .int .u64 f.seq, .int .u64 f.prior, .int .u64 f.delay, .bool f.fin, .string ⟨f.data.toArray⟩, .string ⟨f.cid.toArray⟩, .string ⟨f.token.toArray⟩, .slice f.set.a f.set.n f.set.c] 36 (0, 0)))) := Lib.hid (World.alloc_heap_new w _)
  have HB0 : Hid (Below w.heap.size w (w.alloc (.cells #[.int .u64 f.kind, .int .u64 f.id, .int .u64 f.off, .int .u64 f.max, .int .u64 f.code, .int .u64 f.seq, .int .u64 f.prior, .int .u64 f.delay, .bool f.fin, .string ⟨f.data.toArray⟩, .string ⟨f.cid.toArray⟩, .string ⟨f.token.toArray⟩, .slice f.set.a f.set.n f.set.c] 36 (0, 0)))) := Lib.hid ((Below.refl w.heap.size w).alloc (Nat.le_refl _) _)
  have HRD := Lib.hid (hrd.below HB0.out)
  have HK := Lib.hid hk
  have HFN := Lib.hid hf
  have HON := Lib.hid ho
  clear hf ho
  clear HP hm hp hrd hk hks hHas hnb hbd hl Ek Eid Edata hz0 hy0
  go_enter Tryd.func10, Tryd.ntmps10
  go_wp2_with fail
  refine (CM.out _ HRD.out).mono ?_
  rintro e w1 ⟨rfl, hb⟩
  have HF1 := Lib.hid (HFR.out.keep hb)
  have HB1 := Lib.hid (HB0.out.trans (hb.mono HB0.out.size))
  have c0 := HF1.out.cell0
  rw [HK.out] at c0
  clear hb HRD CM
  go_wp2_with fail
  refine (CK0.out _).mono ?_
  rintro e w2 ⟨rfl, hb⟩
  have HF2 := Lib.hid (HF1.out.keep hb)
  have HB2 := Lib.hid (HB1.out.trans (hb.mono HB1.out.size))
  have d0 := HF2.out.cell0
  rw [HK.out] at d0
  clear hb c0
  have d2 := HF2.out.cell2
  have d8 := HF2.out.cell8
  rw [HFN.out] at d8
  rw [HON.out] at d2
  go_wp2_with fail
  refine wp_region_noPanic ?_
  refine wp_region_held_drew (S := fun W' : World => FrD w.heap.size f W' ∧ Below w.heap.size w W') (by kernel_rfl) ?_ (fun hHeld => ?_)
  · exact ⟨HF2.out, Below.drew HB2.out⟩
  refine wpAnyH_take (i := 0) (v := ?_) rfl (by kernel_rfl) (by kernel_rfl) (by kernel_rfl) (fun _ _ _ h => h) (Or.inl ⟨by rfl, ?_⟩) (by assumption) ?_
  rotate_left
  · (intro w hSw; (obtain ⟨hSf, hSb⟩ := hSw; have p1 := hSf.cell1; have p2 := hSf.cell2; have p3 := hSf.cell3; have p4 := hSf.cell4; have p5 := hSf.cell5; have p6 := hSf.cell6; have p7 := hSf.cell7; have p8 := hSf.cell8; have p9 := hSf.cell9; have p10 := hSf.cell10; have p11 := hSf.cell11; have p12 := hSf.cell12; clear hSf hSb); go_simp; (try with_reducible rfl))
  try simp only [Act.put, List.getElem_toArray, List.getElem_cons_zero, List.getElem_cons_succ, List.setIfInBounds_toArray, List.set_cons_zero, List.set_cons_succ]
  refine wpAnyH_take (i := 2) (v := ?_) rfl (by kernel_rfl) (by kernel_rfl) (by kernel_rfl) (fun _ _ _ h => h) (Or.inl ⟨by rfl, ?_⟩) (by assumption) ?_
  rotate_left
  · (intro w hSw; (obtain ⟨hSf, hSb⟩ := hSw; have p1 := hSf.cell1; have p2 := hSf.cell2; have p3 := hSf.cell3; have p4 := hSf.cell4; have p5 := hSf.cell5; have p6 := hSf.cell6; have p7 := hSf.cell7; have p8 := hSf.cell8; have p9 := hSf.cell9; have p10 := hSf.cell10; have p11 := hSf.cell11; have p12 := hSf.cell12; clear hSf hSb); go_simp; (try with_reducible rfl))
  try simp only [Act.put, List.getElem_toArray, List.getElem_cons_zero, List.getElem_cons_succ, List.setIfInBounds_toArray, List.set_cons_zero, List.set_cons_succ]
  refine wpAnyH_take (i := 3) (v := ?_) rfl (by kernel_rfl) (by kernel_rfl) (by kernel_rfl) (fun _ _ _ h => h) (Or.inl ⟨by rfl, ?_⟩) (by assumption) ?_
  rotate_left
  · (intro w hSw; (obtain ⟨hSf, hSb⟩ := hSw; have p1 := hSf.cell1; have p2 := hSf.cell2; have p3 := hSf.cell3; have p4 := hSf.cell4; have p5 := hSf.cell5; have p6 := hSf.cell6; have p7 := hSf.cell7; have p8 := hSf.cell8; have p9 := hSf.cell9; have p10 := hSf.cell10; have p11 := hSf.cell11; have p12 := hSf.cell12; clear hSf hSb); go_simp; (try with_reducible rfl))
  try simp only [Act.put, List.getElem_toArray, List.getElem_cons_zero, List.getElem_cons_succ, List.setIfInBounds_toArray, List.set_cons_zero, List.set_cons_succ]
  refine wpAnyH_take (i := 6) (v := ?_) rfl (by kernel_rfl) (by kernel_rfl) (by kernel_rfl) (fun _ _ _ h => h) (Or.inl ⟨by rfl, ?_⟩) (by assumption) ?_
  rotate_left
  · (intro w hSw; (obtain ⟨hSf, hSb⟩ := hSw; have p1 := hSf.cell1; have p2 := hSf.cell2; have p3 := hSf.cell3; have p4 := hSf.cell4; have p5 := hSf.cell5; have p6 := hSf.cell6; have p7 := hSf.cell7; have p8 := hSf.cell8; have p9 := hSf.cell9; have p10 := hSf.cell10; have p11 := hSf.cell11; have p12 := hSf.cell12; clear hSf hSb); go_simp; (try with_reducible rfl))
  try simp only [Act.put, List.getElem_toArray, List.getElem_cons_zero, List.getElem_cons_succ, List.setIfInBounds_toArray, List.set_cons_zero, List.set_cons_succ]
  refine wpAnyH_take (i := 8) (v := ?_) rfl (by kernel_rfl) (by kernel_rfl) (by kernel_rfl) (fun _ _ _ h => h) (Or.inl ⟨by rfl, ?_⟩) (by assumption) ?_
  rotate_left
  · (intro w hSw; (obtain ⟨hSf, hSb⟩ := hSw; have p1 := hSf.cell1; have p2 := hSf.cell2; have p3 := hSf.cell3; have p4 := hSf.cell4; have p5 := hSf.cell5; have p6 := hSf.cell6; have p7 := hSf.cell7; have p8 := hSf.cell8; have p9 := hSf.cell9; have p10 := hSf.cell10; have p11 := hSf.cell11; have p12 := hSf.cell12; clear hSf hSb); go_simp; (try with_reducible rfl))
  try simp only [Act.put, List.getElem_toArray, List.getElem_cons_zero, List.getElem_cons_succ, List.setIfInBounds_toArray, List.set_cons_zero, List.set_cons_succ]
  refine wpAnyH_take (i := 9) (v := ?_) rfl (by kernel_rfl) (by kernel_rfl) (by kernel_rfl) (fun _ _ _ h => h) (Or.inl ⟨by rfl, ?_⟩) (by assumption) ?_
  rotate_left
  · (intro w hSw; (obtain ⟨hSf, hSb⟩ := hSw; have p1 := hSf.cell1; have p2 := hSf.cell2; have p3 := hSf.cell3; have p4 := hSf.cell4; have p5 := hSf.cell5; have p6 := hSf.cell6; have p7 := hSf.cell7; have p8 := hSf.cell8; have p9 := hSf.cell9; have p10 := hSf.cell10; have p11 := hSf.cell11; have p12 := hSf.cell12; clear hSf hSb); go_simp; (try with_reducible rfl))
  try simp only [Act.put, List.getElem_toArray, List.getElem_cons_zero, List.getElem_cons_succ, List.setIfInBounds_toArray, List.set_cons_zero, List.set_cons_succ]
  refine wpAnyH_ready (rs := [1]) (by kernel_rfl) (by simp) ?_
  refine AllReadyH.cons rfl (fun K hK => ?_) AllReadyH.nil
  rw [if_pos (by rfl)]
  go_simp
  with_reducible refine (CK.out _).mono ?_
  rintro e u1 ⟨rfl, hb⟩
  refine hK.out _ _ ?_ (fun hHeld => ?_)
  · exact ⟨hHeld.1.keep hb, hHeld.2.trans (hb.mono hHeld.2.size)⟩
  clear hK K
  try simp only [Act.put, List.getElem_toArray, List.getElem_cons_zero, List.getElem_cons_succ, List.setIfInBounds_toArray, List.set_cons_zero, List.set_cons_succ]
  refine wpAnyH_ready (rs := [4]) (by kernel_rfl) (by simp) ?_
  refine AllReadyH.cons rfl (fun K hK => ?_) AllReadyH.nil
  rw [if_pos (by rfl)]
  go_simp
  with_reducible refine (Cid.out _).mono ?_
  rintro e u2 ⟨rfl, hb⟩
  refine hK.out _ _ ?_ (fun hHeld => ?_)
  · exact ⟨hHeld.1.keep hb, hHeld.2.trans (hb.mono hHeld.2.size)⟩
  clear hK K
  try simp only [Act.put, List.getElem_toArray, List.getElem_cons_zero, List.getElem_cons_succ, List.setIfInBounds_toArray, List.set_cons_zero, List.set_cons_succ]
  refine wpAnyH_take (i := 5) (v := ?_) rfl (by kernel_rfl) (by kernel_rfl) (by kernel_rfl) (fun _ _ _ h => h) (Or.inl ⟨by rfl, ?_⟩) (by assumption) ?_
  rotate_left
  · (intro w hSw; (obtain ⟨hSf, hSb⟩ := hSw; have p1 := hSf.cell1; have p2 := hSf.cell2; have p3 := hSf.cell3; have p4 := hSf.cell4; have p5 := hSf.cell5; have p6 := hSf.cell6; have p7 := hSf.cell7; have p8 := hSf.cell8; have p9 := hSf.cell9; have p10 := hSf.cell10; have p11 := hSf.cell11; have p12 := hSf.cell12; clear hSf hSb); go_simp; (try with_reducible rfl))
  try simp only [Act.put, List.getElem_toArray, List.getElem_cons_zero, List.getElem_cons_succ, List.setIfInBounds_toArray, List.set_cons_zero, List.set_cons_succ]
  refine wpAnyH_take (i := 7) (v := ?_) rfl (by kernel_rfl) (by kernel_rfl) (by kernel_rfl) (fun _ _ _ h => h) (Or.inl ⟨by rfl, ?_⟩) (by assumption) ?_
  rotate_left
  · (intro w hSw; (obtain ⟨hSf, hSb⟩ := hSw; have p1 := hSf.cell1; have p2 := hSf.cell2; have p3 := hSf.cell3; have p4 := hSf.cell4; have p5 := hSf.cell5; have p6 := hSf.cell6; have p7 := hSf.cell7; have p8 := hSf.cell8; have p9 := hSf.cell9; have p10 := hSf.cell10; have p11 := hSf.cell11; have p12 := hSf.cell12; clear hSf hSb); go_simp; (try with_reducible rfl))
  try simp only [Act.put, List.getElem_toArray, List.getElem_cons_zero, List.getElem_cons_succ, List.setIfInBounds_toArray, List.set_cons_zero, List.set_cons_succ]
  refine wpAnyH_ready (rs := [10]) (by kernel_rfl) (by simp) ?_
  refine AllReadyH.cons rfl (fun K hK => ?_) AllReadyH.nil
  rw [if_pos (by rfl)]
  go_simp
  with_reducible refine (Cdata.out _).mono ?_
  rintro e u3 ⟨rfl, hb⟩
  refine hK.out _ _ ?_ (fun hHeld => ?_)
  · exact ⟨hHeld.1.keep hb, hHeld.2.trans (hb.mono hHeld.2.size)⟩
  clear hK K
  try simp only [Act.put, List.getElem_toArray, List.getElem_cons_zero, List.getElem_cons_succ, List.setIfInBounds_toArray, List.set_cons_zero, List.set_cons_succ]
  refine wpAnyH_take (i := 11) (v := ?_) rfl (by kernel_rfl) (by kernel_rfl) (by kernel_rfl) (fun _ _ _ h => h) (Or.inl ⟨by rfl, ?_⟩) (by assumption) ?_
  rotate_left
  · (intro w hSw; (obtain ⟨hSf, hSb⟩ := hSw; have p1 := hSf.cell1; have p2 := hSf.cell2; have p3 := hSf.cell3; have p4 := hSf.cell4; have p5 := hSf.cell5; have p6 := hSf.cell6; have p7 := hSf.cell7; have p8 := hSf.cell8; have p9 := hSf.cell9; have p10 := hSf.cell10; have p11 := hSf.cell11; have p12 := hSf.cell12; clear hSf hSb); go_simp; (try with_reducible rfl))
  try simp only [Act.put, List.getElem_toArray, List.getElem_cons_zero, List.getElem_cons_succ, List.setIfInBounds_toArray, List.set_cons_zero, List.set_cons_succ]
  refine wpAnyH_take (i := 12) (v := ?_) rfl (by kernel_rfl) (by kernel_rfl) (by kernel_rfl) (fun _ _ _ h => h) (Or.inl ⟨by rfl, ?_⟩) (by assumption) ?_
  rotate_left
  · (intro w hSw; (obtain ⟨hSf, hSb⟩ := hSw; have p1 := hSf.cell1; have p2 := hSf.cell2; have p3 := hSf.cell3; have p4 := hSf.cell4; have p5 := hSf.cell5; have p6 := hSf.cell6; have p7 := hSf.cell7; have p8 := hSf.cell8; have p9 := hSf.cell9; have p10 := hSf.cell10; have p11 := hSf.cell11; have p12 := hSf.cell12; clear hSf hSb); go_simp; (try with_reducible rfl))
  try simp only [Act.put, List.getElem_toArray, List.getElem_cons_zero, List.getElem_cons_succ, List.setIfInBounds_toArray, List.set_cons_zero, List.set_cons_succ]
  refine wpAnyH_take (i := 13) (v := ?_) rfl (by kernel_rfl) (by kernel_rfl) (by kernel_rfl) (fun _ _ _ h => h) (Or.inl ⟨by rfl, ?_⟩) (by assumption) ?_
  rotate_left
  · (intro w hSw; (obtain ⟨hSf, hSb⟩ := hSw; have p1 := hSf.cell1; have p2 := hSf.cell2; have p3 := hSf.cell3; have p4 := hSf.cell4; have p5 := hSf.cell5; have p6 := hSf.cell6; have p7 := hSf.cell7; have p8 := hSf.cell8; have p9 := hSf.cell9; have p10 := hSf.cell10; have p11 := hSf.cell11; have p12 := hSf.cell12; clear hSf hSb); go_simp; (try with_reducible rfl))
  try simp only [Act.put, List.getElem_toArray, List.getElem_cons_zero, List.getElem_cons_succ, List.setIfInBounds_toArray, List.set_cons_zero, List.set_cons_succ]
  refine wpAnyH_done (by kernel_rfl) (NoPanic.normal ?_) _
  have HB := Lib.hid hHeld.2
  clear hHeld
  go_wp2
  go_ret2
  exact ⟨by rw [← HC.out]; rfl, HB.out⟩
set_option maxHeartbeats 8000000 in
theorem rput_8_14 (f : Frm) (rs : List (Nat × Nat)) (w : World) (hk : f.kind = 8) (hp : ∀ j, 0 ≤ nm f j) (hrd : Rd w (.slice f.set.a f.set.n f.set.c) (ints rs)) (hl : rs.length ≤ 1000) (hm : mayF 8 f (ints rs) = true) (hf : f.fin = false) (ho : f.off ≠ 0) :
    Calls Tryd.prog 10 #[.agg #[.int .u64 f.kind, .int .u64 f.id, .int .u64 f.off, .int .u64 f.max, .int .u64 f.code, .int .u64 f.seq, .int .u64 f.prior, .int .u64 f.delay, .bool f.fin, .string ⟨f.data.toArray⟩, .string ⟨f.cid.toArray⟩, .string ⟨f.token.toArray⟩, .slice f.set.a f.set.n f.set.c]] w fun e w' => e = .returned (.tuple #[.string ⟨(putL f rs).toArray⟩, .int .i64 0]) ∧ Below w.heap.size w w' := by
  obtain ⟨hks, hHas, hnb⟩ := may_kind hm
  have hbd := may_bounds (k := 8) hk hm
  have CM := Lib.hid (fun W (h : Rd W (.slice f.set.a f.set.n f.set.c) (ints rs)) => rmayf 8 f (ints rs) W hk hp h (ints_pos rs) (by rw [ints_len]; exact hl) (by omega) (by omega) (by omega))
  rw [hm] at CM
  have HP : Hid (putL f rs = _) := Lib.hid (putL_8_14 f rs hk hHas hf ho)
  have hz0 : 0 ≤ f.id := hp 0
  have hy0 : f.id ≤ 4611686018427387903 := numB_nm hnb 0 (by decide)
  have hz1 : 0 ≤ f.off := hp 1
  have hy1 : f.off ≤ 4611686018427387903 := numB_nm hnb 1 (by decide)
  have CK : Hid (∀ W, Calls Tryd.prog 26 #[.int .u64 14] W fun e w' => e = .returned (.string ⟨(pt 14).toArray⟩) ∧ Below W.heap.size W w') := Lib.hid (fun W => rv_ok 14 W (by decide) (by decide))
  have CK0 : Hid (∀ W, Calls Tryd.prog 26 #[.int .u64 8] W fun e w' => e = .returned (.string ⟨(pt 8).toArray⟩) ∧ Below W.heap.size W w') := Lib.hid (fun W => rv_ok 8 W (by decide) (by decide))
  have hsk := pt_le8 14 (by decide)
  have Cid := Lib.hid (fun W => rv_ok f.id W hz0 hy0)
  have hsid := pt_le8 f.id.toNat (by omega)
  have Coff := Lib.hid (fun W => rv_ok f.off W hz1 hy1)
  have hsoff := pt_le8 f.off.toNat (by omega)
  have Cdata := Lib.hid (fun W => text_any f.data W (by omega))
  have hsdata : (pt f.data.length ++ f.data).length ≤ 2000 := by
    have := pt_le8 f.data.length (by omega)
    rw [List.length_append]; omega
  obtain ⟨sk, Ek⟩ : ∃ s, pt 14 = s := ⟨_, rfl⟩
  rw [Ek] at CK HP hsk
  obtain ⟨sid, Eid⟩ : ∃ s, pt f.id.toNat = s := ⟨_, rfl⟩
  rw [Eid] at Cid HP hsid
  obtain ⟨soff, Eoff⟩ : ∃ s, pt f.off.toNat = s := ⟨_, rfl⟩
  rw [Eoff] at Coff HP hsoff
  obtain ⟨sdata, Edata⟩ : ∃ s, pt f.data.length ++ f.data = s := ⟨_, rfl⟩
  rw [Edata] at Cdata HP hsdata
  have f2 : ¬ 9223372036854775807 < sk.length + sid.length := by omega
  have f3 : ¬ 9223372036854775807 < sk.length + sid.length + soff.length := by omega
  have f4 : ¬ 9223372036854775807 < sk.length + sid.length + soff.length + sdata.length := by omega
  have HC : Hid ((⟨sk.toArray⟩ : ByteArray) ++ ⟨sid.toArray⟩ ++ ⟨soff.toArray⟩ ++ ⟨sdata.toArray⟩ = ⟨(putL f rs).toArray⟩) := Lib.hid (by rw [HP.out] <;> (apply ByteArray.ext; simp))
  generalize putL f rs = R at *
  have HFR : Hid (FrD w.heap.size f (w.alloc (.cells #[.int .u64 f.kind, .int .u64 f.id, .int .u64 f.off, .int .u64 f.max, .int .u64 f.code, .int .u64 f.seq, .int .u64 f.prior, .int .u64 f.delay, .bool f.fin, .string ⟨f.data.toArray⟩, .string ⟨f.cid.toArray⟩, .string ⟨f.token.toArray⟩, .slice f.set.a f.set.n f.set.c] 36 (0, 0)))) := Lib.hid (World.alloc_heap_new w _)
  have HB0 : Hid (Below w.heap.size w (w.alloc (.cells #[.int .u64 f.kind, .int .u64 f.id, .int .u64 f.off, .int .u64 f.max, .int .u64 f.code, .int .u64 f.seq, .int .u64 f.prior, .int .u64 f.delay, .bool f.fin, .string ⟨f.data.toArray⟩, .string ⟨f.cid.toArray⟩, .string ⟨f.token.toArray⟩, .slice f.set.a f.set.n f.set.c] 36 (0, 0)))) := Lib.hid ((Below.refl w.heap.size w).alloc (Nat.le_refl _) _)
  have HRD := Lib.hid (hrd.below HB0.out)
  have HK := Lib.hid hk
  have HFN := Lib.hid hf
  have HON := Lib.hid ho
  clear hf ho
  clear HP hm hp hrd hk hks hHas hnb hbd hl Ek Eid Eoff Edata hz0 hy0 hz1 hy1
  go_enter Tryd.func10, Tryd.ntmps10
  go_wp2_with fail
  refine (CM.out _ HRD.out).mono ?_
  rintro e w1 ⟨rfl, hb⟩
  have HF1 := Lib.hid (HFR.out.keep hb)
  have HB1 := Lib.hid (HB0.out.trans (hb.mono HB0.out.size))
  have c0 := HF1.out.cell0
  rw [HK.out] at c0
  clear hb HRD CM
  go_wp2_with fail
  refine (CK0.out _).mono ?_
  rintro e w2 ⟨rfl, hb⟩
  have HF2 := Lib.hid (HF1.out.keep hb)
  have HB2 := Lib.hid (HB1.out.trans (hb.mono HB1.out.size))
  have d0 := HF2.out.cell0
  rw [HK.out] at d0
  clear hb c0
  have d2 := HF2.out.cell2
  have d8 := HF2.out.cell8
  rw [HFN.out] at d8
  have ho2 : (f.off != 0) = true := by rw [bne_iff_ne]; exact HON.out
  go_wp2_with fail
  refine (Coff.out _).mono ?_
  rintro e w3 ⟨rfl, hb⟩
  have HF3 := Lib.hid (HF2.out.keep hb)
  have HB3 := Lib.hid (HB2.out.trans (hb.mono HB2.out.size))
  have e8 := HF3.out.cell8
  rw [HFN.out] at e8
  clear hb d0 d2 d8 ho2
  go_wp2_with fail
  refine wp_region_noPanic ?_
  refine wp_region_held_drew (S := fun W' : World => FrD w.heap.size f W' ∧ Below w.heap.size w W') (by kernel_rfl) ?_ (fun hHeld => ?_)
  · exact ⟨HF3.out, Below.drew HB3.out⟩
  refine wpAnyH_take (i := 0) (v := ?_) rfl (by kernel_rfl) (by kernel_rfl) (by kernel_rfl) (fun _ _ _ h => h) (Or.inl ⟨by rfl, ?_⟩) (by assumption) ?_
  rotate_left
  · (intro w hSw; (obtain ⟨hSf, hSb⟩ := hSw; have p1 := hSf.cell1; have p2 := hSf.cell2; have p3 := hSf.cell3; have p4 := hSf.cell4; have p5 := hSf.cell5; have p6 := hSf.cell6; have p7 := hSf.cell7; have p8 := hSf.cell8; have p9 := hSf.cell9; have p10 := hSf.cell10; have p11 := hSf.cell11; have p12 := hSf.cell12; clear hSf hSb); go_simp; (try with_reducible rfl))
  try simp only [Act.put, List.getElem_toArray, List.getElem_cons_zero, List.getElem_cons_succ, List.setIfInBounds_toArray, List.set_cons_zero, List.set_cons_succ]
  refine wpAnyH_take (i := 2) (v := ?_) rfl (by kernel_rfl) (by kernel_rfl) (by kernel_rfl) (fun _ _ _ h => h) (Or.inl ⟨by rfl, ?_⟩) (by assumption) ?_
  rotate_left
  · (intro w hSw; (obtain ⟨hSf, hSb⟩ := hSw; have p1 := hSf.cell1; have p2 := hSf.cell2; have p3 := hSf.cell3; have p4 := hSf.cell4; have p5 := hSf.cell5; have p6 := hSf.cell6; have p7 := hSf.cell7; have p8 := hSf.cell8; have p9 := hSf.cell9; have p10 := hSf.cell10; have p11 := hSf.cell11; have p12 := hSf.cell12; clear hSf hSb); go_simp; (try with_reducible rfl))
  try simp only [Act.put, List.getElem_toArray, List.getElem_cons_zero, List.getElem_cons_succ, List.setIfInBounds_toArray, List.set_cons_zero, List.set_cons_succ]
  refine wpAnyH_take (i := 3) (v := ?_) rfl (by kernel_rfl) (by kernel_rfl) (by kernel_rfl) (fun _ _ _ h => h) (Or.inl ⟨by rfl, ?_⟩) (by assumption) ?_
  rotate_left
  · (intro w hSw; (obtain ⟨hSf, hSb⟩ := hSw; have p1 := hSf.cell1; have p2 := hSf.cell2; have p3 := hSf.cell3; have p4 := hSf.cell4; have p5 := hSf.cell5; have p6 := hSf.cell6; have p7 := hSf.cell7; have p8 := hSf.cell8; have p9 := hSf.cell9; have p10 := hSf.cell10; have p11 := hSf.cell11; have p12 := hSf.cell12; clear hSf hSb); go_simp; (try with_reducible rfl))
  try simp only [Act.put, List.getElem_toArray, List.getElem_cons_zero, List.getElem_cons_succ, List.setIfInBounds_toArray, List.set_cons_zero, List.set_cons_succ]
  refine wpAnyH_take (i := 6) (v := ?_) rfl (by kernel_rfl) (by kernel_rfl) (by kernel_rfl) (fun _ _ _ h => h) (Or.inl ⟨by rfl, ?_⟩) (by assumption) ?_
  rotate_left
  · (intro w hSw; (obtain ⟨hSf, hSb⟩ := hSw; have p1 := hSf.cell1; have p2 := hSf.cell2; have p3 := hSf.cell3; have p4 := hSf.cell4; have p5 := hSf.cell5; have p6 := hSf.cell6; have p7 := hSf.cell7; have p8 := hSf.cell8; have p9 := hSf.cell9; have p10 := hSf.cell10; have p11 := hSf.cell11; have p12 := hSf.cell12; clear hSf hSb); go_simp; (try with_reducible rfl))
  try simp only [Act.put, List.getElem_toArray, List.getElem_cons_zero, List.getElem_cons_succ, List.setIfInBounds_toArray, List.set_cons_zero, List.set_cons_succ]
  refine wpAnyH_take (i := 8) (v := ?_) rfl (by kernel_rfl) (by kernel_rfl) (by kernel_rfl) (fun _ _ _ h => h) (Or.inl ⟨by rfl, ?_⟩) (by assumption) ?_
  rotate_left
  · (intro w hSw; (obtain ⟨hSf, hSb⟩ := hSw; have p1 := hSf.cell1; have p2 := hSf.cell2; have p3 := hSf.cell3; have p4 := hSf.cell4; have p5 := hSf.cell5; have p6 := hSf.cell6; have p7 := hSf.cell7; have p8 := hSf.cell8; have p9 := hSf.cell9; have p10 := hSf.cell10; have p11 := hSf.cell11; have p12 := hSf.cell12; clear hSf hSb); go_simp; (try with_reducible rfl))
  try simp only [Act.put, List.getElem_toArray, List.getElem_cons_zero, List.getElem_cons_succ, List.setIfInBounds_toArray, List.set_cons_zero, List.set_cons_succ]
  refine wpAnyH_take (i := 9) (v := ?_) rfl (by kernel_rfl) (by kernel_rfl) (by kernel_rfl) (fun _ _ _ h => h) (Or.inl ⟨by rfl, ?_⟩) (by assumption) ?_
  rotate_left
  · (intro w hSw; (obtain ⟨hSf, hSb⟩ := hSw; have p1 := hSf.cell1; have p2 := hSf.cell2; have p3 := hSf.cell3; have p4 := hSf.cell4; have p5 := hSf.cell5; have p6 := hSf.cell6; have p7 := hSf.cell7; have p8 := hSf.cell8; have p9 := hSf.cell9; have p10 := hSf.cell10; have p11 := hSf.cell11; have p12 := hSf.cell12; clear hSf hSb); go_simp; (try with_reducible rfl))
  try simp only [Act.put, List.getElem_toArray, List.getElem_cons_zero, List.getElem_cons_succ, List.setIfInBounds_toArray, List.set_cons_zero, List.set_cons_succ]
  refine wpAnyH_ready (rs := [1]) (by kernel_rfl) (by simp) ?_
  refine AllReadyH.cons rfl (fun K hK => ?_) AllReadyH.nil
  rw [if_pos (by rfl)]
  go_simp
  with_reducible refine (CK.out _).mono ?_
  rintro e u1 ⟨rfl, hb⟩
  refine hK.out _ _ ?_ (fun hHeld => ?_)
  · exact ⟨hHeld.1.keep hb, hHeld.2.trans (hb.mono hHeld.2.size)⟩
  clear hK K
  try simp only [Act.put, List.getElem_toArray, List.getElem_cons_zero, List.getElem_cons_succ, List.setIfInBounds_toArray, List.set_cons_zero, List.set_cons_succ]
  refine wpAnyH_ready (rs := [4]) (by kernel_rfl) (by simp) ?_
  refine AllReadyH.cons rfl (fun K hK => ?_) AllReadyH.nil
  rw [if_pos (by rfl)]
  go_simp
  with_reducible refine (Cid.out _).mono ?_
  rintro e u2 ⟨rfl, hb⟩
  refine hK.out _ _ ?_ (fun hHeld => ?_)
  · exact ⟨hHeld.1.keep hb, hHeld.2.trans (hb.mono hHeld.2.size)⟩
  clear hK K
  try simp only [Act.put, List.getElem_toArray, List.getElem_cons_zero, List.getElem_cons_succ, List.setIfInBounds_toArray, List.set_cons_zero, List.set_cons_succ]
  refine wpAnyH_take (i := 5) (v := ?_) rfl (by kernel_rfl) (by kernel_rfl) (by kernel_rfl) (fun _ _ _ h => h) (Or.inl ⟨by rfl, ?_⟩) (by assumption) ?_
  rotate_left
  · (intro w hSw; (obtain ⟨hSf, hSb⟩ := hSw; have p1 := hSf.cell1; have p2 := hSf.cell2; have p3 := hSf.cell3; have p4 := hSf.cell4; have p5 := hSf.cell5; have p6 := hSf.cell6; have p7 := hSf.cell7; have p8 := hSf.cell8; have p9 := hSf.cell9; have p10 := hSf.cell10; have p11 := hSf.cell11; have p12 := hSf.cell12; clear hSf hSb); go_simp; (try with_reducible rfl))
  try simp only [Act.put, List.getElem_toArray, List.getElem_cons_zero, List.getElem_cons_succ, List.setIfInBounds_toArray, List.set_cons_zero, List.set_cons_succ]
  refine wpAnyH_take (i := 7) (v := ?_) rfl (by kernel_rfl) (by kernel_rfl) (by kernel_rfl) (fun _ _ _ h => h) (Or.inl ⟨by rfl, ?_⟩) (by assumption) ?_
  rotate_left
  · (intro w hSw; (obtain ⟨hSf, hSb⟩ := hSw; have p1 := hSf.cell1; have p2 := hSf.cell2; have p3 := hSf.cell3; have p4 := hSf.cell4; have p5 := hSf.cell5; have p6 := hSf.cell6; have p7 := hSf.cell7; have p8 := hSf.cell8; have p9 := hSf.cell9; have p10 := hSf.cell10; have p11 := hSf.cell11; have p12 := hSf.cell12; clear hSf hSb); go_simp; (try with_reducible rfl))
  try simp only [Act.put, List.getElem_toArray, List.getElem_cons_zero, List.getElem_cons_succ, List.setIfInBounds_toArray, List.set_cons_zero, List.set_cons_succ]
  refine wpAnyH_ready (rs := [10]) (by kernel_rfl) (by simp) ?_
  refine AllReadyH.cons rfl (fun K hK => ?_) AllReadyH.nil
  rw [if_pos (by rfl)]
  go_simp
  with_reducible refine (Cdata.out _).mono ?_
  rintro e u3 ⟨rfl, hb⟩
  refine hK.out _ _ ?_ (fun hHeld => ?_)
  · exact ⟨hHeld.1.keep hb, hHeld.2.trans (hb.mono hHeld.2.size)⟩
  clear hK K
  try simp only [Act.put, List.getElem_toArray, List.getElem_cons_zero, List.getElem_cons_succ, List.setIfInBounds_toArray, List.set_cons_zero, List.set_cons_succ]
  refine wpAnyH_take (i := 11) (v := ?_) rfl (by kernel_rfl) (by kernel_rfl) (by kernel_rfl) (fun _ _ _ h => h) (Or.inl ⟨by rfl, ?_⟩) (by assumption) ?_
  rotate_left
  · (intro w hSw; (obtain ⟨hSf, hSb⟩ := hSw; have p1 := hSf.cell1; have p2 := hSf.cell2; have p3 := hSf.cell3; have p4 := hSf.cell4; have p5 := hSf.cell5; have p6 := hSf.cell6; have p7 := hSf.cell7; have p8 := hSf.cell8; have p9 := hSf.cell9; have p10 := hSf.cell10; have p11 := hSf.cell11; have p12 := hSf.cell12; clear hSf hSb); go_simp; (try with_reducible rfl))
  try simp only [Act.put, List.getElem_toArray, List.getElem_cons_zero, List.getElem_cons_succ, List.setIfInBounds_toArray, List.set_cons_zero, List.set_cons_succ]
  refine wpAnyH_take (i := 12) (v := ?_) rfl (by kernel_rfl) (by kernel_rfl) (by kernel_rfl) (fun _ _ _ h => h) (Or.inl ⟨by rfl, ?_⟩) (by assumption) ?_
  rotate_left
  · (intro w hSw; (obtain ⟨hSf, hSb⟩ := hSw; have p1 := hSf.cell1; have p2 := hSf.cell2; have p3 := hSf.cell3; have p4 := hSf.cell4; have p5 := hSf.cell5; have p6 := hSf.cell6; have p7 := hSf.cell7; have p8 := hSf.cell8; have p9 := hSf.cell9; have p10 := hSf.cell10; have p11 := hSf.cell11; have p12 := hSf.cell12; clear hSf hSb); go_simp; (try with_reducible rfl))
  try simp only [Act.put, List.getElem_toArray, List.getElem_cons_zero, List.getElem_cons_succ, List.setIfInBounds_toArray, List.set_cons_zero, List.set_cons_succ]
  refine wpAnyH_take (i := 13) (v := ?_) rfl (by kernel_rfl) (by kernel_rfl) (by kernel_rfl) (fun _ _ _ h => h) (Or.inl ⟨by rfl, ?_⟩) (by assumption) ?_
  rotate_left
  · (intro w hSw; (obtain ⟨hSf, hSb⟩ := hSw; have p1 := hSf.cell1; have p2 := hSf.cell2; have p3 := hSf.cell3; have p4 := hSf.cell4; have p5 := hSf.cell5; have p6 := hSf.cell6; have p7 := hSf.cell7; have p8 := hSf.cell8; have p9 := hSf.cell9; have p10 := hSf.cell10; have p11 := hSf.cell11; have p12 := hSf.cell12; clear hSf hSb); go_simp; (try with_reducible rfl))
  try simp only [Act.put, List.getElem_toArray, List.getElem_cons_zero, List.getElem_cons_succ, List.setIfInBounds_toArray, List.set_cons_zero, List.set_cons_succ]
  refine wpAnyH_done (by kernel_rfl) (NoPanic.normal ?_) _
  have HB := Lib.hid hHeld.2
  clear hHeld
  go_wp2
  go_ret2
  exact ⟨by rw [← HC.out]; rfl, HB.out⟩
set_option maxHeartbeats 8000000 in
theorem rput_8_11 (f : Frm) (rs : List (Nat × Nat)) (w : World) (hk : f.kind = 8) (hp : ∀ j, 0 ≤ nm f j) (hrd : Rd w (.slice f.set.a f.set.n f.set.c) (ints rs)) (hl : rs.length ≤ 1000) (hm : mayF 8 f (ints rs) = true) (hf : f.fin = true) (ho : f.off = 0) :
    Calls Tryd.prog 10 #[.agg #[.int .u64 f.kind, .int .u64 f.id, .int .u64 f.off, .int .u64 f.max, .int .u64 f.code, .int .u64 f.seq, .int .u64 f.prior, .int .u64 f.delay, .bool f.fin, .string ⟨f.data.toArray⟩, .string ⟨f.cid.toArray⟩, .string ⟨f.token.toArray⟩, .slice f.set.a f.set.n f.set.c]] w fun e w' => e = .returned (.tuple #[.string ⟨(putL f rs).toArray⟩, .int .i64 0]) ∧ Below w.heap.size w w' := by
  obtain ⟨hks, hHas, hnb⟩ := may_kind hm
  have hbd := may_bounds (k := 8) hk hm
  have CM := Lib.hid (fun W (h : Rd W (.slice f.set.a f.set.n f.set.c) (ints rs)) => rmayf 8 f (ints rs) W hk hp h (ints_pos rs) (by rw [ints_len]; exact hl) (by omega) (by omega) (by omega))
  rw [hm] at CM
  have HP : Hid (putL f rs = _) := Lib.hid (putL_8_11 f rs hk hHas hf ho)
  have hz0 : 0 ≤ f.id := hp 0
  have hy0 : f.id ≤ 4611686018427387903 := numB_nm hnb 0 (by decide)
  have CK : Hid (∀ W, Calls Tryd.prog 26 #[.int .u64 11] W fun e w' => e = .returned (.string ⟨(pt 11).toArray⟩) ∧ Below W.heap.size W w') := Lib.hid (fun W => rv_ok 11 W (by decide) (by decide))
  have CK0 : Hid (∀ W, Calls Tryd.prog 26 #[.int .u64 8] W fun e w' => e = .returned (.string ⟨(pt 8).toArray⟩) ∧ Below W.heap.size W w') := Lib.hid (fun W => rv_ok 8 W (by decide) (by decide))
  have hsk := pt_le8 11 (by decide)
  have Cid := Lib.hid (fun W => rv_ok f.id W hz0 hy0)
  have hsid := pt_le8 f.id.toNat (by omega)
  have Cdata := Lib.hid (fun W => text_any f.data W (by omega))
  have hsdata : (pt f.data.length ++ f.data).length ≤ 2000 := by
    have := pt_le8 f.data.length (by omega)
    rw [List.length_append]; omega
  obtain ⟨sk, Ek⟩ : ∃ s, pt 11 = s := ⟨_, rfl⟩
  rw [Ek] at CK HP hsk
  obtain ⟨sid, Eid⟩ : ∃ s, pt f.id.toNat = s := ⟨_, rfl⟩
  rw [Eid] at Cid HP hsid
  obtain ⟨sdata, Edata⟩ : ∃ s, pt f.data.length ++ f.data = s := ⟨_, rfl⟩
  rw [Edata] at Cdata HP hsdata
  have f2 : ¬ 9223372036854775807 < sk.length + sid.length := by omega
  have f3 : ¬ 9223372036854775807 < sk.length + sid.length + sdata.length := by omega
  have HC : Hid ((⟨sk.toArray⟩ : ByteArray) ++ ⟨sid.toArray⟩ ++ ⟨#[]⟩ ++ ⟨sdata.toArray⟩ = ⟨(putL f rs).toArray⟩) := Lib.hid (by rw [HP.out] <;> (apply ByteArray.ext; simp))
  generalize putL f rs = R at *
  have HFR : Hid (FrD w.heap.size f (w.alloc (.cells #[.int .u64 f.kind, .int .u64 f.id, .int .u64 f.off, .int .u64 f.max, .int .u64 f.code, .int .u64 f.seq, .int .u64 f.prior, .int .u64 f.delay, .bool f.fin, .string ⟨f.data.toArray⟩, .string ⟨f.cid.toArray⟩, .string ⟨f.token.toArray⟩, .slice f.set.a f.set.n f.set.c] 36 (0, 0)))) := Lib.hid (World.alloc_heap_new w _)
  have HB0 : Hid (Below w.heap.size w (w.alloc (.cells #[.int .u64 f.kind, .int .u64 f.id, .int .u64 f.off, .int .u64 f.max, .int .u64 f.code, .int .u64 f.seq, .int .u64 f.prior, .int .u64 f.delay, .bool f.fin, .string ⟨f.data.toArray⟩, .string ⟨f.cid.toArray⟩, .string ⟨f.token.toArray⟩, .slice f.set.a f.set.n f.set.c] 36 (0, 0)))) := Lib.hid ((Below.refl w.heap.size w).alloc (Nat.le_refl _) _)
  have HRD := Lib.hid (hrd.below HB0.out)
  have HK := Lib.hid hk
  have HFN := Lib.hid hf
  have HON := Lib.hid ho
  clear hf ho
  clear HP hm hp hrd hk hks hHas hnb hbd hl Ek Eid Edata hz0 hy0
  go_enter Tryd.func10, Tryd.ntmps10
  go_wp2_with fail
  refine (CM.out _ HRD.out).mono ?_
  rintro e w1 ⟨rfl, hb⟩
  have HF1 := Lib.hid (HFR.out.keep hb)
  have HB1 := Lib.hid (HB0.out.trans (hb.mono HB0.out.size))
  have c0 := HF1.out.cell0
  rw [HK.out] at c0
  clear hb HRD CM
  go_wp2_with fail
  refine (CK0.out _).mono ?_
  rintro e w2 ⟨rfl, hb⟩
  have HF2 := Lib.hid (HF1.out.keep hb)
  have HB2 := Lib.hid (HB1.out.trans (hb.mono HB1.out.size))
  have d0 := HF2.out.cell0
  rw [HK.out] at d0
  clear hb c0
  have d2 := HF2.out.cell2
  have d8 := HF2.out.cell8
  rw [HFN.out] at d8
  rw [HON.out] at d2
  go_wp2_with fail
  refine wp_region_noPanic ?_
  refine wp_region_held_drew (S := fun W' : World => FrD w.heap.size f W' ∧ Below w.heap.size w W') (by kernel_rfl) ?_ (fun hHeld => ?_)
  · exact ⟨HF2.out, Below.drew HB2.out⟩
  refine wpAnyH_take (i := 0) (v := ?_) rfl (by kernel_rfl) (by kernel_rfl) (by kernel_rfl) (fun _ _ _ h => h) (Or.inl ⟨by rfl, ?_⟩) (by assumption) ?_
  rotate_left
  · (intro w hSw; (obtain ⟨hSf, hSb⟩ := hSw; have p1 := hSf.cell1; have p2 := hSf.cell2; have p3 := hSf.cell3; have p4 := hSf.cell4; have p5 := hSf.cell5; have p6 := hSf.cell6; have p7 := hSf.cell7; have p8 := hSf.cell8; have p9 := hSf.cell9; have p10 := hSf.cell10; have p11 := hSf.cell11; have p12 := hSf.cell12; clear hSf hSb); go_simp; (try with_reducible rfl))
  try simp only [Act.put, List.getElem_toArray, List.getElem_cons_zero, List.getElem_cons_succ, List.setIfInBounds_toArray, List.set_cons_zero, List.set_cons_succ]
  refine wpAnyH_take (i := 2) (v := ?_) rfl (by kernel_rfl) (by kernel_rfl) (by kernel_rfl) (fun _ _ _ h => h) (Or.inl ⟨by rfl, ?_⟩) (by assumption) ?_
  rotate_left
  · (intro w hSw; (obtain ⟨hSf, hSb⟩ := hSw; have p1 := hSf.cell1; have p2 := hSf.cell2; have p3 := hSf.cell3; have p4 := hSf.cell4; have p5 := hSf.cell5; have p6 := hSf.cell6; have p7 := hSf.cell7; have p8 := hSf.cell8; have p9 := hSf.cell9; have p10 := hSf.cell10; have p11 := hSf.cell11; have p12 := hSf.cell12; clear hSf hSb); go_simp; (try with_reducible rfl))
  try simp only [Act.put, List.getElem_toArray, List.getElem_cons_zero, List.getElem_cons_succ, List.setIfInBounds_toArray, List.set_cons_zero, List.set_cons_succ]
  refine wpAnyH_take (i := 3) (v := ?_) rfl (by kernel_rfl) (by kernel_rfl) (by kernel_rfl) (fun _ _ _ h => h) (Or.inl ⟨by rfl, ?_⟩) (by assumption) ?_
  rotate_left
  · (intro w hSw; (obtain ⟨hSf, hSb⟩ := hSw; have p1 := hSf.cell1; have p2 := hSf.cell2; have p3 := hSf.cell3; have p4 := hSf.cell4; have p5 := hSf.cell5; have p6 := hSf.cell6; have p7 := hSf.cell7; have p8 := hSf.cell8; have p9 := hSf.cell9; have p10 := hSf.cell10; have p11 := hSf.cell11; have p12 := hSf.cell12; clear hSf hSb); go_simp; (try with_reducible rfl))
  try simp only [Act.put, List.getElem_toArray, List.getElem_cons_zero, List.getElem_cons_succ, List.setIfInBounds_toArray, List.set_cons_zero, List.set_cons_succ]
  refine wpAnyH_take (i := 6) (v := ?_) rfl (by kernel_rfl) (by kernel_rfl) (by kernel_rfl) (fun _ _ _ h => h) (Or.inl ⟨by rfl, ?_⟩) (by assumption) ?_
  rotate_left
  · (intro w hSw; (obtain ⟨hSf, hSb⟩ := hSw; have p1 := hSf.cell1; have p2 := hSf.cell2; have p3 := hSf.cell3; have p4 := hSf.cell4; have p5 := hSf.cell5; have p6 := hSf.cell6; have p7 := hSf.cell7; have p8 := hSf.cell8; have p9 := hSf.cell9; have p10 := hSf.cell10; have p11 := hSf.cell11; have p12 := hSf.cell12; clear hSf hSb); go_simp; (try with_reducible rfl))
  try simp only [Act.put, List.getElem_toArray, List.getElem_cons_zero, List.getElem_cons_succ, List.setIfInBounds_toArray, List.set_cons_zero, List.set_cons_succ]
  refine wpAnyH_take (i := 8) (v := ?_) rfl (by kernel_rfl) (by kernel_rfl) (by kernel_rfl) (fun _ _ _ h => h) (Or.inl ⟨by rfl, ?_⟩) (by assumption) ?_
  rotate_left
  · (intro w hSw; (obtain ⟨hSf, hSb⟩ := hSw; have p1 := hSf.cell1; have p2 := hSf.cell2; have p3 := hSf.cell3; have p4 := hSf.cell4; have p5 := hSf.cell5; have p6 := hSf.cell6; have p7 := hSf.cell7; have p8 := hSf.cell8; have p9 := hSf.cell9; have p10 := hSf.cell10; have p11 := hSf.cell11; have p12 := hSf.cell12; clear hSf hSb); go_simp; (try with_reducible rfl))
  try simp only [Act.put, List.getElem_toArray, List.getElem_cons_zero, List.getElem_cons_succ, List.setIfInBounds_toArray, List.set_cons_zero, List.set_cons_succ]
  refine wpAnyH_take (i := 9) (v := ?_) rfl (by kernel_rfl) (by kernel_rfl) (by kernel_rfl) (fun _ _ _ h => h) (Or.inl ⟨by rfl, ?_⟩) (by assumption) ?_
  rotate_left
  · (intro w hSw; (obtain ⟨hSf, hSb⟩ := hSw; have p1 := hSf.cell1; have p2 := hSf.cell2; have p3 := hSf.cell3; have p4 := hSf.cell4; have p5 := hSf.cell5; have p6 := hSf.cell6; have p7 := hSf.cell7; have p8 := hSf.cell8; have p9 := hSf.cell9; have p10 := hSf.cell10; have p11 := hSf.cell11; have p12 := hSf.cell12; clear hSf hSb); go_simp; (try with_reducible rfl))
  try simp only [Act.put, List.getElem_toArray, List.getElem_cons_zero, List.getElem_cons_succ, List.setIfInBounds_toArray, List.set_cons_zero, List.set_cons_succ]
  refine wpAnyH_ready (rs := [1]) (by kernel_rfl) (by simp) ?_
  refine AllReadyH.cons rfl (fun K hK => ?_) AllReadyH.nil
  rw [if_pos (by rfl)]
  go_simp
  with_reducible refine (CK.out _).mono ?_
  rintro e u1 ⟨rfl, hb⟩
  refine hK.out _ _ ?_ (fun hHeld => ?_)
  · exact ⟨hHeld.1.keep hb, hHeld.2.trans (hb.mono hHeld.2.size)⟩
  clear hK K
  try simp only [Act.put, List.getElem_toArray, List.getElem_cons_zero, List.getElem_cons_succ, List.setIfInBounds_toArray, List.set_cons_zero, List.set_cons_succ]
  refine wpAnyH_ready (rs := [4]) (by kernel_rfl) (by simp) ?_
  refine AllReadyH.cons rfl (fun K hK => ?_) AllReadyH.nil
  rw [if_pos (by rfl)]
  go_simp
  with_reducible refine (Cid.out _).mono ?_
  rintro e u2 ⟨rfl, hb⟩
  refine hK.out _ _ ?_ (fun hHeld => ?_)
  · exact ⟨hHeld.1.keep hb, hHeld.2.trans (hb.mono hHeld.2.size)⟩
  clear hK K
  try simp only [Act.put, List.getElem_toArray, List.getElem_cons_zero, List.getElem_cons_succ, List.setIfInBounds_toArray, List.set_cons_zero, List.set_cons_succ]
  refine wpAnyH_take (i := 5) (v := ?_) rfl (by kernel_rfl) (by kernel_rfl) (by kernel_rfl) (fun _ _ _ h => h) (Or.inl ⟨by rfl, ?_⟩) (by assumption) ?_
  rotate_left
  · (intro w hSw; (obtain ⟨hSf, hSb⟩ := hSw; have p1 := hSf.cell1; have p2 := hSf.cell2; have p3 := hSf.cell3; have p4 := hSf.cell4; have p5 := hSf.cell5; have p6 := hSf.cell6; have p7 := hSf.cell7; have p8 := hSf.cell8; have p9 := hSf.cell9; have p10 := hSf.cell10; have p11 := hSf.cell11; have p12 := hSf.cell12; clear hSf hSb); go_simp; (try with_reducible rfl))
  try simp only [Act.put, List.getElem_toArray, List.getElem_cons_zero, List.getElem_cons_succ, List.setIfInBounds_toArray, List.set_cons_zero, List.set_cons_succ]
  refine wpAnyH_take (i := 7) (v := ?_) rfl (by kernel_rfl) (by kernel_rfl) (by kernel_rfl) (fun _ _ _ h => h) (Or.inl ⟨by rfl, ?_⟩) (by assumption) ?_
  rotate_left
  · (intro w hSw; (obtain ⟨hSf, hSb⟩ := hSw; have p1 := hSf.cell1; have p2 := hSf.cell2; have p3 := hSf.cell3; have p4 := hSf.cell4; have p5 := hSf.cell5; have p6 := hSf.cell6; have p7 := hSf.cell7; have p8 := hSf.cell8; have p9 := hSf.cell9; have p10 := hSf.cell10; have p11 := hSf.cell11; have p12 := hSf.cell12; clear hSf hSb); go_simp; (try with_reducible rfl))
  try simp only [Act.put, List.getElem_toArray, List.getElem_cons_zero, List.getElem_cons_succ, List.setIfInBounds_toArray, List.set_cons_zero, List.set_cons_succ]
  refine wpAnyH_ready (rs := [10]) (by kernel_rfl) (by simp) ?_
  refine AllReadyH.cons rfl (fun K hK => ?_) AllReadyH.nil
  rw [if_pos (by rfl)]
  go_simp
  with_reducible refine (Cdata.out _).mono ?_
  rintro e u3 ⟨rfl, hb⟩
  refine hK.out _ _ ?_ (fun hHeld => ?_)
  · exact ⟨hHeld.1.keep hb, hHeld.2.trans (hb.mono hHeld.2.size)⟩
  clear hK K
  try simp only [Act.put, List.getElem_toArray, List.getElem_cons_zero, List.getElem_cons_succ, List.setIfInBounds_toArray, List.set_cons_zero, List.set_cons_succ]
  refine wpAnyH_take (i := 11) (v := ?_) rfl (by kernel_rfl) (by kernel_rfl) (by kernel_rfl) (fun _ _ _ h => h) (Or.inl ⟨by rfl, ?_⟩) (by assumption) ?_
  rotate_left
  · (intro w hSw; (obtain ⟨hSf, hSb⟩ := hSw; have p1 := hSf.cell1; have p2 := hSf.cell2; have p3 := hSf.cell3; have p4 := hSf.cell4; have p5 := hSf.cell5; have p6 := hSf.cell6; have p7 := hSf.cell7; have p8 := hSf.cell8; have p9 := hSf.cell9; have p10 := hSf.cell10; have p11 := hSf.cell11; have p12 := hSf.cell12; clear hSf hSb); go_simp; (try with_reducible rfl))
  try simp only [Act.put, List.getElem_toArray, List.getElem_cons_zero, List.getElem_cons_succ, List.setIfInBounds_toArray, List.set_cons_zero, List.set_cons_succ]
  refine wpAnyH_take (i := 12) (v := ?_) rfl (by kernel_rfl) (by kernel_rfl) (by kernel_rfl) (fun _ _ _ h => h) (Or.inl ⟨by rfl, ?_⟩) (by assumption) ?_
  rotate_left
  · (intro w hSw; (obtain ⟨hSf, hSb⟩ := hSw; have p1 := hSf.cell1; have p2 := hSf.cell2; have p3 := hSf.cell3; have p4 := hSf.cell4; have p5 := hSf.cell5; have p6 := hSf.cell6; have p7 := hSf.cell7; have p8 := hSf.cell8; have p9 := hSf.cell9; have p10 := hSf.cell10; have p11 := hSf.cell11; have p12 := hSf.cell12; clear hSf hSb); go_simp; (try with_reducible rfl))
  try simp only [Act.put, List.getElem_toArray, List.getElem_cons_zero, List.getElem_cons_succ, List.setIfInBounds_toArray, List.set_cons_zero, List.set_cons_succ]
  refine wpAnyH_take (i := 13) (v := ?_) rfl (by kernel_rfl) (by kernel_rfl) (by kernel_rfl) (fun _ _ _ h => h) (Or.inl ⟨by rfl, ?_⟩) (by assumption) ?_
  rotate_left
  · (intro w hSw; (obtain ⟨hSf, hSb⟩ := hSw; have p1 := hSf.cell1; have p2 := hSf.cell2; have p3 := hSf.cell3; have p4 := hSf.cell4; have p5 := hSf.cell5; have p6 := hSf.cell6; have p7 := hSf.cell7; have p8 := hSf.cell8; have p9 := hSf.cell9; have p10 := hSf.cell10; have p11 := hSf.cell11; have p12 := hSf.cell12; clear hSf hSb); go_simp; (try with_reducible rfl))
  try simp only [Act.put, List.getElem_toArray, List.getElem_cons_zero, List.getElem_cons_succ, List.setIfInBounds_toArray, List.set_cons_zero, List.set_cons_succ]
  refine wpAnyH_done (by kernel_rfl) (NoPanic.normal ?_) _
  have HB := Lib.hid hHeld.2
  clear hHeld
  go_wp2
  go_ret2
  exact ⟨by rw [← HC.out]; rfl, HB.out⟩
set_option maxHeartbeats 8000000 in
theorem rput_8_15 (f : Frm) (rs : List (Nat × Nat)) (w : World) (hk : f.kind = 8) (hp : ∀ j, 0 ≤ nm f j) (hrd : Rd w (.slice f.set.a f.set.n f.set.c) (ints rs)) (hl : rs.length ≤ 1000) (hm : mayF 8 f (ints rs) = true) (hf : f.fin = true) (ho : f.off ≠ 0) :
    Calls Tryd.prog 10 #[.agg #[.int .u64 f.kind, .int .u64 f.id, .int .u64 f.off, .int .u64 f.max, .int .u64 f.code, .int .u64 f.seq, .int .u64 f.prior, .int .u64 f.delay, .bool f.fin, .string ⟨f.data.toArray⟩, .string ⟨f.cid.toArray⟩, .string ⟨f.token.toArray⟩, .slice f.set.a f.set.n f.set.c]] w fun e w' => e = .returned (.tuple #[.string ⟨(putL f rs).toArray⟩, .int .i64 0]) ∧ Below w.heap.size w w' := by
  obtain ⟨hks, hHas, hnb⟩ := may_kind hm
  have hbd := may_bounds (k := 8) hk hm
  have CM := Lib.hid (fun W (h : Rd W (.slice f.set.a f.set.n f.set.c) (ints rs)) => rmayf 8 f (ints rs) W hk hp h (ints_pos rs) (by rw [ints_len]; exact hl) (by omega) (by omega) (by omega))
  rw [hm] at CM
  have HP : Hid (putL f rs = _) := Lib.hid (putL_8_15 f rs hk hHas hf ho)
  have hz0 : 0 ≤ f.id := hp 0
  have hy0 : f.id ≤ 4611686018427387903 := numB_nm hnb 0 (by decide)
  have hz1 : 0 ≤ f.off := hp 1
  have hy1 : f.off ≤ 4611686018427387903 := numB_nm hnb 1 (by decide)
  have CK : Hid (∀ W, Calls Tryd.prog 26 #[.int .u64 15] W fun e w' => e = .returned (.string ⟨(pt 15).toArray⟩) ∧ Below W.heap.size W w') := Lib.hid (fun W => rv_ok 15 W (by decide) (by decide))
  have CK0 : Hid (∀ W, Calls Tryd.prog 26 #[.int .u64 8] W fun e w' => e = .returned (.string ⟨(pt 8).toArray⟩) ∧ Below W.heap.size W w') := Lib.hid (fun W => rv_ok 8 W (by decide) (by decide))
  have hsk := pt_le8 15 (by decide)
  have Cid := Lib.hid (fun W => rv_ok f.id W hz0 hy0)
  have hsid := pt_le8 f.id.toNat (by omega)
  have Coff := Lib.hid (fun W => rv_ok f.off W hz1 hy1)
  have hsoff := pt_le8 f.off.toNat (by omega)
  have Cdata := Lib.hid (fun W => text_any f.data W (by omega))
  have hsdata : (pt f.data.length ++ f.data).length ≤ 2000 := by
    have := pt_le8 f.data.length (by omega)
    rw [List.length_append]; omega
  obtain ⟨sk, Ek⟩ : ∃ s, pt 15 = s := ⟨_, rfl⟩
  rw [Ek] at CK HP hsk
  obtain ⟨sid, Eid⟩ : ∃ s, pt f.id.toNat = s := ⟨_, rfl⟩
  rw [Eid] at Cid HP hsid
  obtain ⟨soff, Eoff⟩ : ∃ s, pt f.off.toNat = s := ⟨_, rfl⟩
  rw [Eoff] at Coff HP hsoff
  obtain ⟨sdata, Edata⟩ : ∃ s, pt f.data.length ++ f.data = s := ⟨_, rfl⟩
  rw [Edata] at Cdata HP hsdata
  have f2 : ¬ 9223372036854775807 < sk.length + sid.length := by omega
  have f3 : ¬ 9223372036854775807 < sk.length + sid.length + soff.length := by omega
  have f4 : ¬ 9223372036854775807 < sk.length + sid.length + soff.length + sdata.length := by omega
  have HC : Hid ((⟨sk.toArray⟩ : ByteArray) ++ ⟨sid.toArray⟩ ++ ⟨soff.toArray⟩ ++ ⟨sdata.toArray⟩ = ⟨(putL f rs).toArray⟩) := Lib.hid (by rw [HP.out] <;> (apply ByteArray.ext; simp))
  generalize putL f rs = R at *
  have HFR : Hid (FrD w.heap.size f (w.alloc (.cells #[.int .u64 f.kind, .int .u64 f.id, .int .u64 f.off, .int .u64 f.max, .int .u64 f.code, .int .u64 f.seq, .int .u64 f.prior, .int .u64 f.delay, .bool f.fin, .string ⟨f.data.toArray⟩, .string ⟨f.cid.toArray⟩, .string ⟨f.token.toArray⟩, .slice f.set.a f.set.n f.set.c] 36 (0, 0)))) := Lib.hid (World.alloc_heap_new w _)
  have HB0 : Hid (Below w.heap.size w (w.alloc (.cells #[.int .u64 f.kind, .int .u64 f.id, .int .u64 f.off, .int .u64 f.max, .int .u64 f.code, .int .u64 f.seq, .int .u64 f.prior, .int .u64 f.delay, .bool f.fin, .string ⟨f.data.toArray⟩, .string ⟨f.cid.toArray⟩, .string ⟨f.token.toArray⟩, .slice f.set.a f.set.n f.set.c] 36 (0, 0)))) := Lib.hid ((Below.refl w.heap.size w).alloc (Nat.le_refl _) _)
  have HRD := Lib.hid (hrd.below HB0.out)
  have HK := Lib.hid hk
  have HFN := Lib.hid hf
  have HON := Lib.hid ho
  clear hf ho
  clear HP hm hp hrd hk hks hHas hnb hbd hl Ek Eid Eoff Edata hz0 hy0 hz1 hy1
  go_enter Tryd.func10, Tryd.ntmps10
  go_wp2_with fail
  refine (CM.out _ HRD.out).mono ?_
  rintro e w1 ⟨rfl, hb⟩
  have HF1 := Lib.hid (HFR.out.keep hb)
  have HB1 := Lib.hid (HB0.out.trans (hb.mono HB0.out.size))
  have c0 := HF1.out.cell0
  rw [HK.out] at c0
  clear hb HRD CM
  go_wp2_with fail
  refine (CK0.out _).mono ?_
  rintro e w2 ⟨rfl, hb⟩
  have HF2 := Lib.hid (HF1.out.keep hb)
  have HB2 := Lib.hid (HB1.out.trans (hb.mono HB1.out.size))
  have d0 := HF2.out.cell0
  rw [HK.out] at d0
  clear hb c0
  have d2 := HF2.out.cell2
  have d8 := HF2.out.cell8
  rw [HFN.out] at d8
  have ho2 : (f.off != 0) = true := by rw [bne_iff_ne]; exact HON.out
  go_wp2_with fail
  refine (Coff.out _).mono ?_
  rintro e w3 ⟨rfl, hb⟩
  have HF3 := Lib.hid (HF2.out.keep hb)
  have HB3 := Lib.hid (HB2.out.trans (hb.mono HB2.out.size))
  have e8 := HF3.out.cell8
  rw [HFN.out] at e8
  clear hb d0 d2 d8 ho2
  go_wp2_with fail
  refine wp_region_noPanic ?_
  refine wp_region_held_drew (S := fun W' : World => FrD w.heap.size f W' ∧ Below w.heap.size w W') (by kernel_rfl) ?_ (fun hHeld => ?_)
  · exact ⟨HF3.out, Below.drew HB3.out⟩
  refine wpAnyH_take (i := 0) (v := ?_) rfl (by kernel_rfl) (by kernel_rfl) (by kernel_rfl) (fun _ _ _ h => h) (Or.inl ⟨by rfl, ?_⟩) (by assumption) ?_
  rotate_left
  · (intro w hSw; (obtain ⟨hSf, hSb⟩ := hSw; have p1 := hSf.cell1; have p2 := hSf.cell2; have p3 := hSf.cell3; have p4 := hSf.cell4; have p5 := hSf.cell5; have p6 := hSf.cell6; have p7 := hSf.cell7; have p8 := hSf.cell8; have p9 := hSf.cell9; have p10 := hSf.cell10; have p11 := hSf.cell11; have p12 := hSf.cell12; clear hSf hSb); go_simp; (try with_reducible rfl))
  try simp only [Act.put, List.getElem_toArray, List.getElem_cons_zero, List.getElem_cons_succ, List.setIfInBounds_toArray, List.set_cons_zero, List.set_cons_succ]
  refine wpAnyH_take (i := 2) (v := ?_) rfl (by kernel_rfl) (by kernel_rfl) (by kernel_rfl) (fun _ _ _ h => h) (Or.inl ⟨by rfl, ?_⟩) (by assumption) ?_
  rotate_left
  · (intro w hSw; (obtain ⟨hSf, hSb⟩ := hSw; have p1 := hSf.cell1; have p2 := hSf.cell2; have p3 := hSf.cell3; have p4 := hSf.cell4; have p5 := hSf.cell5; have p6 := hSf.cell6; have p7 := hSf.cell7; have p8 := hSf.cell8; have p9 := hSf.cell9; have p10 := hSf.cell10; have p11 := hSf.cell11; have p12 := hSf.cell12; clear hSf hSb); go_simp; (try with_reducible rfl))
  try simp only [Act.put, List.getElem_toArray, List.getElem_cons_zero, List.getElem_cons_succ, List.setIfInBounds_toArray, List.set_cons_zero, List.set_cons_succ]
  refine wpAnyH_take (i := 3) (v := ?_) rfl (by kernel_rfl) (by kernel_rfl) (by kernel_rfl) (fun _ _ _ h => h) (Or.inl ⟨by rfl, ?_⟩) (by assumption) ?_
  rotate_left
  · (intro w hSw; (obtain ⟨hSf, hSb⟩ := hSw; have p1 := hSf.cell1; have p2 := hSf.cell2; have p3 := hSf.cell3; have p4 := hSf.cell4; have p5 := hSf.cell5; have p6 := hSf.cell6; have p7 := hSf.cell7; have p8 := hSf.cell8; have p9 := hSf.cell9; have p10 := hSf.cell10; have p11 := hSf.cell11; have p12 := hSf.cell12; clear hSf hSb); go_simp; (try with_reducible rfl))
  try simp only [Act.put, List.getElem_toArray, List.getElem_cons_zero, List.getElem_cons_succ, List.setIfInBounds_toArray, List.set_cons_zero, List.set_cons_succ]
  refine wpAnyH_take (i := 6) (v := ?_) rfl (by kernel_rfl) (by kernel_rfl) (by kernel_rfl) (fun _ _ _ h => h) (Or.inl ⟨by rfl, ?_⟩) (by assumption) ?_
  rotate_left
  · (intro w hSw; (obtain ⟨hSf, hSb⟩ := hSw; have p1 := hSf.cell1; have p2 := hSf.cell2; have p3 := hSf.cell3; have p4 := hSf.cell4; have p5 := hSf.cell5; have p6 := hSf.cell6; have p7 := hSf.cell7; have p8 := hSf.cell8; have p9 := hSf.cell9; have p10 := hSf.cell10; have p11 := hSf.cell11; have p12 := hSf.cell12; clear hSf hSb); go_simp; (try with_reducible rfl))
  try simp only [Act.put, List.getElem_toArray, List.getElem_cons_zero, List.getElem_cons_succ, List.setIfInBounds_toArray, List.set_cons_zero, List.set_cons_succ]
  refine wpAnyH_take (i := 8) (v := ?_) rfl (by kernel_rfl) (by kernel_rfl) (by kernel_rfl) (fun _ _ _ h => h) (Or.inl ⟨by rfl, ?_⟩) (by assumption) ?_
  rotate_left
  · (intro w hSw; (obtain ⟨hSf, hSb⟩ := hSw; have p1 := hSf.cell1; have p2 := hSf.cell2; have p3 := hSf.cell3; have p4 := hSf.cell4; have p5 := hSf.cell5; have p6 := hSf.cell6; have p7 := hSf.cell7; have p8 := hSf.cell8; have p9 := hSf.cell9; have p10 := hSf.cell10; have p11 := hSf.cell11; have p12 := hSf.cell12; clear hSf hSb); go_simp; (try with_reducible rfl))
  try simp only [Act.put, List.getElem_toArray, List.getElem_cons_zero, List.getElem_cons_succ, List.setIfInBounds_toArray, List.set_cons_zero, List.set_cons_succ]
  refine wpAnyH_take (i := 9) (v := ?_) rfl (by kernel_rfl) (by kernel_rfl) (by kernel_rfl) (fun _ _ _ h => h) (Or.inl ⟨by rfl, ?_⟩) (by assumption) ?_
  rotate_left
  · (intro w hSw; (obtain ⟨hSf, hSb⟩ := hSw; have p1 := hSf.cell1; have p2 := hSf.cell2; have p3 := hSf.cell3; have p4 := hSf.cell4; have p5 := hSf.cell5; have p6 := hSf.cell6; have p7 := hSf.cell7; have p8 := hSf.cell8; have p9 := hSf.cell9; have p10 := hSf.cell10; have p11 := hSf.cell11; have p12 := hSf.cell12; clear hSf hSb); go_simp; (try with_reducible rfl))
  try simp only [Act.put, List.getElem_toArray, List.getElem_cons_zero, List.getElem_cons_succ, List.setIfInBounds_toArray, List.set_cons_zero, List.set_cons_succ]
  refine wpAnyH_ready (rs := [1]) (by kernel_rfl) (by simp) ?_
  refine AllReadyH.cons rfl (fun K hK => ?_) AllReadyH.nil
  rw [if_pos (by rfl)]
  go_simp
  with_reducible refine (CK.out _).mono ?_
  rintro e u1 ⟨rfl, hb⟩
  refine hK.out _ _ ?_ (fun hHeld => ?_)
  · exact ⟨hHeld.1.keep hb, hHeld.2.trans (hb.mono hHeld.2.size)⟩
  clear hK K
  try simp only [Act.put, List.getElem_toArray, List.getElem_cons_zero, List.getElem_cons_succ, List.setIfInBounds_toArray, List.set_cons_zero, List.set_cons_succ]
  refine wpAnyH_ready (rs := [4]) (by kernel_rfl) (by simp) ?_
  refine AllReadyH.cons rfl (fun K hK => ?_) AllReadyH.nil
  rw [if_pos (by rfl)]
  go_simp
  with_reducible refine (Cid.out _).mono ?_
  rintro e u2 ⟨rfl, hb⟩
  refine hK.out _ _ ?_ (fun hHeld => ?_)
  · exact ⟨hHeld.1.keep hb, hHeld.2.trans (hb.mono hHeld.2.size)⟩
  clear hK K
  try simp only [Act.put, List.getElem_toArray, List.getElem_cons_zero, List.getElem_cons_succ, List.setIfInBounds_toArray, List.set_cons_zero, List.set_cons_succ]
  refine wpAnyH_take (i := 5) (v := ?_) rfl (by kernel_rfl) (by kernel_rfl) (by kernel_rfl) (fun _ _ _ h => h) (Or.inl ⟨by rfl, ?_⟩) (by assumption) ?_
  rotate_left
  · (intro w hSw; (obtain ⟨hSf, hSb⟩ := hSw; have p1 := hSf.cell1; have p2 := hSf.cell2; have p3 := hSf.cell3; have p4 := hSf.cell4; have p5 := hSf.cell5; have p6 := hSf.cell6; have p7 := hSf.cell7; have p8 := hSf.cell8; have p9 := hSf.cell9; have p10 := hSf.cell10; have p11 := hSf.cell11; have p12 := hSf.cell12; clear hSf hSb); go_simp; (try with_reducible rfl))
  try simp only [Act.put, List.getElem_toArray, List.getElem_cons_zero, List.getElem_cons_succ, List.setIfInBounds_toArray, List.set_cons_zero, List.set_cons_succ]
  refine wpAnyH_take (i := 7) (v := ?_) rfl (by kernel_rfl) (by kernel_rfl) (by kernel_rfl) (fun _ _ _ h => h) (Or.inl ⟨by rfl, ?_⟩) (by assumption) ?_
  rotate_left
  · (intro w hSw; (obtain ⟨hSf, hSb⟩ := hSw; have p1 := hSf.cell1; have p2 := hSf.cell2; have p3 := hSf.cell3; have p4 := hSf.cell4; have p5 := hSf.cell5; have p6 := hSf.cell6; have p7 := hSf.cell7; have p8 := hSf.cell8; have p9 := hSf.cell9; have p10 := hSf.cell10; have p11 := hSf.cell11; have p12 := hSf.cell12; clear hSf hSb); go_simp; (try with_reducible rfl))
  try simp only [Act.put, List.getElem_toArray, List.getElem_cons_zero, List.getElem_cons_succ, List.setIfInBounds_toArray, List.set_cons_zero, List.set_cons_succ]
  refine wpAnyH_ready (rs := [10]) (by kernel_rfl) (by simp) ?_
  refine AllReadyH.cons rfl (fun K hK => ?_) AllReadyH.nil
  rw [if_pos (by rfl)]
  go_simp
  with_reducible refine (Cdata.out _).mono ?_
  rintro e u3 ⟨rfl, hb⟩
  refine hK.out _ _ ?_ (fun hHeld => ?_)
  · exact ⟨hHeld.1.keep hb, hHeld.2.trans (hb.mono hHeld.2.size)⟩
  clear hK K
  try simp only [Act.put, List.getElem_toArray, List.getElem_cons_zero, List.getElem_cons_succ, List.setIfInBounds_toArray, List.set_cons_zero, List.set_cons_succ]
  refine wpAnyH_take (i := 11) (v := ?_) rfl (by kernel_rfl) (by kernel_rfl) (by kernel_rfl) (fun _ _ _ h => h) (Or.inl ⟨by rfl, ?_⟩) (by assumption) ?_
  rotate_left
  · (intro w hSw; (obtain ⟨hSf, hSb⟩ := hSw; have p1 := hSf.cell1; have p2 := hSf.cell2; have p3 := hSf.cell3; have p4 := hSf.cell4; have p5 := hSf.cell5; have p6 := hSf.cell6; have p7 := hSf.cell7; have p8 := hSf.cell8; have p9 := hSf.cell9; have p10 := hSf.cell10; have p11 := hSf.cell11; have p12 := hSf.cell12; clear hSf hSb); go_simp; (try with_reducible rfl))
  try simp only [Act.put, List.getElem_toArray, List.getElem_cons_zero, List.getElem_cons_succ, List.setIfInBounds_toArray, List.set_cons_zero, List.set_cons_succ]
  refine wpAnyH_take (i := 12) (v := ?_) rfl (by kernel_rfl) (by kernel_rfl) (by kernel_rfl) (fun _ _ _ h => h) (Or.inl ⟨by rfl, ?_⟩) (by assumption) ?_
  rotate_left
  · (intro w hSw; (obtain ⟨hSf, hSb⟩ := hSw; have p1 := hSf.cell1; have p2 := hSf.cell2; have p3 := hSf.cell3; have p4 := hSf.cell4; have p5 := hSf.cell5; have p6 := hSf.cell6; have p7 := hSf.cell7; have p8 := hSf.cell8; have p9 := hSf.cell9; have p10 := hSf.cell10; have p11 := hSf.cell11; have p12 := hSf.cell12; clear hSf hSb); go_simp; (try with_reducible rfl))
  try simp only [Act.put, List.getElem_toArray, List.getElem_cons_zero, List.getElem_cons_succ, List.setIfInBounds_toArray, List.set_cons_zero, List.set_cons_succ]
  refine wpAnyH_take (i := 13) (v := ?_) rfl (by kernel_rfl) (by kernel_rfl) (by kernel_rfl) (fun _ _ _ h => h) (Or.inl ⟨by rfl, ?_⟩) (by assumption) ?_
  rotate_left
  · (intro w hSw; (obtain ⟨hSf, hSb⟩ := hSw; have p1 := hSf.cell1; have p2 := hSf.cell2; have p3 := hSf.cell3; have p4 := hSf.cell4; have p5 := hSf.cell5; have p6 := hSf.cell6; have p7 := hSf.cell7; have p8 := hSf.cell8; have p9 := hSf.cell9; have p10 := hSf.cell10; have p11 := hSf.cell11; have p12 := hSf.cell12; clear hSf hSb); go_simp; (try with_reducible rfl))
  try simp only [Act.put, List.getElem_toArray, List.getElem_cons_zero, List.getElem_cons_succ, List.setIfInBounds_toArray, List.set_cons_zero, List.set_cons_succ]
  refine wpAnyH_done (by kernel_rfl) (NoPanic.normal ?_) _
  have HB := Lib.hid hHeld.2
  clear hHeld
  go_wp2
  go_ret2
  exact ⟨by rw [← HC.out]; rfl, HB.out⟩
end Go.Proofs.YtpdfdhmhfdogcaaDoor.Fm
