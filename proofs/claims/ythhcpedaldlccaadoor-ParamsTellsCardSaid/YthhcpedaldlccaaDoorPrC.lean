/- The document's Put of layer 5. -/
import Derived.Test.YthhcpedaldlccaaDoorPrB
import Derived.Deep.RegionHeld3
namespace Go.Proofs.YthhcpedaldlccaaDoor.Pm
open Go.RowKit Vm
set_option linter.unusedVariables false
set_option linter.unusedSimpArgs false

set_option maxHeartbeats 1000000 in
theorem rv_any (n : Int) (w : World) (h0 : 0 ≤ n) : Calls Tryd.prog 22 #[.int .u64 n] w fun e w' => e = .returned (.string ⟨(ps n.toNat).toArray⟩) ∧ Below w.heap.size w w' := by
  have CP := Lib.hid (fun w => rput n w h0)
  clear h0
  go_enter Tryd.func22, Tryd.ntmps22
  go_wp2_with fail
  refine (CP.out _).mono ?_
  rintro e w1 ⟨rfl, hb⟩
  have HB := Lib.hid hb
  clear hb
  go_wp2
  go_ret
  exact ⟨rfl, HB.out⟩
theorem valL_num {k : Nat} (h : rvB k = true) (hk : k < 15) (p : Prm) : valL p k = ps (rvN p k).toNat ∧ fld p k = some (rvN p k) ∧ k ≠ 2 := by
  match k, hk with
  | 1, _ | 3, _ | 4, _ | 5, _ | 6, _ | 7, _ | 8, _ | 9, _ | 10, _ | 11, _ | 14, _ => exact ⟨rfl, rfl, by decide⟩
  | 0, _ | 2, _ | 12, _ | 13, _ => cases h
theorem valL_not {k : Nat} (h : rvB k = false) (hk : k < 15) (h2 : k ≠ 2) (p : Prm) : valL p k = [] := by
  match k, hk with
  | 1, _ | 3, _ | 4, _ | 5, _ | 6, _ | 7, _ | 8, _ | 9, _ | 10, _ | 11, _ | 14, _ => cases h
  | 0, _ | 12, _ | 13, _ => rfl
  | 2, _ => exact absurd rfl h2
/-- Between two rounds of its loop. -/
def RPRel (p : Prm) (w : World) (sv iv : Value) (W : World) : Prop :=
  ∃ k : Nat, 1 ≤ k ∧ k ≤ 15 ∧ iv = .int .u64 (k : Nat) ∧ sv = .string ⟨(putN p k).toArray⟩ ∧ RBk w.heap.size p W ∧ Below w.heap.size w W
set_option maxHeartbeats 8000000 in
theorem rput_ok (p : Prm) (w : World) (hw : Wf p) (hc : chkB p = true) : Calls Tryd.prog 10 #[pv p] w fun e w' => e = .returned (.tuple #[.string ⟨(putL p).toArray⟩, .int .i64 0]) ∧ Below w.heap.size w w' := by
  have CC := Lib.hid (fun (w : World) => rcheck_any p w hw)
  rw [chkE_yes hc] at CC
  have h16 := tok_16 hc
  have HF := Lib.hid (putN_few p h16)
  have HTK : Hid (p.tok ≠ [] → p.tok.length = 16) := Lib.hid (fun h => by
    unfold chkB tokB at hc
    rw [Bool.and_eq_true, Bool.or_eq_true] at hc
    rcases hc.2 with h3 | h3
    · exact absurd (List.isEmpty_iff.1 h3) h
    · exact of_decide_eq_true h3)
  have HC := Lib.hid hc
  have HR0 : Hid (RBk w.heap.size p (w.alloc (.cells #[.int .u64 p.idle, .int .u64 p.size, .int .u64 p.data, .int .u64 p.bl, .int .u64 p.br, .int .u64 p.uni, .int .u64 p.bidis, .int .u64 p.unis, .int .u64 p.expo, .int .u64 p.delay, .int .u64 p.ids, .string ⟨p.tok.toArray⟩] 26))) := Lib.hid (RBk.made w p)
  have RV := Lib.hid rv_any
  clear hw hc
  unfold pv
  go_enter Tryd.func10, Tryd.ntmps10
  go_wp2_with fail
  refine (CC.out _).mono ?_
  rintro e w1 ⟨rfl, hb⟩
  have HB1 := Lib.hid (((Below.refl w.heap.size w).alloc (Nat.le_refl _) (.cells #[.int .u64 p.idle, .int .u64 p.size, .int .u64 p.data, .int .u64 p.bl, .int .u64 p.br, .int .u64 p.uni, .int .u64 p.bidis, .int .u64 p.unis, .int .u64 p.expo, .int .u64 p.delay, .int .u64 p.ids, .string ⟨p.tok.toArray⟩] 26)).trans (hb.mono (by simp)))
  have HR1 := Lib.hid (HR0.out.keep hb)
  clear hb HR0
  go_wp2
  go_loopw [5, 6] (fun sv iv wr => RPRel p w sv iv wr) (fun _ iv _ => 15 - (intOf iv).toNat)
  case atStart => exact ⟨1, by decide, by decide, rfl, rfl, HR1.out, HB1.out⟩
  case round =>
    obtain ⟨k, hk1, hk, rfl, rfl, hR, hb⟩ := hrel
    have HRr := Lib.hid hR
    have HB := Lib.hid hb
    have hf := HF.out k
    clear hR hb
    have a0 := HRr.out.cell0
    have a1 := HRr.out.cell1
    have a2 := HRr.out.cell2
    have a3 := HRr.out.cell3
    have a4 := HRr.out.cell4
    have a5 := HRr.out.cell5
    have a6 := HRr.out.cell6
    have a7 := HRr.out.cell7
    have a8 := HRr.out.cell8
    have a9 := HRr.out.cell9
    have a10 := HRr.out.cell10
    have a11 := HRr.out.cell11
    by_cases hlt : k < 15
    · cases his : rvB k with
      | true =>
        have hv := valL_num his hlt p
        have hu := valL_num his hlt usual
        have hb1 := le62 hv.2.1 hlt HC.out
        have hb2 := le62 hu.2.1 hlt chk_usual
        have CV := Lib.hid (fun w => rvalue_any p k w)
        have CU := Lib.hid (fun w => rvalue_any usual k w)
        rw [his] at CV CU
        obtain ⟨x, Ex⟩ : ∃ x, rvN p k = x := ⟨_, rfl⟩
        obtain ⟨y, Ey⟩ : ∃ y, rvN usual k = y := ⟨_, rfl⟩
        rw [Ex] at CV hv hb1
        rw [Ey] at CU hu hb2
        have hk2 : ((k : Nat) : Int) ≠ 2 := by have := hv.2.2; omega
        have hk2b : (((k : Nat) : Int) == 2) = false := beq_eq_false_iff_ne.2 hk2
        have HV1 := Lib.hid hv.1
        have HU1 := Lib.hid hu.1
        clear hv hu Ex Ey his
        go_wp2_with fail
        refine (CV.out _).mono ?_
        rintro e w2 ⟨rfl, hb⟩
        have HR2 := Lib.hid (HRr.out.keep hb)
        have HB2 := Lib.hid (HB.out.trans (hb.mono HB.out.size))
        clear hb a0 a1 a2 a3 a4 a5 a6 a7 a8 a9 a10 a11
        go_wp2_with fail
        refine (rdefault_any _).mono ?_
        rintro e w3 ⟨rfl, hb⟩
        have HR3 := Lib.hid (HR2.out.keep hb)
        have HB3 := Lib.hid (HB2.out.trans (hb.mono HB2.out.size))
        clear hb
        go_wp2_with fail
        refine (CU.out _).mono ?_
        rintro e w4 ⟨rfl, hb⟩
        have HR4 := Lib.hid (HR3.out.keep hb)
        have HB4 := Lib.hid (HB3.out.trans (hb.mono HB3.out.size))
        clear hb
        by_cases hxy : x = y
        · have hn : (x != y) = false := by rw [hxy]; simp
          have hval : Hid (putN p (k + 1) = putN p k) := Lib.hid (putN_yes (by rw [HV1.out, HU1.out, hxy]))
          clear hxy
          go_wp2
          go_roundw
          case rel => exact ⟨k + 1, by omega, by omega, by go_num, by rw [hval.out], HR4.out, HB4.out⟩
          case measure => simp [intOf]; omega
        · have hn : (x != y) = true := by rw [bne_iff_ne]; exact hxy
          have hval : Hid (putN p (k + 1) = putN p k ++ pairL (k : Nat) (ps x.toNat)) := Lib.hid (by
            rw [putN_no (fun h => hxy (by
              rw [HV1.out, HU1.out] at h
              have := ps_inj (a := x.toNat) (b := y.toNat) (by omega) (by omega) h
              omega)), HV1.out])
          obtain ⟨a, Ea⟩ : ∃ a, ps x.toNat = a := ⟨_, rfl⟩
          obtain ⟨pk, Ek⟩ : ∃ a, ps k = a := ⟨_, rfl⟩
          obtain ⟨pl, El⟩ : ∃ b, ps a.length = b := ⟨_, rfl⟩
          have la : a.length ≤ 8 := by rw [← Ea]; exact ps_len _
          have lk : pk.length ≤ 8 := by rw [← Ek]; exact ps_len _
          have ll : pl.length ≤ 8 := by rw [← El]; exact ps_len _
          have C1 := Lib.hid (fun w => RV.out x w hb1.1)
          have C2 := Lib.hid (fun w => RV.out ((k : Nat) : Int) w (by omega))
          have C3 := Lib.hid (fun w => RV.out ((a.length : Nat) : Int) w (by omega))
          rw [Ea] at C1 hval
          rw [Int.toNat_natCast, Ek] at C2
          rw [Int.toNat_natCast, El] at C3
          unfold pairL at hval
          rw [Int.toNat_natCast, Ek, El] at hval
          have hwr : IntKind.u64.wrap ((a.length : Nat) : Int) = ((a.length : Nat) : Int) := by rw [IntKind.wrap_u64]; omega
          clear hxy Ea Ek El
          go_wp2_with fail
          refine (C2.out _).mono ?_
          rintro e w5 ⟨rfl, hb⟩
          have HR5 := Lib.hid (HR4.out.keep hb)
          have HB5 := Lib.hid (HB4.out.trans (hb.mono HB4.out.size))
          clear hb
          go_wp2_with fail
          refine (C1.out _).mono ?_
          rintro e w6 ⟨rfl, hb⟩
          have HR6 := Lib.hid (HR5.out.keep hb)
          have HB6 := Lib.hid (HB5.out.trans (hb.mono HB5.out.size))
          clear hb
          go_wp2_with fail
          refine (C3.out _).mono ?_
          rintro e w7 ⟨rfl, hb⟩
          have HR7 := Lib.hid (HR6.out.keep hb)
          have HB7 := Lib.hid (HB6.out.trans (hb.mono HB6.out.size))
          clear hb
          go_wp2_with fail
          refine (C1.out _).mono ?_
          rintro e w8 ⟨rfl, hb⟩
          have HR8 := Lib.hid (HR7.out.keep hb)
          have HB8 := Lib.hid (HB7.out.trans (hb.mono HB7.out.size))
          clear hb
          go_wp2
          go_roundw
          case rel =>
            refine ⟨k + 1, by omega, by omega, by go_num, ?_, HR8.out, HB8.out⟩
            rw [hval.out]
            congr 1
            apply ByteArray.ext
            simp
          case measure => simp [intOf]; omega
      | false =>
        have CV := Lib.hid (fun w => rvalue_any p k w)
        have CU := Lib.hid (fun w => rvalue_any usual k w)
        rw [his] at CV CU
        obtain ⟨x, Ex⟩ : ∃ x, rvN p k = x := ⟨_, rfl⟩
        obtain ⟨y, Ey⟩ : ∃ y, rvN usual k = y := ⟨_, rfl⟩
        rw [Ex] at CV
        rw [Ey] at CU
        have HIS := Lib.hid his
        clear Ex Ey his
        go_wp2_with fail
        refine (CV.out _).mono ?_
        rintro e w2 ⟨rfl, hb⟩
        have HR2 := Lib.hid (HRr.out.keep hb)
        have HB2 := Lib.hid (HB.out.trans (hb.mono HB.out.size))
        clear hb a0 a1 a2 a3 a4 a5 a6 a7 a8 a9 a10 a11
        go_wp2_with fail
        refine (rdefault_any _).mono ?_
        rintro e w3 ⟨rfl, hb⟩
        have HR3 := Lib.hid (HR2.out.keep hb)
        have HB3 := Lib.hid (HB2.out.trans (hb.mono HB2.out.size))
        clear hb
        go_wp2_with fail
        refine (CU.out _).mono ?_
        rintro e w4 ⟨rfl, hb⟩
        have HR4 := Lib.hid (HR3.out.keep hb)
        have HB4 := Lib.hid (HB3.out.trans (hb.mono HB3.out.size))
        have a11 := HR4.out.cell11
        clear hb
        by_cases hk2 : k = 2
        · subst hk2
          by_cases ht : p.tok = []
          · have he : (!p.tok.isEmpty) = false := by rw [ht]; rfl
            have hval : Hid (putN p 3 = putN p 2) := Lib.hid (putN_yes (show p.tok = [] from ht))
            clear ht
            go_wp2
            go_roundw
            case rel => exact ⟨3, by omega, by omega, by go_num, by rw [hval.out], HR4.out, HB4.out⟩
            case measure => simp [intOf]
          · have h16 := HTK.out ht
            have he : (!p.tok.isEmpty) = true := by cases hh : p.tok with | nil => exact absurd hh ht | cons b r => rfl
            have hval : Hid (putN p 3 = putN p 2 ++ ([2] ++ [16] ++ p.tok)) := Lib.hid (by
              rw [putN_no (p := p) (k := 2) (show ¬ p.tok = [] from ht)]
              show putN p 2 ++ (ps 2 ++ ps p.tok.length ++ p.tok) = _
              rw [h16]; rfl)
            have C1 : Hid (∀ w, Calls Tryd.prog 22 #[.int .u64 2] w fun e w' => e = .returned (.string ⟨#[2]⟩) ∧ Below w.heap.size w w') := Lib.hid (fun w => RV.out 2 w (by decide))
            have C2 : Hid (∀ w, Calls Tryd.prog 22 #[.int .u64 16] w fun e w' => e = .returned (.string ⟨#[16]⟩) ∧ Below w.heap.size w w') := Lib.hid (fun w => RV.out 16 w (by decide))
            clear ht
            have f1 : ¬ 9223372036854775807 < (putN p 2).length + 1 := by omega
            have f2 : ¬ 9223372036854775807 < (putN p 2).length + 1 + 1 := by omega
            have f3 : ¬ 9223372036854775807 < (putN p 2).length + 1 + 1 + 16 := by omega
            have f4 : ¬ 9223372036854775807 < (putN p 2).length + 1 + 1 + p.tok.length := by omega
            go_wp2_with fail
            refine wp_region_noPanic ?_
            refine wp_region_held_drew (S := fun w' => RBk w.heap.size p w' ∧ Below w.heap.size w w') (by kernel_rfl) ?_ (fun hHeld => ?_)
            · exact ⟨HR4.out.keep ⟨rfl, rfl, rfl, Nat.le_refl _, fun _ _ => rfl⟩, below_drewN HB4.out 1⟩
            refine wpAnyH_take (i := 0) (v := ?_) rfl (by kernel_rfl) (by kernel_rfl) (by kernel_rfl) (fun _ _ _ h => h) (Or.inl ⟨by rfl, ?_⟩) (by assumption) ?_
            rotate_left
            · (intro w hSw; clear hSw; go_simp; (try with_reducible rfl))
            try simp only [Act.put, List.getElem_toArray, List.getElem_cons_zero, List.getElem_cons_succ, List.setIfInBounds_toArray, List.set_cons_zero, List.set_cons_succ]
            refine wpAnyH_take (i := 5) (v := ?_) rfl (by kernel_rfl) (by kernel_rfl) (by kernel_rfl) (fun _ _ _ h => h) (Or.inl ⟨by rfl, ?_⟩) (by assumption) ?_
            rotate_left
            · (intro w hSw; clear hSw; go_simp; (try with_reducible rfl))
            try simp only [Act.put, List.getElem_toArray, List.getElem_cons_zero, List.getElem_cons_succ, List.setIfInBounds_toArray, List.set_cons_zero, List.set_cons_succ]
            refine wpAnyH_take (i := 6) (v := ?_) rfl (by kernel_rfl) (by kernel_rfl) (by kernel_rfl) (fun _ _ _ h => h) (Or.inl ⟨by rfl, ?_⟩) (by assumption) ?_
            rotate_left
            · (intro w hSw; have z := hSw.1.cell11; clear hSw; go_simp; (try with_reducible rfl))
            try simp only [Act.put, List.getElem_toArray, List.getElem_cons_zero, List.getElem_cons_succ, List.setIfInBounds_toArray, List.set_cons_zero, List.set_cons_succ]
            refine wpAnyH_ready (rs := [1]) (by kernel_rfl) (by simp) ?_
            refine AllReadyH.cons rfl (fun K hK => ?_) AllReadyH.nil
            rw [if_pos (by rfl)]
            go_simp
            refine (C1.out _).mono ?_
            rintro e a2 ⟨rfl, hb⟩
            refine hK.out _ _ ?_ (fun hHeld => ?_)
            · exact ⟨hHeld.1.keep hb, hHeld.2.trans (hb.mono hHeld.2.size)⟩
            clear hK K
            try simp only [Act.put, List.getElem_toArray, List.getElem_cons_zero, List.getElem_cons_succ, List.setIfInBounds_toArray, List.set_cons_zero, List.set_cons_succ]
            refine wpAnyH_take (i := 2) (v := ?_) rfl (by kernel_rfl) (by kernel_rfl) (by kernel_rfl) (fun _ _ _ h => h) (Or.inl ⟨by rfl, ?_⟩) (by assumption) ?_
            rotate_left
            · (intro w hSw; clear hSw; go_simp; (try with_reducible rfl))
            try simp only [Act.put, List.getElem_toArray, List.getElem_cons_zero, List.getElem_cons_succ, List.setIfInBounds_toArray, List.set_cons_zero, List.set_cons_succ]
            refine wpAnyH_ready (rs := [3]) (by kernel_rfl) (by simp) ?_
            refine AllReadyH.cons rfl (fun K hK => ?_) AllReadyH.nil
            rw [if_pos (by rfl)]
            go_simp
            refine (C2.out _).mono ?_
            rintro e a3 ⟨rfl, hb⟩
            refine hK.out _ _ ?_ (fun hHeld => ?_)
            · exact ⟨hHeld.1.keep hb, hHeld.2.trans (hb.mono hHeld.2.size)⟩
            clear hK K
            try simp only [Act.put, List.getElem_toArray, List.getElem_cons_zero, List.getElem_cons_succ, List.setIfInBounds_toArray, List.set_cons_zero, List.set_cons_succ]
            refine wpAnyH_take (i := 4) (v := ?_) rfl (by kernel_rfl) (by kernel_rfl) (by kernel_rfl) (fun _ _ _ h => h) (Or.inl ⟨by rfl, ?_⟩) (by assumption) ?_
            rotate_left
            · (intro w hSw; clear hSw; go_simp; (try with_reducible rfl))
            try simp only [Act.put, List.getElem_toArray, List.getElem_cons_zero, List.getElem_cons_succ, List.setIfInBounds_toArray, List.set_cons_zero, List.set_cons_succ]
            refine wpAnyH_take (i := 7) (v := ?_) rfl (by kernel_rfl) (by kernel_rfl) (by kernel_rfl) (fun _ _ _ h => h) (Or.inl ⟨by rfl, ?_⟩) (by assumption) ?_
            rotate_left
            · (intro w hSw; clear hSw; go_simp; (try with_reducible rfl))
            try simp only [Act.put, List.getElem_toArray, List.getElem_cons_zero, List.getElem_cons_succ, List.setIfInBounds_toArray, List.set_cons_zero, List.set_cons_succ]
            refine wpAnyH_take (i := 8) (v := ?_) rfl (by kernel_rfl) (by kernel_rfl) (by kernel_rfl) (fun _ _ _ h => h) (Or.inl ⟨by rfl, ?_⟩) (by assumption) ?_
            rotate_left
            · (intro w hSw; clear hSw; go_simp; (try with_reducible rfl))
            try simp only [Act.put, List.getElem_toArray, List.getElem_cons_zero, List.getElem_cons_succ, List.setIfInBounds_toArray, List.set_cons_zero, List.set_cons_succ]
            refine wpAnyH_done (by kernel_rfl) (NoPanic.normal ?_) _
            have HR9 := Lib.hid hHeld.1
            have HB9 := Lib.hid hHeld.2
            clear hHeld
            go_wp2
            go_roundw
            case rel =>
              refine ⟨3, by omega, by omega, by go_num, ?_, HR9.out, HB9.out⟩
              rw [hval.out]
              congr 1
              apply ByteArray.ext
              simp
            case measure => simp [intOf]
        · have hk2' : ((k : Nat) : Int) ≠ 2 := by omega
          have hk2b : (((k : Nat) : Int) == 2) = false := beq_eq_false_iff_ne.2 hk2'
          have hval : Hid (putN p (k + 1) = putN p k) := Lib.hid (putN_yes (by rw [valL_not HIS.out hlt hk2 p, valL_not HIS.out hlt hk2 usual]))
          clear hk2 hk2'
          go_wp2
          go_roundw
          case rel => exact ⟨k + 1, by omega, by omega, by go_num, by rw [hval.out], HR4.out, HB4.out⟩
          case measure => simp [intOf]; omega
    · obtain rfl : k = 15 := by omega
      go_wp2
      go_ret2
      exact ⟨rfl, HB.out⟩
set_option maxHeartbeats 1000000 in
theorem rput_not (p : Prm) (w : World) (hw : Wf p) (hc : chkB p = false) : Calls Tryd.prog 10 #[pv p] w fun e w' => e = .returned (.tuple #[.string ⟨#[]⟩, .int .i64 50]) ∧ Below w.heap.size w w' := by
  have CC := Lib.hid (fun (w : World) => rcheck_any p w hw)
  rw [chkE_no hc] at CC
  clear hw hc
  unfold pv
  go_enter Tryd.func10, Tryd.ntmps10
  go_wp2_with fail
  refine (CC.out _).mono ?_
  rintro e w1 ⟨rfl, hb⟩
  have HB1 := Lib.hid (((Below.refl w.heap.size w).alloc (Nat.le_refl _) (.cells #[.int .u64 p.idle, .int .u64 p.size, .int .u64 p.data, .int .u64 p.bl, .int .u64 p.br, .int .u64 p.uni, .int .u64 p.bidis, .int .u64 p.unis, .int .u64 p.expo, .int .u64 p.delay, .int .u64 p.ids, .string ⟨p.tok.toArray⟩] 26)).trans (hb.mono (by simp)))
  clear hb
  go_wp2
  go_ret2
  exact ⟨rfl, HB1.out⟩
theorem rputP_any (p : Prm) (w : World) (hw : Wf p) : Calls Tryd.prog 10 #[pv p] w fun e w' => e = .returned (.tuple #[.string ⟨(putS p).toArray⟩, .int .i64 (putE p)]) ∧ Below w.heap.size w w' := by
  cases hc : chkB p with
  | true => rw [(put_yes hc).1, (put_yes hc).2]; exact rput_ok p w hw hc
  | false => rw [(put_no hc).1, (put_no hc).2]; exact rput_not p w hw hc
end Go.Proofs.YthhcpedaldlccaaDoor.Pm
