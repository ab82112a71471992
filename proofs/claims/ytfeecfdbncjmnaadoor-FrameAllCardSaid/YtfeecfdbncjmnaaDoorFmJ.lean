/- The walks of layer 6: a reader's frame, where something is not there. By tools/gen-frame-8.py. -/
import Derived.Test.YtfeecfdbncjmnaaDoorFmI
namespace Go.Proofs.YtfeecfdbncjmnaaDoor.Fm
set_option maxRecDepth 20000
open Go.RowKit Vm
set_option linter.unusedVariables false
set_option linter.unusedSimpArgs false

set_option maxHeartbeats 16000000 in
theorem frame_no_texts (b : Nat) (c : UInt8) (t : List UInt8) (w : World) (ht : Tab w) (h : FBk b (c :: t) frZ w) (hl : t.length ≤ 100000) (hk : toldB c.toNat = true) (hs : (toldP c.toNat).testBit 11 = false) (l2 : List UInt8) (f2 : Frm) (hn : numsN (toldP c.toNat) t { frZ with kind := (toldK c.toNat : Nat) } 7 = some (l2, f2)) (CRT : Hid (∀ W, Tab W → FBk b l2 { f2 with fin := (toldP c.toNat).testBit 10 } W → Calls Tryd.prog 56 #[.pointer (some ⟨b, 0, none⟩), .int .u64 (toldP c.toNat : Nat)] W fun e W' => e = .panicked GU ∧ (∃ l2 f2, FBk b l2 f2 W') ∧ It.Only (fun k => k = b) W W')) : Calls Tryd.prog 31 #[.pointer (some ⟨b, 0, none⟩)] w fun e w' => e = .panicked GU ∧ (∃ l2 f2, FBk b l2 f2 w') ∧ It.Only (fun k => k = b) w w' := by
  obtain ⟨p, Ep⟩ : ∃ p, toldP c.toNat = p := ⟨_, rfl⟩
  obtain ⟨K, EK⟩ : ∃ K, toldK c.toNat = K := ⟨_, rfl⟩
  have hp : p < 8192 := by rw [← Ep]; exact toldP_lt _
  have CN := Lib.hid (fun w (h : FBk b (c :: t) frZ w) => number_ok b c t frZ w h (by simp; omega))
  have CT := Lib.hid (fun w => told_any c.toNat c.toNat_lt w)
  rw [hk, Ep, EK] at CT
  rw [Ep] at hs
  rw [Ep, EK] at hn
  rw [Ep] at CRT
  have e11 : (bits .and .u64 ((p : Nat) : Int) 2048 != 0) = false := bitF p 11 hp (by decide) _ hs
  obtain ⟨fb, hfb⟩ : ∃ fb, p.testBit 10 = fb := ⟨_, rfl⟩
  have e10 : (bits .and .u64 ((p : Nat) : Int) 1024 != 0) = fb := bitF p 10 hp (by decide) _ hfb
  rw [hfb] at CRT
  have hbg := tab_ne ht h
  have hbl := h.lt
  have HT := Lib.hid ht
  have HB := Lib.hid h
  have HN := Lib.hid hn
  have hI0 := fun (u : World) => run_index_ptr7 #[.pointer (some ⟨b, 2, none⟩), .pointer (some ⟨b, 3, none⟩), .pointer (some ⟨b, 5, none⟩), .pointer (some ⟨b, 4, none⟩), .pointer (some ⟨b, 6, none⟩), .pointer (some ⟨b, 7, none⟩), .pointer (some ⟨b, 8, none⟩)] 0 (.pointer (some ⟨b, 2, none⟩)) u (by decide) rfl
  have hI1 := fun (u : World) => run_index_ptr7 #[.pointer (some ⟨b, 2, none⟩), .pointer (some ⟨b, 3, none⟩), .pointer (some ⟨b, 5, none⟩), .pointer (some ⟨b, 4, none⟩), .pointer (some ⟨b, 6, none⟩), .pointer (some ⟨b, 7, none⟩), .pointer (some ⟨b, 8, none⟩)] 1 (.pointer (some ⟨b, 3, none⟩)) u (by decide) rfl
  have hI2 := fun (u : World) => run_index_ptr7 #[.pointer (some ⟨b, 2, none⟩), .pointer (some ⟨b, 3, none⟩), .pointer (some ⟨b, 5, none⟩), .pointer (some ⟨b, 4, none⟩), .pointer (some ⟨b, 6, none⟩), .pointer (some ⟨b, 7, none⟩), .pointer (some ⟨b, 8, none⟩)] 2 (.pointer (some ⟨b, 5, none⟩)) u (by decide) rfl
  have hI3 := fun (u : World) => run_index_ptr7 #[.pointer (some ⟨b, 2, none⟩), .pointer (some ⟨b, 3, none⟩), .pointer (some ⟨b, 5, none⟩), .pointer (some ⟨b, 4, none⟩), .pointer (some ⟨b, 6, none⟩), .pointer (some ⟨b, 7, none⟩), .pointer (some ⟨b, 8, none⟩)] 3 (.pointer (some ⟨b, 4, none⟩)) u (by decide) rfl
  have hI4 := fun (u : World) => run_index_ptr7 #[.pointer (some ⟨b, 2, none⟩), .pointer (some ⟨b, 3, none⟩), .pointer (some ⟨b, 5, none⟩), .pointer (some ⟨b, 4, none⟩), .pointer (some ⟨b, 6, none⟩), .pointer (some ⟨b, 7, none⟩), .pointer (some ⟨b, 8, none⟩)] 4 (.pointer (some ⟨b, 6, none⟩)) u (by decide) rfl
  have hI5 := fun (u : World) => run_index_ptr7 #[.pointer (some ⟨b, 2, none⟩), .pointer (some ⟨b, 3, none⟩), .pointer (some ⟨b, 5, none⟩), .pointer (some ⟨b, 4, none⟩), .pointer (some ⟨b, 6, none⟩), .pointer (some ⟨b, 7, none⟩), .pointer (some ⟨b, 8, none⟩)] 5 (.pointer (some ⟨b, 7, none⟩)) u (by decide) rfl
  have hI6 := fun (u : World) => run_index_ptr7 #[.pointer (some ⟨b, 2, none⟩), .pointer (some ⟨b, 3, none⟩), .pointer (some ⟨b, 5, none⟩), .pointer (some ⟨b, 4, none⟩), .pointer (some ⟨b, 6, none⟩), .pointer (some ⟨b, 7, none⟩), .pointer (some ⟨b, 8, none⟩)] 6 (.pointer (some ⟨b, 8, none⟩)) u (by decide) rfl
  clear ht h hn hs hk Ep EK hfb
  go_enter Tryd.func31, Tryd.ntmps31
  go_wp2_with fail
  refine (CN.out _ HB.out).mono ?_
  rintro e w1 ⟨rfl, hb, ho⟩
  have HB1 := Lib.hid hb
  have HO1 := Lib.hid ho
  have c1 := hb.cell1
  have g1 := hb.fz 1
  clear hb ho
  go_wp2_with fail
  refine (CT.out _).mono ?_
  rintro e w1' ⟨rfl, rfl⟩
  go_wp2_with fail
  have HB2 : Hid (FBk b t { frZ with kind := (K : Nat) } (w1'.setCell ⟨b, 1, none⟩ (.int .u64 (K : Nat)))) := Lib.hid (HB1.out.set1 _)
  have HO2 : Hid (It.Only (fun k => k = b) w (w1'.setCell ⟨b, 1, none⟩ (.int .u64 (K : Nat)))) := Lib.hid (HO1.out.trans (It.Only.setCell (O := fun k => k = b) (p := ⟨b, 1, none⟩) rfl _ _))
  clear c1 g1
  generalize w1'.setCell ⟨b, 1, none⟩ (.int .u64 (K : Nat)) = W2 at HB2 HO2 ⊢
  refine (places_1 b _ HB2.out.lt).mono ?_
  rintro e w3 ⟨rfl, hb3⟩
  have HB3 := Lib.hid (HB2.out.keep hb3)
  have HO3 := Lib.hid (HO2.out.trans (It.Only.of_all hb3 _))
  clear hb3
  go_wp2
  go_loopw [34] (fun iv wr => ∃ i : Nat, i ≤ 7 ∧ iv = .int .i64 (i : Nat) ∧ ∃ l1 f1, numsN p t { frZ with kind := (K : Nat) } i = some (l1, f1) ∧ FBk b l1 f1 wr ∧ It.Only (fun k => k = b) w wr) (fun iv _ => 7 - (intOf iv).toNat)
  case atStart => exact ⟨0, by decide, rfl, _, _, rfl, HB3.out, HO3.out⟩
  case round =>
    obtain ⟨i, hi, rfl, l1, f1, hn, hb, ho⟩ := hrel
    have HN1 := Lib.hid hn
    have HBr := Lib.hid hb
    have HOr := Lib.hid ho
    have HTr := Lib.hid (tab_only HT.out ho hbg.symm)
    have hl1 := numsN_len hn
    clear hn hb ho
    match i, hi with
    | 0, _ =>
      have BT := Lib.hid (bit_0 p hp)
      cases hbit : p.testBit 0 with
      | true =>
        rw [hbit] at BT
        by_cases hg : gk l1 ≤ l1.length
        · have CV := Lib.hid (fun w (ht : Tab w) (h : FBk b l1 f1 w) => varint_ok b l1 f1 w ht h (by omega) hg)
          have HNX : Hid (numsN p t { frZ with kind := (K : Nat) } 1 = some (gR l1, setN f1 0 (gN l1 : Nat))) := Lib.hid (by rw [numsN, HN1.out]; rw [stepN_some, if_pos hbit, if_pos hg])
          clear hbit hg
          go_wp2_with fail
          erw [hI0]
          go_wp2_with fail
          refine (BT.out _).mono ?_
          rintro e w4 ⟨rfl, rfl⟩
          go_wp2_with fail
          refine (CV.out _ HTr.out HBr.out).mono ?_
          rintro e w5 ⟨rfl, hb, ho⟩
          have HB5 := Lib.hid hb
          have HO5 := Lib.hid (HOr.out.trans ho)
          have c5 := hb.cell2
          have g5 := hb.fz 2
          clear hb ho
          go_wp2
          go_roundw
          case rel => exact ⟨1, by decide, rfl, _, _, HNX.out, HB5.out.set2 _, HO5.out.trans (It.Only.setCell (O := fun k => k = b) (p := ⟨b, 2, none⟩) rfl _ _)⟩
          case measure => simp [intOf]
        · exfalso
          have h7 := numsN_none (i := 1) (by rw [numsN, HN1.out]; rw [stepN_some, if_pos hbit, if_neg hg]) 7 (by decide)
          rw [HN.out] at h7
          cases h7
      | false =>
        rw [hbit] at BT
        have HNX : Hid (numsN p t { frZ with kind := (K : Nat) } 1 = some (l1, f1)) := Lib.hid (by rw [numsN, HN1.out]; rw [stepN_some, if_neg (by rw [hbit]; decide)])
        clear hbit
        go_wp2_with fail
        erw [hI0]
        go_wp2_with fail
        refine (BT.out _).mono ?_
        rintro e w4 ⟨rfl, rfl⟩
        go_wp2
        go_roundw
        case rel => exact ⟨1, by decide, rfl, _, _, HNX.out, HBr.out, HOr.out⟩
        case measure => simp [intOf]
    | 1, _ =>
      have BT := Lib.hid (bit_1 p hp)
      cases hbit : p.testBit 1 with
      | true =>
        rw [hbit] at BT
        by_cases hg : gk l1 ≤ l1.length
        · have CV := Lib.hid (fun w (ht : Tab w) (h : FBk b l1 f1 w) => varint_ok b l1 f1 w ht h (by omega) hg)
          have HNX : Hid (numsN p t { frZ with kind := (K : Nat) } 2 = some (gR l1, setN f1 1 (gN l1 : Nat))) := Lib.hid (by rw [numsN, HN1.out]; rw [stepN_some, if_pos hbit, if_pos hg])
          clear hbit hg
          go_wp2_with fail
          erw [hI1]
          go_wp2_with fail
          refine (BT.out _).mono ?_
          rintro e w4 ⟨rfl, rfl⟩
          go_wp2_with fail
          refine (CV.out _ HTr.out HBr.out).mono ?_
          rintro e w5 ⟨rfl, hb, ho⟩
          have HB5 := Lib.hid hb
          have HO5 := Lib.hid (HOr.out.trans ho)
          have c5 := hb.cell3
          have g5 := hb.fz 3
          clear hb ho
          go_wp2
          go_roundw
          case rel => exact ⟨2, by decide, rfl, _, _, HNX.out, HB5.out.set3 _, HO5.out.trans (It.Only.setCell (O := fun k => k = b) (p := ⟨b, 3, none⟩) rfl _ _)⟩
          case measure => simp [intOf]
        · exfalso
          have h7 := numsN_none (i := 2) (by rw [numsN, HN1.out]; rw [stepN_some, if_pos hbit, if_neg hg]) 7 (by decide)
          rw [HN.out] at h7
          cases h7
      | false =>
        rw [hbit] at BT
        have HNX : Hid (numsN p t { frZ with kind := (K : Nat) } 2 = some (l1, f1)) := Lib.hid (by rw [numsN, HN1.out]; rw [stepN_some, if_neg (by rw [hbit]; decide)])
        clear hbit
        go_wp2_with fail
        erw [hI1]
        go_wp2_with fail
        refine (BT.out _).mono ?_
        rintro e w4 ⟨rfl, rfl⟩
        go_wp2
        go_roundw
        case rel => exact ⟨2, by decide, rfl, _, _, HNX.out, HBr.out, HOr.out⟩
        case measure => simp [intOf]
    | 2, _ =>
      have BT := Lib.hid (bit_2 p hp)
      cases hbit : p.testBit 2 with
      | true =>
        rw [hbit] at BT
        by_cases hg : gk l1 ≤ l1.length
        · have CV := Lib.hid (fun w (ht : Tab w) (h : FBk b l1 f1 w) => varint_ok b l1 f1 w ht h (by omega) hg)
          have HNX : Hid (numsN p t { frZ with kind := (K : Nat) } 3 = some (gR l1, setN f1 2 (gN l1 : Nat))) := Lib.hid (by rw [numsN, HN1.out]; rw [stepN_some, if_pos hbit, if_pos hg])
          clear hbit hg
          go_wp2_with fail
          erw [hI2]
          go_wp2_with fail
          refine (BT.out _).mono ?_
          rintro e w4 ⟨rfl, rfl⟩
          go_wp2_with fail
          refine (CV.out _ HTr.out HBr.out).mono ?_
          rintro e w5 ⟨rfl, hb, ho⟩
          have HB5 := Lib.hid hb
          have HO5 := Lib.hid (HOr.out.trans ho)
          have c5 := hb.cell5
          have g5 := hb.fz 5
          clear hb ho
          go_wp2
          go_roundw
          case rel => exact ⟨3, by decide, rfl, _, _, HNX.out, HB5.out.set5 _, HO5.out.trans (It.Only.setCell (O := fun k => k = b) (p := ⟨b, 5, none⟩) rfl _ _)⟩
          case measure => simp [intOf]
        · exfalso
          have h7 := numsN_none (i := 3) (by rw [numsN, HN1.out]; rw [stepN_some, if_pos hbit, if_neg hg]) 7 (by decide)
          rw [HN.out] at h7
          cases h7
      | false =>
        rw [hbit] at BT
        have HNX : Hid (numsN p t { frZ with kind := (K : Nat) } 3 = some (l1, f1)) := Lib.hid (by rw [numsN, HN1.out]; rw [stepN_some, if_neg (by rw [hbit]; decide)])
        clear hbit
        go_wp2_with fail
        erw [hI2]
        go_wp2_with fail
        refine (BT.out _).mono ?_
        rintro e w4 ⟨rfl, rfl⟩
        go_wp2
        go_roundw
        case rel => exact ⟨3, by decide, rfl, _, _, HNX.out, HBr.out, HOr.out⟩
        case measure => simp [intOf]
    | 3, _ =>
      have BT := Lib.hid (bit_3 p hp)
      cases hbit : p.testBit 3 with
      | true =>
        rw [hbit] at BT
        by_cases hg : gk l1 ≤ l1.length
        · have CV := Lib.hid (fun w (ht : Tab w) (h : FBk b l1 f1 w) => varint_ok b l1 f1 w ht h (by omega) hg)
          have HNX : Hid (numsN p t { frZ with kind := (K : Nat) } 4 = some (gR l1, setN f1 3 (gN l1 : Nat))) := Lib.hid (by rw [numsN, HN1.out]; rw [stepN_some, if_pos hbit, if_pos hg])
          clear hbit hg
          go_wp2_with fail
          erw [hI3]
          go_wp2_with fail
          refine (BT.out _).mono ?_
          rintro e w4 ⟨rfl, rfl⟩
          go_wp2_with fail
          refine (CV.out _ HTr.out HBr.out).mono ?_
          rintro e w5 ⟨rfl, hb, ho⟩
          have HB5 := Lib.hid hb
          have HO5 := Lib.hid (HOr.out.trans ho)
          have c5 := hb.cell4
          have g5 := hb.fz 4
          clear hb ho
          go_wp2
          go_roundw
          case rel => exact ⟨4, by decide, rfl, _, _, HNX.out, HB5.out.set4 _, HO5.out.trans (It.Only.setCell (O := fun k => k = b) (p := ⟨b, 4, none⟩) rfl _ _)⟩
          case measure => simp [intOf]
        · exfalso
          have h7 := numsN_none (i := 4) (by rw [numsN, HN1.out]; rw [stepN_some, if_pos hbit, if_neg hg]) 7 (by decide)
          rw [HN.out] at h7
          cases h7
      | false =>
        rw [hbit] at BT
        have HNX : Hid (numsN p t { frZ with kind := (K : Nat) } 4 = some (l1, f1)) := Lib.hid (by rw [numsN, HN1.out]; rw [stepN_some, if_neg (by rw [hbit]; decide)])
        clear hbit
        go_wp2_with fail
        erw [hI3]
        go_wp2_with fail
        refine (BT.out _).mono ?_
        rintro e w4 ⟨rfl, rfl⟩
        go_wp2
        go_roundw
        case rel => exact ⟨4, by decide, rfl, _, _, HNX.out, HBr.out, HOr.out⟩
        case measure => simp [intOf]
    | 4, _ =>
      have BT := Lib.hid (bit_4 p hp)
      cases hbit : p.testBit 4 with
      | true =>
        rw [hbit] at BT
        by_cases hg : gk l1 ≤ l1.length
        · have CV := Lib.hid (fun w (ht : Tab w) (h : FBk b l1 f1 w) => varint_ok b l1 f1 w ht h (by omega) hg)
          have HNX : Hid (numsN p t { frZ with kind := (K : Nat) } 5 = some (gR l1, setN f1 4 (gN l1 : Nat))) := Lib.hid (by rw [numsN, HN1.out]; rw [stepN_some, if_pos hbit, if_pos hg])
          clear hbit hg
          go_wp2_with fail
          erw [hI4]
          go_wp2_with fail
          refine (BT.out _).mono ?_
          rintro e w4 ⟨rfl, rfl⟩
          go_wp2_with fail
          refine (CV.out _ HTr.out HBr.out).mono ?_
          rintro e w5 ⟨rfl, hb, ho⟩
          have HB5 := Lib.hid hb
          have HO5 := Lib.hid (HOr.out.trans ho)
          have c5 := hb.cell6
          have g5 := hb.fz 6
          clear hb ho
          go_wp2
          go_roundw
          case rel => exact ⟨5, by decide, rfl, _, _, HNX.out, HB5.out.set6 _, HO5.out.trans (It.Only.setCell (O := fun k => k = b) (p := ⟨b, 6, none⟩) rfl _ _)⟩
          case measure => simp [intOf]
        · exfalso
          have h7 := numsN_none (i := 5) (by rw [numsN, HN1.out]; rw [stepN_some, if_pos hbit, if_neg hg]) 7 (by decide)
          rw [HN.out] at h7
          cases h7
      | false =>
        rw [hbit] at BT
        have HNX : Hid (numsN p t { frZ with kind := (K : Nat) } 5 = some (l1, f1)) := Lib.hid (by rw [numsN, HN1.out]; rw [stepN_some, if_neg (by rw [hbit]; decide)])
        clear hbit
        go_wp2_with fail
        erw [hI4]
        go_wp2_with fail
        refine (BT.out _).mono ?_
        rintro e w4 ⟨rfl, rfl⟩
        go_wp2
        go_roundw
        case rel => exact ⟨5, by decide, rfl, _, _, HNX.out, HBr.out, HOr.out⟩
        case measure => simp [intOf]
    | 5, _ =>
      have BT := Lib.hid (bit_5 p hp)
      cases hbit : p.testBit 5 with
      | true =>
        rw [hbit] at BT
        by_cases hg : gk l1 ≤ l1.length
        · have CV := Lib.hid (fun w (ht : Tab w) (h : FBk b l1 f1 w) => varint_ok b l1 f1 w ht h (by omega) hg)
          have HNX : Hid (numsN p t { frZ with kind := (K : Nat) } 6 = some (gR l1, setN f1 5 (gN l1 : Nat))) := Lib.hid (by rw [numsN, HN1.out]; rw [stepN_some, if_pos hbit, if_pos hg])
          clear hbit hg
          go_wp2_with fail
          erw [hI5]
          go_wp2_with fail
          refine (BT.out _).mono ?_
          rintro e w4 ⟨rfl, rfl⟩
          go_wp2_with fail
          refine (CV.out _ HTr.out HBr.out).mono ?_
          rintro e w5 ⟨rfl, hb, ho⟩
          have HB5 := Lib.hid hb
          have HO5 := Lib.hid (HOr.out.trans ho)
          have c5 := hb.cell7
          have g5 := hb.fz 7
          clear hb ho
          go_wp2
          go_roundw
          case rel => exact ⟨6, by decide, rfl, _, _, HNX.out, HB5.out.set7 _, HO5.out.trans (It.Only.setCell (O := fun k => k = b) (p := ⟨b, 7, none⟩) rfl _ _)⟩
          case measure => simp [intOf]
        · exfalso
          have h7 := numsN_none (i := 6) (by rw [numsN, HN1.out]; rw [stepN_some, if_pos hbit, if_neg hg]) 7 (by decide)
          rw [HN.out] at h7
          cases h7
      | false =>
        rw [hbit] at BT
        have HNX : Hid (numsN p t { frZ with kind := (K : Nat) } 6 = some (l1, f1)) := Lib.hid (by rw [numsN, HN1.out]; rw [stepN_some, if_neg (by rw [hbit]; decide)])
        clear hbit
        go_wp2_with fail
        erw [hI5]
        go_wp2_with fail
        refine (BT.out _).mono ?_
        rintro e w4 ⟨rfl, rfl⟩
        go_wp2
        go_roundw
        case rel => exact ⟨6, by decide, rfl, _, _, HNX.out, HBr.out, HOr.out⟩
        case measure => simp [intOf]
    | 6, _ =>
      have BT := Lib.hid (bit_6 p hp)
      cases hbit : p.testBit 6 with
      | true =>
        rw [hbit] at BT
        by_cases hg : gk l1 ≤ l1.length
        · have CV := Lib.hid (fun w (ht : Tab w) (h : FBk b l1 f1 w) => varint_ok b l1 f1 w ht h (by omega) hg)
          have HNX : Hid (numsN p t { frZ with kind := (K : Nat) } 7 = some (gR l1, setN f1 6 (gN l1 : Nat))) := Lib.hid (by rw [numsN, HN1.out]; rw [stepN_some, if_pos hbit, if_pos hg])
          clear hbit hg
          go_wp2_with fail
          erw [hI6]
          go_wp2_with fail
          refine (BT.out _).mono ?_
          rintro e w4 ⟨rfl, rfl⟩
          go_wp2_with fail
          refine (CV.out _ HTr.out HBr.out).mono ?_
          rintro e w5 ⟨rfl, hb, ho⟩
          have HB5 := Lib.hid hb
          have HO5 := Lib.hid (HOr.out.trans ho)
          have c5 := hb.cell8
          have g5 := hb.fz 8
          clear hb ho
          go_wp2
          go_roundw
          case rel => exact ⟨7, by decide, rfl, _, _, HNX.out, HB5.out.set8 _, HO5.out.trans (It.Only.setCell (O := fun k => k = b) (p := ⟨b, 8, none⟩) rfl _ _)⟩
          case measure => simp [intOf]
        · exfalso
          have h7 := numsN_none (i := 7) (by rw [numsN, HN1.out]; rw [stepN_some, if_pos hbit, if_neg hg]) 7 (by decide)
          rw [HN.out] at h7
          cases h7
      | false =>
        rw [hbit] at BT
        have HNX : Hid (numsN p t { frZ with kind := (K : Nat) } 7 = some (l1, f1)) := Lib.hid (by rw [numsN, HN1.out]; rw [stepN_some, if_neg (by rw [hbit]; decide)])
        clear hbit
        go_wp2_with fail
        erw [hI6]
        go_wp2_with fail
        refine (BT.out _).mono ?_
        rintro e w4 ⟨rfl, rfl⟩
        go_wp2
        go_roundw
        case rel => exact ⟨7, by decide, rfl, _, _, HNX.out, HBr.out, HOr.out⟩
        case measure => simp [intOf]
    | 7, _ =>
      obtain ⟨rfl, rfl⟩ : l1 = l2 ∧ f1 = f2 := by
        have h7 := HN1.out
        rw [HN.out] at h7
        cases h7
        exact ⟨rfl, rfl⟩
      have c9 := HBr.out.cell9
      have g9 := HBr.out.fz 9
      have HB9 : Hid (FBk b l1 { f1 with fin := fb } (wr.setCell ⟨b, 9, none⟩ (.bool fb))) := Lib.hid (HBr.out.set9 fb)
      have HO9 : Hid (It.Only (fun k => k = b) w (wr.setCell ⟨b, 9, none⟩ (.bool fb))) := Lib.hid (HOr.out.trans (It.Only.setCell (O := fun k => k = b) (p := ⟨b, 9, none⟩) rfl _ _))
      go_wp2_with fail
      refine (CRT.out _ (tab_only HT.out HO9.out hbg.symm) HB9.out).mono ?_
      rintro e w5 ⟨rfl, hb, ho⟩
      have HO5 := Lib.hid (HO9.out.trans ho)
      go_wp2
      exact ⟨rfl, rfl, hb, HO5.out⟩
set_option maxHeartbeats 16000000 in
theorem frame_no_nums (b : Nat) (c : UInt8) (t : List UInt8) (w : World) (ht : Tab w) (h : FBk b (c :: t) frZ w) (hl : t.length ≤ 100000) (hk : toldB c.toNat = true) (hs : (toldP c.toNat).testBit 11 = false) (hn : numsN (toldP c.toNat) t { frZ with kind := (toldK c.toNat : Nat) } 7 = none) : Calls Tryd.prog 31 #[.pointer (some ⟨b, 0, none⟩)] w fun e w' => e = .panicked GU ∧ (∃ l2 f2, FBk b l2 f2 w') ∧ It.Only (fun k => k = b) w w' := by
  obtain ⟨p, Ep⟩ : ∃ p, toldP c.toNat = p := ⟨_, rfl⟩
  obtain ⟨K, EK⟩ : ∃ K, toldK c.toNat = K := ⟨_, rfl⟩
  have hp : p < 8192 := by rw [← Ep]; exact toldP_lt _
  have CN := Lib.hid (fun w (h : FBk b (c :: t) frZ w) => number_ok b c t frZ w h (by simp; omega))
  have CT := Lib.hid (fun w => told_any c.toNat c.toNat_lt w)
  rw [hk, Ep, EK] at CT
  rw [Ep] at hs
  rw [Ep, EK] at hn
  have e11 : (bits .and .u64 ((p : Nat) : Int) 2048 != 0) = false := bitF p 11 hp (by decide) _ hs
  obtain ⟨fb, hfb⟩ : ∃ fb, p.testBit 10 = fb := ⟨_, rfl⟩
  have e10 : (bits .and .u64 ((p : Nat) : Int) 1024 != 0) = fb := bitF p 10 hp (by decide) _ hfb
  have hbg := tab_ne ht h
  have hbl := h.lt
  have HT := Lib.hid ht
  have HB := Lib.hid h
  have HN := Lib.hid hn
  have hI0 := fun (u : World) => run_index_ptr7 #[.pointer (some ⟨b, 2, none⟩), .pointer (some ⟨b, 3, none⟩), .pointer (some ⟨b, 5, none⟩), .pointer (some ⟨b, 4, none⟩), .pointer (some ⟨b, 6, none⟩), .pointer (some ⟨b, 7, none⟩), .pointer (some ⟨b, 8, none⟩)] 0 (.pointer (some ⟨b, 2, none⟩)) u (by decide) rfl
  have hI1 := fun (u : World) => run_index_ptr7 #[.pointer (some ⟨b, 2, none⟩), .pointer (some ⟨b, 3, none⟩), .pointer (some ⟨b, 5, none⟩), .pointer (some ⟨b, 4, none⟩), .pointer (some ⟨b, 6, none⟩), .pointer (some ⟨b, 7, none⟩), .pointer (some ⟨b, 8, none⟩)] 1 (.pointer (some ⟨b, 3, none⟩)) u (by decide) rfl
  have hI2 := fun (u : World) => run_index_ptr7 #[.pointer (some ⟨b, 2, none⟩), .pointer (some ⟨b, 3, none⟩), .pointer (some ⟨b, 5, none⟩), .pointer (some ⟨b, 4, none⟩), .pointer (some ⟨b, 6, none⟩), .pointer (some ⟨b, 7, none⟩), .pointer (some ⟨b, 8, none⟩)] 2 (.pointer (some ⟨b, 5, none⟩)) u (by decide) rfl
  have hI3 := fun (u : World) => run_index_ptr7 #[.pointer (some ⟨b, 2, none⟩), .pointer (some ⟨b, 3, none⟩), .pointer (some ⟨b, 5, none⟩), .pointer (some ⟨b, 4, none⟩), .pointer (some ⟨b, 6, none⟩), .pointer (some ⟨b, 7, none⟩), .pointer (some ⟨b, 8, none⟩)] 3 (.pointer (some ⟨b, 4, none⟩)) u (by decide) rfl
  have hI4 := fun (u : World) => run_index_ptr7 #[.pointer (some ⟨b, 2, none⟩), .pointer (some ⟨b, 3, none⟩), .pointer (some ⟨b, 5, none⟩), .pointer (some ⟨b, 4, none⟩), .pointer (some ⟨b, 6, none⟩), .pointer (some ⟨b, 7, none⟩), .pointer (some ⟨b, 8, none⟩)] 4 (.pointer (some ⟨b, 6, none⟩)) u (by decide) rfl
  have hI5 := fun (u : World) => run_index_ptr7 #[.pointer (some ⟨b, 2, none⟩), .pointer (some ⟨b, 3, none⟩), .pointer (some ⟨b, 5, none⟩), .pointer (some ⟨b, 4, none⟩), .pointer (some ⟨b, 6, none⟩), .pointer (some ⟨b, 7, none⟩), .pointer (some ⟨b, 8, none⟩)] 5 (.pointer (some ⟨b, 7, none⟩)) u (by decide) rfl
  have hI6 := fun (u : World) => run_index_ptr7 #[.pointer (some ⟨b, 2, none⟩), .pointer (some ⟨b, 3, none⟩), .pointer (some ⟨b, 5, none⟩), .pointer (some ⟨b, 4, none⟩), .pointer (some ⟨b, 6, none⟩), .pointer (some ⟨b, 7, none⟩), .pointer (some ⟨b, 8, none⟩)] 6 (.pointer (some ⟨b, 8, none⟩)) u (by decide) rfl
  clear ht h hn hs hk Ep EK hfb
  go_enter Tryd.func31, Tryd.ntmps31
  go_wp2_with fail
  refine (CN.out _ HB.out).mono ?_
  rintro e w1 ⟨rfl, hb, ho⟩
  have HB1 := Lib.hid hb
  have HO1 := Lib.hid ho
  have c1 := hb.cell1
  have g1 := hb.fz 1
  clear hb ho
  go_wp2_with fail
  refine (CT.out _).mono ?_
  rintro e w1' ⟨rfl, rfl⟩
  go_wp2_with fail
  have HB2 : Hid (FBk b t { frZ with kind := (K : Nat) } (w1'.setCell ⟨b, 1, none⟩ (.int .u64 (K : Nat)))) := Lib.hid (HB1.out.set1 _)
  have HO2 : Hid (It.Only (fun k => k = b) w (w1'.setCell ⟨b, 1, none⟩ (.int .u64 (K : Nat)))) := Lib.hid (HO1.out.trans (It.Only.setCell (O := fun k => k = b) (p := ⟨b, 1, none⟩) rfl _ _))
  clear c1 g1
  generalize w1'.setCell ⟨b, 1, none⟩ (.int .u64 (K : Nat)) = W2 at HB2 HO2 ⊢
  refine (places_1 b _ HB2.out.lt).mono ?_
  rintro e w3 ⟨rfl, hb3⟩
  have HB3 := Lib.hid (HB2.out.keep hb3)
  have HO3 := Lib.hid (HO2.out.trans (It.Only.of_all hb3 _))
  clear hb3
  go_wp2
  go_loopw [34] (fun iv wr => ∃ i : Nat, i ≤ 7 ∧ iv = .int .i64 (i : Nat) ∧ ∃ l1 f1, numsN p t { frZ with kind := (K : Nat) } i = some (l1, f1) ∧ FBk b l1 f1 wr ∧ It.Only (fun k => k = b) w wr) (fun iv _ => 7 - (intOf iv).toNat)
  case atStart => exact ⟨0, by decide, rfl, _, _, rfl, HB3.out, HO3.out⟩
  case round =>
    obtain ⟨i, hi, rfl, l1, f1, hn, hb, ho⟩ := hrel
    have HN1 := Lib.hid hn
    have HBr := Lib.hid hb
    have HOr := Lib.hid ho
    have HTr := Lib.hid (tab_only HT.out ho hbg.symm)
    have hl1 := numsN_len hn
    clear hn hb ho
    match i, hi with
    | 0, _ =>
      have BT := Lib.hid (bit_0 p hp)
      cases hbit : p.testBit 0 with
      | true =>
        rw [hbit] at BT
        by_cases hg : gk l1 ≤ l1.length
        · have CV := Lib.hid (fun w (ht : Tab w) (h : FBk b l1 f1 w) => varint_ok b l1 f1 w ht h (by omega) hg)
          have HNX : Hid (numsN p t { frZ with kind := (K : Nat) } 1 = some (gR l1, setN f1 0 (gN l1 : Nat))) := Lib.hid (by rw [numsN, HN1.out]; rw [stepN_some, if_pos hbit, if_pos hg])
          clear hbit hg
          go_wp2_with fail
          erw [hI0]
          go_wp2_with fail
          refine (BT.out _).mono ?_
          rintro e w4 ⟨rfl, rfl⟩
          go_wp2_with fail
          refine (CV.out _ HTr.out HBr.out).mono ?_
          rintro e w5 ⟨rfl, hb, ho⟩
          have HB5 := Lib.hid hb
          have HO5 := Lib.hid (HOr.out.trans ho)
          have c5 := hb.cell2
          have g5 := hb.fz 2
          clear hb ho
          go_wp2
          go_roundw
          case rel => exact ⟨1, by decide, rfl, _, _, HNX.out, HB5.out.set2 _, HO5.out.trans (It.Only.setCell (O := fun k => k = b) (p := ⟨b, 2, none⟩) rfl _ _)⟩
          case measure => simp [intOf]
        · have CV := Lib.hid (fun w (ht : Tab w) (h : FBk b l1 f1 w) => varint_no b l1 f1 w ht h (by omega) (by omega))
          clear hbit hg
          go_wp2_with fail
          erw [hI0]
          go_wp2_with fail
          refine (BT.out _).mono ?_
          rintro e w4 ⟨rfl, rfl⟩
          go_wp2_with fail
          refine (CV.out _ HTr.out HBr.out).mono ?_
          rintro e w5 ⟨rfl, hb, ho⟩
          have HO5 := Lib.hid (HOr.out.trans ho)
          go_wp2
          exact ⟨rfl, rfl, ⟨_, _, hb⟩, HO5.out⟩
      | false =>
        rw [hbit] at BT
        have HNX : Hid (numsN p t { frZ with kind := (K : Nat) } 1 = some (l1, f1)) := Lib.hid (by rw [numsN, HN1.out]; rw [stepN_some, if_neg (by rw [hbit]; decide)])
        clear hbit
        go_wp2_with fail
        erw [hI0]
        go_wp2_with fail
        refine (BT.out _).mono ?_
        rintro e w4 ⟨rfl, rfl⟩
        go_wp2
        go_roundw
        case rel => exact ⟨1, by decide, rfl, _, _, HNX.out, HBr.out, HOr.out⟩
        case measure => simp [intOf]
    | 1, _ =>
      have BT := Lib.hid (bit_1 p hp)
      cases hbit : p.testBit 1 with
      | true =>
        rw [hbit] at BT
        by_cases hg : gk l1 ≤ l1.length
        · have CV := Lib.hid (fun w (ht : Tab w) (h : FBk b l1 f1 w) => varint_ok b l1 f1 w ht h (by omega) hg)
          have HNX : Hid (numsN p t { frZ with kind := (K : Nat) } 2 = some (gR l1, setN f1 1 (gN l1 : Nat))) := Lib.hid (by rw [numsN, HN1.out]; rw [stepN_some, if_pos hbit, if_pos hg])
          clear hbit hg
          go_wp2_with fail
          erw [hI1]
          go_wp2_with fail
          refine (BT.out _).mono ?_
          rintro e w4 ⟨rfl, rfl⟩
          go_wp2_with fail
          refine (CV.out _ HTr.out HBr.out).mono ?_
          rintro e w5 ⟨rfl, hb, ho⟩
          have HB5 := Lib.hid hb
          have HO5 := Lib.hid (HOr.out.trans ho)
          have c5 := hb.cell3
          have g5 := hb.fz 3
          clear hb ho
          go_wp2
          go_roundw
          case rel => exact ⟨2, by decide, rfl, _, _, HNX.out, HB5.out.set3 _, HO5.out.trans (It.Only.setCell (O := fun k => k = b) (p := ⟨b, 3, none⟩) rfl _ _)⟩
          case measure => simp [intOf]
        · have CV := Lib.hid (fun w (ht : Tab w) (h : FBk b l1 f1 w) => varint_no b l1 f1 w ht h (by omega) (by omega))
          clear hbit hg
          go_wp2_with fail
          erw [hI1]
          go_wp2_with fail
          refine (BT.out _).mono ?_
          rintro e w4 ⟨rfl, rfl⟩
          go_wp2_with fail
          refine (CV.out _ HTr.out HBr.out).mono ?_
          rintro e w5 ⟨rfl, hb, ho⟩
          have HO5 := Lib.hid (HOr.out.trans ho)
          go_wp2
          exact ⟨rfl, rfl, ⟨_, _, hb⟩, HO5.out⟩
      | false =>
        rw [hbit] at BT
        have HNX : Hid (numsN p t { frZ with kind := (K : Nat) } 2 = some (l1, f1)) := Lib.hid (by rw [numsN, HN1.out]; rw [stepN_some, if_neg (by rw [hbit]; decide)])
        clear hbit
        go_wp2_with fail
        erw [hI1]
        go_wp2_with fail
        refine (BT.out _).mono ?_
        rintro e w4 ⟨rfl, rfl⟩
        go_wp2
        go_roundw
        case rel => exact ⟨2, by decide, rfl, _, _, HNX.out, HBr.out, HOr.out⟩
        case measure => simp [intOf]
    | 2, _ =>
      have BT := Lib.hid (bit_2 p hp)
      cases hbit : p.testBit 2 with
      | true =>
        rw [hbit] at BT
        by_cases hg : gk l1 ≤ l1.length
        · have CV := Lib.hid (fun w (ht : Tab w) (h : FBk b l1 f1 w) => varint_ok b l1 f1 w ht h (by omega) hg)
          have HNX : Hid (numsN p t { frZ with kind := (K : Nat) } 3 = some (gR l1, setN f1 2 (gN l1 : Nat))) := Lib.hid (by rw [numsN, HN1.out]; rw [stepN_some, if_pos hbit, if_pos hg])
          clear hbit hg
          go_wp2_with fail
          erw [hI2]
          go_wp2_with fail
          refine (BT.out _).mono ?_
          rintro e w4 ⟨rfl, rfl⟩
          go_wp2_with fail
          refine (CV.out _ HTr.out HBr.out).mono ?_
          rintro e w5 ⟨rfl, hb, ho⟩
          have HB5 := Lib.hid hb
          have HO5 := Lib.hid (HOr.out.trans ho)
          have c5 := hb.cell5
          have g5 := hb.fz 5
          clear hb ho
          go_wp2
          go_roundw
          case rel => exact ⟨3, by decide, rfl, _, _, HNX.out, HB5.out.set5 _, HO5.out.trans (It.Only.setCell (O := fun k => k = b) (p := ⟨b, 5, none⟩) rfl _ _)⟩
          case measure => simp [intOf]
        · have CV := Lib.hid (fun w (ht : Tab w) (h : FBk b l1 f1 w) => varint_no b l1 f1 w ht h (by omega) (by omega))
          clear hbit hg
          go_wp2_with fail
          erw [hI2]
          go_wp2_with fail
          refine (BT.out _).mono ?_
          rintro e w4 ⟨rfl, rfl⟩
          go_wp2_with fail
          refine (CV.out _ HTr.out HBr.out).mono ?_
          rintro e w5 ⟨rfl, hb, ho⟩
          have HO5 := Lib.hid (HOr.out.trans ho)
          go_wp2
          exact ⟨rfl, rfl, ⟨_, _, hb⟩, HO5.out⟩
      | false =>
        rw [hbit] at BT
        have HNX : Hid (numsN p t { frZ with kind := (K : Nat) } 3 = some (l1, f1)) := Lib.hid (by rw [numsN, HN1.out]; rw [stepN_some, if_neg (by rw [hbit]; decide)])
        clear hbit
        go_wp2_with fail
        erw [hI2]
        go_wp2_with fail
        refine (BT.out _).mono ?_
        rintro e w4 ⟨rfl, rfl⟩
        go_wp2
        go_roundw
        case rel => exact ⟨3, by decide, rfl, _, _, HNX.out, HBr.out, HOr.out⟩
        case measure => simp [intOf]
    | 3, _ =>
      have BT := Lib.hid (bit_3 p hp)
      cases hbit : p.testBit 3 with
      | true =>
        rw [hbit] at BT
        by_cases hg : gk l1 ≤ l1.length
        · have CV := Lib.hid (fun w (ht : Tab w) (h : FBk b l1 f1 w) => varint_ok b l1 f1 w ht h (by omega) hg)
          have HNX : Hid (numsN p t { frZ with kind := (K : Nat) } 4 = some (gR l1, setN f1 3 (gN l1 : Nat))) := Lib.hid (by rw [numsN, HN1.out]; rw [stepN_some, if_pos hbit, if_pos hg])
          clear hbit hg
          go_wp2_with fail
          erw [hI3]
          go_wp2_with fail
          refine (BT.out _).mono ?_
          rintro e w4 ⟨rfl, rfl⟩
          go_wp2_with fail
          refine (CV.out _ HTr.out HBr.out).mono ?_
          rintro e w5 ⟨rfl, hb, ho⟩
          have HB5 := Lib.hid hb
          have HO5 := Lib.hid (HOr.out.trans ho)
          have c5 := hb.cell4
          have g5 := hb.fz 4
          clear hb ho
          go_wp2
          go_roundw
          case rel => exact ⟨4, by decide, rfl, _, _, HNX.out, HB5.out.set4 _, HO5.out.trans (It.Only.setCell (O := fun k => k = b) (p := ⟨b, 4, none⟩) rfl _ _)⟩
          case measure => simp [intOf]
        · have CV := Lib.hid (fun w (ht : Tab w) (h : FBk b l1 f1 w) => varint_no b l1 f1 w ht h (by omega) (by omega))
          clear hbit hg
          go_wp2_with fail
          erw [hI3]
          go_wp2_with fail
          refine (BT.out _).mono ?_
          rintro e w4 ⟨rfl, rfl⟩
          go_wp2_with fail
          refine (CV.out _ HTr.out HBr.out).mono ?_
          rintro e w5 ⟨rfl, hb, ho⟩
          have HO5 := Lib.hid (HOr.out.trans ho)
          go_wp2
          exact ⟨rfl, rfl, ⟨_, _, hb⟩, HO5.out⟩
      | false =>
        rw [hbit] at BT
        have HNX : Hid (numsN p t { frZ with kind := (K : Nat) } 4 = some (l1, f1)) := Lib.hid (by rw [numsN, HN1.out]; rw [stepN_some, if_neg (by rw [hbit]; decide)])
        clear hbit
        go_wp2_with fail
        erw [hI3]
        go_wp2_with fail
        refine (BT.out _).mono ?_
        rintro e w4 ⟨rfl, rfl⟩
        go_wp2
        go_roundw
        case rel => exact ⟨4, by decide, rfl, _, _, HNX.out, HBr.out, HOr.out⟩
        case measure => simp [intOf]
    | 4, _ =>
      have BT := Lib.hid (bit_4 p hp)
      cases hbit : p.testBit 4 with
      | true =>
        rw [hbit] at BT
        by_cases hg : gk l1 ≤ l1.length
        · have CV := Lib.hid (fun w (ht : Tab w) (h : FBk b l1 f1 w) => varint_ok b l1 f1 w ht h (by omega) hg)
          have HNX : Hid (numsN p t { frZ with kind := (K : Nat) } 5 = some (gR l1, setN f1 4 (gN l1 : Nat))) := Lib.hid (by rw [numsN, HN1.out]; rw [stepN_some, if_pos hbit, if_pos hg])
          clear hbit hg
          go_wp2_with fail
          erw [hI4]
          go_wp2_with fail
          refine (BT.out _).mono ?_
          rintro e w4 ⟨rfl, rfl⟩
          go_wp2_with fail
          refine (CV.out _ HTr.out HBr.out).mono ?_
          rintro e w5 ⟨rfl, hb, ho⟩
          have HB5 := Lib.hid hb
          have HO5 := Lib.hid (HOr.out.trans ho)
          have c5 := hb.cell6
          have g5 := hb.fz 6
          clear hb ho
          go_wp2
          go_roundw
          case rel => exact ⟨5, by decide, rfl, _, _, HNX.out, HB5.out.set6 _, HO5.out.trans (It.Only.setCell (O := fun k => k = b) (p := ⟨b, 6, none⟩) rfl _ _)⟩
          case measure => simp [intOf]
        · have CV := Lib.hid (fun w (ht : Tab w) (h : FBk b l1 f1 w) => varint_no b l1 f1 w ht h (by omega) (by omega))
          clear hbit hg
          go_wp2_with fail
          erw [hI4]
          go_wp2_with fail
          refine (BT.out _).mono ?_
          rintro e w4 ⟨rfl, rfl⟩
          go_wp2_with fail
          refine (CV.out _ HTr.out HBr.out).mono ?_
          rintro e w5 ⟨rfl, hb, ho⟩
          have HO5 := Lib.hid (HOr.out.trans ho)
          go_wp2
          exact ⟨rfl, rfl, ⟨_, _, hb⟩, HO5.out⟩
      | false =>
        rw [hbit] at BT
        have HNX : Hid (numsN p t { frZ with kind := (K : Nat) } 5 = some (l1, f1)) := Lib.hid (by rw [numsN, HN1.out]; rw [stepN_some, if_neg (by rw [hbit]; decide)])
        clear hbit
        go_wp2_with fail
        erw [hI4]
        go_wp2_with fail
        refine (BT.out _).mono ?_
        rintro e w4 ⟨rfl, rfl⟩
        go_wp2
        go_roundw
        case rel => exact ⟨5, by decide, rfl, _, _, HNX.out, HBr.out, HOr.out⟩
        case measure => simp [intOf]
    | 5, _ =>
      have BT := Lib.hid (bit_5 p hp)
      cases hbit : p.testBit 5 with
      | true =>
        rw [hbit] at BT
        by_cases hg : gk l1 ≤ l1.length
        · have CV := Lib.hid (fun w (ht : Tab w) (h : FBk b l1 f1 w) => varint_ok b l1 f1 w ht h (by omega) hg)
          have HNX : Hid (numsN p t { frZ with kind := (K : Nat) } 6 = some (gR l1, setN f1 5 (gN l1 : Nat))) := Lib.hid (by rw [numsN, HN1.out]; rw [stepN_some, if_pos hbit, if_pos hg])
          clear hbit hg
          go_wp2_with fail
          erw [hI5]
          go_wp2_with fail
          refine (BT.out _).mono ?_
          rintro e w4 ⟨rfl, rfl⟩
          go_wp2_with fail
          refine (CV.out _ HTr.out HBr.out).mono ?_
          rintro e w5 ⟨rfl, hb, ho⟩
          have HB5 := Lib.hid hb
          have HO5 := Lib.hid (HOr.out.trans ho)
          have c5 := hb.cell7
          have g5 := hb.fz 7
          clear hb ho
          go_wp2
          go_roundw
          case rel => exact ⟨6, by decide, rfl, _, _, HNX.out, HB5.out.set7 _, HO5.out.trans (It.Only.setCell (O := fun k => k = b) (p := ⟨b, 7, none⟩) rfl _ _)⟩
          case measure => simp [intOf]
        · have CV := Lib.hid (fun w (ht : Tab w) (h : FBk b l1 f1 w) => varint_no b l1 f1 w ht h (by omega) (by omega))
          clear hbit hg
          go_wp2_with fail
          erw [hI5]
          go_wp2_with fail
          refine (BT.out _).mono ?_
          rintro e w4 ⟨rfl, rfl⟩
          go_wp2_with fail
          refine (CV.out _ HTr.out HBr.out).mono ?_
          rintro e w5 ⟨rfl, hb, ho⟩
          have HO5 := Lib.hid (HOr.out.trans ho)
          go_wp2
          exact ⟨rfl, rfl, ⟨_, _, hb⟩, HO5.out⟩
      | false =>
        rw [hbit] at BT
        have HNX : Hid (numsN p t { frZ with kind := (K : Nat) } 6 = some (l1, f1)) := Lib.hid (by rw [numsN, HN1.out]; rw [stepN_some, if_neg (by rw [hbit]; decide)])
        clear hbit
        go_wp2_with fail
        erw [hI5]
        go_wp2_with fail
        refine (BT.out _).mono ?_
        rintro e w4 ⟨rfl, rfl⟩
        go_wp2
        go_roundw
        case rel => exact ⟨6, by decide, rfl, _, _, HNX.out, HBr.out, HOr.out⟩
        case measure => simp [intOf]
    | 6, _ =>
      have BT := Lib.hid (bit_6 p hp)
      cases hbit : p.testBit 6 with
      | true =>
        rw [hbit] at BT
        by_cases hg : gk l1 ≤ l1.length
        · have CV := Lib.hid (fun w (ht : Tab w) (h : FBk b l1 f1 w) => varint_ok b l1 f1 w ht h (by omega) hg)
          have HNX : Hid (numsN p t { frZ with kind := (K : Nat) } 7 = some (gR l1, setN f1 6 (gN l1 : Nat))) := Lib.hid (by rw [numsN, HN1.out]; rw [stepN_some, if_pos hbit, if_pos hg])
          clear hbit hg
          go_wp2_with fail
          erw [hI6]
          go_wp2_with fail
          refine (BT.out _).mono ?_
          rintro e w4 ⟨rfl, rfl⟩
          go_wp2_with fail
          refine (CV.out _ HTr.out HBr.out).mono ?_
          rintro e w5 ⟨rfl, hb, ho⟩
          have HB5 := Lib.hid hb
          have HO5 := Lib.hid (HOr.out.trans ho)
          have c5 := hb.cell8
          have g5 := hb.fz 8
          clear hb ho
          go_wp2
          go_roundw
          case rel => exact ⟨7, by decide, rfl, _, _, HNX.out, HB5.out.set8 _, HO5.out.trans (It.Only.setCell (O := fun k => k = b) (p := ⟨b, 8, none⟩) rfl _ _)⟩
          case measure => simp [intOf]
        · have CV := Lib.hid (fun w (ht : Tab w) (h : FBk b l1 f1 w) => varint_no b l1 f1 w ht h (by omega) (by omega))
          clear hbit hg
          go_wp2_with fail
          erw [hI6]
          go_wp2_with fail
          refine (BT.out _).mono ?_
          rintro e w4 ⟨rfl, rfl⟩
          go_wp2_with fail
          refine (CV.out _ HTr.out HBr.out).mono ?_
          rintro e w5 ⟨rfl, hb, ho⟩
          have HO5 := Lib.hid (HOr.out.trans ho)
          go_wp2
          exact ⟨rfl, rfl, ⟨_, _, hb⟩, HO5.out⟩
      | false =>
        rw [hbit] at BT
        have HNX : Hid (numsN p t { frZ with kind := (K : Nat) } 7 = some (l1, f1)) := Lib.hid (by rw [numsN, HN1.out]; rw [stepN_some, if_neg (by rw [hbit]; decide)])
        clear hbit
        go_wp2_with fail
        erw [hI6]
        go_wp2_with fail
        refine (BT.out _).mono ?_
        rintro e w4 ⟨rfl, rfl⟩
        go_wp2
        go_roundw
        case rel => exact ⟨7, by decide, rfl, _, _, HNX.out, HBr.out, HOr.out⟩
        case measure => simp [intOf]
    | 7, _ =>
      have h7 := HN1.out
      rw [HN.out] at h7
      cases h7
set_option maxHeartbeats 4000000 in
theorem frame_no_byte (b : Nat) (w : World) (h : FBk b [] frZ w) : Calls Tryd.prog 31 #[.pointer (some ⟨b, 0, none⟩)] w fun e w' => e = .panicked GU ∧ (∃ l2 f2, FBk b l2 f2 w') ∧ It.Only (fun k => k = b) w w' := by
  have CN := Lib.hid (fun w (h : FBk b [] frZ w) => number_no b frZ w h)
  have HB := Lib.hid h
  clear h
  go_enter Tryd.func31, Tryd.ntmps31
  go_wp2_with fail
  refine (CN.out _ HB.out).mono ?_
  rintro e w1 ⟨rfl, hb, ho⟩
  go_wp2
  exact ⟨rfl, rfl, ⟨_, _, hb⟩, ho⟩
set_option maxHeartbeats 4000000 in
theorem frame_no_kind (b : Nat) (c : UInt8) (t : List UInt8) (w : World) (h : FBk b (c :: t) frZ w) (hl : t.length ≤ 100000) (hk : toldB c.toNat = false) : Calls Tryd.prog 31 #[.pointer (some ⟨b, 0, none⟩)] w fun e w' => e = .panicked GU ∧ (∃ l2 f2, FBk b l2 f2 w') ∧ It.Only (fun k => k = b) w w' := by
  have CN := Lib.hid (fun w (h : FBk b (c :: t) frZ w) => number_ok b c t frZ w h (by simp; omega))
  have CT := Lib.hid (fun w => told_any c.toNat c.toNat_lt w)
  rw [hk] at CT
  have HB := Lib.hid h
  clear h hk
  go_enter Tryd.func31, Tryd.ntmps31
  go_wp2_with fail
  refine (CN.out _ HB.out).mono ?_
  rintro e w1 ⟨rfl, hb, ho⟩
  have HB1 := Lib.hid hb
  have HO1 := Lib.hid ho
  clear hb ho
  go_wp2_with fail
  refine (CT.out _).mono ?_
  rintro e w1' ⟨rfl, rfl⟩
  go_wp2
  exact ⟨rfl, rfl, ⟨_, _, HB1.out⟩, HO1.out⟩
end Go.Proofs.YtfeecfdbncjmnaaDoor.Fm
