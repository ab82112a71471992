/- The walks of layer 6: a reader's frame, of a kind without a Set. By tools/gen-frame-8.py. -/
import Derived.Test.YtfeecfdbncjmnaaDoorFmG
import Derived.Test.YtfeecfdbncjmnaaDoorFmF
import Derived.Test.YtfeecfdbncjmnaaDoorFmH
namespace Go.Proofs.YtfeecfdbncjmnaaDoor.Fm
set_option maxRecDepth 20000
open Go.RowKit Vm
set_option linter.unusedVariables false
set_option linter.unusedSimpArgs false

/-- A frame with a number laid at its place. -/
def setN (f : Frm) : Nat → Int → Frm
  | 0, v => { f with id := v }
  | 1, v => { f with off := v }
  | 2, v => { f with code := v }
  | 3, v => { f with max := v }
  | 4, v => { f with seq := v }
  | 5, v => { f with prior := v }
  | 6, v => { f with delay := v }
  | _, _ => f
/-- One number of those that the parts have, read. -/
def stepN (p i : Nat) : Option (List UInt8 × Frm) → Option (List UInt8 × Frm)
  | some (l, f) => if p.testBit i = true then (if gk l ≤ l.length then some (gR l, setN f i (gN l : Nat)) else none) else some (l, f)
  | none => none
theorem stepN_some (p i : Nat) (l : List UInt8) (f : Frm) : stepN p i (some (l, f)) = if p.testBit i = true then (if gk l ≤ l.length then some (gR l, setN f i (gN l : Nat)) else none) else some (l, f) := rfl
def numsN (p : Nat) (l : List UInt8) (f : Frm) : Nat → Option (List UInt8 × Frm)
  | 0 => some (l, f)
  | i + 1 => stepN p i (numsN p l f i)
theorem numsN_none {p : Nat} {l : List UInt8} {f : Frm} {i : Nat} (h : numsN p l f i = none) : ∀ j, i ≤ j → numsN p l f j = none
  | 0, hj => by
    have : i = 0 := by omega
    subst this; exact h
  | j + 1, hj => by
    rcases Nat.lt_or_ge i (j + 1) with h1 | h1
    · rw [numsN, numsN_none h j (by omega)]; rfl
    · have : i = j + 1 := by omega
      subst this; exact h
theorem numsN_len {p : Nat} {l : List UInt8} {f : Frm} : ∀ {i : Nat} {l2 : List UInt8} {f2 : Frm}, numsN p l f i = some (l2, f2) → l2.length ≤ l.length
  | 0, l2, f2, h => by
    simp only [numsN, Option.some.injEq, Prod.mk.injEq] at h
    rw [← h.1]; exact Nat.le_refl _
  | i + 1, l2, f2, h => by
    rw [numsN] at h
    match hn : numsN p l f i with
    | none => rw [hn] at h; cases h
    | some (l1, f1) =>
      have ih := numsN_len hn
      rw [hn] at h
      unfold stepN at h
      split at h
      · rename_i l3 f3 he
        cases he
        split at h
        · split at h
          · rename_i hg
            cases h
            rw [(g_ok hg).2.1, List.length_drop]; omega
          · cases h
        · cases h; exact ih
      · cases h
theorem toldP_lt : ∀ n, toldP n < 8192 := by
  intro n
  unfold toldP
  split
  all_goals first | decide | skip
  unfold partsN
  split <;> decide
theorem tab_only {O : Nat → Prop} {w w' : World} (h : Tab w) (ho : It.Only O w w') (hn : ¬ O 0) : Tab w' :=
  ⟨ho.cell h.1 hn, ho.cell h.2.1 hn, ho.cell h.2.2.1 hn, ho.cell h.2.2.2 hn⟩
theorem tab_ne {b : Nat} {l : List UInt8} {f : Frm} {w : World} (ht : Tab w) (h : FBk b l f w) : b ≠ 0 := fun e => by
  subst e
  have h1 := h.cell0
  rw [ht.1] at h1
  cases h1
set_option maxHeartbeats 16000000 in
theorem frame_yes (b : Nat) (c : UInt8) (t : List UInt8) (w : World) (ht : Tab w) (h : FBk b (c :: t) frZ w) (hl : t.length ≤ 100000) (hk : toldB c.toNat = true) (hs : (toldP c.toNat).testBit 11 = false) (l2 l4 : List UInt8) (f2 f4 : Frm) (hn : numsN (toldP c.toNat) t { frZ with kind := (toldK c.toNat : Nat) } 7 = some (l2, f2)) (CRT : Hid (∀ W, Tab W → FBk b l2 { f2 with fin := (toldP c.toNat).testBit 10 } W → Calls Tryd.prog 56 #[.pointer (some ⟨b, 0, none⟩), .int .u64 (toldP c.toNat : Nat)] W fun e W' => (∃ v, e = .returned v) ∧ FBk b l4 f4 W' ∧ It.Only (fun k => k = b) W W')) : Calls Tryd.prog 31 #[.pointer (some ⟨b, 0, none⟩)] w fun e w' => e = .returned (.tuple #[]) ∧ FBk b l4 f4 w' ∧ It.Only (fun k => k = b) w w' := by
  obtain ⟨p, Ep⟩ : ∃ p, toldP c.toNat = p := ⟨_, rfl⟩
  obtain ⟨K, EK⟩ : ∃ K, toldK c.toNat = K := ⟨_, rfl⟩
  have hp : p < 8192 := by rw [← Ep]; exact toldP_lt _
  have CN := Lib.hid (fun w (h : FBk b (c :: t) frZ w) => number_ok b c t frZ w h (by simp; omega))
  have CT := Lib.hid (fun w => told_any c.toNat c.toNat_lt w)
  rw [hk, Ep, EK] at CT
  rw [Ep] at hs
  rw [Ep, EK] at hn
  rw [Ep] at CRT
  have e11 : (bits .and .u64 ((p : Nat) : Int) 2048 != 0) = false := bitF p 11 hp (by decide) _ hs
  obtain ⟨fb, hfb⟩ : ∃ fb, p.testBit 10 = fb := ⟨_, rfl⟩
  have e10 : (bits .and .u64 ((p : Nat) : Int) 1024 != 0) = fb := bitF p 10 hp (by decide) _ hfb
  rw [hfb] at CRT
  have hbg := tab_ne ht h
  have hbl := h.lt
  have HT := Lib.hid ht
  have HB := Lib.hid h
  have HN := Lib.hid hn
  have hI0 := fun (u : World) => run_index_ptr7 #[.pointer (some ⟨b, 2, none⟩), .pointer (some ⟨b, 3, none⟩), .pointer (some ⟨b, 5, none⟩), .pointer (some ⟨b, 4, none⟩), .pointer (some ⟨b, 6, none⟩), .pointer (some ⟨b, 7, none⟩), .pointer (some ⟨b, 8, none⟩)] 0 (.pointer (some ⟨b, 2, none⟩)) u (by decide) rfl
  have hI1 := fun (u : World) => run_index_ptr7 #[.pointer (some ⟨b, 2, none⟩), .pointer (some ⟨b, 3, none⟩), .pointer (some ⟨b, 5, none⟩), .pointer (some ⟨b, 4, none⟩), .pointer (some ⟨b, 6, none⟩), .pointer (some ⟨b, 7, none⟩), .pointer (some ⟨b, 8, none⟩)] 1 (.pointer (some ⟨b, 3, none⟩)) u (by decide) rfl
  have hI2 := fun (u : World) => run_index_ptr7 #[.pointer (some ⟨b, 2, none⟩), .pointer (some ⟨b, 3, none⟩), .pointer (some ⟨b, 5, none⟩), .pointer (some ⟨b, 4, none⟩), .pointer (some ⟨b, 6, none⟩), .pointer (some ⟨b, 7, none⟩), .pointer (some ⟨b, 8, none⟩)] 2 (.pointer (some ⟨b, 5, none⟩)) u (by decide) rfl
  have hI3 := fun (u : World) => run_index_ptr7 #[.pointer (some ⟨b, 2, none⟩), .pointer (some ⟨b, 3, none⟩), .pointer (some ⟨b, 5, none⟩), .pointer (some ⟨b, 4, none⟩), .pointer (some ⟨b, 6, none⟩), .pointer (some ⟨b, 7, none⟩), .pointer (some ⟨b, 8, none⟩)] 3 (.pointer (some ⟨b, 4, none⟩)) u (by decide) rfl
  have hI4 := fun (u : World) => run_index_ptr7 #[.pointer (some ⟨b, 2, none⟩), .pointer (some ⟨b, 3, none⟩), .pointer (some ⟨b, 5, none⟩), .pointer (some ⟨b, 4, none⟩), .pointer (some ⟨b, 6, none⟩), .pointer (some ⟨b, 7, none⟩), .pointer (some ⟨b, 8, none⟩)] 4 (.pointer (some ⟨b, 6, none⟩)) u (by decide) rfl
  have hI5 := fun (u : World) => run_index_ptr7 #[.pointer (some ⟨b, 2, none⟩), .pointer (some ⟨b, 3, none⟩), .pointer (some ⟨b, 5, none⟩), .pointer (some ⟨b, 4, none⟩), .pointer (some ⟨b, 6, none⟩), .pointer (some ⟨b, 7, none⟩), .pointer (some ⟨b, 8, none⟩)] 5 (.pointer (some ⟨b, 7, none⟩)) u (by decide) rfl
  have hI6 := fun (u : World) => run_index_ptr7 #[.pointer (some ⟨b, 2, none⟩), .pointer (some ⟨b, 3, none⟩), .pointer (some ⟨b, 5, none⟩), .pointer (some ⟨b, 4, none⟩), .pointer (some ⟨b, 6, none⟩), .pointer (some ⟨b, 7, none⟩), .pointer (some ⟨b, 8, none⟩)] 6 (.pointer (some ⟨b, 8, none⟩)) u (by decide) rfl
  clear ht h hn hs hk Ep EK hfb
  go_enter Tryd.func31, Tryd.ntmps31
  go_wp2_with fail
  refine (CN.out _ HB.out).mono ?_
  rintro e w1 ⟨rfl, hb, ho⟩
  have HB1 := Lib.hid hb
  have HO1 := Lib.hid ho
  have c1 := hb.cell1
  have g1 := hb.fz 1
  clear hb ho
  go_wp2_with fail
  refine (CT.out _).mono ?_
  rintro e w1' ⟨rfl, rfl⟩
  go_wp2_with fail
  have HB2 : Hid (FBk b t { frZ with kind := (K : Nat) } (w1'.setCell ⟨b, 1, none⟩ (.int .u64 (K : Nat)))) := Lib.hid (HB1.out.set1 _)
  have HO2 : Hid (It.Only (fun k => k = b) w (w1'.setCell ⟨b, 1, none⟩ (.int .u64 (K : Nat)))) := Lib.hid (HO1.out.trans (It.Only.setCell (O := fun k => k = b) (p := ⟨b, 1, none⟩) rfl _ _))
  clear c1 g1
  generalize w1'.setCell ⟨b, 1, none⟩ (.int .u64 (K : Nat)) = W2 at HB2 HO2 ⊢
  refine (places_1 b _ HB2.out.lt).mono ?_
  rintro e w3 ⟨rfl, hb3⟩
  have HB3 := Lib.hid (HB2.out.keep hb3)
  have HO3 := Lib.hid (HO2.out.trans (It.Only.of_all hb3 _))
  clear hb3
  go_wp2
  go_loopw [34] (fun iv wr => ∃ i : Nat, i ≤ 7 ∧ iv = .int .i64 (i : Nat) ∧ ∃ l1 f1, numsN p t { frZ with kind := (K : Nat) } i = some (l1, f1) ∧ FBk b l1 f1 wr ∧ It.Only (fun k => k = b) w wr) (fun iv _ => 7 - (intOf iv).toNat)
  case atStart => exact ⟨0, by decide, rfl, _, _, rfl, HB3.out, HO3.out⟩
  case round =>
    obtain ⟨i, hi, rfl, l1, f1, hn, hb, ho⟩ := hrel
    have HN1 := Lib.hid hn
    have HBr := Lib.hid hb
    have HOr := Lib.hid ho
    have HTr := Lib.hid (tab_only HT.out ho hbg.symm)
    have hl1 := numsN_len hn
    clear hn hb ho
    match i, hi with
    | 0, _ =>
      have BT := Lib.hid (bit_0 p hp)
      cases hbit : p.testBit 0 with
      | true =>
        rw [hbit] at BT
        by_cases hg : gk l1 ≤ l1.length
        · have CV := Lib.hid (fun w (ht : Tab w) (h : FBk b l1 f1 w) => varint_ok b l1 f1 w ht h (by omega) hg)
          have HNX : Hid (numsN p t { frZ with kind := (K : Nat) } 1 = some (gR l1, setN f1 0 (gN l1 : Nat))) := Lib.hid (by rw [numsN, HN1.out]; rw [stepN_some, if_pos hbit, if_pos hg])
          clear hbit hg
          go_wp2_with fail
          erw [hI0]
          go_wp2_with fail
          refine (BT.out _).mono ?_
          rintro e w4 ⟨rfl, rfl⟩
          go_wp2_with fail
          refine (CV.out _ HTr.out HBr.out).mono ?_
          rintro e w5 ⟨rfl, hb, ho⟩
          have HB5 := Lib.hid hb
          have HO5 := Lib.hid (HOr.out.trans ho)
          have c5 := hb.cell2
          have g5 := hb.fz 2
          clear hb ho
          go_wp2
          go_roundw
          case rel => exact ⟨1, by decide, rfl, _, _, HNX.out, HB5.out.set2 _, HO5.out.trans (It.Only.setCell (O := fun k => k = b) (p := ⟨b, 2, none⟩) rfl _ _)⟩
          case measure => simp [intOf]
        · exfalso
          have h7 := numsN_none (i := 1) (by rw [numsN, HN1.out]; rw [stepN_some, if_pos hbit, if_neg hg]) 7 (by decide)
          rw [HN.out] at h7
          cases h7
      | false =>
        rw [hbit] at BT
        have HNX : Hid (numsN p t { frZ with kind := (K : Nat) } 1 = some (l1, f1)) := Lib.hid (by rw [numsN, HN1.out]; rw [stepN_some, if_neg (by rw [hbit]; decide)])
        clear hbit
        go_wp2_with fail
        erw [hI0]
        go_wp2_with fail
        refine (BT.out _).mono ?_
        rintro e w4 ⟨rfl, rfl⟩
        go_wp2
        go_roundw
        case rel => exact ⟨1, by decide, rfl, _, _, HNX.out, HBr.out, HOr.out⟩
        case measure => simp [intOf]
    | 1, _ =>
      have BT := Lib.hid (bit_1 p hp)
      cases hbit : p.testBit 1 with
      | true =>
        rw [hbit] at BT
        by_cases hg : gk l1 ≤ l1.length
        · have CV := Lib.hid (fun w (ht : Tab w) (h : FBk b l1 f1 w) => varint_ok b l1 f1 w ht h (by omega) hg)
          have HNX : Hid (numsN p t { frZ with kind := (K : Nat) } 2 = some (gR l1, setN f1 1 (gN l1 : Nat))) := Lib.hid (by rw [numsN, HN1.out]; rw [stepN_some, if_pos hbit, if_pos hg])
          clear hbit hg
          go_wp2_with fail
          erw [hI1]
          go_wp2_with fail
          refine (BT.out _).mono ?_
          rintro e w4 ⟨rfl, rfl⟩
          go_wp2_with fail
          refine (CV.out _ HTr.out HBr.out).mono ?_
          rintro e w5 ⟨rfl, hb, ho⟩
          have HB5 := Lib.hid hb
          have HO5 := Lib.hid (HOr.out.trans ho)
          have c5 := hb.cell3
          have g5 := hb.fz 3
          clear hb ho
          go_wp2
          go_roundw
          case rel => exact ⟨2, by decide, rfl, _, _, HNX.out, HB5.out.set3 _, HO5.out.trans (It.Only.setCell (O := fun k => k = b) (p := ⟨b, 3, none⟩) rfl _ _)⟩
          case measure => simp [intOf]
        · exfalso
          have h7 := numsN_none (i := 2) (by rw [numsN, HN1.out]; rw [stepN_some, if_pos hbit, if_neg hg]) 7 (by decide)
          rw [HN.out] at h7
          cases h7
      | false =>
        rw [hbit] at BT
        have HNX : Hid (numsN p t { frZ with kind := (K : Nat) } 2 = some (l1, f1)) := Lib.hid (by rw [numsN, HN1.out]; rw [stepN_some, if_neg (by rw [hbit]; decide)])
        clear hbit
        go_wp2_with fail
        erw [hI1]
        go_wp2_with fail
        refine (BT.out _).mono ?_
        rintro e w4 ⟨rfl, rfl⟩
        go_wp2
        go_roundw
        case rel => exact ⟨2, by decide, rfl, _, _, HNX.out, HBr.out, HOr.out⟩
        case measure => simp [intOf]
    | 2, _ =>
      have BT := Lib.hid (bit_2 p hp)
      cases hbit : p.testBit 2 with
      | true =>
        rw [hbit] at BT
        by_cases hg : gk l1 ≤ l1.length
        · have CV := Lib.hid (fun w (ht : Tab w) (h : FBk b l1 f1 w) => varint_ok b l1 f1 w ht h (by omega) hg)
          have HNX : Hid (numsN p t { frZ with kind := (K : Nat) } 3 = some (gR l1, setN f1 2 (gN l1 : Nat))) := Lib.hid (by rw [numsN, HN1.out]; rw [stepN_some, if_pos hbit, if_pos hg])
          clear hbit hg
          go_wp2_with fail
          erw [hI2]
          go_wp2_with fail
          refine (BT.out _).mono ?_
          rintro e w4 ⟨rfl, rfl⟩
          go_wp2_with fail
          refine (CV.out _ HTr.out HBr.out).mono ?_
          rintro e w5 ⟨rfl, hb, ho⟩
          have HB5 := Lib.hid hb
          have HO5 := Lib.hid (HOr.out.trans ho)
          have c5 := hb.cell5
          have g5 := hb.fz 5
          clear hb ho
          go_wp2
          go_roundw
          case rel => exact ⟨3, by decide, rfl, _, _, HNX.out, HB5.out.set5 _, HO5.out.trans (It.Only.setCell (O := fun k => k = b) (p := ⟨b, 5, none⟩) rfl _ _)⟩
          case measure => simp [intOf]
        · exfalso
          have h7 := numsN_none (i := 3) (by rw [numsN, HN1.out]; rw [stepN_some, if_pos hbit, if_neg hg]) 7 (by decide)
          rw [HN.out] at h7
          cases h7
      | false =>
        rw [hbit] at BT
        have HNX : Hid (numsN p t { frZ with kind := (K : Nat) } 3 = some (l1, f1)) := Lib.hid (by rw [numsN, HN1.out]; rw [stepN_some, if_neg (by rw [hbit]; decide)])
        clear hbit
        go_wp2_with fail
        erw [hI2]
        go_wp2_with fail
        refine (BT.out _).mono ?_
        rintro e w4 ⟨rfl, rfl⟩
        go_wp2
        go_roundw
        case rel => exact ⟨3, by decide, rfl, _, _, HNX.out, HBr.out, HOr.out⟩
        case measure => simp [intOf]
    | 3, _ =>
      have BT := Lib.hid (bit_3 p hp)
      cases hbit : p.testBit 3 with
      | true =>
        rw [hbit] at BT
        by_cases hg : gk l1 ≤ l1.length
        · have CV := Lib.hid (fun w (ht : Tab w) (h : FBk b l1 f1 w) => varint_ok b l1 f1 w ht h (by omega) hg)
          have HNX : Hid (numsN p t { frZ with kind := (K : Nat) } 4 = some (gR l1, setN f1 3 (gN l1 : Nat))) := Lib.hid (by rw [numsN, HN1.out]; rw [stepN_some, if_pos hbit, if_pos hg])
          clear hbit hg
          go_wp2_with fail
          erw [hI3]
          go_wp2_with fail
          refine (BT.out _).mono ?_
          rintro e w4 ⟨rfl, rfl⟩
          go_wp2_with fail
          refine (CV.out _ HTr.out HBr.out).mono ?_
          rintro e w5 ⟨rfl, hb, ho⟩
          have HB5 := Lib.hid hb
          have HO5 := Lib.hid (HOr.out.trans ho)
          have c5 := hb.cell4
          have g5 := hb.fz 4
          clear hb ho
          go_wp2
          go_roundw
          case rel => exact ⟨4, by decide, rfl, _, _, HNX.out, HB5.out.set4 _, HO5.out.trans (It.Only.setCell (O := fun k => k = b) (p := ⟨b, 4, none⟩) rfl _ _)⟩
          case measure => simp [intOf]
        · exfalso
          have h7 := numsN_none (i := 4) (by rw [numsN, HN1.out]; rw [stepN_some, if_pos hbit, if_neg hg]) 7 (by decide)
          rw [HN.out] at h7
          cases h7
      | false =>
        rw [hbit] at BT
        have HNX : Hid (numsN p t { frZ with kind := (K : Nat) } 4 = some (l1, f1)) := Lib.hid (by rw [numsN, HN1.out]; rw [stepN_some, if_neg (by rw [hbit]; decide)])
        clear hbit
        go_wp2_with fail
        erw [hI3]
        go_wp2_with fail
        refine (BT.out _).mono ?_
        rintro e w4 ⟨rfl, rfl⟩
        go_wp2
        go_roundw
        case rel => exact ⟨4, by decide, rfl, _, _, HNX.out, HBr.out, HOr.out⟩
        case measure => simp [intOf]
    | 4, _ =>
      have BT := Lib.hid (bit_4 p hp)
      cases hbit : p.testBit 4 with
      | true =>
        rw [hbit] at BT
        by_cases hg : gk l1 ≤ l1.length
        · have CV := Lib.hid (fun w (ht : Tab w) (h : FBk b l1 f1 w) => varint_ok b l1 f1 w ht h (by omega) hg)
          have HNX : Hid (numsN p t { frZ with kind := (K : Nat) } 5 = some (gR l1, setN f1 4 (gN l1 : Nat))) := Lib.hid (by rw [numsN, HN1.out]; rw [stepN_some, if_pos hbit, if_pos hg])
          clear hbit hg
          go_wp2_with fail
          erw [hI4]
          go_wp2_with fail
          refine (BT.out _).mono ?_
          rintro e w4 ⟨rfl, rfl⟩
          go_wp2_with fail
          refine (CV.out _ HTr.out HBr.out).mono ?_
          rintro e w5 ⟨rfl, hb, ho⟩
          have HB5 := Lib.hid hb
          have HO5 := Lib.hid (HOr.out.trans ho)
          have c5 := hb.cell6
          have g5 := hb.fz 6
          clear hb ho
          go_wp2
          go_roundw
          case rel => exact ⟨5, by decide, rfl, _, _, HNX.out, HB5.out.set6 _, HO5.out.trans (It.Only.setCell (O := fun k => k = b) (p := ⟨b, 6, none⟩) rfl _ _)⟩
          case measure => simp [intOf]
        · exfalso
          have h7 := numsN_none (i := 5) (by rw [numsN, HN1.out]; rw [stepN_some, if_pos hbit, if_neg hg]) 7 (by decide)
          rw [HN.out] at h7
          cases h7
      | false =>
        rw [hbit] at BT
        have HNX : Hid (numsN p t { frZ with kind := (K : Nat) } 5 = some (l1, f1)) := Lib.hid (by rw [numsN, HN1.out]; rw [stepN_some, if_neg (by rw [hbit]; decide)])
        clear hbit
        go_wp2_with fail
        erw [hI4]
        go_wp2_with fail
        refine (BT.out _).mono ?_
        rintro e w4 ⟨rfl, rfl⟩
        go_wp2
        go_roundw
        case rel => exact ⟨5, by decide, rfl, _, _, HNX.out, HBr.out, HOr.out⟩
        case measure => simp [intOf]
    | 5, _ =>
      have BT := Lib.hid (bit_5 p hp)
      cases hbit : p.testBit 5 with
      | true =>
        rw [hbit] at BT
        by_cases hg : gk l1 ≤ l1.length
        · have CV := Lib.hid (fun w (ht : Tab w) (h : FBk b l1 f1 w) => varint_ok b l1 f1 w ht h (by omega) hg)
          have HNX : Hid (numsN p t { frZ with kind := (K : Nat) } 6 = some (gR l1, setN f1 5 (gN l1 : Nat))) := Lib.hid (by rw [numsN, HN1.out]; rw [stepN_some, if_pos hbit, if_pos hg])
          clear hbit hg
          go_wp2_with fail
          erw [hI5]
          go_wp2_with fail
          refine (BT.out _).mono ?_
          rintro e w4 ⟨rfl, rfl⟩
          go_wp2_with fail
          refine (CV.out _ HTr.out HBr.out).mono ?_
          rintro e w5 ⟨rfl, hb, ho⟩
          have HB5 := Lib.hid hb
          have HO5 := Lib.hid (HOr.out.trans ho)
          have c5 := hb.cell7
          have g5 := hb.fz 7
          clear hb ho
          go_wp2
          go_roundw
          case rel => exact ⟨6, by decide, rfl, _, _, HNX.out, HB5.out.set7 _, HO5.out.trans (It.Only.setCell (O := fun k => k = b) (p := ⟨b, 7, none⟩) rfl _ _)⟩
          case measure => simp [intOf]
        · exfalso
          have h7 := numsN_none (i := 6) (by rw [numsN, HN1.out]; rw [stepN_some, if_pos hbit, if_neg hg]) 7 (by decide)
          rw [HN.out] at h7
          cases h7
      | false =>
        rw [hbit] at BT
        have HNX : Hid (numsN p t { frZ with kind := (K : Nat) } 6 = some (l1, f1)) := Lib.hid (by rw [numsN, HN1.out]; rw [stepN_some, if_neg (by rw [hbit]; decide)])
        clear hbit
        go_wp2_with fail
        erw [hI5]
        go_wp2_with fail
        refine (BT.out _).mono ?_
        rintro e w4 ⟨rfl, rfl⟩
        go_wp2
        go_roundw
        case rel => exact ⟨6, by decide, rfl, _, _, HNX.out, HBr.out, HOr.out⟩
        case measure => simp [intOf]
    | 6, _ =>
      have BT := Lib.hid (bit_6 p hp)
      cases hbit : p.testBit 6 with
      | true =>
        rw [hbit] at BT
        by_cases hg : gk l1 ≤ l1.length
        · have CV := Lib.hid (fun w (ht : Tab w) (h : FBk b l1 f1 w) => varint_ok b l1 f1 w ht h (by omega) hg)
          have HNX : Hid (numsN p t { frZ with kind := (K : Nat) } 7 = some (gR l1, setN f1 6 (gN l1 : Nat))) := Lib.hid (by rw [numsN, HN1.out]; rw [stepN_some, if_pos hbit, if_pos hg])
          clear hbit hg
          go_wp2_with fail
          erw [hI6]
          go_wp2_with fail
          refine (BT.out _).mono ?_
          rintro e w4 ⟨rfl, rfl⟩
          go_wp2_with fail
          refine (CV.out _ HTr.out HBr.out).mono ?_
          rintro e w5 ⟨rfl, hb, ho⟩
          have HB5 := Lib.hid hb
          have HO5 := Lib.hid (HOr.out.trans ho)
          have c5 := hb.cell8
          have g5 := hb.fz 8
          clear hb ho
          go_wp2
          go_roundw
          case rel => exact ⟨7, by decide, rfl, _, _, HNX.out, HB5.out.set8 _, HO5.out.trans (It.Only.setCell (O := fun k => k = b) (p := ⟨b, 8, none⟩) rfl _ _)⟩
          case measure => simp [intOf]
        · exfalso
          have h7 := numsN_none (i := 7) (by rw [numsN, HN1.out]; rw [stepN_some, if_pos hbit, if_neg hg]) 7 (by decide)
          rw [HN.out] at h7
          cases h7
      | false =>
        rw [hbit] at BT
        have HNX : Hid (numsN p t { frZ with kind := (K : Nat) } 7 = some (l1, f1)) := Lib.hid (by rw [numsN, HN1.out]; rw [stepN_some, if_neg (by rw [hbit]; decide)])
        clear hbit
        go_wp2_with fail
        erw [hI6]
        go_wp2_with fail
        refine (BT.out _).mono ?_
        rintro e w4 ⟨rfl, rfl⟩
        go_wp2
        go_roundw
        case rel => exact ⟨7, by decide, rfl, _, _, HNX.out, HBr.out, HOr.out⟩
        case measure => simp [intOf]
    | 7, _ =>
      obtain ⟨rfl, rfl⟩ : l1 = l2 ∧ f1 = f2 := by
        have h7 := HN1.out
        rw [HN.out] at h7
        cases h7
        exact ⟨rfl, rfl⟩
      have c9 := HBr.out.cell9
      have g9 := HBr.out.fz 9
      have HB9 : Hid (FBk b l1 { f1 with fin := fb } (wr.setCell ⟨b, 9, none⟩ (.bool fb))) := Lib.hid (HBr.out.set9 fb)
      have HO9 : Hid (It.Only (fun k => k = b) w (wr.setCell ⟨b, 9, none⟩ (.bool fb))) := Lib.hid (HOr.out.trans (It.Only.setCell (O := fun k => k = b) (p := ⟨b, 9, none⟩) rfl _ _))
      go_wp2_with fail
      refine (CRT.out _ (tab_only HT.out HO9.out hbg.symm) HB9.out).mono ?_
      rintro e w5 ⟨⟨v, rfl⟩, hb, ho⟩
      have HB5 := Lib.hid hb
      have HO5 := Lib.hid (HO9.out.trans ho)
      clear hb ho
      go_wp2
      first | go_end0 | refine bodyPost_ret (results_none rfl _ _ _) rfl ?_
      exact ⟨rfl, HB5.out, HO5.out⟩
end Go.Proofs.YtfeecfdbncjmnaaDoor.Fm
