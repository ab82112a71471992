/- The walks of layer 8: expanded -/
import Derived.Test.YtojoalmldapboaaGreatDoorJa18
import Derived.Deep.RegionHeld3
namespace Go.Proofs.YtojoalmldapboaaGreatDoor.Kd
set_option maxRecDepth 20000
open Go.RowKit
open Go.Proofs.YtojoalmldapboaaGreatDoor.Dg
open Go.Proofs.YtojoalmldapboaaGreatDoor.Vm (fx fx_length vfixed)
set_option linter.unusedVariables false
set_option linter.unusedSimpArgs false

theorem ib_keep {T e : TypeId} {B b : Nat} {bs : List Value} {w w' : World} (h : Lib.IsBuilder T e B b bs w) (hb : Below w.heap.size w w') : Lib.IsBuilder T e B b bs w' := by
  have k : ∀ p, Lib.BuilderAt T e B b p bs w → Lib.BuilderAt T e B b p bs w' := by
    rintro p ⟨h1, v, h2, h3, h4⟩
    refine ⟨h1, v, by rw [hb.block b (Array.getElem?_eq_some_iff.1 h2).1]; exact h2, ?_, h4⟩
    exact h3.kept (row := none) ⟨hb.os, hb.tape, hb.output, hb.size, fun k hk _ => hb.block k hk⟩ (by
      cases hv : v.ownBlock with
      | none => exact .inl rfl
      | some g => exact .inr (by intro e; cases e))
  exact h.imp (k _) (k _)
theorem two_below {b q r B : Nat} {v u : Value} {w w' : World} (h : w.cell? ⟨b, q, none⟩ = some v ∧ w.cell? ⟨b, r, none⟩ = some u) (hb : Below B w w') (hB : b < B) : w'.cell? ⟨b, q, none⟩ = some v ∧ w'.cell? ⟨b, r, none⟩ = some u :=
  ⟨(hb.cell (p := ⟨b, q, none⟩) hB).trans h.1, (hb.cell (p := ⟨b, r, none⟩) hB).trans h.2⟩
theorem strCells_of (l : List UInt8) : Lib.strCells ⟨l.toArray⟩ = Lib.byteCells l := by
  simp [Lib.strCells, Lib.byteCells]
theorem cat_3 (a b c : List UInt8) : cat [⟨a.toArray⟩, ⟨b.toArray⟩, ⟨c.toArray⟩] = a ++ b ++ c := by simp [cat]
set_option maxHeartbeats 8000000 in
theorem expanded_of (O I info : List UInt8) (n : Nat) (vs : Value) (w : World) (hO : O.length ≤ 100) (hI : I.length ≤ 100) (hi : info.length ≤ 10000) (hn : n ≤ 8160)
    (CJ : Hid (∀ W : World, Below w.heap.size w W → Calls Tryz.prog 142 #[vs, .string ⟨#[]⟩] W fun e w' => e = .returned (.string ⟨info.toArray⟩) ∧ Below W.heap.size W w')) :
    Calls Tryz.prog 109 #[.agg #[.string ⟨O.toArray⟩, .string ⟨I.toArray⟩], .int .i64 n, vs] w fun e w' => e = .returned (.string ⟨(exq O I info n).toArray⟩) ∧ Below w.heap.size w w' := by
  have HW0 : Hid (Below w.heap.size w (w.alloc (.cells #[.string ⟨O.toArray⟩, .string ⟨I.toArray⟩] 82))) := Lib.hid ((Below.refl _ _).alloc (Nat.le_refl _) _)
  have HT0 : Hid ((w.alloc (.cells #[.string ⟨O.toArray⟩, .string ⟨I.toArray⟩] 82)).cell? ⟨w.heap.size, 0, none⟩ = some (.string ⟨O.toArray⟩) ∧ (w.alloc (.cells #[.string ⟨O.toArray⟩, .string ⟨I.toArray⟩] 82)).cell? ⟨w.heap.size, 1, none⟩ = some (.string ⟨I.toArray⟩)) := Lib.hid (by constructor <;> simp [go_sem])
  obtain ⟨M, hM⟩ : ∃ M, (n + 31) / 32 = M := ⟨_, rfl⟩
  have hMn : n ≤ 32 * M := by omega
  have HX : Hid (exq O I info n = (outs O I info M).take n) := Lib.hid (by unfold exq; rw [hM])
  have HMM := Lib.hid hM
  generalize exq O I info n = X at *
  clear hM
  have hni : (n : Int) ≤ 8160 := by omega
  go_enter Tryz.func109, Tryz.ntmps109
  go_wp2_with fail
  with_reducible refine (CJ.out _ HW0.out).mono ?_
  rintro e w1 ⟨rfl, hb1⟩
  have HB1 := Lib.hid (HW0.out.trans (hb1.mono HW0.out.size))
  have HT1 := Lib.hid (two_alloc (two_call HT0.out hb1) (.cells #[.pointer none, .slice none 0 0] 68))
  have HIB := Lib.hid (Lib.fresh_isBuilder 68 5 w1)
  have hs1 := HB1.out.size
  have hlt0 : w.heap.size < w1.heap.size := by have := hb1.size; simp at this; omega
  have HBA := Lib.hid (HB1.out.alloc (B := w.heap.size) hs1 (.cells #[.pointer none, .slice none 0 0] 68))
  have hbw : w1.heap.size ≤ (w1.alloc (.cells #[.pointer none, .slice none 0 0] 68)).heap.size := by simp
  clear hb1 HT0 HW0 CJ
  go_wp2_with fail
  go_loopw [9, 10] (fun lv kv wr => ∃ i : Nat, i ≤ M ∧ lv = .string ⟨(tk O I info i).toArray⟩ ∧ kv = .int .u64 (i + 1 : Nat) ∧ Lib.IsBuilder 68 5 w1.heap.size w1.heap.size (Lib.byteCells (outs O I info i)) wr ∧ (wr.cell? ⟨w.heap.size, 0, none⟩ = some (.string ⟨O.toArray⟩) ∧ wr.cell? ⟨w.heap.size, 1, none⟩ = some (.string ⟨I.toArray⟩)) ∧ Below w.heap.size w wr ∧ w1.heap.size ≤ wr.heap.size) (fun _ kv _ => M + 1 - (intOf kv).toNat)
  case atStart => exact ⟨0, Nat.zero_le _, rfl, rfl, HIB.out, HT1.out, HBA.out, hbw⟩
  case round =>
    clear HIB HT1 HBA hbw HB1
    generalize w1.heap.size = b at *
    obtain ⟨i, hi2, rfl, rfl, hIB, hT, hB, hbr⟩ := hrel
    have HI := Lib.hid hIB
    have HT := Lib.hid hT
    have HBr := Lib.hid hB
    have hL : (Lib.byteCells (outs O I info i)).length = 32 * i := by rw [byteCells_len, outs_len]
    have hM300 : M ≤ 255 := by have := HMM.out; omega
    have hlenr := Tryz.Builder_Len b b (Lib.byteCells (outs O I info i)) wr hIB
    rw [hL] at hlenr
    have HLEN := Lib.hid hlenr
    clear hlenr hIB hT hB
    by_cases hlt : 32 * i < n
    · have hiM : i < M := by have := HMM.out; omega
      have hlti : (((32 * i : Nat) : Int)) < (n : Int) := by omega
      have CF : Hid (∀ W : World, Calls Tryz.prog 88 #[.int .u64 (i + 1 : Nat), .int .i64 1] W fun e w' => e = .returned (.string ⟨(fx (i + 1) 1).toArray⟩) ∧ Below W.heap.size W w') := Lib.hid (fun W => vfixed (i + 1) 1 W (by omega) (by decide) (by decide))
      have hT1 := tk_len O I info i
      have CO : Hid (∀ W : World, Calls Tryz.prog 145 #[.agg #[.string ⟨O.toArray⟩, .string ⟨I.toArray⟩], .slice (some ⟨W.heap.size, 0, none⟩) 3 3] (W.alloc (.cells #[.string ⟨(tk O I info i).toArray⟩, .string ⟨info.toArray⟩, .string ⟨(fx (i + 1) 1).toArray⟩] 9)) fun e w' => e = .returned (.string ⟨(tk O I info (i + 1)).toArray⟩) ∧ Below W.heap.size W w') := Lib.hid (fun W => by
        have hf : (fx (i + 1) 1).length = 1 := fx_length _ _
        have hlen : (tk O I info i ++ info ++ fx (i + 1) 1).length ≤ 50000 := by rw [List.length_append, List.length_append, hf]; omega
        refine (of_of ⟨O.toArray⟩ ⟨I.toArray⟩ _ (tk O I info i ++ info ++ fx (i + 1) 1) (tk O I info (i + 1)) _ hO hI hlen rfl (Lib.hid fun W' hW' => join_new [⟨(tk O I info i).toArray⟩, ⟨info.toArray⟩, ⟨(fx (i + 1) 1).toArray⟩] _ rfl 3 rfl (by omega) _ (cat_3 _ _ _) (by omega) W W' W.heap.size rfl hW')).mono ?_
        rintro e w' ⟨h1, h2⟩
        exact ⟨h1, ((Below.refl _ _).alloc (Nat.le_refl _) _).trans (h2.mono (by simp))⟩)
      have HOS : Hid (Lib.byteCells (outs O I info (i + 1)) = Lib.byteCells (outs O I info i) ++ Lib.strCells ⟨(tk O I info (i + 1)).toArray⟩) := Lib.hid (by rw [strCells_of, ← byteCells_app]; rfl)
      have ht2 : (⟨(tk O I info (i + 1)).toArray⟩ : ByteArray).size = 32 := hm_len _ _ _
      obtain ⟨T2, hT2⟩ : ∃ T2, tk O I info (i + 1) = T2 := ⟨_, rfl⟩
      rw [hT2] at CO HOS ht2
      have HT2E := Lib.hid hT2
      clear hT2
      generalize tk O I info i = T1 at *
      generalize fx (i + 1) 1 = F1 at *
      obtain ⟨q, hq⟩ : ∃ q, 32 * i = q := ⟨_, rfl⟩
      obtain ⟨k1, hk1⟩ : ∃ k1, i + 1 = k1 := ⟨_, rfl⟩
      rw [hq] at HLEN hlti hL
      rw [hk1] at CF ⊢
      have HQ := Lib.hid hq
      have HK1 := Lib.hid hk1
      have hk256 : k1 ≤ 256 := by omega
      have hq1 : q ≤ 8160 := by omega
      clear hq hk1 hlt
      go_wp2_with fail
      refine HLEN.out.mono ?_
      rintro e w' ⟨rfl, hw'⟩
      rw [hw']
      clear HLEN hw'
      go_wp2_with fail
      refine wp_region_noPanic ?_
      refine wp_region_held_drew (S := fun w' : World => w'.cell? ⟨w.heap.size, 0, none⟩ = some (.string ⟨O.toArray⟩) ∧ w'.cell? ⟨w.heap.size, 1, none⟩ = some (.string ⟨I.toArray⟩)) (by kernel_rfl) ?_ (fun hHeld => ?_)
      · exact (show wr.cell? _ = _ ∧ wr.cell? _ = _ from HT.out)
      refine wpAnyH_take (i := 0) (v := ?_) rfl (by kernel_rfl) (by kernel_rfl) (by kernel_rfl) (fun _ _ _ h => h) (Or.inl ⟨by rfl, ?_⟩) (by assumption) ?_
      rotate_left
      · (intro w hSw; (obtain ⟨hS0, hS1⟩ := hSw); go_simp; (try with_reducible rfl))
      try simp only [Act.put, List.getElem_toArray, List.getElem_cons_zero, List.getElem_cons_succ, List.setIfInBounds_toArray, List.set_cons_zero, List.set_cons_succ]
      refine wpAnyH_take (i := 1) (v := ?_) rfl (by kernel_rfl) (by kernel_rfl) (by kernel_rfl) (fun _ _ _ h => h) (Or.inl ⟨by rfl, ?_⟩) (by assumption) ?_
      rotate_left
      · (intro w hSw; (obtain ⟨hS0, hS1⟩ := hSw); go_simp; (try with_reducible rfl))
      try simp only [Act.put, List.getElem_toArray, List.getElem_cons_zero, List.getElem_cons_succ, List.setIfInBounds_toArray, List.set_cons_zero, List.set_cons_succ]
      refine wpAnyH_take (i := 2) (v := ?_) rfl (by kernel_rfl) (by kernel_rfl) (by kernel_rfl) (fun _ _ _ h => h) (Or.inl ⟨by rfl, ?_⟩) (by assumption) ?_
      rotate_left
      · (intro w hSw; (obtain ⟨hS0, hS1⟩ := hSw); go_simp; (try with_reducible rfl))
      try simp only [Act.put, List.getElem_toArray, List.getElem_cons_zero, List.getElem_cons_succ, List.setIfInBounds_toArray, List.set_cons_zero, List.set_cons_succ]
      refine wpAnyH_take (i := 3) (v := ?_) rfl (by kernel_rfl) (by kernel_rfl) (by kernel_rfl) (fun _ _ _ h => h) (Or.inl ⟨by rfl, ?_⟩) (by assumption) ?_
      rotate_left
      · (intro w hSw; (obtain ⟨hS0, hS1⟩ := hSw); go_simp; (try with_reducible rfl))
      try simp only [Act.put, List.getElem_toArray, List.getElem_cons_zero, List.getElem_cons_succ, List.setIfInBounds_toArray, List.set_cons_zero, List.set_cons_succ]
      refine wpAnyH_take (i := 4) (v := ?_) rfl (by kernel_rfl) (by kernel_rfl) (by kernel_rfl) (fun _ _ _ h => h) (Or.inl ⟨by rfl, ?_⟩) (by assumption) ?_
      rotate_left
      · (intro w hSw; (obtain ⟨hS0, hS1⟩ := hSw); go_simp; (try with_reducible rfl))
      try simp only [Act.put, List.getElem_toArray, List.getElem_cons_zero, List.getElem_cons_succ, List.setIfInBounds_toArray, List.set_cons_zero, List.set_cons_succ]
      refine wpAnyH_ready (rs := [5]) (by kernel_rfl) (by simp) ?_
      refine AllReadyH.cons rfl (fun K hK => ?_) AllReadyH.nil
      rw [if_pos (by rfl)]
      go_simp
      with_reducible refine (CF.out _).mono ?_
      rintro e w2 ⟨rfl, hb2⟩
      have HT2 := Lib.hid (two_call (show wr.drew.cell? _ = _ ∧ wr.drew.cell? _ = _ from HT.out) hb2)
      have HI2 := Lib.hid (ib_keep (show Lib.IsBuilder 68 5 b b _ wr.drew from HI.out) hb2)
      have HB2 := Lib.hid ((below_drew HBr.out).trans (hb2.mono HBr.out.size))
      have hs2 : wr.heap.size ≤ w2.heap.size := hb2.size
      clear hb2
      refine hK.out _ _ ?_ (fun hHeld => ?_)
      · exact HT2.out
      clear hK K
      try simp only [Act.put, List.getElem_toArray, List.getElem_cons_zero, List.getElem_cons_succ, List.setIfInBounds_toArray, List.set_cons_zero, List.set_cons_succ]
      refine wpAnyH_ready (rs := [6]) (by kernel_rfl) (by simp) ?_
      refine AllReadyH.cons rfl (fun K hK => ?_) AllReadyH.nil
      rw [if_pos (by rfl)]
      go_simp
      refine hK.out _ _ ?_ (fun hHeld => ?_)
      · exact two_alloc HT2.out _
      clear hK K
      try simp only [Act.put, List.getElem_toArray, List.getElem_cons_zero, List.getElem_cons_succ, List.setIfInBounds_toArray, List.set_cons_zero, List.set_cons_succ]
      refine wpAnyH_ready (rs := [7]) (by kernel_rfl) (by simp) ?_
      refine AllReadyH.cons rfl (fun K hK => ?_) AllReadyH.nil
      rw [if_pos (by rfl)]
      go_simp
      with_reducible refine (CO.out w2).mono ?_
      rintro e w3 ⟨rfl, hb3⟩
      have HT3 := Lib.hid (two_call HT2.out hb3)
      have HI3 := Lib.hid (ib_keep HI2.out hb3)
      have HB3 := Lib.hid (HB2.out.trans (hb3.mono HB2.out.size))
      have hs3 := hb3.size
      clear hb3
      refine hK.out _ _ ?_ (fun hHeld => ?_)
      · exact HT3.out
      clear hK K
      try simp only [Act.put, List.getElem_toArray, List.getElem_cons_zero, List.getElem_cons_succ, List.setIfInBounds_toArray, List.set_cons_zero, List.set_cons_succ]
      refine wpAnyH_take (i := 8) (v := ?_) rfl (by kernel_rfl) (by kernel_rfl) (by kernel_rfl) (fun _ _ _ h => h) (Or.inl ⟨by rfl, ?_⟩) (by assumption) ?_
      rotate_left
      · (intro w hSw; (obtain ⟨hS0, hS1⟩ := hSw); go_simp; (try with_reducible rfl))
      try simp only [Act.put, List.getElem_toArray, List.getElem_cons_zero, List.getElem_cons_succ, List.setIfInBounds_toArray, List.set_cons_zero, List.set_cons_succ]
      refine wpAnyH_done (by kernel_rfl) (NoPanic.normal ?_) _
      go_wp2_with fail
      refine (Bld.writeString b b _ _ _ HI3.out (by rw [hL]; rw [ht2]; omega) (by omega)).mono ?_
      rintro e w4 ⟨rfl, h4, hb4⟩
      rw [← HOS.out] at h4
      have HI4 := Lib.hid h4
      have HT4 := Lib.hid (two_below HT3.out hb4 hlt0)
      have HB4 := Lib.hid (HB3.out.trans (hb4.mono (by omega)))
      have hs4 := hb4.size
      clear h4 hb4
      go_wp2
      go_roundw
      case rel => exact ⟨k1, by have := HK1.out; omega, by rw [← HK1.out, HT2E.out], by go_num, by rw [← HK1.out]; exact HI4.out, HT4.out, HB4.out, by omega⟩
      case measure => simp [intOf]; have := HK1.out; omega
    · have hiM : i = M := by have := HMM.out; omega
      have hlti : ¬ (((32 * i : Nat) : Int)) < (n : Int) := by omega
      subst hiM
      have HSTR := Lib.hid (Tryz.Builder_String_any b b (outs O I info i) wr HI.out hbr)
      obtain ⟨Y, hY⟩ : ∃ Y : ByteArray, ⟨(outs O I info i).toArray⟩ = Y := ⟨_, rfl⟩
      have hYs : Y.size = 32 * i := by rw [← hY]; exact outs_len O I info i
      have HYX : Hid (Y.extract 0 n = ⟨X.toArray⟩) := Lib.hid (by rw [← hY, HX.out]; exact sv_to _ n)
      rw [hY] at HSTR
      obtain ⟨q, hq⟩ : ∃ q, 32 * i = q := ⟨_, rfl⟩
      rw [hq] at HLEN hlti hL hYs
      have hnq : (n : Int) ≤ (q : Int) := by omega
      clear hY hq hlt
      go_wp2_with fail
      refine HLEN.out.mono ?_
      rintro e w' ⟨rfl, hw'⟩
      rw [hw']
      clear HLEN hw'
      go_wp2_with fail
      refine HSTR.out.mono ?_
      rintro e w5 ⟨rfl, hb5⟩
      have HB5 := Lib.hid (HBr.out.trans (hb5.mono (by omega)))
      clear hb5 HSTR
      go_wp2
      go_ret
      exact ⟨by rw [← HYX.out]; rfl, HB5.out⟩
end Go.Proofs.YtojoalmldapboaaGreatDoor.Kd
