/- The walks of layer 10: what is drawn, by the program and by the document. By tools/gen-ideal-1.py. -/
import Derived.Test.YtffjnfoleofffaaIdB
namespace Go.Proofs.Ytffjnfoleofffaa.Id
open Go.RowKit
open Vm
set_option linter.unusedVariables false
set_option linter.unusedSimpArgs false

theorem wr_size (s j : Nat) : (⟨(wrd s j).toArray⟩ : ByteArray).size = 8 := wrd_len s j
theorem cell_dN {w : World} {a : Addr} {v : Value} (q : Nat) (h : w.cell? a = some v) : (w.drewN q).cell? a = some v := h
set_option maxHeartbeats 2000000 in
theorem drawn_any (d s n : Nat) (w : World) (hd : w.heap[d]? = some (.cells #[.int .u64 s, .int .i64 n] 59 (0, 0))) (hs : s < 18446744073709551616) (hn : n ≤ 100000) :
    Calls Try.prog 26 #[.pointer (some ⟨d, 0, none⟩)] w fun e w' => e = .returned (.string ⟨(drawN s n).toArray⟩) ∧ Below d w w' := by
  have hlt : d < w.heap.size := (Array.getElem?_eq_some_iff.1 hd).1
  have HI := Lib.hid (Lib.fresh_isBuilder 73 5 w)
  have H0 : Hid (Drw d w.heap.size s n 0 w (w.alloc (.cells #[.pointer none, .slice none 0 0] 73))) := Lib.hid ⟨Nat.zero_le _, by
      rw [Nat.add_zero, Nat.mod_eq_of_lt hs, Below.heap_alloc w _ d hlt]; exact hd, HI.out, (Below.refl _ _).alloc (by omega) _, by simp⟩
  clear HI hd
  have hs' := Lib.hid hs
  clear hs
  go_enter Try.func26, Try.ntmps26
  go_wp2
  generalize w.heap.size = b at *
  go_loopw [4] (fun v wr => ∃ j : Nat, Drw d b s n j w wr) (fun _ wr => (n + 16 - 8 * (((intOf ((wr.cell? ⟨d, 0, none⟩).getD undef)).toNat + 18446744073709551616 - s) % 18446744073709551616)))
  case atStart => exact ⟨0, H0.out⟩
  case round =>
    obtain ⟨j, hr⟩ := hrel
    have HR := Lib.hid hr
    clear hr H0
    obtain ⟨hj, hcd, hBd, hw, hbs⟩ := HR.out
    have HW := Lib.hid hw
    have hL : (Lib.byteCells (drw s j)).length = 8 * j := by rw [byteCells_len, drw_len]
    obtain ⟨q8, hq8⟩ : ∃ q, 8 * j = q := ⟨_, rfl⟩
    have LEN : Hid (∀ q : Nat, Calls Try.prog 34 #[.pointer (some ⟨b, 0, none⟩)] (wr.drewN q) fun e w' => e = .returned (.int .i64 (q8 : Nat)) ∧ w' = wr.drewN q) := Lib.hid (fun q => by
      have h := Try.Builder_Len b b (Lib.byteCells (drw s j)) (wr.drewN q) (builder_below hBd (below_drewN (Below.refl _ _) q))
      rw [hL, hq8] at h
      exact h)
    have hc0 : wr.cell? ⟨d, 0, none⟩ = some (.int .u64 ((s + j) % 18446744073709551616 : Nat)) := by rw [Lib.cell_of_heap hcd]; rfl
    have hc1 : wr.cell? ⟨d, 1, none⟩ = some (.int .i64 n) := by rw [Lib.cell_of_heap hcd]; rfl
    have HC := Lib.hid hcd
    have HBd := Lib.hid hBd
    have hdwr : d < wr.heap.size := (Array.getElem?_eq_some_iff.1 hcd).1
    obtain ⟨m, hm⟩ : ∃ m, (s + j) % 18446744073709551616 = m := ⟨_, rfl⟩
    have HM := Lib.hid hm
    rw [hm] at HC hc0
    clear hcd hBd hw hL hm
    by_cases hlt8 : q8 < n
    · have hltI : (q8 : Int) < (n : Int) := by omega
      have CW : Hid (∀ q : Nat, Calls Try.prog 29 #[.pointer (some ⟨d, 0, none⟩)] (wr.drewN q) fun e w' => e = .returned (.string ⟨(wrd s j).toArray⟩) ∧ ∃ w1, Below wr.heap.size wr w1 ∧ w' = w1.setCell ⟨d, 0, none⟩ (.int .u64 ((m + 1) % 18446744073709551616 : Nat))) := Lib.hid (fun q => by
        refine (word_any d m 59 [.int .i64 n] (wr.drewN q) HC.out).mono ?_
        rintro e w' ⟨rfl, w1, hb1, rfl⟩
        refine ⟨?_, w1, (below_drewN (Below.refl _ _) q).trans hb1, rfl⟩
        unfold wrd
        rw [HM.out])
      have HJ := Lib.hid hq8
      have hq1 : q8 ≤ 100000 := by omega
      clear hq8 hj
      go_wp2_with fail
      go_quiet ((go_at_call 34; exact Calls.quiet_of_same (LEN.out _)))
      go_wp2_with fail
      with_reducible refine (CW.out _).mono ?_
      rintro e w1 ⟨rfl, w1', hb1, hw1⟩
      have HB1 := Lib.hid hb1
      have HW1 := Lib.hid hw1
      have hB1 : Lib.IsBuilder 73 5 b b (Lib.byteCells (drw s j)) w1 := by
        rw [hw1]; exact builder_set (builder_below HBd.out hb1) d hlt _
      have hsz1 : b ≤ w1.heap.size := by rw [hw1]; have := hb1.size; simp; omega
      have HBB := Lib.hid hB1
      clear hb1 hw1 hB1
      go_wp2_with fail
      refine (Bld.writeString b b (Lib.byteCells (drw s j)) ⟨(wrd s j).toArray⟩ _ HBB.out (by rw [byteCells_len, drw_len, wr_size]; have := HJ.out; omega) hsz1).mono ?_
      rintro e w2 ⟨rfl, hI2, hb2⟩
      have HI2 := Lib.hid hI2
      have HB2 := Lib.hid hb2
      clear hI2 hb2
      go_wp2_with fail
      have HS : Hid (Drw d b s n (j + 1) w w2) := Lib.hid (by
        have e := HM.out
        have h2 := HB2.out
        rw [HW1.out, ← e] at h2
        exact HR.out.step hlt hn (by have := HJ.out; omega) HB1.out HI2.out h2)
      go_roundw
      case rel => exact ⟨j + 1, HS.out⟩
      case measure =>
        have h1 : w2.cell? ⟨d, 0, none⟩ = some (.int .u64 ((s + (j + 1)) % 18446744073709551616 : Nat)) := by rw [Lib.cell_of_heap HS.out.2.1]; rfl
        rw [h1, hc0]
        have := HJ.out
        have := HM.out
        have := hs'.out
        simp only [Option.getD_some, intOf, Int.toNat_natCast]
        omega
    · have hltI : ¬ (q8 : Int) < (n : Int) := by omega
      have hcn : Hid (wr.cell? ⟨d, 1, none⟩ = some (.int .i64 n)) := Lib.hid hc1
      obtain ⟨X, hX⟩ : ∃ x, drw s j = x := ⟨_, rfl⟩
      have hlX : X.length = q8 := by rw [← hX, drw_len, hq8]
      have hnX : (n : Int) ≤ (X.length : Int) := by omega
      have hnX2 : n ≤ X.length := by omega
      have CS : Hid (∀ W : World, Below wr.heap.size wr W → Calls Try.prog 36 #[.pointer (some ⟨b, 0, none⟩)] W fun e w' => e = .returned (.string ⟨X.toArray⟩) ∧ Below b wr w') := Lib.hid (fun W hW => by
        have h := Try.Builder_String_any b b (drw s j) W (builder_below HBd.out hW) (Nat.le_trans hbs hW.size)
        rw [hX] at h
        exact h.mono fun e w' ⟨h1, h2⟩ => ⟨h1, (hW.mono hbs).trans h2⟩)
      have HF : Hid (drawN s n = X.take n) := Lib.hid (by rw [← hX, drawN_of s n j (by omega)])
      clear hq8
      go_wp2_with fail
      go_quiet ((go_at_call 34; exact Calls.quiet_of_same (LEN.out _)))
      go_wp2_with fail
      clear LEN
      refine wp_region_noPanic ?_
      refine wp_region_held_drew (S := fun w' : World => w'.cell? ⟨d, 1, none⟩ = some (.int .i64 n)) (by kernel_rfl) ?_ (fun hHeld => ?_)
      · exact hcn.out
      refine wpAnyH_take (i := 1) (v := ?_) rfl (by kernel_rfl) (by kernel_rfl) (by kernel_rfl) (fun _ _ _ h => h) (Or.inl ⟨by rfl, ?_⟩) (by assumption) ?_
      rotate_left
      · (intro w hSw; have hS0 := hSw; go_simp; (try with_reducible rfl))
      try simp only [Act.put, List.getElem_toArray, List.getElem_cons_zero, List.getElem_cons_succ, List.setIfInBounds_toArray, List.set_cons_zero, List.set_cons_succ]
      refine wpAnyH_take (i := 2) (v := ?_) rfl (by kernel_rfl) (by kernel_rfl) (by kernel_rfl) (fun _ _ _ h => h) (Or.inl ⟨by rfl, ?_⟩) (by assumption) ?_
      rotate_left
      · (intro w hSw; have hS0 := hSw; go_simp; (try with_reducible rfl))
      try simp only [Act.put, List.getElem_toArray, List.getElem_cons_zero, List.getElem_cons_succ, List.setIfInBounds_toArray, List.set_cons_zero, List.set_cons_succ]
      refine wpAnyH_take (i := 3) (v := ?_) rfl (by kernel_rfl) (by kernel_rfl) (by kernel_rfl) (fun _ _ _ h => h) (Or.inl ⟨by rfl, ?_⟩) (by assumption) ?_
      rotate_left
      · (intro w hSw; have hS0 := hSw; go_simp; (try with_reducible rfl))
      try simp only [Act.put, List.getElem_toArray, List.getElem_cons_zero, List.getElem_cons_succ, List.setIfInBounds_toArray, List.set_cons_zero, List.set_cons_succ]
      refine wpAnyH_take (i := 4) (v := ?_) rfl (by kernel_rfl) (by kernel_rfl) (by kernel_rfl) (fun _ _ _ h => h) (Or.inl ⟨by rfl, ?_⟩) (by assumption) ?_
      rotate_left
      · (intro w hSw; have hS0 := hSw; go_simp; (try with_reducible rfl))
      try simp only [Act.put, List.getElem_toArray, List.getElem_cons_zero, List.getElem_cons_succ, List.setIfInBounds_toArray, List.set_cons_zero, List.set_cons_succ]
      refine wpAnyH_ready (rs := [0]) (by kernel_rfl) (by simp) ?_
      refine AllReadyH.cons rfl (fun K hK => ?_) AllReadyH.nil
      rw [if_pos (by rfl)]
      go_simp
      with_reducible refine (CS.out _ (below_drewN (Below.refl _ _) _)).mono ?_
      rintro e w2 ⟨rfl, hb2⟩
      have HB2 := Lib.hid hb2
      have hcn2 := (hb2.cell (p := ⟨d, 1, none⟩ ) hlt).trans hcn.out
      clear hb2
      refine hK.out _ _ ?_ (fun hHeld => ?_)
      · exact hcn2
      clear hK K
      try simp only [Act.put, List.getElem_toArray, List.getElem_cons_zero, List.getElem_cons_succ, List.setIfInBounds_toArray, List.set_cons_zero, List.set_cons_succ]
      refine wpAnyH_take (i := 5) (v := ?_) rfl (by kernel_rfl) (by kernel_rfl) (by kernel_rfl) (fun _ _ _ h => h) (Or.inl ⟨by rfl, ?_⟩) (by assumption) ?_
      rotate_left
      · (intro w hSw; have hS0 := hSw; go_simp; (try with_reducible rfl))
      try simp only [Act.put, List.getElem_toArray, List.getElem_cons_zero, List.getElem_cons_succ, List.setIfInBounds_toArray, List.set_cons_zero, List.set_cons_succ]
      refine wpAnyH_take (i := 6) (v := ?_) rfl (by kernel_rfl) (by kernel_rfl) (by kernel_rfl) (fun _ _ _ h => h) (Or.inl ⟨by rfl, ?_⟩) (by assumption) ?_
      rotate_left
      · (intro w hSw; have hS0 := hSw; go_simp; (try with_reducible rfl))
      try simp only [Act.put, List.getElem_toArray, List.getElem_cons_zero, List.getElem_cons_succ, List.setIfInBounds_toArray, List.set_cons_zero, List.set_cons_succ]
      refine wpAnyH_done (by kernel_rfl) (NoPanic.normal ?_) _
      go_wp2_with fail
      go_ret
      refine ⟨?_, HW.out.trans (HB2.out.mono (by omega))⟩
      rw [HF.out]
      refine ret_str ?_
      apply ByteArray.ext
      simp
def strS : Value → ByteArray | .string s => s | _ => ⟨#[]⟩
theorem max0 (x : Int) (m : Nat) (h : x.toNat = m) : max x 0 = (m : Int) := by omega
set_option maxHeartbeats 2000000 in
theorem draw_any (s i : Nat) (n : Int) (w : World) (hn : n ≤ 100000) :
    Calls Try.prog 10 #[.int .u64 s, .int .u64 i, .int .i64 n] w fun e w' => e = .returned (.string ⟨(drawN (baseN s i) n.toNat).toArray⟩) ∧ Below w.heap.size w w' := by
  obtain ⟨m, hm⟩ : ∃ m, n.toNat = m := ⟨_, rfl⟩
  have HX := Lib.hid (max0 n m hm)
  have C1 := Lib.hid (base_any s i)
  have hB := baseN_lt s i
  have hm1 : m ≤ 100000 := by omega
  rw [hm]
  clear hm
  generalize baseN s i = B at *
  have C2 : Hid (∀ x : Int, x = (m : Int) → Calls Try.prog 26 #[.pointer (some ⟨w.heap.size, 0, none⟩)] (w.alloc (.cells #[.int .u64 B, .int .i64 x] 59)) fun e w' => e = .returned (.string ⟨(drawN B m).toArray⟩) ∧ Below w.heap.size w w') := Lib.hid (fun x hx => by
    subst hx
    refine (drawn_any w.heap.size B m _ (heap_alloc_new w _) hB hm1).mono ?_
    rintro e w' ⟨h1, h2⟩
    exact ⟨h1, ((Below.refl _ _).alloc (Nat.le_refl _) _).trans h2⟩)
  have HB := Lib.hid hB
  clear hB
  obtain ⟨D, hD⟩ : ∃ s : ByteArray, ⟨(drawN B m).toArray⟩ = s := ⟨_, rfl⟩
  rw [hD] at C2 ⊢
  clear hD
  go_enter Try.func10, Try.ntmps10
  go_wp2_with fail
  with_reducible refine (C1.out _).mono ?_
  rintro e w1 ⟨rfl, rfl⟩
  go_wp2_with fail
  with_reducible refine (C2.out _ HX.out).mono ?_
  rintro e w1 ⟨rfl, hb⟩
  go_wp2_with fail
  go_ret
  exact ⟨rfl, hb⟩
set_option maxHeartbeats 2000000 in
theorem rdraw_any (s i : Nat) (n : Int) (w : World) (hn : n ≤ 100000) :
    Calls Try.prog 11 #[.int .u64 s, .int .u64 i, .int .i64 n] w fun e w' => e = .returned (.string ⟨(drawN (baseN s i) n.toNat).toArray⟩) ∧ Below w.heap.size w w' := by
  obtain ⟨m, hm⟩ : ∃ m, n.toNat = m := ⟨_, rfl⟩
  have HX := Lib.hid (max0 n m hm)
  have S1 := Lib.hid (sum_lit (mixN s) i i rfl)
  have C1 := Lib.hid (rmixI (IntKind.u64.wrap ((mixN s : Int) + (i : Int))) ((mixN s + i) % 18446744073709551616))
  have C0 := Lib.hid (rmix_any s)
  have hB := baseN_lt s i
  have hm1 : m ≤ 100000 := by omega
  rw [hm]
  have HM := Lib.hid hm
  clear hm
  have C1' : Hid (∀ W : World, Calls Try.prog 27 #[.int .u64 (IntKind.u64.wrap ((mixN s : Int) + (i : Int)))] W fun e w' => e = .returned (.int .u64 (baseN s i : Nat)) ∧ W = w') := Lib.hid (fun W => C1.out W S1.out)
  generalize baseN s i = B at *
  clear S1 C1
  generalize mixN s = q at *
  go_enter Try.func11, Try.ntmps11
  go_wp2_with fail
  with_reducible refine (C0.out _).mono ?_
  rintro e w1 ⟨rfl, rfl⟩
  go_wp2_with fail
  with_reducible refine (C1'.out _).mono ?_
  rintro e w1 ⟨rfl, rfl⟩
  go_wp2_with fail
  go_loopw [7, 8] (fun bv sv wr => ∃ j : Nat, j ≤ m / 8 + 1 ∧ bv = .int .u64 ((B + j) % 18446744073709551616 : Nat) ∧ sv = .string ⟨(drw B j).toArray⟩ ∧ Below w.heap.size w wr) (fun _ sv _ => m + 16 - (strS sv).size)
  case atStart => exact ⟨0, Nat.zero_le _, by rw [Nat.add_zero, Nat.mod_eq_of_lt hB], rfl, Below.refl _ _⟩
  case round =>
    obtain ⟨j, hj, rfl, rfl, hb⟩ := hrel
    have HBl := Lib.hid hb
    clear hb
    have hL : (⟨(drw B j).toArray⟩ : ByteArray).size = 8 * j := drw_len B j
    have HD1 : Hid ((⟨(drw B (j + 1)).toArray⟩ : ByteArray) = ⟨(drw B j).toArray⟩ ++ ⟨(wrd B j).toArray⟩) := Lib.hid (by rw [drw_succ]; apply ByteArray.ext; simp)
    have HDN : Hid (n.toNat ≤ 8 * j → (⟨(drawN B m).toArray⟩ : ByteArray) = (⟨(drw B j).toArray⟩ : ByteArray).extract 0 m) := Lib.hid (fun h => by
      have e := drawN_of B m j (by have := HM.out; omega)
      rw [← e]; apply ByteArray.ext; simp)
    obtain ⟨D, hD⟩ : ∃ s : ByteArray, ⟨(drw B j).toArray⟩ = s := ⟨_, rfl⟩
    rw [hD] at hL HD1 HDN ⊢
    obtain ⟨q8, hq8⟩ : ∃ q, 8 * j = q := ⟨_, rfl⟩
    rw [hq8] at hL HDN
    have HQ := Lib.hid hq8
    obtain ⟨k, hk⟩ : ∃ k, (B + j) % 18446744073709551616 = k := ⟨_, rfl⟩
    have HK := Lib.hid hk
    rw [hk]
    have HL := Lib.hid hL
    have hm2 := HM.out
    clear hD hq8 hk
    by_cases hlt : (q8 : Int) < n
    · have C2 := Lib.hid (rmix_any k)
      have C3 := Lib.hid (rf8 (mixN k) (mix_i64 k))
      have hW : wrd B j = fx (mixN k) 8 := by unfold wrd; rw [HK.out]
      rw [← hW] at C3
      have S3 := Lib.hid (sum_lit k 1 1 rfl)
      have zw : (⟨(wrd B j).toArray⟩ : ByteArray).size = 8 := wrd_len B j
      generalize mixN k = mk at *
      obtain ⟨Wd, hWd⟩ : ∃ s : ByteArray, ⟨(wrd B j).toArray⟩ = s := ⟨_, rfl⟩
      rw [hWd] at C3 HD1 zw
      have HE : Hid (D ++ Wd = ⟨(drw B (j + 1)).toArray⟩) := Lib.hid HD1.out.symm
      have HWz := Lib.hid zw
      clear hWd hW hm2 hj hm1 HD1
      go_wp2_with fail
      with_reducible refine (C2.out _).mono ?_
      rintro e w1 ⟨rfl, rfl⟩
      go_wp2_with fail
      with_reducible refine (C3.out _).mono ?_
      rintro e w1 ⟨rfl, hb⟩
      have HB1 := Lib.hid (HBl.out.trans (hb.mono HBl.out.size))
      clear hb
      go_wp2_with fail
      go_roundw
      case rel =>
        refine ⟨j + 1, ?_, ?_, ?_, HB1.out⟩
        · have := HQ.out; have := HM.out; omega
        · rw [S3.out]
          have := HK.out
          congr 2
          omega
        · rw [HE.out]
      case measure =>
        have h1 := HL.out
        have h2 := HWz.out
        simp only [strS, ByteArray.size_append]
        have := HM.out
        omega
    · have hle : n.toNat ≤ q8 := by omega
      have hme : max n 0 = (m : Int) := by omega
      have HDN' := Lib.hid (HDN.out hle)
      have hmD : m ≤ q8 := by omega
      have hmI : (m : Int) ≤ (q8 : Int) := by omega
      clear hle hm2 HDN hj
      have hn0 := Lib.hid hn
      go_wp2_with fail
      go_ret
      exact ⟨ret_str HDN'.out.symm, HBl.out⟩
end Go.Proofs.Ytffjnfoleofffaa.Id
