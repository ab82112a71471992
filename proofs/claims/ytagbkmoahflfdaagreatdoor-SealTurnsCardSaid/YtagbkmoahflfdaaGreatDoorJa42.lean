/- The law SealTurns, walked -/
import Derived.Test.YtagbkmoahflfdaaGreatDoorJa41
namespace Go.Proofs.YtagbkmoahflfdaaGreatDoor.Se
set_option maxRecDepth 20000
open Go.RowKit Vm Dg Kd
set_option linter.unusedVariables false
set_option linter.unusedSimpArgs false

/-- A state, turned so many times. -/
def tn (S : Sst) : Nat → Sst
  | 0 => S
  | k + 1 => turnS (tn S k)
theorem tn_phase (l : List UInt8) (k : Nat) : (tn (newS l) k).phase = decide (k % 2 = 1) := by
  induction k with
  | zero => rfl
  | succ k ih =>
    show (!(tn (newS l) k).phase) = _
    rw [ih]
    rcases Nat.mod_two_eq_zero_or_one k with h | h
    · rw [h, show (k + 1) % 2 = 1 by omega]; rfl
    · rw [h, show (k + 1) % 2 = 0 by omega]; rfl
theorem tn_sec (l : List UInt8) (k : Nat) : (tn (newS l) k).sec.length = 32 := by
  cases k with
  | zero => exact nxt_len l
  | succ k => exact nxt_len _
set_option maxHeartbeats 2000000 in
theorem turns_k (sec : ByteArray) (turns : Int) (w : World) (ht : Tab w) (h : 60 < (sec.size : Int)) :
    Calls Tryz.prog 5 #[.string sec, .int .u8 turns] w fun e w' => e = .returned (.bool true) ∧ Below w.heap.size w w' := by
  have h1 : (sec.size : Int) > 60 := h
  have CS := Lib.hid (shown_any w ht)
  clear h ht
  go_enter Tryz.func5, Tryz.ntmps5
  go_wp2_with fail
  with_reducible refine CS.out.mono ?_
  rintro e1 w1 ⟨rfl, hb⟩
  have HB1 := Lib.hid hb
  clear hb
  go_wp2_with fail
  go_ret
  exact ⟨rfl, HB1.out⟩
set_option maxHeartbeats 16000000 in
theorem turns_ok (l : List UInt8) (turns : Int) (w : World) (ht : Tab w) (h0 : 0 ≤ turns) (h1 : turns ≤ 255) (hl : l.length ≤ 60) :
    Calls Tryz.prog 5 #[.string ⟨l.toArray⟩, .int .u8 turns] w fun e w' => e = .returned (.bool true) ∧ Below w.heap.size w w' := by
  obtain ⟨t, h6⟩ : ∃ t : Nat, turns % 6 = (t : Int) := ⟨(turns % 6).toNat, by omega⟩
  have htm : turns.tmod 6 = (t : Int) := by rw [Int.tmod_eq_emod_of_nonneg h0]; exact h6
  have htI : (t : Int) < 6 := by omega
  have CS := Lib.hid (shown_any w ht)
  have CN := Lib.hid (fun W => new_any l W (by omega))
  have CD := Lib.hid (fun W => dnew_any l W (by omega))
  have HP := Lib.hid (tn_phase l)
  have HSL := Lib.hid (tn_sec l)
  obtain ⟨S0, hS0⟩ : ∃ S, newS l = S := ⟨_, rfl⟩
  rw [hS0] at CN CD HP HSL
  obtain ⟨sec, hsec⟩ : ∃ s : ByteArray, ⟨l.toArray⟩ = s := ⟨_, rfl⟩
  have hz : sec.size = l.length := by rw [← hsec]; exact ba_size l
  have g1 : ¬ (sec.size : Int) > 60 := by omega
  rw [hsec] at CN CD
  rw [hsec]
  have hA0 : (tn S0 0).arr = S0.arr := rfl
  obtain ⟨x0, x1, x2, x3, x4, x5, x6, x7, x8, x9, xo, xp, hA⟩ : ∃ (x0 x1 x2 x3 x4 x5 x6 x7 x8 x9 : ByteArray) (xo xp : Bool), S0.arr = #[.string x0, .string x1, .string x2, .string x3, .string x4, .string x5, .string x6, .string x7, .string x8, .string x9, .bool xo, .bool xp] := ⟨_, _, _, _, _, _, _, _, _, _, S0.old, S0.phase, rfl⟩
  have HA := Lib.hid (hA0.trans hA)
  rw [hA] at CN CD
  clear hsec hS0 ht hA0 hA
  go_enter Tryz.func5, Tryz.ntmps5
  go_wp2_with fail
  with_reducible refine CS.out.mono ?_
  rintro e1 w1 ⟨rfl, hb⟩
  have HB1 := Lib.hid hb
  clear hb CS
  go_wp2_with fail
  with_reducible refine (CN.out _).mono ?_
  rintro e2 w2 ⟨rfl, hb⟩
  have HB2 := Lib.hid (HB1.out.trans (hb.mono HB1.out.size))
  clear hb CN
  go_wp2_with fail
  have HX2 := Lib.hid (heap_alloc_new w2 (.cells #[.string x0, .string x1, .string x2, .string x3, .string x4, .string x5, .string x6, .string x7, .string x8, .string x9, .bool xo, .bool xp] 43))
  have HB2' := Lib.hid (HB2.out.alloc HB2.out.size (.cells #[.string x0, .string x1, .string x2, .string x3, .string x4, .string x5, .string x6, .string x7, .string x8, .string x9, .bool xo, .bool xp] 43))
  with_reducible refine (CD.out _).mono ?_
  rintro e3 w3 ⟨rfl, hb⟩
  have HX3 := Lib.hid ((hb.block _ (Array.getElem?_eq_some_iff.1 HX2.out).1).trans HX2.out)
  have HB3 := Lib.hid (HB2'.out.trans (hb.mono HB2'.out.size))
  have hlt3 : w2.heap.size < w3.heap.size := (Array.getElem?_eq_some_iff.1 HX3.out).1
  have hws : w.heap.size ≤ w2.heap.size := HB2.out.size
  clear hb CD HX2 HB2'
  have HD3 : Hid (((w3.alloc (.cells #[.string x0, .string x1, .string x2, .string x3, .string x4, .string x5, .string x6, .string x7, .string x8, .string x9, .bool xo, .bool xp] 46)).heap[w2.heap.size]? = some (.cells (tn S0 0).arr 43 (0, 0)) ∧ (w3.alloc (.cells #[.string x0, .string x1, .string x2, .string x3, .string x4, .string x5, .string x6, .string x7, .string x8, .string x9, .bool xo, .bool xp] 46)).heap[w3.heap.size]? = some (.cells (tn S0 0).arr 46 (0, 0))) ∧ Below w.heap.size w (w3.alloc (.cells #[.string x0, .string x1, .string x2, .string x3, .string x4, .string x5, .string x6, .string x7, .string x8, .string x9, .bool xo, .bool xp] 46))) := Lib.hid ⟨⟨by rw [HA.out]; exact (Below.heap_alloc w3 _ _ hlt3).trans HX3.out, by rw [HA.out]; exact heap_alloc_new w3 _⟩, HB3.out.alloc HB3.out.size _⟩
  go_upto_region 5 with (fail)
  generalize w3.alloc (.cells #[.string x0, .string x1, .string x2, .string x3, .string x4, .string x5, .string x6, .string x7, .string x8, .string x9, .bool xo, .bool xp] 46) = W3 at *
  clear HX3 HB3 HA
  generalize hb5 : w2.heap.size = b5 at *
  generalize hb6 : w3.heap.size = b6 at *
  have h56 : b5 ≠ b6 := by omega
  have hwb5 : w.heap.size ≤ b5 := hws
  have hwb6 : w.heap.size ≤ b6 := by omega
  clear hb5 hb6 hlt3 hws HB1 HB2
  go_wp2_with fail
  go_loopw [7] (fun iv wr => ∃ i : Nat, i ≤ t ∧ iv = .int .i64 i ∧ (wr.heap[b5]? = some (.cells (tn S0 i).arr 43 (0, 0)) ∧ wr.heap[b6]? = some (.cells (tn S0 i).arr 46 (0, 0))) ∧ Below w.heap.size w wr) (fun iv _ => t - (intOf iv).toNat)
  case atStart => exact ⟨0, Nat.zero_le _, rfl, HD3.out.1, HD3.out.2⟩
  case round =>
    clear HD3
    obtain ⟨i, hi, rfl, hx, hB⟩ := hrel
    have CI := Lib.hid (fun W => its_any (tn S0 i) W)
    have CT := Lib.hid (fun W => turn_any (tn S0 i) W (by rw [HSL.out]; decide))
    have CU := Lib.hid (fun W => dturn_any (tn S0 i) W (by rw [HSL.out]; decide))
    have HPi := HP.out i
    obtain ⟨y0, y1, y2, y3, y4, y5, y6, y7, y8, y9, yo, yp, hAY⟩ : ∃ (y0 y1 y2 y3 y4 y5 y6 y7 y8 y9 : ByteArray) (yo yp : Bool), (tn S0 (i + 1)).arr = #[.string y0, .string y1, .string y2, .string y3, .string y4, .string y5, .string y6, .string y7, .string y8, .string y9, .bool yo, .bool yp] := ⟨_, _, _, _, _, _, _, _, _, _, (tn S0 (i + 1)).old, (tn S0 (i + 1)).phase, rfl⟩
    have hAY0 : (turnS (tn S0 i)).arr = (tn S0 (i + 1)).arr := rfl
    rw [hAY0, hAY] at CT CU
    obtain ⟨x0, x1, x2, x3, x4, x5, x6, x7, x8, x9, xo, hA⟩ : ∃ (x0 x1 x2 x3 x4 x5 x6 x7 x8 x9 : ByteArray) (xo : Bool), (tn S0 i).arr = #[.string x0, .string x1, .string x2, .string x3, .string x4, .string x5, .string x6, .string x7, .string x8, .string x9, .bool xo, .bool (decide (i % 2 = 1))] := ⟨_, _, _, _, _, _, _, _, _, _, (tn S0 i).old, by rw [← HPi]; rfl⟩
    rw [hA] at hx CI CT CU
    have HDr := Lib.hid (And.intro hx hB)
    have HAY := Lib.hid hAY
    clear hA hAY hAY0 hx hB HPi
    by_cases hlt : i < t
    · have hltI : (i : Int) < (t : Int) := by omega
      generalize decide (i % 2 = 1) = xp at *
      obtain ⟨p0, p1, p2, p3, p4, p5, p6, p7, p8, p9, p10, p11⟩ := cells12 HDr.out.1.1
      obtain ⟨g0, g1, g2, g3, g4, g5, g6, g7, g8, g9, g10, g11⟩ := cells12 HDr.out.1.2
      go_wp2_with fail
      have HD0 : Hid ((wr.drew.heap[b5]? = some (.cells #[.string x0, .string x1, .string x2, .string x3, .string x4, .string x5, .string x6, .string x7, .string x8, .string x9, .bool xo, .bool xp] 43 (0, 0)) ∧ wr.drew.heap[b6]? = some (.cells #[.string x0, .string x1, .string x2, .string x3, .string x4, .string x5, .string x6, .string x7, .string x8, .string x9, .bool xo, .bool xp] 46 (0, 0))) ∧ Below w.heap.size w wr.drew) := Lib.hid ⟨HDr.out.1, HDr.out.2.drew⟩
      clear HDr p0 g0 p1 g1 p2 g2 p3 g3 p4 g4 p5 g5 p6 g6 p7 g7 p8 g8 p9 g9 p10 g10 p11 g11
      refine wp_region_noPanic ?_
      refine wp_region_held_drew (S := fun W : World => (W.heap[b5]? = some (.cells #[.string x0, .string x1, .string x2, .string x3, .string x4, .string x5, .string x6, .string x7, .string x8, .string x9, .bool xo, .bool xp] 43 (0, 0)) ∧ W.heap[b6]? = some (.cells #[.string x0, .string x1, .string x2, .string x3, .string x4, .string x5, .string x6, .string x7, .string x8, .string x9, .bool xo, .bool xp] 46 (0, 0))) ∧ Below w.heap.size w W) (by kernel_rfl) ?_ (fun hHeld => ?_)
      · exact HD0.out
      refine wpAnyH_take (i := 0) (v := ?_) rfl (by kernel_rfl) (by kernel_rfl) (by kernel_rfl) (fun _ _ _ h => h) (Or.inl ⟨by rfl, ?_⟩) (by assumption) ?_
      rotate_left
      · (intro w hSw; obtain ⟨⟨hs5, hs6⟩, hsb⟩ := hSw; obtain ⟨q0, q1, q2, q3, q4, q5, q6, q7, q8, q9, q10, q11⟩ := cells12 hs5; obtain ⟨r0, r1, r2, r3, r4, r5, r6, r7, r8, r9, r10, r11⟩ := cells12 hs6; go_simp; (try with_reducible rfl))
      try simp only [Act.put, List.getElem_toArray, List.getElem_cons_zero, List.getElem_cons_succ, List.setIfInBounds_toArray, List.set_cons_zero, List.set_cons_succ]
      refine wpAnyH_take (i := 2) (v := ?_) rfl (by kernel_rfl) (by kernel_rfl) (by kernel_rfl) (fun _ _ _ h => h) (Or.inl ⟨by rfl, ?_⟩) (by assumption) ?_
      rotate_left
      · (intro w hSw; obtain ⟨⟨hs5, hs6⟩, hsb⟩ := hSw; obtain ⟨q0, q1, q2, q3, q4, q5, q6, q7, q8, q9, q10, q11⟩ := cells12 hs5; obtain ⟨r0, r1, r2, r3, r4, r5, r6, r7, r8, r9, r10, r11⟩ := cells12 hs6; go_simp; (try with_reducible rfl))
      try simp only [Act.put, List.getElem_toArray, List.getElem_cons_zero, List.getElem_cons_succ, List.setIfInBounds_toArray, List.set_cons_zero, List.set_cons_succ]
      refine wpAnyH_ready (rs := [1]) (by kernel_rfl) (by simp) ?_
      refine AllReadyH.cons rfl (fun K hK => ?_) AllReadyH.nil
      rw [if_pos (by rfl)]
      go_simp
      with_reducible refine (CI.out _).mono ?_
      rintro e1 v1 ⟨rfl, hb⟩
      have HS1 : Hid ((v1.heap[b5]? = some (.cells #[.string x0, .string x1, .string x2, .string x3, .string x4, .string x5, .string x6, .string x7, .string x8, .string x9, .bool xo, .bool xp] 43 (0, 0)) ∧ v1.heap[b6]? = some (.cells #[.string x0, .string x1, .string x2, .string x3, .string x4, .string x5, .string x6, .string x7, .string x8, .string x9, .bool xo, .bool xp] 46 (0, 0))) ∧ Below w.heap.size w v1) := Lib.hid ⟨⟨(hb.block b5 (Array.getElem?_eq_some_iff.1 HD0.out.1.1).1).trans HD0.out.1.1, (hb.block b6 (Array.getElem?_eq_some_iff.1 HD0.out.1.2).1).trans HD0.out.1.2⟩, HD0.out.2.trans (hb.mono HD0.out.2.size)⟩
      clear hb
      refine hK.out _ _ ?_ (fun hHeld => ?_)
      · exact HS1.out
      clear hK K
      try simp only [Act.put, List.getElem_toArray, List.getElem_cons_zero, List.getElem_cons_succ, List.setIfInBounds_toArray, List.set_cons_zero, List.set_cons_succ]
      refine wpAnyH_take (i := 3) (v := ?_) rfl (by kernel_rfl) (by kernel_rfl) (by kernel_rfl) (fun _ _ _ h => h) (Or.inl ⟨by rfl, ?_⟩) (by assumption) ?_
      rotate_left
      · (intro w hSw; obtain ⟨⟨hs5, hs6⟩, hsb⟩ := hSw; obtain ⟨q0, q1, q2, q3, q4, q5, q6, q7, q8, q9, q10, q11⟩ := cells12 hs5; obtain ⟨r0, r1, r2, r3, r4, r5, r6, r7, r8, r9, r10, r11⟩ := cells12 hs6; go_simp; (try with_reducible rfl))
      try simp only [Act.put, List.getElem_toArray, List.getElem_cons_zero, List.getElem_cons_succ, List.setIfInBounds_toArray, List.set_cons_zero, List.set_cons_succ]
      refine wpAnyH_done (by kernel_rfl) (NoPanic.normal ?_) _
      generalize v1 = W1 at *
      clear HD0 CI
      have HH := Lib.hid hHeld
      clear hHeld
      obtain ⟨p0, p1, p2, p3, p4, p5, p6, p7, p8, p9, p10, p11⟩ := cells12 HH.out.1.1
      obtain ⟨f0, f1, f2, f3, f4, f5, f6, f7, f8, f9, f10, f11⟩ := fz12 HH.out.1.1
      go_wp2_with fail
      with_reducible refine (CT.out _).mono ?_
      rintro e2 v2 ⟨rfl, hb⟩
      have HX2 : Hid (v2.heap[b5]? = some (.cells #[.string x0, .string x1, .string x2, .string x3, .string x4, .string x5, .string x6, .string x7, .string x8, .string x9, .bool xo, .bool xp] 43 (0, 0))) := Lib.hid ((hb.block b5 (Array.getElem?_eq_some_iff.1 HH.out.1.1).1).trans HH.out.1.1)
      have HR2 : Hid (v2.heap[b6]? = some (.cells #[.string x0, .string x1, .string x2, .string x3, .string x4, .string x5, .string x6, .string x7, .string x8, .string x9, .bool xo, .bool xp] 46 (0, 0))) := Lib.hid ((hb.block b6 (Array.getElem?_eq_some_iff.1 HH.out.1.2).1).trans HH.out.1.2)
      have HB2 := Lib.hid (HH.out.2.trans (hb.mono HH.out.2.size))
      clear hb p0 f0 p1 f1 p2 f2 p3 f3 p4 f4 p5 f5 p6 f6 p7 f7 p8 f8 p9 f9 p10 f10 p11 f11
      obtain ⟨p0, p1, p2, p3, p4, p5, p6, p7, p8, p9, p10, p11⟩ := cells12 HX2.out
      obtain ⟨f0, f1, f2, f3, f4, f5, f6, f7, f8, f9, f10, f11⟩ := fz12 HX2.out
      go_upto_region 11 with (fail)
      have HX3 := Lib.hid (put12 HX2.out (.string y0) (.string y1) (.string y2) (.string y3) (.string y4) (.string y5) (.string y6) (.string y7) (.string y8) (.string y9) (.bool yo) (.bool yp))
      have HR3 := Lib.hid (other12 HR2.out (Ne.symm h56) (.string y0) (.string y1) (.string y2) (.string y3) (.string y4) (.string y5) (.string y6) (.string y7) (.string y8) (.string y9) (.bool yo) (.bool yp))
      have HB3 := Lib.hid (below12 HB2.out hwb5 (.string y0) (.string y1) (.string y2) (.string y3) (.string y4) (.string y5) (.string y6) (.string y7) (.string y8) (.string y9) (.bool yo) (.bool yp))
      clear p0 f0 p1 f1 p2 f2 p3 f3 p4 f4 p5 f5 p6 f6 p7 f7 p8 f8 p9 f9 p10 f10 p11 f11
      generalize ((((((((((((v2.setCell ⟨b5, 0, none⟩ (.string y0)).setCell ⟨b5, 1, none⟩ (.string y1)).setCell ⟨b5, 2, none⟩ (.string y2)).setCell ⟨b5, 3, none⟩ (.string y3)).setCell ⟨b5, 4, none⟩ (.string y4)).setCell ⟨b5, 5, none⟩ (.string y5)).setCell ⟨b5, 6, none⟩ (.string y6)).setCell ⟨b5, 7, none⟩ (.string y7)).setCell ⟨b5, 8, none⟩ (.string y8)).setCell ⟨b5, 9, none⟩ (.string y9)).setCell ⟨b5, 10, none⟩ (.bool yo)).setCell ⟨b5, 11, none⟩ (.bool yp)) = W2 at *
      obtain ⟨p0, p1, p2, p3, p4, p5, p6, p7, p8, p9, p10, p11⟩ := cells12 HR3.out
      go_wp2_with fail
      with_reducible refine (CU.out _).mono ?_
      rintro e3 v3 ⟨rfl, hb⟩
      have HX4 : Hid (v3.heap[b5]? = some (.cells #[.string y0, .string y1, .string y2, .string y3, .string y4, .string y5, .string y6, .string y7, .string y8, .string y9, .bool yo, .bool yp] 43 (0, 0))) := Lib.hid ((hb.block b5 (Array.getElem?_eq_some_iff.1 HX3.out).1).trans HX3.out)
      have HR4 : Hid (v3.heap[b6]? = some (.cells #[.string x0, .string x1, .string x2, .string x3, .string x4, .string x5, .string x6, .string x7, .string x8, .string x9, .bool xo, .bool xp] 46 (0, 0))) := Lib.hid ((hb.block b6 (Array.getElem?_eq_some_iff.1 HR3.out).1).trans HR3.out)
      have HB4 := Lib.hid (HB3.out.trans (hb.mono HB3.out.size))
      clear hb p0 p1 p2 p3 p4 p5 p6 p7 p8 p9 p10 p11 HX2 HR2 HB2 HX3 HR3 HB3
      obtain ⟨p0, p1, p2, p3, p4, p5, p6, p7, p8, p9, p10, p11⟩ := cells12 HR4.out
      obtain ⟨f0, f1, f2, f3, f4, f5, f6, f7, f8, f9, f10, f11⟩ := fz12 HR4.out
      go_wp2_with fail
      go_roundw
      case rel =>
        have h5 := other12 HX4.out h56 (.string y0) (.string y1) (.string y2) (.string y3) (.string y4) (.string y5) (.string y6) (.string y7) (.string y8) (.string y9) (.bool yo) (.bool yp)
        have h6 := put12 HR4.out (.string y0) (.string y1) (.string y2) (.string y3) (.string y4) (.string y5) (.string y6) (.string y7) (.string y8) (.string y9) (.bool yo) (.bool yp)
        rw [← HAY.out] at h5 h6
        exact ⟨i + 1, by omega, by go_num, ⟨h5, h6⟩, below12 HB4.out hwb6 (.string y0) (.string y1) (.string y2) (.string y3) (.string y4) (.string y5) (.string y6) (.string y7) (.string y8) (.string y9) (.bool yo) (.bool yp)⟩
      case measure => simp only [intOf]; omega
    · obtain rfl : i = t := by omega
      have h6' := h6
      have hltI : ¬ (i : Int) < (i : Int) := by omega
      obtain ⟨p0, p1, p2, p3, p4, p5, p6, p7, p8, p9, p10, p11⟩ := cells12 HDr.out.1.1
      obtain ⟨g0, g1, g2, g3, g4, g5, g6, g7, g8, g9, g10, g11⟩ := cells12 HDr.out.1.2
      rcases Nat.mod_two_eq_zero_or_one i with hp | hp
      · rw [show decide (i % 2 = 1) = false by rw [hp]; rfl] at HDr p11 CI
        have m2 : (i : Int) % 2 = 0 := by omega
        have m3 : (i : Int).tmod 2 = 0 := by rw [Int.tmod_eq_emod_of_nonneg (by omega)]; exact m2
        have m4 : turns % 2 = 0 := by omega
        have m5 : turns.tmod 2 = 0 := by rw [Int.tmod_eq_emod_of_nonneg h0]; exact m4
        have m6 : IntKind.i64.wrap turns = turns := by rw [IntWalk.i64_in _ (by omega)]
        clear hp
        go_wp2_with fail
        have HD0 : Hid ((wr.drew.heap[b5]? = some (.cells #[.string x0, .string x1, .string x2, .string x3, .string x4, .string x5, .string x6, .string x7, .string x8, .string x9, .bool xo, .bool false] 43 (0, 0)) ∧ wr.drew.heap[b6]? = some (.cells #[.string x0, .string x1, .string x2, .string x3, .string x4, .string x5, .string x6, .string x7, .string x8, .string x9, .bool xo, .bool false] 46 (0, 0))) ∧ Below w.heap.size w wr.drew) := Lib.hid ⟨HDr.out.1, HDr.out.2.drew⟩
        clear HDr p0 g0 p1 g1 p2 g2 p3 g3 p4 g4 p5 g5 p6 g6 p7 g7 p8 g8 p9 g9 p10 g10 p11 g11
        refine wp_region_noPanic ?_
        refine wp_region_held_drew (S := fun W : World => (W.heap[b5]? = some (.cells #[.string x0, .string x1, .string x2, .string x3, .string x4, .string x5, .string x6, .string x7, .string x8, .string x9, .bool xo, .bool false] 43 (0, 0)) ∧ W.heap[b6]? = some (.cells #[.string x0, .string x1, .string x2, .string x3, .string x4, .string x5, .string x6, .string x7, .string x8, .string x9, .bool xo, .bool false] 46 (0, 0))) ∧ Below w.heap.size w W) (by kernel_rfl) ?_ (fun hHeld => ?_)
        · exact HD0.out
        refine wpAnyH_take (i := 0) (v := ?_) rfl (by kernel_rfl) (by kernel_rfl) (by kernel_rfl) (fun _ _ _ h => h) (Or.inl ⟨by rfl, ?_⟩) (by assumption) ?_
        rotate_left
        · (intro w hSw; obtain ⟨⟨hs5, hs6⟩, hsb⟩ := hSw; obtain ⟨q0, q1, q2, q3, q4, q5, q6, q7, q8, q9, q10, q11⟩ := cells12 hs5; obtain ⟨r0, r1, r2, r3, r4, r5, r6, r7, r8, r9, r10, r11⟩ := cells12 hs6; go_simp; (try with_reducible rfl))
        try simp only [Act.put, List.getElem_toArray, List.getElem_cons_zero, List.getElem_cons_succ, List.setIfInBounds_toArray, List.set_cons_zero, List.set_cons_succ]
        refine wpAnyH_take (i := 2) (v := ?_) rfl (by kernel_rfl) (by kernel_rfl) (by kernel_rfl) (fun _ _ _ h => h) (Or.inl ⟨by rfl, ?_⟩) (by assumption) ?_
        rotate_left
        · (intro w hSw; obtain ⟨⟨hs5, hs6⟩, hsb⟩ := hSw; obtain ⟨q0, q1, q2, q3, q4, q5, q6, q7, q8, q9, q10, q11⟩ := cells12 hs5; obtain ⟨r0, r1, r2, r3, r4, r5, r6, r7, r8, r9, r10, r11⟩ := cells12 hs6; go_simp; (try with_reducible rfl))
        try simp only [Act.put, List.getElem_toArray, List.getElem_cons_zero, List.getElem_cons_succ, List.setIfInBounds_toArray, List.set_cons_zero, List.set_cons_succ]
        refine wpAnyH_ready (rs := [1]) (by kernel_rfl) (by simp) ?_
        refine AllReadyH.cons rfl (fun K hK => ?_) AllReadyH.nil
        rw [if_pos (by rfl)]
        go_simp
        with_reducible refine (CI.out _).mono ?_
        rintro e1 v1 ⟨rfl, hb⟩
        have HS1 : Hid ((v1.heap[b5]? = some (.cells #[.string x0, .string x1, .string x2, .string x3, .string x4, .string x5, .string x6, .string x7, .string x8, .string x9, .bool xo, .bool false] 43 (0, 0)) ∧ v1.heap[b6]? = some (.cells #[.string x0, .string x1, .string x2, .string x3, .string x4, .string x5, .string x6, .string x7, .string x8, .string x9, .bool xo, .bool false] 46 (0, 0))) ∧ Below w.heap.size w v1) := Lib.hid ⟨⟨(hb.block b5 (Array.getElem?_eq_some_iff.1 HD0.out.1.1).1).trans HD0.out.1.1, (hb.block b6 (Array.getElem?_eq_some_iff.1 HD0.out.1.2).1).trans HD0.out.1.2⟩, HD0.out.2.trans (hb.mono HD0.out.2.size)⟩
        clear hb
        refine hK.out _ _ ?_ (fun hHeld => ?_)
        · exact HS1.out
        clear hK K
        try simp only [Act.put, List.getElem_toArray, List.getElem_cons_zero, List.getElem_cons_succ, List.setIfInBounds_toArray, List.set_cons_zero, List.set_cons_succ]
        refine wpAnyH_take (i := 3) (v := ?_) rfl (by kernel_rfl) (by kernel_rfl) (by kernel_rfl) (fun _ _ _ h => h) (Or.inl ⟨by rfl, ?_⟩) (by assumption) ?_
        rotate_left
        · (intro w hSw; obtain ⟨⟨hs5, hs6⟩, hsb⟩ := hSw; obtain ⟨q0, q1, q2, q3, q4, q5, q6, q7, q8, q9, q10, q11⟩ := cells12 hs5; obtain ⟨r0, r1, r2, r3, r4, r5, r6, r7, r8, r9, r10, r11⟩ := cells12 hs6; go_simp; (try with_reducible rfl))
        try simp only [Act.put, List.getElem_toArray, List.getElem_cons_zero, List.getElem_cons_succ, List.setIfInBounds_toArray, List.set_cons_zero, List.set_cons_succ]
        refine wpAnyH_take (i := 4) (v := ?_) rfl (by kernel_rfl) (by kernel_rfl) (by kernel_rfl) (fun _ _ _ h => h) (Or.inl ⟨by rfl, ?_⟩) (by assumption) ?_
        rotate_left
        · (intro w hSw; obtain ⟨⟨hs5, hs6⟩, hsb⟩ := hSw; obtain ⟨q0, q1, q2, q3, q4, q5, q6, q7, q8, q9, q10, q11⟩ := cells12 hs5; obtain ⟨r0, r1, r2, r3, r4, r5, r6, r7, r8, r9, r10, r11⟩ := cells12 hs6; go_simp; (try with_reducible rfl))
        try simp only [Act.put, List.getElem_toArray, List.getElem_cons_zero, List.getElem_cons_succ, List.setIfInBounds_toArray, List.set_cons_zero, List.set_cons_succ]
        refine wpAnyH_take (i := 5) (v := ?_) rfl (by kernel_rfl) (by kernel_rfl) (by kernel_rfl) (fun _ _ _ h => h) (Or.inl ⟨by rfl, ?_⟩) (by assumption) ?_
        rotate_left
        · (intro w hSw; obtain ⟨⟨hs5, hs6⟩, hsb⟩ := hSw; obtain ⟨q0, q1, q2, q3, q4, q5, q6, q7, q8, q9, q10, q11⟩ := cells12 hs5; obtain ⟨r0, r1, r2, r3, r4, r5, r6, r7, r8, r9, r10, r11⟩ := cells12 hs6; go_simp; (try with_reducible rfl))
        try simp only [Act.put, List.getElem_toArray, List.getElem_cons_zero, List.getElem_cons_succ, List.setIfInBounds_toArray, List.set_cons_zero, List.set_cons_succ]
        refine wpAnyH_take (i := 6) (v := ?_) rfl (by kernel_rfl) (by kernel_rfl) (by kernel_rfl) (fun _ _ _ h => h) (Or.inl ⟨by rfl, ?_⟩) (by assumption) ?_
        rotate_left
        · (intro w hSw; obtain ⟨⟨hs5, hs6⟩, hsb⟩ := hSw; obtain ⟨q0, q1, q2, q3, q4, q5, q6, q7, q8, q9, q10, q11⟩ := cells12 hs5; obtain ⟨r0, r1, r2, r3, r4, r5, r6, r7, r8, r9, r10, r11⟩ := cells12 hs6; go_simp; (try with_reducible rfl))
        try simp only [Act.put, List.getElem_toArray, List.getElem_cons_zero, List.getElem_cons_succ, List.setIfInBounds_toArray, List.set_cons_zero, List.set_cons_succ]
        refine wpAnyH_take (i := 7) (v := ?_) rfl (by kernel_rfl) (by kernel_rfl) (by kernel_rfl) (fun _ _ _ h => h) (Or.inl ⟨by rfl, ?_⟩) (by assumption) ?_
        rotate_left
        · (intro w hSw; obtain ⟨⟨hs5, hs6⟩, hsb⟩ := hSw; obtain ⟨q0, q1, q2, q3, q4, q5, q6, q7, q8, q9, q10, q11⟩ := cells12 hs5; obtain ⟨r0, r1, r2, r3, r4, r5, r6, r7, r8, r9, r10, r11⟩ := cells12 hs6; go_simp; (try with_reducible rfl))
        try simp only [Act.put, List.getElem_toArray, List.getElem_cons_zero, List.getElem_cons_succ, List.setIfInBounds_toArray, List.set_cons_zero, List.set_cons_succ]
        refine wpAnyH_take (i := 8) (v := ?_) rfl (by kernel_rfl) (by kernel_rfl) (by kernel_rfl) (fun _ _ _ h => h) (Or.inl ⟨by rfl, ?_⟩) (by assumption) ?_
        rotate_left
        · (intro w hSw; obtain ⟨⟨hs5, hs6⟩, hsb⟩ := hSw; obtain ⟨q0, q1, q2, q3, q4, q5, q6, q7, q8, q9, q10, q11⟩ := cells12 hs5; obtain ⟨r0, r1, r2, r3, r4, r5, r6, r7, r8, r9, r10, r11⟩ := cells12 hs6; go_simp; (try with_reducible rfl))
        try simp only [Act.put, List.getElem_toArray, List.getElem_cons_zero, List.getElem_cons_succ, List.setIfInBounds_toArray, List.set_cons_zero, List.set_cons_succ]
        refine wpAnyH_take (i := 9) (v := ?_) rfl (by kernel_rfl) (by kernel_rfl) (by kernel_rfl) (fun _ _ _ h => h) (Or.inl ⟨by rfl, ?_⟩) (by assumption) ?_
        rotate_left
        · (intro w hSw; obtain ⟨⟨hs5, hs6⟩, hsb⟩ := hSw; obtain ⟨q0, q1, q2, q3, q4, q5, q6, q7, q8, q9, q10, q11⟩ := cells12 hs5; obtain ⟨r0, r1, r2, r3, r4, r5, r6, r7, r8, r9, r10, r11⟩ := cells12 hs6; go_simp; (try with_reducible rfl))
        try simp only [Act.put, List.getElem_toArray, List.getElem_cons_zero, List.getElem_cons_succ, List.setIfInBounds_toArray, List.set_cons_zero, List.set_cons_succ]
        refine wpAnyH_take (i := 10) (v := ?_) rfl (by kernel_rfl) (by kernel_rfl) (by kernel_rfl) (fun _ _ _ h => h) (Or.inl ⟨by rfl, ?_⟩) (by assumption) ?_
        rotate_left
        · (intro w hSw; obtain ⟨⟨hs5, hs6⟩, hsb⟩ := hSw; obtain ⟨q0, q1, q2, q3, q4, q5, q6, q7, q8, q9, q10, q11⟩ := cells12 hs5; obtain ⟨r0, r1, r2, r3, r4, r5, r6, r7, r8, r9, r10, r11⟩ := cells12 hs6; go_simp; (try with_reducible rfl))
        try simp only [Act.put, List.getElem_toArray, List.getElem_cons_zero, List.getElem_cons_succ, List.setIfInBounds_toArray, List.set_cons_zero, List.set_cons_succ]
        refine wpAnyH_take (i := 11) (v := ?_) rfl (by kernel_rfl) (by kernel_rfl) (by kernel_rfl) (fun _ _ _ h => h) (Or.inl ⟨by rfl, ?_⟩) (by assumption) ?_
        rotate_left
        · (intro w hSw; obtain ⟨⟨hs5, hs6⟩, hsb⟩ := hSw; obtain ⟨q0, q1, q2, q3, q4, q5, q6, q7, q8, q9, q10, q11⟩ := cells12 hs5; obtain ⟨r0, r1, r2, r3, r4, r5, r6, r7, r8, r9, r10, r11⟩ := cells12 hs6; go_simp; (try with_reducible rfl))
        try simp only [Act.put, List.getElem_toArray, List.getElem_cons_zero, List.getElem_cons_succ, List.setIfInBounds_toArray, List.set_cons_zero, List.set_cons_succ]
        refine wpAnyH_take (i := 12) (v := ?_) rfl (by kernel_rfl) (by kernel_rfl) (by kernel_rfl) (fun _ _ _ h => h) (Or.inl ⟨by rfl, ?_⟩) (by assumption) ?_
        rotate_left
        · (intro w hSw; obtain ⟨⟨hs5, hs6⟩, hsb⟩ := hSw; obtain ⟨q0, q1, q2, q3, q4, q5, q6, q7, q8, q9, q10, q11⟩ := cells12 hs5; obtain ⟨r0, r1, r2, r3, r4, r5, r6, r7, r8, r9, r10, r11⟩ := cells12 hs6; go_simp; (try with_reducible rfl))
        try simp only [Act.put, List.getElem_toArray, List.getElem_cons_zero, List.getElem_cons_succ, List.setIfInBounds_toArray, List.set_cons_zero, List.set_cons_succ]
        refine wpAnyH_take (i := 13) (v := ?_) rfl (by kernel_rfl) (by kernel_rfl) (by kernel_rfl) (fun _ _ _ h => h) (Or.inl ⟨by rfl, ?_⟩) (by assumption) ?_
        rotate_left
        · (intro w hSw; obtain ⟨⟨hs5, hs6⟩, hsb⟩ := hSw; obtain ⟨q0, q1, q2, q3, q4, q5, q6, q7, q8, q9, q10, q11⟩ := cells12 hs5; obtain ⟨r0, r1, r2, r3, r4, r5, r6, r7, r8, r9, r10, r11⟩ := cells12 hs6; go_simp; (try with_reducible rfl))
        try simp only [Act.put, List.getElem_toArray, List.getElem_cons_zero, List.getElem_cons_succ, List.setIfInBounds_toArray, List.set_cons_zero, List.set_cons_succ]
        refine wpAnyH_take (i := 14) (v := ?_) rfl (by kernel_rfl) (by kernel_rfl) (by kernel_rfl) (fun _ _ _ h => h) (Or.inl ⟨by rfl, ?_⟩) (by assumption) ?_
        rotate_left
        · (intro w hSw; obtain ⟨⟨hs5, hs6⟩, hsb⟩ := hSw; obtain ⟨q0, q1, q2, q3, q4, q5, q6, q7, q8, q9, q10, q11⟩ := cells12 hs5; obtain ⟨r0, r1, r2, r3, r4, r5, r6, r7, r8, r9, r10, r11⟩ := cells12 hs6; go_simp; (try with_reducible rfl))
        try simp only [Act.put, List.getElem_toArray, List.getElem_cons_zero, List.getElem_cons_succ, List.setIfInBounds_toArray, List.set_cons_zero, List.set_cons_succ]
        refine wpAnyH_done (by kernel_rfl) (NoPanic.normal ?_) _
        go_wp2_with fail
        go_ret
        exact ⟨rfl, hHeld.2⟩
      · rw [show decide (i % 2 = 1) = true by rw [hp]; rfl] at HDr p11 CI
        have m2 : (i : Int) % 2 = 1 := by omega
        have m3 : (i : Int).tmod 2 = 1 := by rw [Int.tmod_eq_emod_of_nonneg (by omega)]; exact m2
        have m4 : turns % 2 = 1 := by omega
        have m5 : turns.tmod 2 = 1 := by rw [Int.tmod_eq_emod_of_nonneg h0]; exact m4
        have m6 : IntKind.i64.wrap turns = turns := by rw [IntWalk.i64_in _ (by omega)]
        clear hp
        go_wp2_with fail
        have HD0 : Hid ((wr.drew.heap[b5]? = some (.cells #[.string x0, .string x1, .string x2, .string x3, .string x4, .string x5, .string x6, .string x7, .string x8, .string x9, .bool xo, .bool true] 43 (0, 0)) ∧ wr.drew.heap[b6]? = some (.cells #[.string x0, .string x1, .string x2, .string x3, .string x4, .string x5, .string x6, .string x7, .string x8, .string x9, .bool xo, .bool true] 46 (0, 0))) ∧ Below w.heap.size w wr.drew) := Lib.hid ⟨HDr.out.1, HDr.out.2.drew⟩
        clear HDr p0 g0 p1 g1 p2 g2 p3 g3 p4 g4 p5 g5 p6 g6 p7 g7 p8 g8 p9 g9 p10 g10 p11 g11
        refine wp_region_noPanic ?_
        refine wp_region_held_drew (S := fun W : World => (W.heap[b5]? = some (.cells #[.string x0, .string x1, .string x2, .string x3, .string x4, .string x5, .string x6, .string x7, .string x8, .string x9, .bool xo, .bool true] 43 (0, 0)) ∧ W.heap[b6]? = some (.cells #[.string x0, .string x1, .string x2, .string x3, .string x4, .string x5, .string x6, .string x7, .string x8, .string x9, .bool xo, .bool true] 46 (0, 0))) ∧ Below w.heap.size w W) (by kernel_rfl) ?_ (fun hHeld => ?_)
        · exact HD0.out
        refine wpAnyH_take (i := 0) (v := ?_) rfl (by kernel_rfl) (by kernel_rfl) (by kernel_rfl) (fun _ _ _ h => h) (Or.inl ⟨by rfl, ?_⟩) (by assumption) ?_
        rotate_left
        · (intro w hSw; obtain ⟨⟨hs5, hs6⟩, hsb⟩ := hSw; obtain ⟨q0, q1, q2, q3, q4, q5, q6, q7, q8, q9, q10, q11⟩ := cells12 hs5; obtain ⟨r0, r1, r2, r3, r4, r5, r6, r7, r8, r9, r10, r11⟩ := cells12 hs6; go_simp; (try with_reducible rfl))
        try simp only [Act.put, List.getElem_toArray, List.getElem_cons_zero, List.getElem_cons_succ, List.setIfInBounds_toArray, List.set_cons_zero, List.set_cons_succ]
        refine wpAnyH_take (i := 2) (v := ?_) rfl (by kernel_rfl) (by kernel_rfl) (by kernel_rfl) (fun _ _ _ h => h) (Or.inl ⟨by rfl, ?_⟩) (by assumption) ?_
        rotate_left
        · (intro w hSw; obtain ⟨⟨hs5, hs6⟩, hsb⟩ := hSw; obtain ⟨q0, q1, q2, q3, q4, q5, q6, q7, q8, q9, q10, q11⟩ := cells12 hs5; obtain ⟨r0, r1, r2, r3, r4, r5, r6, r7, r8, r9, r10, r11⟩ := cells12 hs6; go_simp; (try with_reducible rfl))
        try simp only [Act.put, List.getElem_toArray, List.getElem_cons_zero, List.getElem_cons_succ, List.setIfInBounds_toArray, List.set_cons_zero, List.set_cons_succ]
        refine wpAnyH_ready (rs := [1]) (by kernel_rfl) (by simp) ?_
        refine AllReadyH.cons rfl (fun K hK => ?_) AllReadyH.nil
        rw [if_pos (by rfl)]
        go_simp
        with_reducible refine (CI.out _).mono ?_
        rintro e1 v1 ⟨rfl, hb⟩
        have HS1 : Hid ((v1.heap[b5]? = some (.cells #[.string x0, .string x1, .string x2, .string x3, .string x4, .string x5, .string x6, .string x7, .string x8, .string x9, .bool xo, .bool true] 43 (0, 0)) ∧ v1.heap[b6]? = some (.cells #[.string x0, .string x1, .string x2, .string x3, .string x4, .string x5, .string x6, .string x7, .string x8, .string x9, .bool xo, .bool true] 46 (0, 0))) ∧ Below w.heap.size w v1) := Lib.hid ⟨⟨(hb.block b5 (Array.getElem?_eq_some_iff.1 HD0.out.1.1).1).trans HD0.out.1.1, (hb.block b6 (Array.getElem?_eq_some_iff.1 HD0.out.1.2).1).trans HD0.out.1.2⟩, HD0.out.2.trans (hb.mono HD0.out.2.size)⟩
        clear hb
        refine hK.out _ _ ?_ (fun hHeld => ?_)
        · exact HS1.out
        clear hK K
        try simp only [Act.put, List.getElem_toArray, List.getElem_cons_zero, List.getElem_cons_succ, List.setIfInBounds_toArray, List.set_cons_zero, List.set_cons_succ]
        refine wpAnyH_take (i := 3) (v := ?_) rfl (by kernel_rfl) (by kernel_rfl) (by kernel_rfl) (fun _ _ _ h => h) (Or.inl ⟨by rfl, ?_⟩) (by assumption) ?_
        rotate_left
        · (intro w hSw; obtain ⟨⟨hs5, hs6⟩, hsb⟩ := hSw; obtain ⟨q0, q1, q2, q3, q4, q5, q6, q7, q8, q9, q10, q11⟩ := cells12 hs5; obtain ⟨r0, r1, r2, r3, r4, r5, r6, r7, r8, r9, r10, r11⟩ := cells12 hs6; go_simp; (try with_reducible rfl))
        try simp only [Act.put, List.getElem_toArray, List.getElem_cons_zero, List.getElem_cons_succ, List.setIfInBounds_toArray, List.set_cons_zero, List.set_cons_succ]
        refine wpAnyH_take (i := 4) (v := ?_) rfl (by kernel_rfl) (by kernel_rfl) (by kernel_rfl) (fun _ _ _ h => h) (Or.inl ⟨by rfl, ?_⟩) (by assumption) ?_
        rotate_left
        · (intro w hSw; obtain ⟨⟨hs5, hs6⟩, hsb⟩ := hSw; obtain ⟨q0, q1, q2, q3, q4, q5, q6, q7, q8, q9, q10, q11⟩ := cells12 hs5; obtain ⟨r0, r1, r2, r3, r4, r5, r6, r7, r8, r9, r10, r11⟩ := cells12 hs6; go_simp; (try with_reducible rfl))
        try simp only [Act.put, List.getElem_toArray, List.getElem_cons_zero, List.getElem_cons_succ, List.setIfInBounds_toArray, List.set_cons_zero, List.set_cons_succ]
        refine wpAnyH_take (i := 5) (v := ?_) rfl (by kernel_rfl) (by kernel_rfl) (by kernel_rfl) (fun _ _ _ h => h) (Or.inl ⟨by rfl, ?_⟩) (by assumption) ?_
        rotate_left
        · (intro w hSw; obtain ⟨⟨hs5, hs6⟩, hsb⟩ := hSw; obtain ⟨q0, q1, q2, q3, q4, q5, q6, q7, q8, q9, q10, q11⟩ := cells12 hs5; obtain ⟨r0, r1, r2, r3, r4, r5, r6, r7, r8, r9, r10, r11⟩ := cells12 hs6; go_simp; (try with_reducible rfl))
        try simp only [Act.put, List.getElem_toArray, List.getElem_cons_zero, List.getElem_cons_succ, List.setIfInBounds_toArray, List.set_cons_zero, List.set_cons_succ]
        refine wpAnyH_take (i := 6) (v := ?_) rfl (by kernel_rfl) (by kernel_rfl) (by kernel_rfl) (fun _ _ _ h => h) (Or.inl ⟨by rfl, ?_⟩) (by assumption) ?_
        rotate_left
        · (intro w hSw; obtain ⟨⟨hs5, hs6⟩, hsb⟩ := hSw; obtain ⟨q0, q1, q2, q3, q4, q5, q6, q7, q8, q9, q10, q11⟩ := cells12 hs5; obtain ⟨r0, r1, r2, r3, r4, r5, r6, r7, r8, r9, r10, r11⟩ := cells12 hs6; go_simp; (try with_reducible rfl))
        try simp only [Act.put, List.getElem_toArray, List.getElem_cons_zero, List.getElem_cons_succ, List.setIfInBounds_toArray, List.set_cons_zero, List.set_cons_succ]
        refine wpAnyH_take (i := 7) (v := ?_) rfl (by kernel_rfl) (by kernel_rfl) (by kernel_rfl) (fun _ _ _ h => h) (Or.inl ⟨by rfl, ?_⟩) (by assumption) ?_
        rotate_left
        · (intro w hSw; obtain ⟨⟨hs5, hs6⟩, hsb⟩ := hSw; obtain ⟨q0, q1, q2, q3, q4, q5, q6, q7, q8, q9, q10, q11⟩ := cells12 hs5; obtain ⟨r0, r1, r2, r3, r4, r5, r6, r7, r8, r9, r10, r11⟩ := cells12 hs6; go_simp; (try with_reducible rfl))
        try simp only [Act.put, List.getElem_toArray, List.getElem_cons_zero, List.getElem_cons_succ, List.setIfInBounds_toArray, List.set_cons_zero, List.set_cons_succ]
        refine wpAnyH_take (i := 8) (v := ?_) rfl (by kernel_rfl) (by kernel_rfl) (by kernel_rfl) (fun _ _ _ h => h) (Or.inl ⟨by rfl, ?_⟩) (by assumption) ?_
        rotate_left
        · (intro w hSw; obtain ⟨⟨hs5, hs6⟩, hsb⟩ := hSw; obtain ⟨q0, q1, q2, q3, q4, q5, q6, q7, q8, q9, q10, q11⟩ := cells12 hs5; obtain ⟨r0, r1, r2, r3, r4, r5, r6, r7, r8, r9, r10, r11⟩ := cells12 hs6; go_simp; (try with_reducible rfl))
        try simp only [Act.put, List.getElem_toArray, List.getElem_cons_zero, List.getElem_cons_succ, List.setIfInBounds_toArray, List.set_cons_zero, List.set_cons_succ]
        refine wpAnyH_take (i := 9) (v := ?_) rfl (by kernel_rfl) (by kernel_rfl) (by kernel_rfl) (fun _ _ _ h => h) (Or.inl ⟨by rfl, ?_⟩) (by assumption) ?_
        rotate_left
        · (intro w hSw; obtain ⟨⟨hs5, hs6⟩, hsb⟩ := hSw; obtain ⟨q0, q1, q2, q3, q4, q5, q6, q7, q8, q9, q10, q11⟩ := cells12 hs5; obtain ⟨r0, r1, r2, r3, r4, r5, r6, r7, r8, r9, r10, r11⟩ := cells12 hs6; go_simp; (try with_reducible rfl))
        try simp only [Act.put, List.getElem_toArray, List.getElem_cons_zero, List.getElem_cons_succ, List.setIfInBounds_toArray, List.set_cons_zero, List.set_cons_succ]
        refine wpAnyH_take (i := 10) (v := ?_) rfl (by kernel_rfl) (by kernel_rfl) (by kernel_rfl) (fun _ _ _ h => h) (Or.inl ⟨by rfl, ?_⟩) (by assumption) ?_
        rotate_left
        · (intro w hSw; obtain ⟨⟨hs5, hs6⟩, hsb⟩ := hSw; obtain ⟨q0, q1, q2, q3, q4, q5, q6, q7, q8, q9, q10, q11⟩ := cells12 hs5; obtain ⟨r0, r1, r2, r3, r4, r5, r6, r7, r8, r9, r10, r11⟩ := cells12 hs6; go_simp; (try with_reducible rfl))
        try simp only [Act.put, List.getElem_toArray, List.getElem_cons_zero, List.getElem_cons_succ, List.setIfInBounds_toArray, List.set_cons_zero, List.set_cons_succ]
        refine wpAnyH_take (i := 11) (v := ?_) rfl (by kernel_rfl) (by kernel_rfl) (by kernel_rfl) (fun _ _ _ h => h) (Or.inl ⟨by rfl, ?_⟩) (by assumption) ?_
        rotate_left
        · (intro w hSw; obtain ⟨⟨hs5, hs6⟩, hsb⟩ := hSw; obtain ⟨q0, q1, q2, q3, q4, q5, q6, q7, q8, q9, q10, q11⟩ := cells12 hs5; obtain ⟨r0, r1, r2, r3, r4, r5, r6, r7, r8, r9, r10, r11⟩ := cells12 hs6; go_simp; (try with_reducible rfl))
        try simp only [Act.put, List.getElem_toArray, List.getElem_cons_zero, List.getElem_cons_succ, List.setIfInBounds_toArray, List.set_cons_zero, List.set_cons_succ]
        refine wpAnyH_take (i := 12) (v := ?_) rfl (by kernel_rfl) (by kernel_rfl) (by kernel_rfl) (fun _ _ _ h => h) (Or.inl ⟨by rfl, ?_⟩) (by assumption) ?_
        rotate_left
        · (intro w hSw; obtain ⟨⟨hs5, hs6⟩, hsb⟩ := hSw; obtain ⟨q0, q1, q2, q3, q4, q5, q6, q7, q8, q9, q10, q11⟩ := cells12 hs5; obtain ⟨r0, r1, r2, r3, r4, r5, r6, r7, r8, r9, r10, r11⟩ := cells12 hs6; go_simp; (try with_reducible rfl))
        try simp only [Act.put, List.getElem_toArray, List.getElem_cons_zero, List.getElem_cons_succ, List.setIfInBounds_toArray, List.set_cons_zero, List.set_cons_succ]
        refine wpAnyH_take (i := 13) (v := ?_) rfl (by kernel_rfl) (by kernel_rfl) (by kernel_rfl) (fun _ _ _ h => h) (Or.inl ⟨by rfl, ?_⟩) (by assumption) ?_
        rotate_left
        · (intro w hSw; obtain ⟨⟨hs5, hs6⟩, hsb⟩ := hSw; obtain ⟨q0, q1, q2, q3, q4, q5, q6, q7, q8, q9, q10, q11⟩ := cells12 hs5; obtain ⟨r0, r1, r2, r3, r4, r5, r6, r7, r8, r9, r10, r11⟩ := cells12 hs6; go_simp; (try with_reducible rfl))
        try simp only [Act.put, List.getElem_toArray, List.getElem_cons_zero, List.getElem_cons_succ, List.setIfInBounds_toArray, List.set_cons_zero, List.set_cons_succ]
        refine wpAnyH_take (i := 14) (v := ?_) rfl (by kernel_rfl) (by kernel_rfl) (by kernel_rfl) (fun _ _ _ h => h) (Or.inl ⟨by rfl, ?_⟩) (by assumption) ?_
        rotate_left
        · (intro w hSw; obtain ⟨⟨hs5, hs6⟩, hsb⟩ := hSw; obtain ⟨q0, q1, q2, q3, q4, q5, q6, q7, q8, q9, q10, q11⟩ := cells12 hs5; obtain ⟨r0, r1, r2, r3, r4, r5, r6, r7, r8, r9, r10, r11⟩ := cells12 hs6; go_simp; (try with_reducible rfl))
        try simp only [Act.put, List.getElem_toArray, List.getElem_cons_zero, List.getElem_cons_succ, List.setIfInBounds_toArray, List.set_cons_zero, List.set_cons_succ]
        refine wpAnyH_done (by kernel_rfl) (NoPanic.normal ?_) _
        go_wp2_with fail
        go_ret
        exact ⟨rfl, hHeld.2⟩
theorem law_turns (sec : ByteArray) (turns : Int) (w : World) (ht : Tab w) (w0 : sec.size ≤ maxLen) (w1 : (Lit.int .u8 turns).wf = true) :
    Calls Tryz.prog 5 #[.string sec, .int .u8 turns] w fun e w' => e = .returned (.bool true) ∧ Below w.heap.size w w' := by
  simp only [Lit.wf, Bool.and_eq_true, decide_eq_true_eq] at w1
  by_cases h : 60 < sec.size
  · exact turns_k sec turns w ht (by omega)
  · exact turns_ok sec.data.toList turns w ht w1.1 w1.2 (by simp; omega)
end Go.Proofs.YtagbkmoahflfdaaGreatDoor.Se
