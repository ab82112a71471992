/- The laws of layer 11: RttPto, RttBetween. By tools/gen-rtt-4.py. -/
import Derived.Test.YtgmaaeaaanjjaaaRtD
namespace Go.Proofs.Ytgmaaeaaanjjaaa.Rt
open Go.RowKit Go.ChangeShapes Go.WideShapes Go.Deep
set_option linter.unusedVariables false
set_option linter.unusedSimpArgs false

set_option maxHeartbeats 4000000 in
theorem pto_long (a : Option Addr) (n c : Nat) (m p : Int) (w : World) (hn : 100 < (n : Int)) (hm : n ≤ maxLen) :
    Calls Try.prog 6 #[.slice a n c, .int .u16 m, .int .u8 p] w fun e w' => e = .returned (.bool true) ∧ Below w.heap.size w w' := by
  have CS := Lib.hid shown_any
  go_enter Try.func6, Try.ntmps6
  go_wp2_with fail
  with_reducible refine (CS.out _).mono ?_
  rintro e w1 ⟨rfl, hb⟩
  have HB1 := Lib.hid hb
  clear hb
  go_wp2_with fail
  go_ret
  exact ⟨rfl, HB1.out⟩
theorem pto_steps (s : St) (m : Int) (n : Nat) (h : s.Ok) (hm : 0 ≤ m) (hm1 : m ≤ 65536) : (n < 10 → ptoN s m ((n : Int) + 1) = 2 * ptoN s m n) ∧ (10 ≤ n → ptoN s m ((n : Int) + 1) = ptoN s m n) := by
  constructor
  · intro hn
    unfold ptoN
    have e1 : (min (max ((n : Int) + 1) 0) 10).toNat = n + 1 := by omega
    have e2 : (min (max (n : Int) 0) 10).toNat = n := by omega
    rw [e1, e2, Int.pow_succ, ← Int.mul_assoc, Int.mul_comm]
  · intro hn
    unfold ptoN
    have e1 : (min (max ((n : Int) + 1) 0) 10).toNat = 10 := by omega
    have e2 : (min (max (n : Int) 0) 10).toNat = 10 := by omega
    rw [e1, e2]
theorem pto_zero (s : St) (m : Int) : ptoN s m 0 = s.sm + max (4 * s.va) 1 + tk m := by
  unfold ptoN
  have e : (min (max (0 : Int) 0) 10).toNat = 0 := by decide
  rw [e, Int.pow_zero, Int.mul_one]
theorem pto_range (s : St) (m p : Int) (h : s.Ok) : 0 ≤ ptoN s m p ∧ ptoN s m p ≤ 9223372036854775807 := by
  obtain ⟨x0, x1, x2, x3, x4, x5, x6, x7⟩ := h
  have h0 := tk_lo m
  have h1 := tk_hi m
  exact pto_mono (s.sm + max (4 * s.va) 1 + tk m) (min (max p 0) 10).toNat (by omega) (by omega) (by omega)
set_option maxHeartbeats 8000000 in
theorem pto_round (a : Option Addr) (n c : Nat) (l : List (Int × Int)) (m p : Int) (w : World) (ha : n = l.length) (hl : l.length ≤ 100) (hr : Sm w (.slice a n c) l) (hm0 : 0 ≤ m) (hm1 : m ≤ 65535) (hp0 : 0 ≤ p) (hp1 : p ≤ 255) :
    Calls Try.prog 6 #[.slice a n c, .int .u16 m, .int .u8 p] w fun e w' => e = .returned (.bool true) ∧ Below w.heap.size w w' := by
  have CS := Lib.hid shown_any
  have CN : Hid (∀ W : World, Calls Try.prog 9 #[] W fun e w' => e = .returned (.agg #[.bool false, .int .i64 0, .int .i64 10, .int .i64 5, .int .i64 0]) ∧ Below W.heap.size W w') := Lib.hid new_any
  have HR := Lib.hid hr
  have hn100 : (n : Int) ≤ 100 := by omega
  have HL := Lib.hid ha
  obtain ⟨P, hP⟩ : ∃ k : Nat, p % 20 = (k : Int) := ⟨(p % 20).toNat, by omega⟩
  have hP20 : P < 20 := by omega
  have u2 : p.tmod 20 = (P : Int) := by rw [Int.tmod_eq_emod_of_nonneg hp0, hP]
  have u3 : IntKind.i64.wrap (P : Int) = (P : Int) := IntWalk.i64_in _ (by omega)
  have u4 : IntKind.i64.wrap ((P : Int) + 1) = (P : Int) + 1 := IntWalk.i64_in _ (by omega)
  have u5 : IntKind.i64.wrap m = m := IntWalk.i64_in _ (by omega)
  have u6 : IntKind.i64.wrap (m + 1) = m + 1 := IntWalk.i64_in _ (by omega)
  clear hr ha hP
  go_enter Try.func6, Try.ntmps6
  go_wp2_with fail
  with_reducible refine (CS.out _).mono ?_
  rintro e w1 ⟨rfl, hb⟩
  have HB1 := Lib.hid hb
  clear hb
  go_wp2_with fail
  with_reducible refine (CN.out _).mono ?_
  rintro e w2 ⟨rfl, hb⟩
  have HB2 := Lib.hid (HB1.out.trans (hb.mono HB1.out.size))
  clear hb
  go_wp2_with fail
  have hs2 := HB2.out.size
  have HW0 := Lib.hid (And.intro (Bx.made w2 25 false 0 10 5 0) (HB2.out.alloc HB2.out.size (.cells #[.bool false, .int .i64 0, .int .i64 10, .int .i64 5, .int .i64 0] 25)))
  clear HB2 HB1
  generalize w2.alloc (.cells #[.bool false, .int .i64 0, .int .i64 10, .int .i64 5, .int .i64 0] 25) = W0 at HW0 ⊢
  generalize w2.heap.size = b7 at *
  go_loopw [8] (fun iv wr => ∃ j : Nat, j ≤ n ∧ iv = .int .i64 j ∧ BxS wr b7 25 (run l 5 j) ∧ Below w.heap.size w wr) (fun iv _ => n - (intOf iv).toNat)
  case atStart => exact ⟨0, Nat.zero_le _, rfl, HW0.out.1, HW0.out.2⟩
  case round =>
    obtain ⟨j, hj, rfl, hbx, hbb⟩ := hrel
    have hok := run_ok l 5 j
    have HN : Hid (∀ x y, (l.getD j (0, 0)).1 = x → (l.getD j (0, 0)).2 = y → samp (run l 5 j) x y 5 = run l 5 (j + 1)) := Lib.hid (fun x y hx hy => by rw [← hx, ← hy]; rfl)
    generalize run l 5 j = S at hbx hok HN
    obtain ⟨sa, sla, ssm, sva, smn⟩ := S
    have HOK := Lib.hid hok
    have HS : Hid (Bx wr b7 25 sa sla ssm sva smn ∧ Below w.heap.size w wr) := Lib.hid ⟨hbx, hbb⟩
    obtain ⟨q0, q1, q2, q3, q4⟩ := HS.out.1.cells
    clear hbx hbb hok HW0
    by_cases hlt : j < n
    · have hltI : (j : Int) < (n : Int) := by omega
      obtain ⟨ab, ao, ea, en, ec, hab, hcell⟩ := HR.out.at (j := j) (by have := HL.out; omega)
      subst ea
      have hnc : (n : Int) ≤ (c : Int) := by omega
      clear en ec
      generalize (l.getD j (0, 0)).1 = L0 at hcell HN
      generalize (l.getD j (0, 0)).2 = D0 at hcell HN
      have HC := Lib.hid hcell
      have HSN := Lib.hid (HN.out L0 D0 rfl rfl)
      have CA := Lib.hid (fun W => sample_any ⟨sa, sla, ssm, sva, smn⟩ L0 D0 5 W HOK.out)
      generalize samp ⟨sa, sla, ssm, sva, smn⟩ L0 D0 5 = S2 at CA HSN
      obtain ⟨ta, tla, tsm, tva, tmn⟩ := S2
      have CA : Hid (∀ W : World, Calls Try.prog 15 #[.agg #[.bool sa, .int .i64 sla, .int .i64 ssm, .int .i64 sva, .int .i64 smn], .int .i64 L0, .int .i64 D0, .int .i64 5] W fun e w' => e = .returned (.agg #[.bool ta, .int .i64 tla, .int .i64 tsm, .int .i64 tva, .int .i64 tmn]) ∧ Below W.heap.size W w') := CA
      have HS4' : Hid (Bx wr.drew b7 25 sa sla ssm sva smn ∧ Below w.heap.size w wr.drew) := Lib.hid ⟨HS.out.1, HS.out.2.drew⟩
      obtain ⟨k0, k1⟩ := HC.out wr HS.out.2
      clear hcell HN
      go_wp2_with fail
      go_region_with (go_at_call 15; (with_reducible refine (CA.out _).mono ?_); rintro e5 x5 ⟨rfl, hb⟩; have HS5 : Hid (Bx x5 b7 25 sa sla ssm sva smn ∧ Below w.heap.size w x5) := Lib.hid ⟨HS4'.out.1.keep hb HS4'.out.1.lt, HS4'.out.2.trans (hb.mono HS4'.out.2.size)⟩; obtain ⟨r0, r1, r2, r3, r4⟩ := HS5.out.1.cells; obtain ⟨f0, f1, f2, f3, f4⟩ := HS5.out.1.fz; clear hb)
      all_goals (
        go_wp2_with fail
        go_roundw
        case rel => exact ⟨j + 1, by omega, by push_cast; rfl, by rw [← HSN.out]; exact HS5.out.1.put _ _ _ _ _, below_put HS5.out.2 (by omega) _ _ _ _ _⟩
        case measure => simp only [intOf]; omega)
    have hltI : ¬ (j : Int) < (n : Int) := by omega
    have CA := Lib.hid (fun W => pto_any ⟨sa, sla, ssm, sva, smn⟩ m P W HOK.out)
    have CB := Lib.hid (fun W => pto_any ⟨sa, sla, ssm, sva, smn⟩ m ((P : Int) + 1) W HOK.out)
    have C1 := Lib.hid (fun W => pto_any ⟨sa, sla, ssm, sva, smn⟩ (m + 1) 0 W HOK.out)
    have C0 := Lib.hid (fun W => pto_any ⟨sa, sla, ssm, sva, smn⟩ m 0 W HOK.out)
    have CZ := Lib.hid (fun W => pto_any ⟨sa, sla, ssm, sva, smn⟩ 0 0 W HOK.out)
    have hA0 := pto_range ⟨sa, sla, ssm, sva, smn⟩ m P HOK.out
    have hB0 := pto_range ⟨sa, sla, ssm, sva, smn⟩ m ((P : Int) + 1) HOK.out
    have h1 := pto_zero ⟨sa, sla, ssm, sva, smn⟩ (m + 1)
    have h0 := pto_zero ⟨sa, sla, ssm, sva, smn⟩ m
    have hz := pto_zero ⟨sa, sla, ssm, sva, smn⟩ 0
    rw [tk_of (by omega) (by omega)] at h1 h0
    rw [show tk 0 = 0 from by decide] at hz
    have h10 : ptoN ⟨sa, sla, ssm, sva, smn⟩ (m + 1) 0 = ptoN ⟨sa, sla, ssm, sva, smn⟩ m 0 + 1 := by rw [h1, h0]; omega
    have hgt : ptoN ⟨sa, sla, ssm, sva, smn⟩ 0 0 > ssm := by rw [hz]; simp only; omega
    have hC0 := pto_range ⟨sa, sla, ssm, sva, smn⟩ (m + 1) 0 HOK.out
    rw [h10] at C1 hC0
    obtain ⟨Av, hAv⟩ : ∃ x, ptoN ⟨sa, sla, ssm, sva, smn⟩ m P = x := ⟨_, rfl⟩
    obtain ⟨Bv, hBv⟩ : ∃ x, ptoN ⟨sa, sla, ssm, sva, smn⟩ m ((P : Int) + 1) = x := ⟨_, rfl⟩
    clear h1 h0 hz h10
    rw [hAv] at CA hA0
    rw [hBv] at CB hB0
    generalize ptoN ⟨sa, sla, ssm, sva, smn⟩ m 0 = C0v at C1 C0 hC0
    generalize ptoN ⟨sa, sla, ssm, sva, smn⟩ 0 0 = CZv at CZ hgt
    have w1 : IntKind.i64.wrap (C0v + 1) = C0v + 1 := IntWalk.i64_in _ (by omega)
    have CA : Hid (∀ W : World, Calls Try.prog 11 #[.agg #[.bool sa, .int .i64 sla, .int .i64 ssm, .int .i64 sva, .int .i64 smn], .int .i64 m, .int .i64 (P : Int)] W fun e w' => e = .returned (.int .i64 Av) ∧ Below W.heap.size W w') := CA
    have CB : Hid (∀ W : World, Calls Try.prog 11 #[.agg #[.bool sa, .int .i64 sla, .int .i64 ssm, .int .i64 sva, .int .i64 smn], .int .i64 m, .int .i64 ((P : Int) + 1)] W fun e w' => e = .returned (.int .i64 Bv) ∧ Below W.heap.size W w') := CB
    have C1 : Hid (∀ W : World, Calls Try.prog 11 #[.agg #[.bool sa, .int .i64 sla, .int .i64 ssm, .int .i64 sva, .int .i64 smn], .int .i64 (m + 1), .int .i64 0] W fun e w' => e = .returned (.int .i64 (C0v + 1)) ∧ Below W.heap.size W w') := C1
    have C0 : Hid (∀ W : World, Calls Try.prog 11 #[.agg #[.bool sa, .int .i64 sla, .int .i64 ssm, .int .i64 sva, .int .i64 smn], .int .i64 m, .int .i64 0] W fun e w' => e = .returned (.int .i64 C0v) ∧ Below W.heap.size W w') := C0
    have CZ : Hid (∀ W : World, Calls Try.prog 11 #[.agg #[.bool sa, .int .i64 sla, .int .i64 ssm, .int .i64 sva, .int .i64 smn], .int .i64 0, .int .i64 0] W fun e w' => e = .returned (.int .i64 CZv) ∧ Below W.heap.size W w') := CZ
    by_cases hp10 : P < 10
    · skip
      have hB : Bv = 2 * Av := by rw [← hBv, ← hAv]; exact (pto_steps ⟨sa, sla, ssm, sva, smn⟩ m P HOK.out hm0 (by omega)).1 hp10
      have hPi : (P : Int) < 10 := by omega
      have w2 : IntKind.i64.wrap (2 * Av) = 2 * Av := IntWalk.i64_in _ (by omega)
      clear hAv hBv
      subst hB
      go_wp2_with fail
      with_reducible refine (CA.out _).mono ?_
      rintro e5 x5 ⟨rfl, hb⟩
      have H5 : Hid (Bx x5 b7 25 sa sla ssm sva smn ∧ Below w.heap.size w x5) := Lib.hid ⟨HS.out.1.keep hb HS.out.1.lt, HS.out.2.trans (hb.mono HS.out.2.size)⟩
      obtain ⟨y0, y1, y2, y3, y4⟩ := H5.out.1.cells
      clear hb
      go_wp2_with fail
      with_reducible refine (CB.out _).mono ?_
      rintro e6 x6 ⟨rfl, hb⟩
      have HZ0 : Hid (Bx x6.drew b7 25 sa sla ssm sva smn ∧ Below w.heap.size w x6.drew) := Lib.hid ⟨H5.out.1.keep hb.drew H5.out.1.lt, (H5.out.2.trans (hb.mono H5.out.2.size)).drew⟩
      clear hb
      go_wp2_with fail
      refine wp_region_noPanic ?_
      refine wp_region_held_drew (S := fun W : World => Bx W b7 25 sa sla ssm sva smn ∧ Below w.heap.size w W) (by kernel_rfl) ?_ (fun hHeld => ?_)
      · exact HZ0.out
      refine wpAnyH_take (i := 0) (v := ?_) rfl (by kernel_rfl) (by kernel_rfl) (by kernel_rfl) (fun _ _ _ h => h) (Or.inl ⟨by rfl, ?_⟩) (by assumption) ?_
      rotate_left
      · (intro w hSw; obtain ⟨hs7, hsb⟩ := hSw; obtain ⟨q0, q1, q2, q3, q4⟩ := hs7.cells; go_simp; (try with_reducible rfl))
      try simp only [Act.put, List.getElem_toArray, List.getElem_cons_zero, List.getElem_cons_succ, List.setIfInBounds_toArray, List.set_cons_zero, List.set_cons_succ]
      refine wpAnyH_take (i := 1) (v := ?_) rfl (by kernel_rfl) (by kernel_rfl) (by kernel_rfl) (fun _ _ _ h => h) (Or.inl ⟨by rfl, ?_⟩) (by assumption) ?_
      rotate_left
      · (intro w hSw; obtain ⟨hs7, hsb⟩ := hSw; obtain ⟨q0, q1, q2, q3, q4⟩ := hs7.cells; go_simp; (try with_reducible rfl))
      try simp only [Act.put, List.getElem_toArray, List.getElem_cons_zero, List.getElem_cons_succ, List.setIfInBounds_toArray, List.set_cons_zero, List.set_cons_succ]
      refine wpAnyH_take (i := 2) (v := ?_) rfl (by kernel_rfl) (by kernel_rfl) (by kernel_rfl) (fun _ _ _ h => h) (Or.inl ⟨by rfl, ?_⟩) (by assumption) ?_
      rotate_left
      · (intro w hSw; obtain ⟨hs7, hsb⟩ := hSw; obtain ⟨q0, q1, q2, q3, q4⟩ := hs7.cells; go_simp; (try with_reducible rfl))
      try simp only [Act.put, List.getElem_toArray, List.getElem_cons_zero, List.getElem_cons_succ, List.setIfInBounds_toArray, List.set_cons_zero, List.set_cons_succ]
      refine wpAnyH_take (i := 3) (v := ?_) rfl (by kernel_rfl) (by kernel_rfl) (by kernel_rfl) (fun _ _ _ h => h) (Or.inl ⟨by rfl, ?_⟩) (by assumption) ?_
      rotate_left
      · (intro w hSw; obtain ⟨hs7, hsb⟩ := hSw; obtain ⟨q0, q1, q2, q3, q4⟩ := hs7.cells; go_simp; (try with_reducible rfl))
      try simp only [Act.put, List.getElem_toArray, List.getElem_cons_zero, List.getElem_cons_succ, List.setIfInBounds_toArray, List.set_cons_zero, List.set_cons_succ]
      refine wpAnyH_take (i := 5) (v := ?_) rfl (by kernel_rfl) (by kernel_rfl) (by kernel_rfl) (fun _ _ _ h => h) (Or.inl ⟨by rfl, ?_⟩) (by assumption) ?_
      rotate_left
      · (intro w hSw; obtain ⟨hs7, hsb⟩ := hSw; obtain ⟨q0, q1, q2, q3, q4⟩ := hs7.cells; go_simp; (try with_reducible rfl))
      try simp only [Act.put, List.getElem_toArray, List.getElem_cons_zero, List.getElem_cons_succ, List.setIfInBounds_toArray, List.set_cons_zero, List.set_cons_succ]
      refine wpAnyH_take (i := 6) (v := ?_) rfl (by kernel_rfl) (by kernel_rfl) (by kernel_rfl) (fun _ _ _ h => h) (Or.inl ⟨by rfl, ?_⟩) (by assumption) ?_
      rotate_left
      · (intro w hSw; obtain ⟨hs7, hsb⟩ := hSw; obtain ⟨q0, q1, q2, q3, q4⟩ := hs7.cells; go_simp; (try with_reducible rfl))
      try simp only [Act.put, List.getElem_toArray, List.getElem_cons_zero, List.getElem_cons_succ, List.setIfInBounds_toArray, List.set_cons_zero, List.set_cons_succ]
      refine wpAnyH_take (i := 7) (v := ?_) rfl (by kernel_rfl) (by kernel_rfl) (by kernel_rfl) (fun _ _ _ h => h) (Or.inl ⟨by rfl, ?_⟩) (by assumption) ?_
      rotate_left
      · (intro w hSw; obtain ⟨hs7, hsb⟩ := hSw; obtain ⟨q0, q1, q2, q3, q4⟩ := hs7.cells; go_simp; (try with_reducible rfl))
      try simp only [Act.put, List.getElem_toArray, List.getElem_cons_zero, List.getElem_cons_succ, List.setIfInBounds_toArray, List.set_cons_zero, List.set_cons_succ]
      refine wpAnyH_ready (rs := [4]) (by kernel_rfl) (by simp) ?_
      refine AllReadyH.cons rfl (fun K hK => ?_) AllReadyH.nil
      rw [if_pos (by rfl)]
      go_simp
      with_reducible refine (C1.out _).mono ?_
      rintro e1 z1 ⟨rfl, hb⟩
      have HZ1 : Hid (Bx z1 b7 25 sa sla ssm sva smn ∧ Below w.heap.size w z1) := Lib.hid ⟨HZ0.out.1.keep hb HZ0.out.1.lt, HZ0.out.2.trans (hb.mono HZ0.out.2.size)⟩
      clear hb
      refine hK.out _ _ ?_ (fun hHeld => ?_)
      · exact HZ1.out
      clear hK K
      try simp only [Act.put, List.getElem_toArray, List.getElem_cons_zero, List.getElem_cons_succ, List.setIfInBounds_toArray, List.set_cons_zero, List.set_cons_succ]
      refine wpAnyH_ready (rs := [8]) (by kernel_rfl) (by simp) ?_
      refine AllReadyH.cons rfl (fun K hK => ?_) AllReadyH.nil
      rw [if_pos (by rfl)]
      go_simp
      with_reducible refine (C0.out _).mono ?_
      rintro e2 z2 ⟨rfl, hb⟩
      have HZ2 : Hid (Bx z2 b7 25 sa sla ssm sva smn ∧ Below w.heap.size w z2) := Lib.hid ⟨HZ1.out.1.keep hb HZ1.out.1.lt, HZ1.out.2.trans (hb.mono HZ1.out.2.size)⟩
      clear hb
      refine hK.out _ _ ?_ (fun hHeld => ?_)
      · exact HZ2.out
      clear hK K
      try simp only [Act.put, List.getElem_toArray, List.getElem_cons_zero, List.getElem_cons_succ, List.setIfInBounds_toArray, List.set_cons_zero, List.set_cons_succ]
      refine wpAnyH_take (i := 9) (v := ?_) rfl (by kernel_rfl) (by kernel_rfl) (by kernel_rfl) (fun _ _ _ h => h) (Or.inl ⟨by rfl, ?_⟩) (by assumption) ?_
      rotate_left
      · (intro w hSw; obtain ⟨hs7, hsb⟩ := hSw; obtain ⟨q0, q1, q2, q3, q4⟩ := hs7.cells; go_simp; (try with_reducible rfl))
      try simp only [Act.put, List.getElem_toArray, List.getElem_cons_zero, List.getElem_cons_succ, List.setIfInBounds_toArray, List.set_cons_zero, List.set_cons_succ]
      refine wpAnyH_take (i := 10) (v := ?_) rfl (by kernel_rfl) (by kernel_rfl) (by kernel_rfl) (fun _ _ _ h => h) (Or.inl ⟨by rfl, ?_⟩) (by assumption) ?_
      rotate_left
      · (intro w hSw; obtain ⟨hs7, hsb⟩ := hSw; obtain ⟨q0, q1, q2, q3, q4⟩ := hs7.cells; go_simp; (try with_reducible rfl))
      try simp only [Act.put, List.getElem_toArray, List.getElem_cons_zero, List.getElem_cons_succ, List.setIfInBounds_toArray, List.set_cons_zero, List.set_cons_succ]
      refine wpAnyH_take (i := 11) (v := ?_) rfl (by kernel_rfl) (by kernel_rfl) (by kernel_rfl) (fun _ _ _ h => h) (Or.inl ⟨by rfl, ?_⟩) (by assumption) ?_
      rotate_left
      · (intro w hSw; obtain ⟨hs7, hsb⟩ := hSw; obtain ⟨q0, q1, q2, q3, q4⟩ := hs7.cells; go_simp; (try with_reducible rfl))
      try simp only [Act.put, List.getElem_toArray, List.getElem_cons_zero, List.getElem_cons_succ, List.setIfInBounds_toArray, List.set_cons_zero, List.set_cons_succ]
      refine wpAnyH_take (i := 12) (v := ?_) rfl (by kernel_rfl) (by kernel_rfl) (by kernel_rfl) (fun _ _ _ h => h) (Or.inl ⟨by rfl, ?_⟩) (by assumption) ?_
      rotate_left
      · (intro w hSw; obtain ⟨hs7, hsb⟩ := hSw; obtain ⟨q0, q1, q2, q3, q4⟩ := hs7.cells; go_simp; (try with_reducible rfl))
      try simp only [Act.put, List.getElem_toArray, List.getElem_cons_zero, List.getElem_cons_succ, List.setIfInBounds_toArray, List.set_cons_zero, List.set_cons_succ]
      refine wpAnyH_take (i := 14) (v := ?_) rfl (by kernel_rfl) (by kernel_rfl) (by kernel_rfl) (fun _ _ _ h => h) (Or.inl ⟨by rfl, ?_⟩) (by assumption) ?_
      rotate_left
      · (intro w hSw; obtain ⟨hs7, hsb⟩ := hSw; obtain ⟨q0, q1, q2, q3, q4⟩ := hs7.cells; go_simp; (try with_reducible rfl))
      try simp only [Act.put, List.getElem_toArray, List.getElem_cons_zero, List.getElem_cons_succ, List.setIfInBounds_toArray, List.set_cons_zero, List.set_cons_succ]
      refine wpAnyH_take (i := 15) (v := ?_) rfl (by kernel_rfl) (by kernel_rfl) (by kernel_rfl) (fun _ _ _ h => h) (Or.inl ⟨by rfl, ?_⟩) (by assumption) ?_
      rotate_left
      · (intro w hSw; obtain ⟨hs7, hsb⟩ := hSw; obtain ⟨q0, q1, q2, q3, q4⟩ := hs7.cells; go_simp; (try with_reducible rfl))
      try simp only [Act.put, List.getElem_toArray, List.getElem_cons_zero, List.getElem_cons_succ, List.setIfInBounds_toArray, List.set_cons_zero, List.set_cons_succ]
      refine wpAnyH_ready (rs := [13]) (by kernel_rfl) (by simp) ?_
      refine AllReadyH.cons rfl (fun K hK => ?_) AllReadyH.nil
      rw [if_pos (by rfl)]
      go_simp
      with_reducible refine (CZ.out _).mono ?_
      rintro e3 z3 ⟨rfl, hb⟩
      have HZ3 : Hid (Bx z3 b7 25 sa sla ssm sva smn ∧ Below w.heap.size w z3) := Lib.hid ⟨HZ2.out.1.keep hb HZ2.out.1.lt, HZ2.out.2.trans (hb.mono HZ2.out.2.size)⟩
      clear hb
      refine hK.out _ _ ?_ (fun hHeld => ?_)
      · exact HZ3.out
      clear hK K
      try simp only [Act.put, List.getElem_toArray, List.getElem_cons_zero, List.getElem_cons_succ, List.setIfInBounds_toArray, List.set_cons_zero, List.set_cons_succ]
      refine wpAnyH_take (i := 16) (v := ?_) rfl (by kernel_rfl) (by kernel_rfl) (by kernel_rfl) (fun _ _ _ h => h) (Or.inl ⟨by rfl, ?_⟩) (by assumption) ?_
      rotate_left
      · (intro w hSw; obtain ⟨hs7, hsb⟩ := hSw; obtain ⟨q0, q1, q2, q3, q4⟩ := hs7.cells; go_simp; (try with_reducible rfl))
      try simp only [Act.put, List.getElem_toArray, List.getElem_cons_zero, List.getElem_cons_succ, List.setIfInBounds_toArray, List.set_cons_zero, List.set_cons_succ]
      refine wpAnyH_take (i := 17) (v := ?_) rfl (by kernel_rfl) (by kernel_rfl) (by kernel_rfl) (fun _ _ _ h => h) (Or.inl ⟨by rfl, ?_⟩) (by assumption) ?_
      rotate_left
      · (intro w hSw; obtain ⟨hs7, hsb⟩ := hSw; obtain ⟨q0, q1, q2, q3, q4⟩ := hs7.cells; go_simp; (try with_reducible rfl))
      try simp only [Act.put, List.getElem_toArray, List.getElem_cons_zero, List.getElem_cons_succ, List.setIfInBounds_toArray, List.set_cons_zero, List.set_cons_succ]
      refine wpAnyH_take (i := 18) (v := ?_) rfl (by kernel_rfl) (by kernel_rfl) (by kernel_rfl) (fun _ _ _ h => h) (Or.inl ⟨by rfl, ?_⟩) (by assumption) ?_
      rotate_left
      · (intro w hSw; obtain ⟨hs7, hsb⟩ := hSw; obtain ⟨q0, q1, q2, q3, q4⟩ := hs7.cells; go_simp; (try with_reducible rfl))
      try simp only [Act.put, List.getElem_toArray, List.getElem_cons_zero, List.getElem_cons_succ, List.setIfInBounds_toArray, List.set_cons_zero, List.set_cons_succ]
      refine wpAnyH_done (by kernel_rfl) (NoPanic.normal ?_) _
      go_wp2_with fail
      go_ret
      exact ⟨rfl, hHeld.2⟩
    · skip
      have hB : Bv = Av := by rw [← hBv, ← hAv]; exact (pto_steps ⟨sa, sla, ssm, sva, smn⟩ m P HOK.out hm0 (by omega)).2 (by omega)
      have hPi : ¬ (P : Int) < 10 := by omega
      have hPi2 : (P : Int) ≥ 10 := by omega
      clear hAv hBv
      subst hB
      go_wp2_with fail
      with_reducible refine (CA.out _).mono ?_
      rintro e5 x5 ⟨rfl, hb⟩
      have H5 : Hid (Bx x5 b7 25 sa sla ssm sva smn ∧ Below w.heap.size w x5) := Lib.hid ⟨HS.out.1.keep hb HS.out.1.lt, HS.out.2.trans (hb.mono HS.out.2.size)⟩
      obtain ⟨y0, y1, y2, y3, y4⟩ := H5.out.1.cells
      clear hb
      go_wp2_with fail
      with_reducible refine (CB.out _).mono ?_
      rintro e6 x6 ⟨rfl, hb⟩
      have HZ0 : Hid (Bx x6.drew b7 25 sa sla ssm sva smn ∧ Below w.heap.size w x6.drew) := Lib.hid ⟨H5.out.1.keep hb.drew H5.out.1.lt, (H5.out.2.trans (hb.mono H5.out.2.size)).drew⟩
      clear hb
      go_wp2_with fail
      refine wp_region_noPanic ?_
      refine wp_region_held_drew (S := fun W : World => Bx W b7 25 sa sla ssm sva smn ∧ Below w.heap.size w W) (by kernel_rfl) ?_ (fun hHeld => ?_)
      · exact HZ0.out
      refine wpAnyH_take (i := 0) (v := ?_) rfl (by kernel_rfl) (by kernel_rfl) (by kernel_rfl) (fun _ _ _ h => h) (Or.inl ⟨by rfl, ?_⟩) (by assumption) ?_
      rotate_left
      · (intro w hSw; obtain ⟨hs7, hsb⟩ := hSw; obtain ⟨q0, q1, q2, q3, q4⟩ := hs7.cells; go_simp; (try with_reducible rfl))
      try simp only [Act.put, List.getElem_toArray, List.getElem_cons_zero, List.getElem_cons_succ, List.setIfInBounds_toArray, List.set_cons_zero, List.set_cons_succ]
      refine wpAnyH_take (i := 1) (v := ?_) rfl (by kernel_rfl) (by kernel_rfl) (by kernel_rfl) (fun _ _ _ h => h) (Or.inl ⟨by rfl, ?_⟩) (by assumption) ?_
      rotate_left
      · (intro w hSw; obtain ⟨hs7, hsb⟩ := hSw; obtain ⟨q0, q1, q2, q3, q4⟩ := hs7.cells; go_simp; (try with_reducible rfl))
      try simp only [Act.put, List.getElem_toArray, List.getElem_cons_zero, List.getElem_cons_succ, List.setIfInBounds_toArray, List.set_cons_zero, List.set_cons_succ]
      refine wpAnyH_take (i := 2) (v := ?_) rfl (by kernel_rfl) (by kernel_rfl) (by kernel_rfl) (fun _ _ _ h => h) (Or.inl ⟨by rfl, ?_⟩) (by assumption) ?_
      rotate_left
      · (intro w hSw; obtain ⟨hs7, hsb⟩ := hSw; obtain ⟨q0, q1, q2, q3, q4⟩ := hs7.cells; go_simp; (try with_reducible rfl))
      try simp only [Act.put, List.getElem_toArray, List.getElem_cons_zero, List.getElem_cons_succ, List.setIfInBounds_toArray, List.set_cons_zero, List.set_cons_succ]
      refine wpAnyH_take (i := 3) (v := ?_) rfl (by kernel_rfl) (by kernel_rfl) (by kernel_rfl) (fun _ _ _ h => h) (Or.inl ⟨by rfl, ?_⟩) (by assumption) ?_
      rotate_left
      · (intro w hSw; obtain ⟨hs7, hsb⟩ := hSw; obtain ⟨q0, q1, q2, q3, q4⟩ := hs7.cells; go_simp; (try with_reducible rfl))
      try simp only [Act.put, List.getElem_toArray, List.getElem_cons_zero, List.getElem_cons_succ, List.setIfInBounds_toArray, List.set_cons_zero, List.set_cons_succ]
      refine wpAnyH_take (i := 5) (v := ?_) rfl (by kernel_rfl) (by kernel_rfl) (by kernel_rfl) (fun _ _ _ h => h) (Or.inl ⟨by rfl, ?_⟩) (by assumption) ?_
      rotate_left
      · (intro w hSw; obtain ⟨hs7, hsb⟩ := hSw; obtain ⟨q0, q1, q2, q3, q4⟩ := hs7.cells; go_simp; (try with_reducible rfl))
      try simp only [Act.put, List.getElem_toArray, List.getElem_cons_zero, List.getElem_cons_succ, List.setIfInBounds_toArray, List.set_cons_zero, List.set_cons_succ]
      refine wpAnyH_take (i := 6) (v := ?_) rfl (by kernel_rfl) (by kernel_rfl) (by kernel_rfl) (fun _ _ _ h => h) (Or.inl ⟨by rfl, ?_⟩) (by assumption) ?_
      rotate_left
      · (intro w hSw; obtain ⟨hs7, hsb⟩ := hSw; obtain ⟨q0, q1, q2, q3, q4⟩ := hs7.cells; go_simp; (try with_reducible rfl))
      try simp only [Act.put, List.getElem_toArray, List.getElem_cons_zero, List.getElem_cons_succ, List.setIfInBounds_toArray, List.set_cons_zero, List.set_cons_succ]
      refine wpAnyH_take (i := 7) (v := ?_) rfl (by kernel_rfl) (by kernel_rfl) (by kernel_rfl) (fun _ _ _ h => h) (Or.inl ⟨by rfl, ?_⟩) (by assumption) ?_
      rotate_left
      · (intro w hSw; obtain ⟨hs7, hsb⟩ := hSw; obtain ⟨q0, q1, q2, q3, q4⟩ := hs7.cells; go_simp; (try with_reducible rfl))
      try simp only [Act.put, List.getElem_toArray, List.getElem_cons_zero, List.getElem_cons_succ, List.setIfInBounds_toArray, List.set_cons_zero, List.set_cons_succ]
      refine wpAnyH_ready (rs := [4]) (by kernel_rfl) (by simp) ?_
      refine AllReadyH.cons rfl (fun K hK => ?_) AllReadyH.nil
      rw [if_pos (by rfl)]
      go_simp
      with_reducible refine (C1.out _).mono ?_
      rintro e1 z1 ⟨rfl, hb⟩
      have HZ1 : Hid (Bx z1 b7 25 sa sla ssm sva smn ∧ Below w.heap.size w z1) := Lib.hid ⟨HZ0.out.1.keep hb HZ0.out.1.lt, HZ0.out.2.trans (hb.mono HZ0.out.2.size)⟩
      clear hb
      refine hK.out _ _ ?_ (fun hHeld => ?_)
      · exact HZ1.out
      clear hK K
      try simp only [Act.put, List.getElem_toArray, List.getElem_cons_zero, List.getElem_cons_succ, List.setIfInBounds_toArray, List.set_cons_zero, List.set_cons_succ]
      refine wpAnyH_ready (rs := [8]) (by kernel_rfl) (by simp) ?_
      refine AllReadyH.cons rfl (fun K hK => ?_) AllReadyH.nil
      rw [if_pos (by rfl)]
      go_simp
      with_reducible refine (C0.out _).mono ?_
      rintro e2 z2 ⟨rfl, hb⟩
      have HZ2 : Hid (Bx z2 b7 25 sa sla ssm sva smn ∧ Below w.heap.size w z2) := Lib.hid ⟨HZ1.out.1.keep hb HZ1.out.1.lt, HZ1.out.2.trans (hb.mono HZ1.out.2.size)⟩
      clear hb
      refine hK.out _ _ ?_ (fun hHeld => ?_)
      · exact HZ2.out
      clear hK K
      try simp only [Act.put, List.getElem_toArray, List.getElem_cons_zero, List.getElem_cons_succ, List.setIfInBounds_toArray, List.set_cons_zero, List.set_cons_succ]
      refine wpAnyH_take (i := 9) (v := ?_) rfl (by kernel_rfl) (by kernel_rfl) (by kernel_rfl) (fun _ _ _ h => h) (Or.inl ⟨by rfl, ?_⟩) (by assumption) ?_
      rotate_left
      · (intro w hSw; obtain ⟨hs7, hsb⟩ := hSw; obtain ⟨q0, q1, q2, q3, q4⟩ := hs7.cells; go_simp; (try with_reducible rfl))
      try simp only [Act.put, List.getElem_toArray, List.getElem_cons_zero, List.getElem_cons_succ, List.setIfInBounds_toArray, List.set_cons_zero, List.set_cons_succ]
      refine wpAnyH_take (i := 10) (v := ?_) rfl (by kernel_rfl) (by kernel_rfl) (by kernel_rfl) (fun _ _ _ h => h) (Or.inl ⟨by rfl, ?_⟩) (by assumption) ?_
      rotate_left
      · (intro w hSw; obtain ⟨hs7, hsb⟩ := hSw; obtain ⟨q0, q1, q2, q3, q4⟩ := hs7.cells; go_simp; (try with_reducible rfl))
      try simp only [Act.put, List.getElem_toArray, List.getElem_cons_zero, List.getElem_cons_succ, List.setIfInBounds_toArray, List.set_cons_zero, List.set_cons_succ]
      refine wpAnyH_take (i := 11) (v := ?_) rfl (by kernel_rfl) (by kernel_rfl) (by kernel_rfl) (fun _ _ _ h => h) (Or.inl ⟨by rfl, ?_⟩) (by assumption) ?_
      rotate_left
      · (intro w hSw; obtain ⟨hs7, hsb⟩ := hSw; obtain ⟨q0, q1, q2, q3, q4⟩ := hs7.cells; go_simp; (try with_reducible rfl))
      try simp only [Act.put, List.getElem_toArray, List.getElem_cons_zero, List.getElem_cons_succ, List.setIfInBounds_toArray, List.set_cons_zero, List.set_cons_succ]
      refine wpAnyH_take (i := 12) (v := ?_) rfl (by kernel_rfl) (by kernel_rfl) (by kernel_rfl) (fun _ _ _ h => h) (Or.inl ⟨by rfl, ?_⟩) (by assumption) ?_
      rotate_left
      · (intro w hSw; obtain ⟨hs7, hsb⟩ := hSw; obtain ⟨q0, q1, q2, q3, q4⟩ := hs7.cells; go_simp; (try with_reducible rfl))
      try simp only [Act.put, List.getElem_toArray, List.getElem_cons_zero, List.getElem_cons_succ, List.setIfInBounds_toArray, List.set_cons_zero, List.set_cons_succ]
      refine wpAnyH_take (i := 14) (v := ?_) rfl (by kernel_rfl) (by kernel_rfl) (by kernel_rfl) (fun _ _ _ h => h) (Or.inl ⟨by rfl, ?_⟩) (by assumption) ?_
      rotate_left
      · (intro w hSw; obtain ⟨hs7, hsb⟩ := hSw; obtain ⟨q0, q1, q2, q3, q4⟩ := hs7.cells; go_simp; (try with_reducible rfl))
      try simp only [Act.put, List.getElem_toArray, List.getElem_cons_zero, List.getElem_cons_succ, List.setIfInBounds_toArray, List.set_cons_zero, List.set_cons_succ]
      refine wpAnyH_take (i := 15) (v := ?_) rfl (by kernel_rfl) (by kernel_rfl) (by kernel_rfl) (fun _ _ _ h => h) (Or.inl ⟨by rfl, ?_⟩) (by assumption) ?_
      rotate_left
      · (intro w hSw; obtain ⟨hs7, hsb⟩ := hSw; obtain ⟨q0, q1, q2, q3, q4⟩ := hs7.cells; go_simp; (try with_reducible rfl))
      try simp only [Act.put, List.getElem_toArray, List.getElem_cons_zero, List.getElem_cons_succ, List.setIfInBounds_toArray, List.set_cons_zero, List.set_cons_succ]
      refine wpAnyH_ready (rs := [13]) (by kernel_rfl) (by simp) ?_
      refine AllReadyH.cons rfl (fun K hK => ?_) AllReadyH.nil
      rw [if_pos (by rfl)]
      go_simp
      with_reducible refine (CZ.out _).mono ?_
      rintro e3 z3 ⟨rfl, hb⟩
      have HZ3 : Hid (Bx z3 b7 25 sa sla ssm sva smn ∧ Below w.heap.size w z3) := Lib.hid ⟨HZ2.out.1.keep hb HZ2.out.1.lt, HZ2.out.2.trans (hb.mono HZ2.out.2.size)⟩
      clear hb
      refine hK.out _ _ ?_ (fun hHeld => ?_)
      · exact HZ3.out
      clear hK K
      try simp only [Act.put, List.getElem_toArray, List.getElem_cons_zero, List.getElem_cons_succ, List.setIfInBounds_toArray, List.set_cons_zero, List.set_cons_succ]
      refine wpAnyH_take (i := 16) (v := ?_) rfl (by kernel_rfl) (by kernel_rfl) (by kernel_rfl) (fun _ _ _ h => h) (Or.inl ⟨by rfl, ?_⟩) (by assumption) ?_
      rotate_left
      · (intro w hSw; obtain ⟨hs7, hsb⟩ := hSw; obtain ⟨q0, q1, q2, q3, q4⟩ := hs7.cells; go_simp; (try with_reducible rfl))
      try simp only [Act.put, List.getElem_toArray, List.getElem_cons_zero, List.getElem_cons_succ, List.setIfInBounds_toArray, List.set_cons_zero, List.set_cons_succ]
      refine wpAnyH_take (i := 17) (v := ?_) rfl (by kernel_rfl) (by kernel_rfl) (by kernel_rfl) (fun _ _ _ h => h) (Or.inl ⟨by rfl, ?_⟩) (by assumption) ?_
      rotate_left
      · (intro w hSw; obtain ⟨hs7, hsb⟩ := hSw; obtain ⟨q0, q1, q2, q3, q4⟩ := hs7.cells; go_simp; (try with_reducible rfl))
      try simp only [Act.put, List.getElem_toArray, List.getElem_cons_zero, List.getElem_cons_succ, List.setIfInBounds_toArray, List.set_cons_zero, List.set_cons_succ]
      refine wpAnyH_take (i := 18) (v := ?_) rfl (by kernel_rfl) (by kernel_rfl) (by kernel_rfl) (fun _ _ _ h => h) (Or.inl ⟨by rfl, ?_⟩) (by assumption) ?_
      rotate_left
      · (intro w hSw; obtain ⟨hs7, hsb⟩ := hSw; obtain ⟨q0, q1, q2, q3, q4⟩ := hs7.cells; go_simp; (try with_reducible rfl))
      try simp only [Act.put, List.getElem_toArray, List.getElem_cons_zero, List.getElem_cons_succ, List.setIfInBounds_toArray, List.set_cons_zero, List.set_cons_succ]
      refine wpAnyH_done (by kernel_rfl) (NoPanic.normal ?_) _
      go_wp2_with fail
      go_ret
      exact ⟨rfl, hHeld.2⟩
theorem law_pto (a : Option Addr) (n c : Nat) (l : List (Int × Int)) (m p : Int) (w : World) (hn : l.length = n) (hm : n ≤ maxLen) (hr : Sm w (.slice a n c) l) (w1 : (Lit.int .u16 m).wf = true) (w2 : (Lit.int .u8 p).wf = true) :
    Calls Try.prog 6 #[.slice a n c, .int .u16 m, .int .u8 p] w fun e w' => e = .returned (.bool true) ∧ Below w.heap.size w w' := by
  simp only [Lit.wf, Bool.and_eq_true, decide_eq_true_eq] at w1 w2
  by_cases h : 100 < n
  · exact pto_long a n c m p w (by omega) hm
  · exact pto_round a n c l m p w hn.symm (by omega) hr w1.1 w1.2 w2.1 w2.2
theorem law_samples (a : Option Addr) (n c : Nat) (l : List (Int × Int)) (m p : Int) (w : World) (hn : l.length = n) (hm : n ≤ maxLen) (hr : Sm w (.slice a n c) l) (w1 : (Lit.int .i64 m).wf = true) (w2 : (Lit.int .i64 p).wf = true) :
    Calls Try.prog 3 #[.slice a n c, .int .i64 m, .int .i64 p] w fun e w' => e = .returned (.bool true) ∧ Below w.heap.size w w' := by
  by_cases h : 100 < n
  · exact samples_long a n c m p w (by omega) hm
  · exact samples_round a n c l m p w hn.symm (by omega) hr
end Go.Proofs.Ytgmaaeaaanjjaaa.Rt
