/- Layer 13: the law AcksFloor. By tools/gen-acks-8.py. -/
import Derived.Test.YtliakeiaeakliaaAkG
import Derived.Test.YtliakeiaeakliaaAkDue
namespace Go.Proofs.Ytliakeiaeakliaa.Rg
set_option maxRecDepth 20000
open Go.RowKit Go.Shelf
set_option linter.unusedVariables false
set_option linter.unusedSimpArgs false

set_option maxHeartbeats 16000000 in
theorem floor_law (q p : Int) (n st : Nat) (w : World) (q0 : 0 ≤ q) (q1 : q ≤ 255) (p0 : 0 ≤ p) (p1 : p ≤ 255) (hn : 1 + q.tmod 100 = (n : Int)) (hs : 2 + p.tmod 5 = (st : Int)) :
    Calls Try.prog 6 #[.int .u8 q, .int .u8 p] w fun e w' => e = .returned (.bool true) ∧ Below w.heap.size w w' := by
  have qa : 0 ≤ q.tmod 100 := Int.tmod_nonneg _ q0
  have qb : q.tmod 100 < 100 := Int.tmod_lt_of_pos _ (by decide)
  have pa : 0 ≤ p.tmod 5 := Int.tmod_nonneg _ p0
  have pb : p.tmod 5 < 5 := Int.tmod_lt_of_pos _ (by decide)
  have hn0 : 1 ≤ n := by omega
  have hn1 : n ≤ 100 := by omega
  have hs0 : 2 ≤ st := by omega
  have hs1 : st ≤ 6 := by omega
  have v1 : IntKind.i64.wrap q = q := IntWalk.i64_in _ (by omega)
  have v2 : IntKind.i64.wrap p = p := IntWalk.i64_in _ (by omega)
  obtain ⟨Q, hQ⟩ : ∃ x, q.tmod 100 = x := ⟨_, rfl⟩
  obtain ⟨P, hP⟩ : ∃ x, p.tmod 5 = x := ⟨_, rfl⟩
  rw [hQ] at hn qa qb
  rw [hP] at hs pa pb
  have v3 : IntKind.i64.wrap (1 + Q) = (n : Int) := by rw [hn]; exact IntWalk.i64_in _ (by omega)
  have v4 : IntKind.i64.wrap (2 + P) = (st : Int) := by rw [hs]; exact IntWalk.i64_in _ (by omega)
  have v5 : IntKind.u64.wrap (st : Int) = (st : Int) := IntWalk.u64_in _ (by omega)
  have v6 : IntKind.i64.wrap (n : Int) = (n : Int) := IntWalk.i64_in _ (by omega)
  have CS := Lib.hid shown13
  have HS0 : Hid (Sb (w.alloc (.cells #[.slice none 0 0, .int .u64 0, .int .i64 0, .int .i64 0, .int .i64 0] 28)) w.heap.size (.slice none 0 0) ⟨[], 0, 0, 0, 0⟩) := Lib.hid (tl_made _ w (.slice none 0 0) ⟨[], 0, 0, 0, 0⟩ ⟨none, 0, rfl, Nat.le_refl _, fun h => absurd rfl h⟩)
  have HB0 : Hid (Below w.heap.size w (w.alloc (.cells #[.slice none 0 0, .int .u64 0, .int .i64 0, .int .i64 0, .int .i64 0] 28))) := Lib.hid ((Below.refl _ w).alloc (Nat.le_refl _) _)
  clear qa qb pa pb
  go_enter Try.func6, Try.ntmps6
  go_wp2_with fail
  generalize w.alloc (.cells #[.slice none 0 0, .int .u64 0, .int .i64 0, .int .i64 0, .int .i64 0] 28) = W0 at *
  obtain ⟨g, hg⟩ : ∃ g, w.heap.size = g := ⟨_, rfl⟩
  have HB00 : Hid (Below g w W0) := Lib.hid (by rw [← hg]; exact HB0.out)
  rw [hg] at HS0 ⊢
  clear HB0
  have hgw : g ≤ g := Nat.le_refl _
  go_loopw [8] (fun iv wr => ∃ (k : Nat) (v : Value) (s : St), k ≤ n ∧ iv = .int .i64 k ∧ FloI st k s ∧ Sb wr g v s ∧ Below g w wr) (fun iv _ => n - (intOf iv).toNat)
  case atStart => exact ⟨0, _, _, Nat.zero_le _, rfl, FloI.start st, HS0.out, HB00.out⟩
  case round =>
    obtain ⟨k, v, s, hk, rfl, hfl, hsb, hbb⟩ := hrel
    obtain ⟨a, c, rfl, _⟩ := id hsb.rd
    have hcan := hfl.can hs0 (by omega) (by omega)
    obtain ⟨m, hm⟩ : ∃ m, s.l.length = m := ⟨_, rfl⟩
    have HSB : Hid (Sb wr g (.slice a m c) s) := Lib.hid (by rw [← hm]; exact hsb)
    have HBB := Lib.hid hbb
    have HFL := Lib.hid hfl
    have hml : m ≤ 32 := by rw [← hm]; exact hcan.2
    have hgl := hsb.lt
    have how : s.ow = (k : Int) := hfl.ow
    by_cases hlt : k < n
    · have K1 := Lib.hid (got_yes a m c s ((k * st : Nat) : Int) true (k : Int) wr hm (by omega) hcan.1 HSB.out.rd (hfl.open hs0) (by omega) (by
        have : k * st ≤ 100 * 6 := Nat.mul_le_mul (by omega) hs1
        omega) (by omega) (by omega))
      obtain ⟨l, fl, tp, ow, si⟩ := s
      simp only at K1 how
      subst how
      have hltI : (k : Int) < (n : Int) := by omega
      have u1 : IntKind.u64.wrap (k : Int) = (k : Int) := IntWalk.u64_in _ (by omega)
      have u2 : IntKind.u64.wrap ((k : Int) * (st : Int)) = ((k * st : Nat) : Int) := by
        have : k * st ≤ 100 * 6 := Nat.mul_le_mul (by omega) hs1
        rw [← Int.natCast_mul]
        exact IntWalk.u64_in _ (by omega)
      have HSTEP : Hid (∀ s' l1, GotR ⟨l, fl, tp, (k : Int), si⟩ ((k * st : Nat) : Int) true (k : Int) s' l1 → FloI st (k + 1) s') := Lib.hid (fun s' l1 hG => HFL.out.step hs0 (by omega) (by omega) hG)
      obtain ⟨X, hX⟩ : ∃ X, ((k * st : Nat) : Int) = X := ⟨_, rfl⟩
      rw [hX] at K1 u2 HSTEP
      have HU := Lib.hid u2
      clear hX u2
      have y0 := HSB.out.c0
      have y1 := HSB.out.c1
      have y2 := HSB.out.c2
      have y3 := HSB.out.c3
      have y4 := HSB.out.c4
      simp only at y0 y1 y2 y3 y4
      clear hsb hbb hfl hcan hm
      go_wp2_with fail
      rw [HU.out]
      with_reducible refine K1.out.mono ?_
      rintro e w2 ⟨u, s', l1, rfl, hG, hr, hq, hb⟩
      obtain ⟨ua, uc, rfl, _⟩ := id hr
      have HFN : Hid (FloI st (k + 1) s') := Lib.hid (HSTEP.out _ _ hG)
      obtain ⟨l', f', t', o', i'⟩ := s'
      try simp only at hr
      try simp only at hq
      obtain ⟨un, hun⟩ : ∃ n, l'.length = n := ⟨_, rfl⟩
      rw [hun] at hr hq
      have HS2 := Lib.hid (HSB.out.go hb)
      have HS3 : Hid (Sb (w2.alloc (.cells #[.slice ua un uc, .int .u64 f', .int .i64 t', .int .i64 o', .int .i64 i'] 28)) g (.slice a m c) ⟨l, fl, tp, (k : Int), si⟩) := Lib.hid (HS2.out.go ((Below.refl _ _).alloc (Nat.le_refl _) _))
      have HR3 : Hid (Rd (w2.alloc (.cells #[.slice ua un uc, .int .u64 f', .int .i64 t', .int .i64 o', .int .i64 i'] 28)) (.slice ua un uc) l') := Lib.hid (hr.go ((Below.refl _ _).alloc (Nat.le_refl _) _))
      have HB3 : Hid (Below g w (w2.alloc (.cells #[.slice ua un uc, .int .u64 f', .int .i64 t', .int .i64 o', .int .i64 i'] 28))) := Lib.hid ((HBB.out.trans (hb.mono (by omega))).alloc (by have := hb.size; omega) _)
      have hnb : ¬ Blk (.slice ua un uc) g := fun h => by have := hq _ h; omega
      have HS4 : Hid (Sb ((((((w2.alloc (.cells #[.slice ua un uc, .int .u64 f', .int .i64 t', .int .i64 o', .int .i64 i'] 28)).setCell ⟨g, 0, none⟩ (.slice ua un uc)).setCell ⟨g, 1, none⟩ (.int .u64 f')).setCell ⟨g, 2, none⟩ (.int .i64 t')).setCell ⟨g, 3, none⟩ (.int .i64 o')).setCell ⟨g, 4, none⟩ (.int .i64 i')) g (.slice ua un uc) ⟨l', f', t', o', i'⟩) := Lib.hid ⟨five_put HS3.out.hb (.slice ua un uc) (.int .u64 f') (.int .i64 t') (.int .i64 o') (.int .i64 i'), rd_five HR3.out hnb (.slice ua un uc) (.int .u64 f') (.int .i64 t') (.int .i64 o') (.int .i64 i'), hnb⟩
      have HB4 := Lib.hid (below_five HB3.out (b := g) hgw (.slice ua un uc) (.int .u64 f') (.int .i64 t') (.int .i64 o') (.int .i64 i'))
      have HN : Hid (Sb (w2.alloc (.cells #[.slice ua un uc, .int .u64 f', .int .i64 t', .int .i64 o', .int .i64 i'] 28)) w2.heap.size (.slice ua un uc) ⟨l', f', t', o', i'⟩) := Lib.hid (tl_made _ w2 (.slice ua un uc) ⟨l', f', t', o', i'⟩ hr)
      clear hr hq hb hnb hG HS2 K1 y0 y1 y2 y3 y4
      go_upto_region 10 with (fail)
      generalize w2.alloc (.cells #[.slice ua un uc, .int .u64 f', .int .i64 t', .int .i64 o', .int .i64 i'] 28) = W3 at *
      generalize w2.heap.size = g2 at *
      have x0 := HS3.out.c0
      have x1 := HS3.out.c1
      have x2 := HS3.out.c2
      have x3 := HS3.out.c3
      have x4 := HS3.out.c4
      simp only at x0 x1 x2 x3 x4
      have z0 := HN.out.c0
      have z1 := HN.out.c1
      have z2 := HN.out.c2
      have z3 := HN.out.c3
      have z4 := HN.out.c4
      simp only at z0 z1 z2 z3 z4
      have xf : ∀ k, W3.frozen? ⟨g, k, none⟩ = false := HS3.out.fz
      clear HN HR3 HB3
      go_wp2_with fail
      go_roundw
      case rel => exact ⟨k + 1, _, _, by omega, by go_num, HFN.out, HS4.out, HB4.out⟩
      case measure => simp [intOf]; omega
    · obtain rfl : k = n := by omega
      have hnlt : ¬ (k : Int) < (k : Int) := by omega
      have KL := Lib.hid (fun W h => got_no a m c s 0 true (k : Int) W hm (by omega) hcan.1 h (hfl.low hs0 (by omega)))
      have hfs : s.fl = flo st (k - 32) := hfl.fl
      have hml' : m = k - (k - 32) := by rw [← hm, hfl.l, pts_len]
      clear HFL
      by_cases c1 : k = 1
      · obtain rfl : k = 1 := by omega
        obtain rfl : m = 1 := by omega
        have KM := Lib.hid (fun W h => got_no a 1 c s 0 true 1 W hm (by omega) hcan.1 h hfl.mid1)
        have KL := Lib.hid (fun W h => got_no a 1 c s 0 true 1 W hm (by omega) hcan.1 h hfl.mid1)
        have hmx : max (-31 : Int) 0 = 0 := by decide
        have hmin : min (0 : Int) 1 = 0 := by decide
        have hmin2 : min (1 : Int) 32 = 1 := by decide
        replace how : s.ow = 1 := by rw [hfl.ow]; rfl
        have hfz : s.fl = 0 := by rw [hfs]; rfl
        obtain ⟨l, fl, tp, ow, si⟩ := s
        have HLM : Hid (l.length = 1) := Lib.hid hm
        try simp only at KL
        try simp only at KM
        try simp only at how
        try simp only at hfz
        subst how
        subst hfz
        clear hfl hsb hbb hcan hm hfs hml'
        have y0 := HSB.out.c0
        have y1 := HSB.out.c1
        have y2 := HSB.out.c2
        have y3 := HSB.out.c3
        have y4 := HSB.out.c4
        simp only at y0 y1 y2 y3 y4
        go_wp2_with fail
        with_reducible refine (KL.out _ HSB.out.rd).mono ?_
        rintro e w2 ⟨x, rfl, hr, hq, hb⟩
        obtain ⟨xa, xc, rfl, _⟩ := id hr
        try simp only at hr
        have hxl : l.length = 1 := HLM.out
        rw [hxl]
        have HS3 : Hid (Sb (w2.alloc (.cells #[.slice xa 1 xc, .int .u64 0, .int .i64 tp, .int .i64 1, .int .i64 si] 28)) g (.slice a 1 c) ⟨l, 0, tp, 1, si⟩) := Lib.hid ((HSB.out.go hb).go ((Below.refl _ _).alloc (Nat.le_refl _) _))
        have HB3 : Hid (Below g w (w2.alloc (.cells #[.slice xa 1 xc, .int .u64 0, .int .i64 tp, .int .i64 1, .int .i64 si] 28))) := Lib.hid ((HBB.out.trans (hb.mono (by omega))).alloc (by have := hb.size; omega) _)
        clear y0 y1 y2 y3 y4 hr hq hb KL
        have y0 := HS3.out.c0
        have y1 := HS3.out.c1
        have y2 := HS3.out.c2
        have y3 := HS3.out.c3
        have y4 := HS3.out.c4
        simp only at y0 y1 y2 y3 y4
        clear hxl
        go_wp2_with fail
        generalize w2.alloc (.cells #[.slice xa 1 xc, .int .u64 0, .int .i64 tp, .int .i64 1, .int .i64 si] 28) = W3 at *
        with_reducible refine (KM.out _ HS3.out.rd).mono ?_
        rintro e w4 ⟨z, rfl, hr, hq, hb⟩
        obtain ⟨za, zc, rfl, _⟩ := id hr
        try simp only at hr
        have hxl : l.length = 1 := HLM.out
        rw [hxl]
        have HS5 : Hid (Sb (w4.alloc (.cells #[.slice za 1 zc, .int .u64 0, .int .i64 tp, .int .i64 1, .int .i64 si] 28)) g (.slice a 1 c) ⟨l, 0, tp, 1, si⟩) := Lib.hid ((HS3.out.go hb).go ((Below.refl _ _).alloc (Nat.le_refl _) _))
        have HB5 : Hid (Below g w (w4.alloc (.cells #[.slice za 1 zc, .int .u64 0, .int .i64 tp, .int .i64 1, .int .i64 si] 28))) := Lib.hid ((HB3.out.trans (hb.mono (by have := HS3.out.lt; omega))).alloc (by have := hb.size; have := HS3.out.lt; omega) _)
        clear y0 y1 y2 y3 y4 hr hq hb KM hxl
        have y0 := HS5.out.c0
        have y1 := HS5.out.c1
        have y2 := HS5.out.c2
        have y3 := HS5.out.c3
        have y4 := HS5.out.c4
        simp only at y0 y1 y2 y3 y4
        go_wp2_with fail
        generalize w4.alloc (.cells #[.slice za 1 zc, .int .u64 0, .int .i64 tp, .int .i64 1, .int .i64 si] 28) = W5 at *
        with_reducible refine (CS.out _).mono ?_
        rintro e w6 ⟨rfl, hb⟩
        have HB6 : Hid (Below g w w6) := Lib.hid (HB5.out.trans (hb.mono (by have := HS5.out.lt; omega)))
        clear y0 y1 y2 y3 y4 hb HB5 HS5
        go_wp2_with fail
        go_ret
        exact ⟨rfl, by rw [hg]; exact HB6.out⟩
      by_cases c2 : k ≤ 32
      · have hlo : 1 * st ≤ (k - 1) * st := Nat.mul_le_mul (by omega) (Nat.le_refl _)
        have hhi : (k - 1) * st ≤ 100 * 6 := Nat.mul_le_mul (by omega) hs1
        have KM := Lib.hid (fun W h => got_yes a m c s (((k - 1) * st - 1 : Nat) : Int) true (k : Int) W hm (by omega) hcan.1 h (hfl.mid hs0 (by omega)) (by omega) (by omega) (by omega) (by omega))
        obtain ⟨Y, hY⟩ : ∃ Y : Nat, (k - 1) * st = Y := ⟨_, rfl⟩
        have hk1 : ((k : Int) - 1) * (st : Int) = (Y : Int) := by rw [← hY, Int.natCast_mul, show (((k - 1 : Nat)) : Int) = (k : Int) - 1 by omega]
        have u2 : IntKind.u64.wrap (((k : Int) - 1) * (st : Int)) = (Y : Int) := by rw [hk1]; exact IntWalk.u64_in _ (by omega)
        rw [hY] at KM hlo hhi
        have u3 : IntKind.u64.wrap ((Y : Int) - 1) = ((Y - 1 : Nat) : Int) := by rw [show (Y : Int) - 1 = ((Y - 1 : Nat) : Int) by omega]; exact IntWalk.u64_in _ (by omega)
        obtain ⟨X, hX⟩ : ∃ X : Int, ((Y - 1 : Nat) : Int) = X := ⟨_, rfl⟩
        rw [hX] at KM u3
        clear hX hk1 hY hlo
        have hmin : min ((k : Int) - 1) 1 = 1 := by omega
        have hk2 : (1 : Int) < (k : Int) := by omega
        obtain rfl : m = k := by omega
        have hfz : s.fl = 0 := by rw [hfs, show m - 32 = 0 by omega]; rfl
        have hmin2 : min (m : Int) 32 = (m : Int) := by omega
        have hmx : max ((m : Int) - 32) 0 = 0 := by omega
        obtain ⟨l, fl, tp, ow, si⟩ := s
        have HLM : Hid (l.length = m) := Lib.hid hm
        try simp only at KL
        try simp only at KM
        try simp only at how
        try simp only at hfz
        subst how
        subst hfz
        clear hfl hsb hbb hcan hm hfs hml'
        have y0 := HSB.out.c0
        have y1 := HSB.out.c1
        have y2 := HSB.out.c2
        have y3 := HSB.out.c3
        have y4 := HSB.out.c4
        simp only at y0 y1 y2 y3 y4
        go_wp2_with fail
        with_reducible refine (KL.out _ HSB.out.rd).mono ?_
        rintro e w2 ⟨x, rfl, hr, hq, hb⟩
        obtain ⟨xa, xc, rfl, _⟩ := id hr
        try simp only at hr
        have hxl : l.length = m := HLM.out
        rw [hxl]
        have HS3 : Hid (Sb (w2.alloc (.cells #[.slice xa m xc, .int .u64 0, .int .i64 tp, .int .i64 (m : Int), .int .i64 si] 28)) g (.slice a m c) ⟨l, 0, tp, (m : Int), si⟩) := Lib.hid ((HSB.out.go hb).go ((Below.refl _ _).alloc (Nat.le_refl _) _))
        have HB3 : Hid (Below g w (w2.alloc (.cells #[.slice xa m xc, .int .u64 0, .int .i64 tp, .int .i64 (m : Int), .int .i64 si] 28))) := Lib.hid ((HBB.out.trans (hb.mono (by omega))).alloc (by have := hb.size; omega) _)
        clear y0 y1 y2 y3 y4 hr hq hb KL
        have y0 := HS3.out.c0
        have y1 := HS3.out.c1
        have y2 := HS3.out.c2
        have y3 := HS3.out.c3
        have y4 := HS3.out.c4
        simp only at y0 y1 y2 y3 y4
        clear hxl
        go_wp2_with fail
        generalize w2.alloc (.cells #[.slice xa m xc, .int .u64 0, .int .i64 tp, .int .i64 (m : Int), .int .i64 si] 28) = W3 at *
        with_reducible refine (KM.out _ HS3.out.rd).mono ?_
        rintro e w4 ⟨z, s4, l4, rfl, hg4, hr, hq, hb⟩
        obtain ⟨za, zc, rfl, _⟩ := id hr
        obtain ⟨l4', f4, t4, o4, i4⟩ := s4
        try simp only at hr
        obtain ⟨zn, hzn⟩ : ∃ n, l4'.length = n := ⟨_, rfl⟩
        rw [hzn] at hr
        simp only [hzn]
        have HS5 : Hid (Sb (w4.alloc (.cells #[.slice za zn zc, .int .u64 f4, .int .i64 t4, .int .i64 o4, .int .i64 i4] 28)) g (.slice a m c) ⟨l, 0, tp, (m : Int), si⟩) := Lib.hid ((HS3.out.go hb).go ((Below.refl _ _).alloc (Nat.le_refl _) _))
        have HB5 : Hid (Below g w (w4.alloc (.cells #[.slice za zn zc, .int .u64 f4, .int .i64 t4, .int .i64 o4, .int .i64 i4] 28))) := Lib.hid ((HB3.out.trans (hb.mono (by have := HS3.out.lt; omega))).alloc (by have := hb.size; have := HS3.out.lt; omega) _)
        clear y0 y1 y2 y3 y4 hr hq hb KM hg4 hzn
        have y0 := HS5.out.c0
        have y1 := HS5.out.c1
        have y2 := HS5.out.c2
        have y3 := HS5.out.c3
        have y4 := HS5.out.c4
        simp only at y0 y1 y2 y3 y4
        go_wp2_with fail
        generalize w4.alloc (.cells #[.slice za zn zc, .int .u64 f4, .int .i64 t4, .int .i64 o4, .int .i64 i4] 28) = W5 at *
        with_reducible refine (CS.out _).mono ?_
        rintro e w6 ⟨rfl, hb⟩
        have HB6 : Hid (Below g w w6) := Lib.hid (HB5.out.trans (hb.mono (by have := HS5.out.lt; omega)))
        clear y0 y1 y2 y3 y4 hb HB5 HS5
        go_wp2_with fail
        go_ret
        exact ⟨rfl, by rw [hg]; exact HB6.out⟩
      · have hlo : 1 * st ≤ (k - 1) * st := Nat.mul_le_mul (by omega) (Nat.le_refl _)
        have hhi : (k - 1) * st ≤ 100 * 6 := Nat.mul_le_mul (by omega) hs1
        have KM := Lib.hid (fun W h => got_yes a m c s (((k - 1) * st - 1 : Nat) : Int) true (k : Int) W hm (by omega) hcan.1 h (hfl.mid hs0 (by omega)) (by omega) (by omega) (by omega) (by omega))
        obtain ⟨Y, hY⟩ : ∃ Y : Nat, (k - 1) * st = Y := ⟨_, rfl⟩
        have hk1 : ((k : Int) - 1) * (st : Int) = (Y : Int) := by rw [← hY, Int.natCast_mul, show (((k - 1 : Nat)) : Int) = (k : Int) - 1 by omega]
        have u2 : IntKind.u64.wrap (((k : Int) - 1) * (st : Int)) = (Y : Int) := by rw [hk1]; exact IntWalk.u64_in _ (by omega)
        rw [hY] at KM hlo hhi
        have u3 : IntKind.u64.wrap ((Y : Int) - 1) = ((Y - 1 : Nat) : Int) := by rw [show (Y : Int) - 1 = ((Y - 1 : Nat) : Int) by omega]; exact IntWalk.u64_in _ (by omega)
        obtain ⟨X, hX⟩ : ∃ X : Int, ((Y - 1 : Nat) : Int) = X := ⟨_, rfl⟩
        rw [hX] at KM u3
        clear hX hk1 hY hlo
        have hmin : min ((k : Int) - 1) 1 = 1 := by omega
        have hk2 : (1 : Int) < (k : Int) := by omega
        obtain rfl : m = 32 := by omega
        obtain ⟨F, hF⟩ : ∃ F : Nat, (k - 32 - 1) * st + 1 = F := ⟨_, rfl⟩
        have hFb : (k - 32 - 1) * st ≤ 100 * 6 := Nat.mul_le_mul (by omega) hs1
        have hfz : s.fl = (F : Int) := by rw [hfs]; unfold flo; rw [if_neg (by omega), hF]
        have hG1 : (((k : Int) - 32) - 1) * (st : Int) = (F : Int) - 1 := by rw [show (F : Int) - 1 = (((k - 32 - 1) * st : Nat) : Int) by omega, Int.natCast_mul, show (((k - 32 - 1 : Nat)) : Int) = (k : Int) - 32 - 1 by omega]
        have u4 : IntKind.u64.wrap (((k : Int) - 32 - 1) * (st : Int)) = (F : Int) - 1 := by rw [hG1]; exact IntWalk.u64_in _ (by omega)
        have u5 : IntKind.u64.wrap ((F : Int) - 1 + 1) = (F : Int) := by rw [Int.sub_add_cancel]; exact IntWalk.u64_in _ (by omega)
        have u6 : IntKind.u64.wrap (F : Int) = (F : Int) := IntWalk.u64_in _ (by omega)
        clear hG1 hF hFb
        have hmin2 : min (k : Int) 32 = 32 := by omega
        have hmx : max ((k : Int) - 32) 0 = (k : Int) - 32 := by omega
        have hgo : (0 : Int) < (k : Int) - 32 := by omega
        obtain ⟨l, fl, tp, ow, si⟩ := s
        have HLM : Hid (l.length = 32) := Lib.hid hm
        try simp only at KL
        try simp only at KM
        try simp only at how
        try simp only at hfz
        subst how
        subst hfz
        clear hfl hsb hbb hcan hm hfs hml'
        have y0 := HSB.out.c0
        have y1 := HSB.out.c1
        have y2 := HSB.out.c2
        have y3 := HSB.out.c3
        have y4 := HSB.out.c4
        simp only at y0 y1 y2 y3 y4
        go_wp2_with fail
        with_reducible refine (KL.out _ HSB.out.rd).mono ?_
        rintro e w2 ⟨x, rfl, hr, hq, hb⟩
        obtain ⟨xa, xc, rfl, _⟩ := id hr
        try simp only at hr
        have hxl : l.length = 32 := HLM.out
        rw [hxl]
        have HS3 : Hid (Sb (w2.alloc (.cells #[.slice xa 32 xc, .int .u64 (F : Int), .int .i64 tp, .int .i64 (k : Int), .int .i64 si] 28)) g (.slice a 32 c) ⟨l, (F : Int), tp, (k : Int), si⟩) := Lib.hid ((HSB.out.go hb).go ((Below.refl _ _).alloc (Nat.le_refl _) _))
        have HB3 : Hid (Below g w (w2.alloc (.cells #[.slice xa 32 xc, .int .u64 (F : Int), .int .i64 tp, .int .i64 (k : Int), .int .i64 si] 28))) := Lib.hid ((HBB.out.trans (hb.mono (by omega))).alloc (by have := hb.size; omega) _)
        clear y0 y1 y2 y3 y4 hr hq hb KL
        have y0 := HS3.out.c0
        have y1 := HS3.out.c1
        have y2 := HS3.out.c2
        have y3 := HS3.out.c3
        have y4 := HS3.out.c4
        simp only at y0 y1 y2 y3 y4
        clear hxl
        go_wp2_with fail
        generalize w2.alloc (.cells #[.slice xa 32 xc, .int .u64 (F : Int), .int .i64 tp, .int .i64 (k : Int), .int .i64 si] 28) = W3 at *
        with_reducible refine (KM.out _ HS3.out.rd).mono ?_
        rintro e w4 ⟨z, s4, l4, rfl, hg4, hr, hq, hb⟩
        obtain ⟨za, zc, rfl, _⟩ := id hr
        obtain ⟨l4', f4, t4, o4, i4⟩ := s4
        try simp only at hr
        obtain ⟨zn, hzn⟩ : ∃ n, l4'.length = n := ⟨_, rfl⟩
        rw [hzn] at hr
        simp only [hzn]
        have HS5 : Hid (Sb (w4.alloc (.cells #[.slice za zn zc, .int .u64 f4, .int .i64 t4, .int .i64 o4, .int .i64 i4] 28)) g (.slice a 32 c) ⟨l, (F : Int), tp, (k : Int), si⟩) := Lib.hid ((HS3.out.go hb).go ((Below.refl _ _).alloc (Nat.le_refl _) _))
        have HB5 : Hid (Below g w (w4.alloc (.cells #[.slice za zn zc, .int .u64 f4, .int .i64 t4, .int .i64 o4, .int .i64 i4] 28))) := Lib.hid ((HB3.out.trans (hb.mono (by have := HS3.out.lt; omega))).alloc (by have := hb.size; have := HS3.out.lt; omega) _)
        clear y0 y1 y2 y3 y4 hr hq hb KM hg4 hzn
        have y0 := HS5.out.c0
        have y1 := HS5.out.c1
        have y2 := HS5.out.c2
        have y3 := HS5.out.c3
        have y4 := HS5.out.c4
        simp only at y0 y1 y2 y3 y4
        go_wp2_with fail
        generalize w4.alloc (.cells #[.slice za zn zc, .int .u64 f4, .int .i64 t4, .int .i64 o4, .int .i64 i4] 28) = W5 at *
        with_reducible refine (CS.out _).mono ?_
        rintro e w6 ⟨rfl, hb⟩
        have HB6 : Hid (Below g w w6) := Lib.hid (HB5.out.trans (hb.mono (by have := HS5.out.lt; omega)))
        clear y0 y1 y2 y3 y4 hb HB5 HS5
        go_wp2_with fail
        go_ret
        exact ⟨rfl, by rw [hg]; exact HB6.out⟩
theorem law_floor (q p : Int) (w : World) (w0 : (Lit.int .u8 q).wf = true) (w1 : (Lit.int .u8 p).wf = true) :
    Calls Try.prog 6 #[.int .u8 q, .int .u8 p] w fun e w' => e = .returned (.bool true) ∧ Below w.heap.size w w' := by
  simp only [Lit.wf, Bool.and_eq_true, decide_eq_true_eq] at w0 w1
  have qa : 0 ≤ q.tmod 100 := Int.tmod_nonneg _ w0.1
  have pa : 0 ≤ p.tmod 5 := Int.tmod_nonneg _ w1.1
  exact floor_law q p (1 + q.tmod 100).toNat (2 + p.tmod 5).toNat w w0.1 w0.2 w1.1 w1.2 (by omega) (by omega)
end Go.Proofs.Ytliakeiaeakliaa.Rg
