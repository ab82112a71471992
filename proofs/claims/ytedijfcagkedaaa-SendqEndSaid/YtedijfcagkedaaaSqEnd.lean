/- Layer 15: the law of the end. By tools/gen-sendq-8.py. -/
import Derived.Test.YtedijfcagkedaaaSqH
import Derived.Test.YtedijfcagkedaaaSqI
namespace Go.Proofs.Ytedijfcagkedaaa.Rg
set_option maxRecDepth 20000
open Go.RowKit Go.Shelf
set_option linter.unusedVariables false
set_option linter.unusedSimpArgs false

def EdR (w : World) (g : Nat) (L : Int) (F : Bool) (iv : Value) (wr : World) : Prop :=
  ∃ (k : Nat) (a1 : Option Addr) (n1 c1 : Nat) (a2 : Option Addr) (n2 c2 : Nat) (s : SS), iv = .int .i64 k ∧ k ≤ 250 ∧ Hid (EdI L F s k) ∧ Hid (LS w wr g (.slice a1 n1 c1) (.slice a2 n2 c2) s)
set_option maxHeartbeats 16000000 in
theorem end_false (T : ByteArray) (most : Int) (lt : Nat) (n : Int) (w : World) (hlt0 : T.size = lt) (hT : lt ≤ 200) (hm0 : 0 ≤ most) (hm1 : most < 256) (hn : 1 + most.tmod 50 = n) :
    Calls Try.prog 7 #[.string T, .int .u8 most, .bool false] w fun e w' => e = .returned (.bool true) ∧ Below w.heap.size w w' := by
  have CH := Lib.hid (fun W => shown15_any W)
  have ma : 0 ≤ most.tmod 50 := Int.tmod_nonneg _ hm0
  have mb : most.tmod 50 < 50 := Int.tmod_lt_of_pos _ (by decide)
  have hn1 : 1 ≤ n := by omega
  have hn2 : n ≤ 50 := by omega
  obtain ⟨M, hM⟩ : ∃ x, most.tmod 50 = x := ⟨_, rfl⟩
  have u1 : IntKind.i64.wrap most = most := IntWalk.i64_in _ (by omega)
  have u2 : IntKind.i64.wrap M = M := IntWalk.i64_in _ (by omega)
  have u3 : IntKind.i64.wrap (1 + M) = n := by rw [← hM, hn]; exact IntWalk.i64_in _ (by omega)
  have hbig : ¬ (200 : Int) < (lt : Int) := by omega
  obtain ⟨L, hLL⟩ : ∃ x : Int, (lt : Int) = x := ⟨_, rfl⟩
  have hL : L ≤ 200 := by omega
  have hL0 : 0 ≤ L := by omega
  obtain ⟨hI0, hN0⟩ := edI_first (T := T) (by omega)
  rw [hlt0, hLL] at hI0
  have CW := Lib.hid (fun W => write_any s00 none 0 0 none 0 0 T 500 W ss00 (by show (0 : Int) + ((0 : Nat) : Int) + (T.size : Int) ≤ 1000000; omega) (by decide) (by decide) (by decide) (rd00 W) (rd00 W))
  rw [hN0, hlt0] at CW
  generalize wrS s00 T 500 = S0 at *
  have CF := Lib.hid (fun (a1 : Option Addr) (n1 c1 : Nat) (a2 : Option Addr) (n2 c2 : Nat) W (k1 : Rd W (.slice a1 n1 c1) S0.ak) (k2 : Rd W (.slice a2 n2 c2) S0.td) => finish_any S0 a1 n1 c1 a2 n2 c2 W (by have := rd_len k1; have := hI0.ok.mid.len (by rw [hI0.en]; exact hL); omega) (by have := rd_len k2; have := hI0.ok.mid.len (by rw [hI0.en]; exact hL); omega) k1 k2)
  have hI1 := hI0.ends
  generalize finS S0 = S9 at *
  obtain ⟨xb, xt, xd, xa, xo, xf, xe, xc⟩ := S0
  obtain ⟨zb, zt, zd, za, zo, zf, ze, zc⟩ := S9
  have HI0 := Lib.hid hI1
  clear hI0 hN0 hI1 ma mb hm0 hm1 hn
  try simp only at CW CF HI0
  unfold GvN s00 at CW
  simp only at CW
  go_enter Try.func7, Try.ntmps7
  go_wp2_with fail
  with_reducible refine (CH.out _).mono ?_
  rintro e w1 ⟨rfl, hb1⟩
  have HB1 := Lib.hid hb1
  clear hb1
  go_wp2_with fail
  with_reducible refine (CW.out _).mono ?_
  rintro e w2 ⟨a1, n1, d1, a2, n2, d2, rfl, hra, hrt, hka, hkt, hb⟩
  have HL0 := Lib.hid (ls_made w w2 (.slice a1 n1 d1) (.slice a2 n2 d2) ⟨xb, xt, xd, xa, xo, xf, xe, xc⟩ (nextG HB1.out hb) hra hrt)
  simp only at HL0
  clear hra hrt hka hkt hb CH CW
  go_wp2_with fail
  have HG := Lib.hid HL0.out.hg
  with_reducible refine (CF.out _ _ _ _ _ _ _ HL0.out.q.ra HL0.out.q.rt).mono ?_
  rintro e wv1 ⟨a1x, n1x, d1x, a1y, n1y, d1y, rfl, hra, hrt, hka, hkt, hb⟩
  have HC1 := Lib.hid (HL0.out.q.go hb)
  have HL1 := Lib.hid (HL0.out.set (s' := ⟨zb, zt, zd, za, zo, zf, ze, zc⟩) hb hra hrt hka hkt)
  simp only at HL1
  clear hra hrt hka hkt hb
  have y0 := HC1.out.c0
  have y1 := HC1.out.c1
  have y2 := HC1.out.c2
  have y3 := HC1.out.c3
  have y4 := HC1.out.c4
  have y5 := HC1.out.c5
  have y6 := HC1.out.c6
  have y7 := HC1.out.c7
  simp only at y0 y1 y2 y5 y6 y7
  have yf := HC1.out.fz
  go_wp2_with fail
  generalize (((((((wv1.setCell _ _).setCell _ _).setCell _ _).setCell _ _).setCell _ _).setCell _ _).setCell _ _).setCell _ _ = W1 at *
  clear y0 y1 y2 y3 y4 y5 y6 y7 yf
  clear CF
  go_loopw [10] (fun iv wr => EdR w w2.heap.size L true iv wr) (fun iv _ => 250 - (intOf iv).toNat)
  case atStart => exact ⟨0, _, _, _, _, _, _, _, rfl, by decide, HI0, HL1⟩
  case round =>
    obtain ⟨k, a1, n1, c1, a2, n2, c2, s, rfl, hk, HI, HL⟩ := hrel
    have hbd := HI.out.ok.b0
    have hI0 := hbd
    by_cases hlt : k < 250
    · obtain ⟨N, hN⟩ : ∃ N, nxt s n 1000 = N := ⟨_, rfl⟩
      have hlen := HI.out.ok.mid.len (by rw [HI.out.en]; exact hL)
      have hr1 := rd_len HL.out.q.ra
      have hr2 := rd_len HL.out.q.rt
      have hso := HI.out.ok
      have CN := Lib.hid (next_any s a1 n1 c1 a2 n2 c2 n 1000 wr hso HL.out.q.ra HL.out.q.rt (by omega) (by decide) N hN)
      rcases HI.out.step hL hn1 hN with ⟨hz, hb, hd⟩ | ⟨hz, h0, h1, hf, ho, hI2, hd2⟩
      · obtain ⟨o, D, fi, iz⟩ := N
        simp only at hz CN
        subst hz
        clear hN
        have CD := Lib.hid (fun (u v : Value) W => done_any s u v W)
        rw [hd rfl] at CD
        clear hd hb hI0 hlen hr1 hr2 hso hbd HI
        obtain ⟨sb, st, sd, sa, so, sf, se, sc⟩ := s
        simp only at CD HL CN
        have y0 := HL.out.q.c0
        have y1 := HL.out.q.c1
        have y2 := HL.out.q.c2
        have y3 := HL.out.q.c3
        have y4 := HL.out.q.c4
        have y5 := HL.out.q.c5
        have y6 := HL.out.q.c6
        have y7 := HL.out.q.c7
        simp only at y0 y1 y2 y5 y6 y7
        have yf := HL.out.q.fz
        go_wp2_with fail
        with_reducible refine CN.out.mono ?_
        rintro e wn ⟨rfl, hb⟩
        have HL2 := Lib.hid (HL.out.go hb)
        clear hb CN y0 y1 y2 y3 y4 y5 y6 y7 yf
        have y0 := HL2.out.q.c0
        have y1 := HL2.out.q.c1
        have y2 := HL2.out.q.c2
        have y3 := HL2.out.q.c3
        have y4 := HL2.out.q.c4
        have y5 := HL2.out.q.c5
        have y6 := HL2.out.q.c6
        have y7 := HL2.out.q.c7
        simp only at y0 y1 y2 y5 y6 y7
        have yf := HL2.out.q.fz
        go_wp2_with fail
        with_reducible refine (CD.out _ _ _).mono ?_
        rintro e wd ⟨rfl, hb⟩
        have HL3 := Lib.hid (HL2.out.go hb)
        clear hb
        go_wp2_with fail
        go_ret
        exact ⟨rfl, HL3.out.bl⟩
      · clear hN
        by_cases hq : N.off + (N.d.size : Int) = L
        · have hfi : N.fin = true := by rw [hf, decide_eq_true hq]; rfl
          have CS := Lib.hid (fun W (k1 : Rd W (.slice a1 n1 c1) s.ak) (k2 : Rd W (.slice a2 n2 c2) s.td) => sent_any s a1 n1 c1 a2 n2 c2 N.off (N.d.size : Int) N.fin W hso (by omega) (by omega) k1 k2 h0 (by omega))
          have hok3 := sent_ok hso N.off (N.d.size : Int) N.fin
          have hen3 := en_sent s N.off (N.d.size : Int) N.fin
          have hen0 := HI.out.en
          generalize sentS s N.off (N.d.size : Int) N.fin = S1 at *
          rw [hen0] at hen3
          have hlen3 := hok3.mid.len (by omega)
          have hcl3 := came_len hok3 (by omega) N.off (N.d.size : Int)
          have CA := Lib.hid (fun (a1 : Option Addr) (n1 c1 : Nat) (a2 : Option Addr) (n2 c2 : Nat) W (k1 : Rd W (.slice a1 n1 c1) S1.ak) (k2 : Rd W (.slice a2 n2 c2) S1.td) => acked_any S1 a1 n1 c1 a2 n2 c2 N.off (N.d.size : Int) N.fin W hok3 (by have := rd_len k1; omega) (by have := rd_len k2; omega) k1 k2 h0 (by omega) hcl3)
          generalize ackS S1 N.off (N.d.size : Int) N.fin = S2 at *
          have HI2 := Lib.hid hI2
          have CD := Lib.hid (fun (u v : Value) W => done_any S2 u v W)
          rw [hd2] at CD
          obtain ⟨o, D, fi, iz⟩ := N
          simp only at hz h0 h1 hq hfi CS CA CD CN
          subst hz
          subst hfi
          obtain ⟨m, hm⟩ : ∃ m : Nat, D.size = m := ⟨_, rfl⟩
          rw [hm] at h1 hq CS CA
          have v1 : IntKind.u64.wrap (m : Int) = (m : Int) := IntWalk.u64_in _ (by omega)
          have v2 : IntKind.u64.wrap (o + (m : Int)) = o + (m : Int) := IntWalk.u64_in _ (by omega)
          have v3 : IntKind.u64.wrap L = L := IntWalk.u64_in _ (by omega)
          have d3 : (o + (m : Int) == L) = true := by rw [beq_iff_eq]; omega
          replace hm := Lib.hid hm
          clear h0 h1 hf ho hI2 hd2 hq hlen hr1 hr2 hso hok3 hen3 hen0 hlen3 hcl3 HI hI0 hbd
          obtain ⟨sb, st, sd, sa, so, sf, se, sc⟩ := s
          obtain ⟨pb, pt, pd, pa, po, pf, pe, pc⟩ := S1
          obtain ⟨qb, qt, qd, qa, qo, qf, qe, qc⟩ := S2
          simp only at HL CS CA CD HI2
          have y0 := HL.out.q.c0
          have y1 := HL.out.q.c1
          have y2 := HL.out.q.c2
          have y3 := HL.out.q.c3
          have y4 := HL.out.q.c4
          have y5 := HL.out.q.c5
          have y6 := HL.out.q.c6
          have y7 := HL.out.q.c7
          simp only at y0 y1 y2 y5 y6 y7
          have yf := HL.out.q.fz
          go_wp2_with fail
          with_reducible refine (CN.out).mono ?_
          rintro e wn2 ⟨rfl, hb⟩
          have HL2 := Lib.hid (HL.out.go hb)
          clear hb
          have y0 := HL2.out.q.c0
          have y1 := HL2.out.q.c1
          have y2 := HL2.out.q.c2
          have y3 := HL2.out.q.c3
          have y4 := HL2.out.q.c4
          have y5 := HL2.out.q.c5
          have y6 := HL2.out.q.c6
          have y7 := HL2.out.q.c7
          simp only at y0 y1 y2 y5 y6 y7
          have yf := HL2.out.q.fz
          clear CN
          have hm := hm.out
          go_wp2_with fail
          try rw [hm]
          with_reducible refine (CS.out _ HL2.out.q.ra HL2.out.q.rt).mono ?_
          rintro e wv3 ⟨a3x, n3x, d3x, a3y, n3y, d3y, rfl, hra, hrt, hka, hkt, hb⟩
          have HC3 := Lib.hid (HL2.out.q.go hb)
          have HL3 := Lib.hid (HL2.out.set (s' := ⟨pb, pt, pd, pa, po, pf, pe, pc⟩) hb hra hrt hka hkt)
          simp only at HL3
          clear hra hrt hka hkt hb
          have y0 := HC3.out.c0
          have y1 := HC3.out.c1
          have y2 := HC3.out.c2
          have y3 := HC3.out.c3
          have y4 := HC3.out.c4
          have y5 := HC3.out.c5
          have y6 := HC3.out.c6
          have y7 := HC3.out.c7
          simp only at y0 y1 y2 y5 y6 y7
          have yf := HC3.out.fz
          go_wp2_with fail
          generalize (((((((wv3.setCell _ _).setCell _ _).setCell _ _).setCell _ _).setCell _ _).setCell _ _).setCell _ _).setCell _ _ = W3 at *
          clear y0 y1 y2 y3 y4 y5 y6 y7 yf
          try rw [hm]
          with_reducible refine (CA.out _ _ _ _ _ _ _ HL3.out.q.ra HL3.out.q.rt).mono ?_
          rintro e wv4 ⟨a4x, n4x, d4x, a4y, n4y, d4y, rfl, hra, hrt, hka, hkt, hb⟩
          have HC4 := Lib.hid (HL3.out.q.go hb)
          have HL4 := Lib.hid (HL3.out.set (s' := ⟨qb, qt, qd, qa, qo, qf, qe, qc⟩) hb hra hrt hka hkt)
          simp only at HL4
          clear hra hrt hka hkt hb
          have y0 := HC4.out.c0
          have y1 := HC4.out.c1
          have y2 := HC4.out.c2
          have y3 := HC4.out.c3
          have y4 := HC4.out.c4
          have y5 := HC4.out.c5
          have y6 := HC4.out.c6
          have y7 := HC4.out.c7
          simp only at y0 y1 y2 y5 y6 y7
          have yf := HC4.out.fz
          go_wp2_with fail
          generalize (((((((wv4.setCell _ _).setCell _ _).setCell _ _).setCell _ _).setCell _ _).setCell _ _).setCell _ _).setCell _ _ = W4 at *
          clear y0 y1 y2 y3 y4 y5 y6 y7 yf
          with_reducible refine (CD.out _ _ _).mono ?_
          rintro e wd ⟨rfl, hb⟩
          have HL5 := Lib.hid (HL4.out.go hb)
          clear hb
          go_wp2_with fail
          go_roundw
          case rel => exact ⟨k + 1, _, _, _, _, _, _, _, by go_num, by omega, HI2, HL5⟩
          case measure => simp [intOf]; omega
        · have hfi : N.fin = false := by rw [hf, decide_eq_false hq]; rfl
          have CS := Lib.hid (fun W (k1 : Rd W (.slice a1 n1 c1) s.ak) (k2 : Rd W (.slice a2 n2 c2) s.td) => sent_any s a1 n1 c1 a2 n2 c2 N.off (N.d.size : Int) N.fin W hso (by omega) (by omega) k1 k2 h0 (by omega))
          have hok3 := sent_ok hso N.off (N.d.size : Int) N.fin
          have hen3 := en_sent s N.off (N.d.size : Int) N.fin
          have hen0 := HI.out.en
          generalize sentS s N.off (N.d.size : Int) N.fin = S1 at *
          rw [hen0] at hen3
          have hlen3 := hok3.mid.len (by omega)
          have hcl3 := came_len hok3 (by omega) N.off (N.d.size : Int)
          have CA := Lib.hid (fun (a1 : Option Addr) (n1 c1 : Nat) (a2 : Option Addr) (n2 c2 : Nat) W (k1 : Rd W (.slice a1 n1 c1) S1.ak) (k2 : Rd W (.slice a2 n2 c2) S1.td) => acked_any S1 a1 n1 c1 a2 n2 c2 N.off (N.d.size : Int) N.fin W hok3 (by have := rd_len k1; omega) (by have := rd_len k2; omega) k1 k2 h0 (by omega) hcl3)
          generalize ackS S1 N.off (N.d.size : Int) N.fin = S2 at *
          have HI2 := Lib.hid hI2
          have CD := Lib.hid (fun (u v : Value) W => done_any S2 u v W)
          rw [hd2] at CD
          obtain ⟨o, D, fi, iz⟩ := N
          simp only at hz h0 h1 hq hfi CS CA CD CN
          subst hz
          subst hfi
          obtain ⟨m, hm⟩ : ∃ m : Nat, D.size = m := ⟨_, rfl⟩
          rw [hm] at h1 hq CS CA
          have v1 : IntKind.u64.wrap (m : Int) = (m : Int) := IntWalk.u64_in _ (by omega)
          have v2 : IntKind.u64.wrap (o + (m : Int)) = o + (m : Int) := IntWalk.u64_in _ (by omega)
          have v3 : IntKind.u64.wrap L = L := IntWalk.u64_in _ (by omega)
          have d3 : (o + (m : Int) == L) = false := by rw [beq_eq_false_iff_ne]; omega
          replace hm := Lib.hid hm
          clear h0 h1 hf ho hI2 hd2 hq hlen hr1 hr2 hso hok3 hen3 hen0 hlen3 hcl3 HI hI0 hbd
          obtain ⟨sb, st, sd, sa, so, sf, se, sc⟩ := s
          obtain ⟨pb, pt, pd, pa, po, pf, pe, pc⟩ := S1
          obtain ⟨qb, qt, qd, qa, qo, qf, qe, qc⟩ := S2
          simp only at HL CS CA CD HI2
          have y0 := HL.out.q.c0
          have y1 := HL.out.q.c1
          have y2 := HL.out.q.c2
          have y3 := HL.out.q.c3
          have y4 := HL.out.q.c4
          have y5 := HL.out.q.c5
          have y6 := HL.out.q.c6
          have y7 := HL.out.q.c7
          simp only at y0 y1 y2 y5 y6 y7
          have yf := HL.out.q.fz
          go_wp2_with fail
          with_reducible refine (CN.out).mono ?_
          rintro e wn2 ⟨rfl, hb⟩
          have HL2 := Lib.hid (HL.out.go hb)
          clear hb
          have y0 := HL2.out.q.c0
          have y1 := HL2.out.q.c1
          have y2 := HL2.out.q.c2
          have y3 := HL2.out.q.c3
          have y4 := HL2.out.q.c4
          have y5 := HL2.out.q.c5
          have y6 := HL2.out.q.c6
          have y7 := HL2.out.q.c7
          simp only at y0 y1 y2 y5 y6 y7
          have yf := HL2.out.q.fz
          clear CN
          have hm := hm.out
          go_wp2_with fail
          try rw [hm]
          with_reducible refine (CS.out _ HL2.out.q.ra HL2.out.q.rt).mono ?_
          rintro e wv3 ⟨a3x, n3x, d3x, a3y, n3y, d3y, rfl, hra, hrt, hka, hkt, hb⟩
          have HC3 := Lib.hid (HL2.out.q.go hb)
          have HL3 := Lib.hid (HL2.out.set (s' := ⟨pb, pt, pd, pa, po, pf, pe, pc⟩) hb hra hrt hka hkt)
          simp only at HL3
          clear hra hrt hka hkt hb
          have y0 := HC3.out.c0
          have y1 := HC3.out.c1
          have y2 := HC3.out.c2
          have y3 := HC3.out.c3
          have y4 := HC3.out.c4
          have y5 := HC3.out.c5
          have y6 := HC3.out.c6
          have y7 := HC3.out.c7
          simp only at y0 y1 y2 y5 y6 y7
          have yf := HC3.out.fz
          go_wp2_with fail
          generalize (((((((wv3.setCell _ _).setCell _ _).setCell _ _).setCell _ _).setCell _ _).setCell _ _).setCell _ _).setCell _ _ = W3 at *
          clear y0 y1 y2 y3 y4 y5 y6 y7 yf
          try rw [hm]
          with_reducible refine (CA.out _ _ _ _ _ _ _ HL3.out.q.ra HL3.out.q.rt).mono ?_
          rintro e wv4 ⟨a4x, n4x, d4x, a4y, n4y, d4y, rfl, hra, hrt, hka, hkt, hb⟩
          have HC4 := Lib.hid (HL3.out.q.go hb)
          have HL4 := Lib.hid (HL3.out.set (s' := ⟨qb, qt, qd, qa, qo, qf, qe, qc⟩) hb hra hrt hka hkt)
          simp only at HL4
          clear hra hrt hka hkt hb
          have y0 := HC4.out.c0
          have y1 := HC4.out.c1
          have y2 := HC4.out.c2
          have y3 := HC4.out.c3
          have y4 := HC4.out.c4
          have y5 := HC4.out.c5
          have y6 := HC4.out.c6
          have y7 := HC4.out.c7
          simp only at y0 y1 y2 y5 y6 y7
          have yf := HC4.out.fz
          go_wp2_with fail
          generalize (((((((wv4.setCell _ _).setCell _ _).setCell _ _).setCell _ _).setCell _ _).setCell _ _).setCell _ _).setCell _ _ = W4 at *
          clear y0 y1 y2 y3 y4 y5 y6 y7 yf
          with_reducible refine (CD.out _ _ _).mono ?_
          rintro e wd ⟨rfl, hb⟩
          have HL5 := Lib.hid (HL4.out.go hb)
          clear hb
          go_wp2_with fail
          go_roundw
          case rel => exact ⟨k + 1, _, _, _, _, _, _, _, by go_num, by omega, HI2, HL5⟩
          case measure => simp [intOf]; omega
    · obtain rfl : k = 250 := by omega
      have hb : s.ba = L := by
        rcases HI.out.md with h1 | h1
        · rcases h1.2.2 with h2 | h2
          · have h3 := en_ge s; have h4 := HI.out.en; omega
          · exact h2.2
        · exact h1.2.1
      have hlen := HI.out.ok.mid.len (by rw [HI.out.en]; exact hL)
      have hr1 := rd_len HL.out.q.ra
      have hr2 := rd_len HL.out.q.rt
      have hso := HI.out.ok
      have hd : doneB s = true := by
        rcases HI.out.md with h1 | h1
        · rcases h1.2.2 with h2 | h2
          · have h3 := en_ge s; have h4 := HI.out.en; omega
          · cases h2.1
        · unfold doneB
          have h5 := HI.out.size
          rw [HI.out.fn, h1.2.2.2, decide_eq_true (show s.d.size = 0 by omega)]
          rfl
      have CD := Lib.hid (fun (u v : Value) W => done_any s u v W)
      rw [hd] at CD
      clear hd hb hI0 hlen hr1 hr2 hso hbd HI
      obtain ⟨sb, st, sd, sa, so, sf, se, sc⟩ := s
      simp only at CD HL
      have y0 := HL.out.q.c0
      have y1 := HL.out.q.c1
      have y2 := HL.out.q.c2
      have y3 := HL.out.q.c3
      have y4 := HL.out.q.c4
      have y5 := HL.out.q.c5
      have y6 := HL.out.q.c6
      have y7 := HL.out.q.c7
      simp only at y0 y1 y2 y5 y6 y7
      have yf := HL.out.q.fz
      go_wp2_with fail
      with_reducible refine (CD.out _ _ _).mono ?_
      rintro e wd ⟨rfl, hb⟩
      have HL3 := Lib.hid (HL.out.go hb)
      clear hb
      go_wp2_with fail
      go_ret
      exact ⟨rfl, HL3.out.bl⟩
set_option maxHeartbeats 16000000 in
theorem end_true (T : ByteArray) (most : Int) (lt : Nat) (n : Int) (w : World) (hlt0 : T.size = lt) (hT : lt ≤ 200) (hm0 : 0 ≤ most) (hm1 : most < 256) (hn : 1 + most.tmod 50 = n) :
    Calls Try.prog 7 #[.string T, .int .u8 most, .bool true] w fun e w' => e = .returned (.bool true) ∧ Below w.heap.size w w' := by
  have CH := Lib.hid (fun W => shown15_any W)
  have ma : 0 ≤ most.tmod 50 := Int.tmod_nonneg _ hm0
  have mb : most.tmod 50 < 50 := Int.tmod_lt_of_pos _ (by decide)
  have hn1 : 1 ≤ n := by omega
  have hn2 : n ≤ 50 := by omega
  obtain ⟨M, hM⟩ : ∃ x, most.tmod 50 = x := ⟨_, rfl⟩
  have u1 : IntKind.i64.wrap most = most := IntWalk.i64_in _ (by omega)
  have u2 : IntKind.i64.wrap M = M := IntWalk.i64_in _ (by omega)
  have u3 : IntKind.i64.wrap (1 + M) = n := by rw [← hM, hn]; exact IntWalk.i64_in _ (by omega)
  have hbig : ¬ (200 : Int) < (lt : Int) := by omega
  obtain ⟨L, hLL⟩ : ∃ x : Int, (lt : Int) = x := ⟨_, rfl⟩
  have hL : L ≤ 200 := by omega
  have hL0 : 0 ≤ L := by omega
  obtain ⟨hI0, hN0⟩ := edI_first (T := T) (by omega)
  rw [hlt0, hLL] at hI0
  have CW := Lib.hid (fun W => write_any s00 none 0 0 none 0 0 T 500 W ss00 (by show (0 : Int) + ((0 : Nat) : Int) + (T.size : Int) ≤ 1000000; omega) (by decide) (by decide) (by decide) (rd00 W) (rd00 W))
  rw [hN0, hlt0] at CW
  generalize wrS s00 T 500 = S0 at *
  obtain ⟨xb, xt, xd, xa, xo, xf, xe, xc⟩ := S0
  have HI0 := Lib.hid hI0
  clear hI0 hN0 ma mb hm0 hm1 hn
  try simp only at CW HI0
  unfold GvN s00 at CW
  simp only at CW
  go_enter Try.func7, Try.ntmps7
  go_wp2_with fail
  with_reducible refine (CH.out _).mono ?_
  rintro e w1 ⟨rfl, hb1⟩
  have HB1 := Lib.hid hb1
  clear hb1
  go_wp2_with fail
  with_reducible refine (CW.out _).mono ?_
  rintro e w2 ⟨a1, n1, d1, a2, n2, d2, rfl, hra, hrt, hka, hkt, hb⟩
  have HL0 := Lib.hid (ls_made w w2 (.slice a1 n1 d1) (.slice a2 n2 d2) ⟨xb, xt, xd, xa, xo, xf, xe, xc⟩ (nextG HB1.out hb) hra hrt)
  simp only at HL0
  clear hra hrt hka hkt hb CH CW
  go_wp2_with fail
  go_loopw [10] (fun iv wr => EdR w w2.heap.size L false iv wr) (fun iv _ => 250 - (intOf iv).toNat)
  case atStart => exact ⟨0, _, _, _, _, _, _, _, rfl, by decide, HI0, HL0⟩
  case round =>
    obtain ⟨k, a1, n1, c1, a2, n2, c2, s, rfl, hk, HI, HL⟩ := hrel
    have hbd := HI.out.ok.b0
    have hI0 := hbd
    by_cases hlt : k < 250
    · obtain ⟨N, hN⟩ : ∃ N, nxt s n 1000 = N := ⟨_, rfl⟩
      have hlen := HI.out.ok.mid.len (by rw [HI.out.en]; exact hL)
      have hr1 := rd_len HL.out.q.ra
      have hr2 := rd_len HL.out.q.rt
      have hso := HI.out.ok
      have CN := Lib.hid (next_any s a1 n1 c1 a2 n2 c2 n 1000 wr hso HL.out.q.ra HL.out.q.rt (by omega) (by decide) N hN)
      rcases HI.out.step hL hn1 hN with ⟨hz, hb, hd⟩ | ⟨hz, h0, h1, hf, ho, hI2, hd2⟩
      · obtain ⟨o, D, fi, iz⟩ := N
        simp only at hz CN
        subst hz
        clear hN
        have hE := HI.out.ends
        have hfa : (finS s).fa = false := by
          rcases hE.md with h1 | h1
          · exact h1.2.1
          · rcases HI.out.md with h2 | h2
            · have e : (finS s).fa = s.fa := by unfold finS; split <;> rfl
              rw [e]; exact h2.2.1
            · cases h2.1
        have hba : (finS s).ba = L := by
          have e : (finS s).ba = s.ba := by unfold finS; split <;> rfl
          rw [e]; exact hb
        obtain ⟨q1, q2, q3⟩ := hE.last hL hba hfa hn1
        have CF := Lib.hid (fun (a1 : Option Addr) (n1 c1 : Nat) (a2 : Option Addr) (n2 c2 : Nat) W (k1 : Rd W (.slice a1 n1 c1) s.ak) (k2 : Rd W (.slice a2 n2 c2) s.td) => finish_any s a1 n1 c1 a2 n2 c2 W (by have := rd_len k1; omega) (by have := rd_len k2; omega) k1 k2)
        have hlen2 := hE.ok.mid.len (by rw [hE.en]; exact hL)
        have hok2 := hE.ok
        have hen2 := hE.en
        generalize finS s = S1 at *
        have CN2 := Lib.hid (fun (a1 : Option Addr) (n1 c1 : Nat) (a2 : Option Addr) (n2 c2 : Nat) W (k1 : Rd W (.slice a1 n1 c1) S1.ak) (k2 : Rd W (.slice a2 n2 c2) S1.td) => next_any S1 a1 n1 c1 a2 n2 c2 n 0 W hok2 k1 k2 (by omega) (by decide) _ q1)
        have CD := Lib.hid (fun (u v : Value) W => done_any S1 u v W)
        rw [q2] at CD
        have CS := Lib.hid (fun (a1 : Option Addr) (n1 c1 : Nat) (a2 : Option Addr) (n2 c2 : Nat) W (k1 : Rd W (.slice a1 n1 c1) S1.ak) (k2 : Rd W (.slice a2 n2 c2) S1.td) => sent_any S1 a1 n1 c1 a2 n2 c2 L 0 true W hok2 (by have := rd_len k1; omega) (by have := rd_len k2; omega) k1 k2 hL0 (by omega))
        have hok3 := sent_ok hok2 L 0 true
        have hen3 := en_sent S1 L 0 true
        generalize sentS S1 L 0 true = S2 at *
        rw [hen2] at hen3
        have hlen3 := hok3.mid.len (by omega)
        have hcl3 := came_len hok3 (by omega) L 0
        have CA := Lib.hid (fun (a1 : Option Addr) (n1 c1 : Nat) (a2 : Option Addr) (n2 c2 : Nat) W (k1 : Rd W (.slice a1 n1 c1) S2.ak) (k2 : Rd W (.slice a2 n2 c2) S2.td) => acked_any S2 a1 n1 c1 a2 n2 c2 L 0 true W hok3 (by have := rd_len k1; omega) (by have := rd_len k2; omega) k1 k2 hL0 (by omega) hcl3)
        generalize ackS S2 L 0 true = S3 at *
        have CE := Lib.hid (fun (u v : Value) W => done_any S3 u v W)
        rw [q3] at CE
        clear hE hfa hba q1 q2 q3 hlen2 hok2 hen2 hok3 hen3 hlen3 hcl3 hb hd hlen hr1 hr2 hso HI hI0 hbd
        obtain ⟨sb, st, sd, sa, so, sf, se, sc⟩ := s
        obtain ⟨pb, pt, pd, pa, po, pf, pe, pc⟩ := S1
        obtain ⟨qb, qt, qd, qa, qo, qf, qe, qc⟩ := S2
        obtain ⟨rb, rt, rd, ra, ro, rf, re, rc⟩ := S3
        simp only at HL CF CN2 CD CS CA CE CN
        have y0 := HL.out.q.c0
        have y1 := HL.out.q.c1
        have y2 := HL.out.q.c2
        have y3 := HL.out.q.c3
        have y4 := HL.out.q.c4
        have y5 := HL.out.q.c5
        have y6 := HL.out.q.c6
        have y7 := HL.out.q.c7
        simp only at y0 y1 y2 y5 y6 y7
        have yf := HL.out.q.fz
        go_wp2_with fail
        with_reducible refine CN.out.mono ?_
        rintro e wn ⟨rfl, hb⟩
        have HL2 := Lib.hid (HL.out.go hb)
        clear hb CN y0 y1 y2 y3 y4 y5 y6 y7 yf
        have y0 := HL2.out.q.c0
        have y1 := HL2.out.q.c1
        have y2 := HL2.out.q.c2
        have y3 := HL2.out.q.c3
        have y4 := HL2.out.q.c4
        have y5 := HL2.out.q.c5
        have y6 := HL2.out.q.c6
        have y7 := HL2.out.q.c7
        simp only at y0 y1 y2 y5 y6 y7
        have yf := HL2.out.q.fz
        go_wp2_with fail
        with_reducible refine (CF.out _ _ _ _ _ _ _ HL2.out.q.ra HL2.out.q.rt).mono ?_
        rintro e wv3 ⟨a3x, n3x, d3x, a3y, n3y, d3y, rfl, hra, hrt, hka, hkt, hb⟩
        have HC3 := Lib.hid (HL2.out.q.go hb)
        have HL3 := Lib.hid (HL2.out.set (s' := ⟨pb, pt, pd, pa, po, pf, pe, pc⟩) hb hra hrt hka hkt)
        simp only at HL3
        clear hra hrt hka hkt hb
        have y0 := HC3.out.c0
        have y1 := HC3.out.c1
        have y2 := HC3.out.c2
        have y3 := HC3.out.c3
        have y4 := HC3.out.c4
        have y5 := HC3.out.c5
        have y6 := HC3.out.c6
        have y7 := HC3.out.c7
        simp only at y0 y1 y2 y5 y6 y7
        have yf := HC3.out.fz
        go_wp2_with fail
        generalize (((((((wv3.setCell _ _).setCell _ _).setCell _ _).setCell _ _).setCell _ _).setCell _ _).setCell _ _).setCell _ _ = W3 at *
        clear y0 y1 y2 y3 y4 y5 y6 y7 yf
        with_reducible refine (CN2.out _ _ _ _ _ _ _ HL3.out.q.ra HL3.out.q.rt).mono ?_
        rintro e wn4 ⟨rfl, hb⟩
        have HL4 := Lib.hid (HL3.out.go hb)
        clear hb
        have y0 := HL4.out.q.c0
        have y1 := HL4.out.q.c1
        have y2 := HL4.out.q.c2
        have y3 := HL4.out.q.c3
        have y4 := HL4.out.q.c4
        have y5 := HL4.out.q.c5
        have y6 := HL4.out.q.c6
        have y7 := HL4.out.q.c7
        simp only at y0 y1 y2 y5 y6 y7
        have yf := HL4.out.q.fz
        go_wp2_with fail
        with_reducible refine (CD.out _ _ _).mono ?_
        rintro e wd ⟨rfl, hb⟩
        have HL5 := Lib.hid (HL4.out.go hb)
        clear hb
        clear y0 y1 y2 y3 y4 y5 y6 y7 yf
        have y0 := HL5.out.q.c0
        have y1 := HL5.out.q.c1
        have y2 := HL5.out.q.c2
        have y3 := HL5.out.q.c3
        have y4 := HL5.out.q.c4
        have y5 := HL5.out.q.c5
        have y6 := HL5.out.q.c6
        have y7 := HL5.out.q.c7
        simp only at y0 y1 y2 y5 y6 y7
        have yf := HL5.out.q.fz
        go_wp2_with fail
        with_reducible refine (CS.out _ _ _ _ _ _ _ HL5.out.q.ra HL5.out.q.rt).mono ?_
        rintro e we ⟨b1, m1, d1, b2, m2, d2, rfl, hra, hrt, hka, hkt, hb⟩
        have HL6 := Lib.hid (HL5.out.go hb)
        have HRA := Lib.hid hra
        have HRT := Lib.hid hrt
        clear hra hrt hka hkt hb
        go_wp2_with fail
        with_reducible refine (CA.out _ _ _ _ _ _ _ HRA.out HRT.out).mono ?_
        rintro e wf ⟨b3, m3, d3, b4, m4, d4, rfl, hra, hrt, hka, hkt, hb⟩
        have HL7 := Lib.hid (HL6.out.go hb)
        clear hra hrt hka hkt hb
        go_wp2_with fail
        with_reducible refine (CE.out _ _ _).mono ?_
        rintro e wg ⟨rfl, hb⟩
        have HL8 := Lib.hid (HL7.out.go hb)
        clear hb
        go_wp2_with fail
        go_ret
        exact ⟨rfl, HL8.out.bl⟩
      · clear hN
        by_cases hq : N.off + (N.d.size : Int) = L
        · have hfi : N.fin = false := by rw [hf, decide_eq_true hq]; rfl
          have CS := Lib.hid (fun W (k1 : Rd W (.slice a1 n1 c1) s.ak) (k2 : Rd W (.slice a2 n2 c2) s.td) => sent_any s a1 n1 c1 a2 n2 c2 N.off (N.d.size : Int) N.fin W hso (by omega) (by omega) k1 k2 h0 (by omega))
          have hok3 := sent_ok hso N.off (N.d.size : Int) N.fin
          have hen3 := en_sent s N.off (N.d.size : Int) N.fin
          have hen0 := HI.out.en
          generalize sentS s N.off (N.d.size : Int) N.fin = S1 at *
          rw [hen0] at hen3
          have hlen3 := hok3.mid.len (by omega)
          have hcl3 := came_len hok3 (by omega) N.off (N.d.size : Int)
          have CA := Lib.hid (fun (a1 : Option Addr) (n1 c1 : Nat) (a2 : Option Addr) (n2 c2 : Nat) W (k1 : Rd W (.slice a1 n1 c1) S1.ak) (k2 : Rd W (.slice a2 n2 c2) S1.td) => acked_any S1 a1 n1 c1 a2 n2 c2 N.off (N.d.size : Int) N.fin W hok3 (by have := rd_len k1; omega) (by have := rd_len k2; omega) k1 k2 h0 (by omega) hcl3)
          generalize ackS S1 N.off (N.d.size : Int) N.fin = S2 at *
          have HI2 := Lib.hid hI2
          have CD := Lib.hid (fun (u v : Value) W => done_any S2 u v W)
          rw [hd2] at CD
          obtain ⟨o, D, fi, iz⟩ := N
          simp only at hz h0 h1 hq hfi CS CA CD CN
          subst hz
          subst hfi
          obtain ⟨m, hm⟩ : ∃ m : Nat, D.size = m := ⟨_, rfl⟩
          rw [hm] at h1 hq CS CA
          have v1 : IntKind.u64.wrap (m : Int) = (m : Int) := IntWalk.u64_in _ (by omega)
          have v2 : IntKind.u64.wrap (o + (m : Int)) = o + (m : Int) := IntWalk.u64_in _ (by omega)
          have v3 : IntKind.u64.wrap L = L := IntWalk.u64_in _ (by omega)
          have d3 : (o + (m : Int) == L) = true := by rw [beq_iff_eq]; omega
          replace hm := Lib.hid hm
          clear h0 h1 hf ho hI2 hd2 hq hlen hr1 hr2 hso hok3 hen3 hen0 hlen3 hcl3 HI hI0 hbd
          obtain ⟨sb, st, sd, sa, so, sf, se, sc⟩ := s
          obtain ⟨pb, pt, pd, pa, po, pf, pe, pc⟩ := S1
          obtain ⟨qb, qt, qd, qa, qo, qf, qe, qc⟩ := S2
          simp only at HL CS CA CD HI2
          have y0 := HL.out.q.c0
          have y1 := HL.out.q.c1
          have y2 := HL.out.q.c2
          have y3 := HL.out.q.c3
          have y4 := HL.out.q.c4
          have y5 := HL.out.q.c5
          have y6 := HL.out.q.c6
          have y7 := HL.out.q.c7
          simp only at y0 y1 y2 y5 y6 y7
          have yf := HL.out.q.fz
          go_wp2_with fail
          with_reducible refine (CN.out).mono ?_
          rintro e wn2 ⟨rfl, hb⟩
          have HL2 := Lib.hid (HL.out.go hb)
          clear hb
          have y0 := HL2.out.q.c0
          have y1 := HL2.out.q.c1
          have y2 := HL2.out.q.c2
          have y3 := HL2.out.q.c3
          have y4 := HL2.out.q.c4
          have y5 := HL2.out.q.c5
          have y6 := HL2.out.q.c6
          have y7 := HL2.out.q.c7
          simp only at y0 y1 y2 y5 y6 y7
          have yf := HL2.out.q.fz
          clear CN
          have hm := hm.out
          go_wp2_with fail
          try rw [hm]
          with_reducible refine (CS.out _ HL2.out.q.ra HL2.out.q.rt).mono ?_
          rintro e wv3 ⟨a3x, n3x, d3x, a3y, n3y, d3y, rfl, hra, hrt, hka, hkt, hb⟩
          have HC3 := Lib.hid (HL2.out.q.go hb)
          have HL3 := Lib.hid (HL2.out.set (s' := ⟨pb, pt, pd, pa, po, pf, pe, pc⟩) hb hra hrt hka hkt)
          simp only at HL3
          clear hra hrt hka hkt hb
          have y0 := HC3.out.c0
          have y1 := HC3.out.c1
          have y2 := HC3.out.c2
          have y3 := HC3.out.c3
          have y4 := HC3.out.c4
          have y5 := HC3.out.c5
          have y6 := HC3.out.c6
          have y7 := HC3.out.c7
          simp only at y0 y1 y2 y5 y6 y7
          have yf := HC3.out.fz
          go_wp2_with fail
          generalize (((((((wv3.setCell _ _).setCell _ _).setCell _ _).setCell _ _).setCell _ _).setCell _ _).setCell _ _).setCell _ _ = W3 at *
          clear y0 y1 y2 y3 y4 y5 y6 y7 yf
          try rw [hm]
          with_reducible refine (CA.out _ _ _ _ _ _ _ HL3.out.q.ra HL3.out.q.rt).mono ?_
          rintro e wv4 ⟨a4x, n4x, d4x, a4y, n4y, d4y, rfl, hra, hrt, hka, hkt, hb⟩
          have HC4 := Lib.hid (HL3.out.q.go hb)
          have HL4 := Lib.hid (HL3.out.set (s' := ⟨qb, qt, qd, qa, qo, qf, qe, qc⟩) hb hra hrt hka hkt)
          simp only at HL4
          clear hra hrt hka hkt hb
          have y0 := HC4.out.c0
          have y1 := HC4.out.c1
          have y2 := HC4.out.c2
          have y3 := HC4.out.c3
          have y4 := HC4.out.c4
          have y5 := HC4.out.c5
          have y6 := HC4.out.c6
          have y7 := HC4.out.c7
          simp only at y0 y1 y2 y5 y6 y7
          have yf := HC4.out.fz
          go_wp2_with fail
          generalize (((((((wv4.setCell _ _).setCell _ _).setCell _ _).setCell _ _).setCell _ _).setCell _ _).setCell _ _).setCell _ _ = W4 at *
          clear y0 y1 y2 y3 y4 y5 y6 y7 yf
          with_reducible refine (CD.out _ _ _).mono ?_
          rintro e wd ⟨rfl, hb⟩
          have HL5 := Lib.hid (HL4.out.go hb)
          clear hb
          go_wp2_with fail
          go_roundw
          case rel => exact ⟨k + 1, _, _, _, _, _, _, _, by go_num, by omega, HI2, HL5⟩
          case measure => simp [intOf]; omega
        · have hfi : N.fin = false := by rw [hf, decide_eq_false hq]; rfl
          have CS := Lib.hid (fun W (k1 : Rd W (.slice a1 n1 c1) s.ak) (k2 : Rd W (.slice a2 n2 c2) s.td) => sent_any s a1 n1 c1 a2 n2 c2 N.off (N.d.size : Int) N.fin W hso (by omega) (by omega) k1 k2 h0 (by omega))
          have hok3 := sent_ok hso N.off (N.d.size : Int) N.fin
          have hen3 := en_sent s N.off (N.d.size : Int) N.fin
          have hen0 := HI.out.en
          generalize sentS s N.off (N.d.size : Int) N.fin = S1 at *
          rw [hen0] at hen3
          have hlen3 := hok3.mid.len (by omega)
          have hcl3 := came_len hok3 (by omega) N.off (N.d.size : Int)
          have CA := Lib.hid (fun (a1 : Option Addr) (n1 c1 : Nat) (a2 : Option Addr) (n2 c2 : Nat) W (k1 : Rd W (.slice a1 n1 c1) S1.ak) (k2 : Rd W (.slice a2 n2 c2) S1.td) => acked_any S1 a1 n1 c1 a2 n2 c2 N.off (N.d.size : Int) N.fin W hok3 (by have := rd_len k1; omega) (by have := rd_len k2; omega) k1 k2 h0 (by omega) hcl3)
          generalize ackS S1 N.off (N.d.size : Int) N.fin = S2 at *
          have HI2 := Lib.hid hI2
          have CD := Lib.hid (fun (u v : Value) W => done_any S2 u v W)
          rw [hd2] at CD
          obtain ⟨o, D, fi, iz⟩ := N
          simp only at hz h0 h1 hq hfi CS CA CD CN
          subst hz
          subst hfi
          obtain ⟨m, hm⟩ : ∃ m : Nat, D.size = m := ⟨_, rfl⟩
          rw [hm] at h1 hq CS CA
          have v1 : IntKind.u64.wrap (m : Int) = (m : Int) := IntWalk.u64_in _ (by omega)
          have v2 : IntKind.u64.wrap (o + (m : Int)) = o + (m : Int) := IntWalk.u64_in _ (by omega)
          have v3 : IntKind.u64.wrap L = L := IntWalk.u64_in _ (by omega)
          have d3 : (o + (m : Int) == L) = false := by rw [beq_eq_false_iff_ne]; omega
          replace hm := Lib.hid hm
          clear h0 h1 hf ho hI2 hd2 hq hlen hr1 hr2 hso hok3 hen3 hen0 hlen3 hcl3 HI hI0 hbd
          obtain ⟨sb, st, sd, sa, so, sf, se, sc⟩ := s
          obtain ⟨pb, pt, pd, pa, po, pf, pe, pc⟩ := S1
          obtain ⟨qb, qt, qd, qa, qo, qf, qe, qc⟩ := S2
          simp only at HL CS CA CD HI2
          have y0 := HL.out.q.c0
          have y1 := HL.out.q.c1
          have y2 := HL.out.q.c2
          have y3 := HL.out.q.c3
          have y4 := HL.out.q.c4
          have y5 := HL.out.q.c5
          have y6 := HL.out.q.c6
          have y7 := HL.out.q.c7
          simp only at y0 y1 y2 y5 y6 y7
          have yf := HL.out.q.fz
          go_wp2_with fail
          with_reducible refine (CN.out).mono ?_
          rintro e wn2 ⟨rfl, hb⟩
          have HL2 := Lib.hid (HL.out.go hb)
          clear hb
          have y0 := HL2.out.q.c0
          have y1 := HL2.out.q.c1
          have y2 := HL2.out.q.c2
          have y3 := HL2.out.q.c3
          have y4 := HL2.out.q.c4
          have y5 := HL2.out.q.c5
          have y6 := HL2.out.q.c6
          have y7 := HL2.out.q.c7
          simp only at y0 y1 y2 y5 y6 y7
          have yf := HL2.out.q.fz
          clear CN
          have hm := hm.out
          go_wp2_with fail
          try rw [hm]
          with_reducible refine (CS.out _ HL2.out.q.ra HL2.out.q.rt).mono ?_
          rintro e wv3 ⟨a3x, n3x, d3x, a3y, n3y, d3y, rfl, hra, hrt, hka, hkt, hb⟩
          have HC3 := Lib.hid (HL2.out.q.go hb)
          have HL3 := Lib.hid (HL2.out.set (s' := ⟨pb, pt, pd, pa, po, pf, pe, pc⟩) hb hra hrt hka hkt)
          simp only at HL3
          clear hra hrt hka hkt hb
          have y0 := HC3.out.c0
          have y1 := HC3.out.c1
          have y2 := HC3.out.c2
          have y3 := HC3.out.c3
          have y4 := HC3.out.c4
          have y5 := HC3.out.c5
          have y6 := HC3.out.c6
          have y7 := HC3.out.c7
          simp only at y0 y1 y2 y5 y6 y7
          have yf := HC3.out.fz
          go_wp2_with fail
          generalize (((((((wv3.setCell _ _).setCell _ _).setCell _ _).setCell _ _).setCell _ _).setCell _ _).setCell _ _).setCell _ _ = W3 at *
          clear y0 y1 y2 y3 y4 y5 y6 y7 yf
          try rw [hm]
          with_reducible refine (CA.out _ _ _ _ _ _ _ HL3.out.q.ra HL3.out.q.rt).mono ?_
          rintro e wv4 ⟨a4x, n4x, d4x, a4y, n4y, d4y, rfl, hra, hrt, hka, hkt, hb⟩
          have HC4 := Lib.hid (HL3.out.q.go hb)
          have HL4 := Lib.hid (HL3.out.set (s' := ⟨qb, qt, qd, qa, qo, qf, qe, qc⟩) hb hra hrt hka hkt)
          simp only at HL4
          clear hra hrt hka hkt hb
          have y0 := HC4.out.c0
          have y1 := HC4.out.c1
          have y2 := HC4.out.c2
          have y3 := HC4.out.c3
          have y4 := HC4.out.c4
          have y5 := HC4.out.c5
          have y6 := HC4.out.c6
          have y7 := HC4.out.c7
          simp only at y0 y1 y2 y5 y6 y7
          have yf := HC4.out.fz
          go_wp2_with fail
          generalize (((((((wv4.setCell _ _).setCell _ _).setCell _ _).setCell _ _).setCell _ _).setCell _ _).setCell _ _).setCell _ _ = W4 at *
          clear y0 y1 y2 y3 y4 y5 y6 y7 yf
          with_reducible refine (CD.out _ _ _).mono ?_
          rintro e wd ⟨rfl, hb⟩
          have HL5 := Lib.hid (HL4.out.go hb)
          clear hb
          go_wp2_with fail
          go_roundw
          case rel => exact ⟨k + 1, _, _, _, _, _, _, _, by go_num, by omega, HI2, HL5⟩
          case measure => simp [intOf]; omega
    · obtain rfl : k = 250 := by omega
      have hb : s.ba = L := by
        rcases HI.out.md with h1 | h1
        · rcases h1.2.2 with h2 | h2
          · have h3 := en_ge s; have h4 := HI.out.en; omega
          · exact h2.2
        · exact h1.2.1
      have hlen := HI.out.ok.mid.len (by rw [HI.out.en]; exact hL)
      have hr1 := rd_len HL.out.q.ra
      have hr2 := rd_len HL.out.q.rt
      have hso := HI.out.ok
      have hd := hlt
      have hE := HI.out.ends
      have hfa : (finS s).fa = false := by
        rcases hE.md with h1 | h1
        · exact h1.2.1
        · rcases HI.out.md with h2 | h2
          · have e : (finS s).fa = s.fa := by unfold finS; split <;> rfl
            rw [e]; exact h2.2.1
          · cases h2.1
      have hba : (finS s).ba = L := by
        have e : (finS s).ba = s.ba := by unfold finS; split <;> rfl
        rw [e]; exact hb
      obtain ⟨q1, q2, q3⟩ := hE.last hL hba hfa hn1
      have CF := Lib.hid (fun (a1 : Option Addr) (n1 c1 : Nat) (a2 : Option Addr) (n2 c2 : Nat) W (k1 : Rd W (.slice a1 n1 c1) s.ak) (k2 : Rd W (.slice a2 n2 c2) s.td) => finish_any s a1 n1 c1 a2 n2 c2 W (by have := rd_len k1; omega) (by have := rd_len k2; omega) k1 k2)
      have hlen2 := hE.ok.mid.len (by rw [hE.en]; exact hL)
      have hok2 := hE.ok
      have hen2 := hE.en
      generalize finS s = S1 at *
      have CN2 := Lib.hid (fun (a1 : Option Addr) (n1 c1 : Nat) (a2 : Option Addr) (n2 c2 : Nat) W (k1 : Rd W (.slice a1 n1 c1) S1.ak) (k2 : Rd W (.slice a2 n2 c2) S1.td) => next_any S1 a1 n1 c1 a2 n2 c2 n 0 W hok2 k1 k2 (by omega) (by decide) _ q1)
      have CD := Lib.hid (fun (u v : Value) W => done_any S1 u v W)
      rw [q2] at CD
      have CS := Lib.hid (fun (a1 : Option Addr) (n1 c1 : Nat) (a2 : Option Addr) (n2 c2 : Nat) W (k1 : Rd W (.slice a1 n1 c1) S1.ak) (k2 : Rd W (.slice a2 n2 c2) S1.td) => sent_any S1 a1 n1 c1 a2 n2 c2 L 0 true W hok2 (by have := rd_len k1; omega) (by have := rd_len k2; omega) k1 k2 hL0 (by omega))
      have hok3 := sent_ok hok2 L 0 true
      have hen3 := en_sent S1 L 0 true
      generalize sentS S1 L 0 true = S2 at *
      rw [hen2] at hen3
      have hlen3 := hok3.mid.len (by omega)
      have hcl3 := came_len hok3 (by omega) L 0
      have CA := Lib.hid (fun (a1 : Option Addr) (n1 c1 : Nat) (a2 : Option Addr) (n2 c2 : Nat) W (k1 : Rd W (.slice a1 n1 c1) S2.ak) (k2 : Rd W (.slice a2 n2 c2) S2.td) => acked_any S2 a1 n1 c1 a2 n2 c2 L 0 true W hok3 (by have := rd_len k1; omega) (by have := rd_len k2; omega) k1 k2 hL0 (by omega) hcl3)
      generalize ackS S2 L 0 true = S3 at *
      have CE := Lib.hid (fun (u v : Value) W => done_any S3 u v W)
      rw [q3] at CE
      clear hE hfa hba q1 q2 q3 hlen2 hok2 hen2 hok3 hen3 hlen3 hcl3 hb hd hlen hr1 hr2 hso HI hI0 hbd
      obtain ⟨sb, st, sd, sa, so, sf, se, sc⟩ := s
      obtain ⟨pb, pt, pd, pa, po, pf, pe, pc⟩ := S1
      obtain ⟨qb, qt, qd, qa, qo, qf, qe, qc⟩ := S2
      obtain ⟨rb, rt, rd, ra, ro, rf, re, rc⟩ := S3
      simp only at HL CF CN2 CD CS CA CE
      have y0 := HL.out.q.c0
      have y1 := HL.out.q.c1
      have y2 := HL.out.q.c2
      have y3 := HL.out.q.c3
      have y4 := HL.out.q.c4
      have y5 := HL.out.q.c5
      have y6 := HL.out.q.c6
      have y7 := HL.out.q.c7
      simp only at y0 y1 y2 y5 y6 y7
      have yf := HL.out.q.fz
      go_wp2_with fail
      have HL2 := HL
      with_reducible refine (CF.out _ _ _ _ _ _ _ HL2.out.q.ra HL2.out.q.rt).mono ?_
      rintro e wv3 ⟨a3x, n3x, d3x, a3y, n3y, d3y, rfl, hra, hrt, hka, hkt, hb⟩
      have HC3 := Lib.hid (HL2.out.q.go hb)
      have HL3 := Lib.hid (HL2.out.set (s' := ⟨pb, pt, pd, pa, po, pf, pe, pc⟩) hb hra hrt hka hkt)
      simp only at HL3
      clear hra hrt hka hkt hb
      have y0 := HC3.out.c0
      have y1 := HC3.out.c1
      have y2 := HC3.out.c2
      have y3 := HC3.out.c3
      have y4 := HC3.out.c4
      have y5 := HC3.out.c5
      have y6 := HC3.out.c6
      have y7 := HC3.out.c7
      simp only at y0 y1 y2 y5 y6 y7
      have yf := HC3.out.fz
      go_wp2_with fail
      generalize (((((((wv3.setCell _ _).setCell _ _).setCell _ _).setCell _ _).setCell _ _).setCell _ _).setCell _ _).setCell _ _ = W3 at *
      clear y0 y1 y2 y3 y4 y5 y6 y7 yf
      with_reducible refine (CN2.out _ _ _ _ _ _ _ HL3.out.q.ra HL3.out.q.rt).mono ?_
      rintro e wn4 ⟨rfl, hb⟩
      have HL4 := Lib.hid (HL3.out.go hb)
      clear hb
      have y0 := HL4.out.q.c0
      have y1 := HL4.out.q.c1
      have y2 := HL4.out.q.c2
      have y3 := HL4.out.q.c3
      have y4 := HL4.out.q.c4
      have y5 := HL4.out.q.c5
      have y6 := HL4.out.q.c6
      have y7 := HL4.out.q.c7
      simp only at y0 y1 y2 y5 y6 y7
      have yf := HL4.out.q.fz
      go_wp2_with fail
      with_reducible refine (CD.out _ _ _).mono ?_
      rintro e wd ⟨rfl, hb⟩
      have HL5 := Lib.hid (HL4.out.go hb)
      clear hb
      clear y0 y1 y2 y3 y4 y5 y6 y7 yf
      have y0 := HL5.out.q.c0
      have y1 := HL5.out.q.c1
      have y2 := HL5.out.q.c2
      have y3 := HL5.out.q.c3
      have y4 := HL5.out.q.c4
      have y5 := HL5.out.q.c5
      have y6 := HL5.out.q.c6
      have y7 := HL5.out.q.c7
      simp only at y0 y1 y2 y5 y6 y7
      have yf := HL5.out.q.fz
      go_wp2_with fail
      with_reducible refine (CS.out _ _ _ _ _ _ _ HL5.out.q.ra HL5.out.q.rt).mono ?_
      rintro e we ⟨b1, m1, d1, b2, m2, d2, rfl, hra, hrt, hka, hkt, hb⟩
      have HL6 := Lib.hid (HL5.out.go hb)
      have HRA := Lib.hid hra
      have HRT := Lib.hid hrt
      clear hra hrt hka hkt hb
      go_wp2_with fail
      with_reducible refine (CA.out _ _ _ _ _ _ _ HRA.out HRT.out).mono ?_
      rintro e wf ⟨b3, m3, d3, b4, m4, d4, rfl, hra, hrt, hka, hkt, hb⟩
      have HL7 := Lib.hid (HL6.out.go hb)
      clear hra hrt hka hkt hb
      go_wp2_with fail
      with_reducible refine (CE.out _ _ _).mono ?_
      rintro e wg ⟨rfl, hb⟩
      have HL8 := Lib.hid (HL7.out.go hb)
      clear hb
      go_wp2_with fail
      go_ret
      exact ⟨rfl, HL8.out.bl⟩
set_option maxHeartbeats 1000000 in
theorem end_big (T : ByteArray) (most : Int) (al : Bool) (w : World) (hT : 200 < T.size) :
    Calls Try.prog 7 #[.string T, .int .u8 most, .bool al] w fun e w' => e = .returned (.bool true) ∧ Below w.heap.size w w' := by
  have CH := Lib.hid (fun W => shown15_any W)
  have hbig : (200 : Int) < (T.size : Int) := by omega
  clear hT
  go_enter Try.func7, Try.ntmps7
  go_wp2_with fail
  with_reducible refine (CH.out _).mono ?_
  rintro e w1 ⟨rfl, hb1⟩
  go_wp2_with fail
  go_ret
  exact ⟨rfl, hb1⟩
theorem law_end (T : ByteArray) (most : Int) (al : Bool) (w : World) (w0 : T.size ≤ maxLen) (w1 : (Lit.int .u8 most).wf = true) :
    Calls Try.prog 7 #[.string T, .int .u8 most, .bool al] w fun e w' => e = .returned (.bool true) ∧ Below w.heap.size w w' := by
  simp only [Lit.wf, Bool.and_eq_true, decide_eq_true_eq] at w1
  have h1 : most < 256 := by have := w1.2; simp [IntKind.max, IntKind.bits, IntKind.signed] at this; omega
  by_cases hT : T.size ≤ 200
  · cases al with
    | true => exact end_true T most _ _ w rfl hT w1.1 h1 rfl
    | false => exact end_false T most _ _ w rfl hT w1.1 h1 rfl
  · exact end_big T most al w (by omega)
end Go.Proofs.Ytedijfcagkedaaa.Rg
