/- Layer 15: the law that all is acknowledged in the end. By tools/gen-sendq-13.py. -/
import Derived.Test.YtedijfcagkedaaaSqQ
namespace Go.Proofs.Ytedijfcagkedaaa.Rg
set_option maxRecDepth 20000
open Go.RowKit Go.Shelf
set_option linter.unusedVariables false
set_option linter.unusedSimpArgs false

def AlR (T : ByteArray) (w : World) (g : Nat) (len : Nat) (ov iv : Value) (wr : World) : Prop :=
  ∃ (k : Nat) (a1 : Option Addr) (n1 c1 : Nat) (a2 : Option Addr) (n2 c2 : Nat) (s : SS) (oa : Option Addr) (on oc : Nat) (G : List Sg), ov = .slice oa on oc ∧ iv = .int .i64 k ∧ k ≤ len + 500 ∧ on = G.length ∧ Hid (AlI T s G) ∧
    Hid (len ≤ k → left T s G + ((k : Int) - (len : Int)) ≤ 402 ∨ left T s G = 0) ∧ Hid (AS w wr g (.slice a1 n1 c1) (.slice a2 n2 c2) s (.slice oa on oc) G)
theorem left_idle {T : ByteArray} {s : SS} (ht : s.td = []) (hf : s.ft = false) : left T s [] = 0 := by
  unfold left tdN
  rw [ht, hf, show cnt (hasB []) T.size = 0 from cnt_none (fun n => rfl) _]
  rfl
theorem size8 (g : Nat) (W : World) (x0 x1 x2 x3 x4 x5 x6 x7 : Value) : ((((((((W.setCell ⟨g, 0, none⟩ x0).setCell ⟨g, 1, none⟩ x1).setCell ⟨g, 2, none⟩ x2).setCell ⟨g, 3, none⟩ x3).setCell ⟨g, 4, none⟩ x4).setCell ⟨g, 5, none⟩ x5).setCell ⟨g, 6, none⟩ x6).setCell ⟨g, 7, none⟩ x7).heap.size = W.heap.size := by simp
theorem own_eq {q k n c : Nat} (h : (Value.slice (some ⟨q, 0, none⟩) n c).ownBlock = some k) : q = k := Option.some.inj h
theorem RowS.drop0 {w : World} {q n cap : Nat} {G : List Sg} (h : RowS w (.slice (some ⟨q, 0, none⟩) n cap) G) {k : Nat} (hk : k ≤ n) :
    RowS w (.slice (if cap = k then some ⟨q, 0, none⟩ else some ⟨q, k * 3, none⟩) (n - k) (cap - k)) (G.drop k) := by
  have h2 := h.drop hk
  have e : Option.map (fun x : Addr => x.add (k * 3)) (some ⟨q, 0, none⟩) = some ⟨q, k * 3, none⟩ := by rw [Option.map_some, Addr.add_lit, Nat.zero_add]
  rw [e] at h2
  exact h2
theorem bne_self (A : ByteArray) : (A.toList != A.toList) = false := by simp
set_option maxHeartbeats 1000000 in
theorem all_text (T : ByteArray) (a : Option Addr) (len cap : Nat) (w : World) (hT : 200 < T.size) :
    Calls Try.prog 4 #[.string T, .slice a len cap] w fun e w' => e = .returned (.bool true) ∧ Below w.heap.size w w' := by
  have CH := Lib.hid (fun W => shown15_any W)
  have d1 : (200 : Int) < (T.size : Int) := by omega
  go_enter Try.func4, Try.ntmps4
  go_wp2_with fail
  with_reducible refine (CH.out _).mono ?_
  rintro e w1 ⟨rfl, hb1⟩
  go_wp2_with fail
  go_ret
  exact ⟨rfl, hb1⟩
set_option maxHeartbeats 1000000 in
theorem all_picks (T : ByteArray) (a : Option Addr) (len cap : Nat) (w : World) (hT : T.size ≤ 200) (hr : 200 < len) :
    Calls Try.prog 4 #[.string T, .slice a len cap] w fun e w' => e = .returned (.bool true) ∧ Below w.heap.size w w' := by
  have CH := Lib.hid (fun W => shown15_any W)
  have d1 : ¬ (200 : Int) < (T.size : Int) := by omega
  have d2 : (200 : Int) < (len : Int) := by omega
  go_enter Try.func4, Try.ntmps4
  go_wp2_with fail
  with_reducible refine (CH.out _).mono ?_
  rintro e w1 ⟨rfl, hb1⟩
  go_wp2_with fail
  go_ret
  exact ⟨rfl, hb1⟩
set_option maxHeartbeats 16000000 in
theorem all_main (T : ByteArray) (a : Option Addr) (len cap : Nat) (z : List Int) (w : World) (hT : T.size ≤ 200) (hL : len ≤ 200) (hz : RI .u8 w a len cap z) :
    Calls Try.prog 4 #[.string T, .slice a len cap] w fun e w' => e = .returned (.bool true) ∧ Below w.heap.size w w' := by
  have CH := Lib.hid (fun W => shown15_any W)
  have d1 : ¬ (200 : Int) < (T.size : Int) := by omega
  have d2 : ¬ (200 : Int) < (len : Int) := by omega
  have v3 : IntKind.u64.wrap (T.size : Int) = (T.size : Int) := IntWalk.u64_in _ (by omega)
  have v4 : IntKind.i64.wrap ((len : Int) + 500) = (len : Int) + 500 := IntWalk.i64_in _ (by omega)
  have HZ := Lib.hid hz
  obtain ⟨hN0, hok0, hak0, hen0, hI0⟩ := alI_first hT
  have hlen0 := hok0.mid.len (by omega)
  have CW := Lib.hid (fun W => write_any s00 none 0 0 none 0 0 T 300 W ss00 (by show (0 : Int) + ((0 : Nat) : Int) + (T.size : Int) ≤ 1000000; omega) (by decide) (by decide) (by decide) (rd00 W) (rd00 W))
  rw [hN0] at CW
  generalize wrS s00 T 300 = S0 at *
  have CF := Lib.hid (fun (a1 : Option Addr) (n1 c1 : Nat) (a2 : Option Addr) (n2 c2 : Nat) W (k1 : Rd W (.slice a1 n1 c1) S0.ak) (k2 : Rd W (.slice a2 n2 c2) S0.td) => finish_any S0 a1 n1 c1 a2 n2 c2 W (by have := rd_len k1; omega) (by have := rd_len k2; omega) k1 k2)
  generalize finS S0 = S9 at *
  have HI0 := Lib.hid hI0
  have HJ0 : Hid (len ≤ 0 → left T S9 [] + (((0 : Nat) : Int) - (len : Int)) ≤ 402 ∨ left T S9 [] = 0) := Lib.hid (fun h => by have := hI0.most; omega)
  obtain ⟨xb, xt, xd, xa, xo, xf, xe, xc⟩ := S0
  obtain ⟨zb, zt, zd, za, zo, zf, ze, zc⟩ := S9
  unfold GvN s00 at CW
  simp only at CW CF
  clear hN0 hok0 hak0 hen0 hI0 hlen0 hz
  go_enter Try.func4, Try.ntmps4
  go_wp2_with fail
  with_reducible refine (CH.out _).mono ?_
  rintro e w1 ⟨rfl, hb1⟩
  have HB1 := Lib.hid hb1
  clear hb1
  go_wp2_with fail
  with_reducible refine (CW.out _).mono ?_
  rintro e w2 ⟨a1, n1, d1, a2, n2, d2, rfl, hra, hrt, hka, hkt, hb⟩
  have HL0 := Lib.hid (ls_made w w2 (.slice a1 n1 d1) (.slice a2 n2 d2) ⟨xb, xt, xd, xa, xo, xf, xe, xc⟩ (nextG HB1.out hb) hra hrt)
  simp only at HL0
  clear hra hrt hka hkt hb CW
  go_wp2_with fail
  with_reducible refine (CF.out _ _ _ _ _ _ _ HL0.out.q.ra HL0.out.q.rt).mono ?_
  rintro e wv1 ⟨a1x, n1x, d1x, a1y, n1y, d1y, rfl, hra, hrt, hka, hkt, hb⟩
  have HC1 := Lib.hid (HL0.out.q.go hb)
  have HL1 := Lib.hid (HL0.out.set (s' := ⟨zb, zt, zd, za, zo, zf, ze, zc⟩) hb hra hrt hka hkt)
  simp only at HL1
  clear hra hrt hka hkt hb
  have y0 := HC1.out.c0
  have y1 := HC1.out.c1
  have y2 := HC1.out.c2
  have y3 := HC1.out.c3
  have y4 := HC1.out.c4
  have y5 := HC1.out.c5
  have y6 := HC1.out.c6
  have y7 := HC1.out.c7
  simp only at y0 y1 y2 y5 y6 y7
  have yf := HC1.out.fz
  have hs1 := size8 w2.heap.size wv1 (.int .u64 zb) (.int .u64 zt) (.string zd) (.slice a1x n1x d1x) (.slice a1y n1y d1y) (.bool zf) (.bool ze) (.bool zc)
  replace hs1 := Lib.hid hs1
  go_wp2_with fail
  generalize (((((((wv1.setCell _ _).setCell _ _).setCell _ _).setCell _ _).setCell _ _).setCell _ _).setCell _ _).setCell _ _ = W1 at *
  clear y0 y1 y2 y3 y4 y5 y6 y7 yf
  clear CF
  have HA1 : Hid (AS w (W1.alloc (.cells #[] 57)) w2.heap.size (.slice a1x n1x d1x) (.slice a1y n1y d1y) ⟨zb, zt, zd, za, zo, zf, ze, zc⟩ (.slice (some ⟨W1.heap.size, 0, none⟩) 0 0) []) := Lib.hid ⟨HL1.out.al _, (ownS_made W1).mono HL1.out.bl.size, fun q hq => by
    cases hq
    show W1.heap.size ≠ w2.heap.size ∧ ¬ Blk _ W1.heap.size ∧ ¬ Blk _ W1.heap.size
    exact ⟨by have := HL1.out.lt; omega, fun h => by have := HL1.out.q.ra.blk h; omega, fun h => by have := HL1.out.q.rt.blk h; omega⟩⟩
  rw [hs1.out] at HA1
  go_wp2_with fail
  go_loopw [7, 8, 9, 10, 11, 12, 13, 14, 15] (fun ov iv _ _ _ _ _ _ _ wr => AlR T w w2.heap.size len ov iv wr) (fun _ iv _ _ _ _ _ _ _ _ => len + 500 - (intOf iv).toNat)
  case atStart => exact ⟨0, _, _, _, _, _, _, _, _, _, _, _, rfl, rfl, Nat.zero_le _, rfl, HI0, HJ0, HA1⟩
  case round =>
    obtain ⟨k, a1, n1, c1, a2, n2, c2, s, oa, on, oc, G, rfl, rfl, hk, hon, HI, HJ, HA⟩ := hrel
    clear HI0 HJ0 HA1 HL1 HL0
    obtain ⟨g, hg⟩ : ∃ g, w2.heap.size = g := ⟨_, rfl⟩
    rw [hg] at HA ⊢
    replace hg := Lib.hid hg
    have hmost := HI.out.most
    have hGl : G.length ≤ 402 := by have h1 := cnt_range (hasB s.td) T.size; have h2 := b1_range s.ft; unfold left tdN at hmost; omega
    by_cases hlt : k < len + 500
    · have hlt2 : (k : Int) < (len : Int) + 500 := by omega
      have k0 : (0 : Int) ≤ (k : Int) := by omega
      have hok := HI.out.ok
      have hen := HI.out.en
      have hlen := hok.mid.len (by omega)
      have hr1 := rd_len HA.out.ls.q.ra
      have hr2 := rd_len HA.out.ls.q.rt
      by_cases hA : k < len
      · obtain ⟨b, o, rfl, hcell, hwf⟩ := HZ.out.2 k hA
        obtain ⟨p, hp⟩ : ∃ p, z.getD k 0 = p := ⟨_, rfl⟩
        rw [hp] at hcell hwf
        simp only [Lit.wf, Bool.and_eq_true, decide_eq_true_eq] at hwf
        have p0 : 0 ≤ p := hwf.1
        have p1 : p < 256 := by have := hwf.2; simp [IntKind.max, IntKind.bits, IntKind.signed] at this; omega
        have hpc := hcell wr HA.out.ls.bl
        have hcp := HZ.out.1
        have hA2 : (k : Int) < (len : Int) := by omega
        clear hcell hwf hp
        have r0 : 0 ≤ p.tmod 3 := Int.tmod_nonneg _ p0
        have r1 : p.tmod 3 < 3 := Int.tmod_lt_of_pos _ (by decide)
        have m0 : 0 ≤ p.tmod 20 := Int.tmod_nonneg _ p0
        have m1 : p.tmod 20 < 20 := Int.tmod_lt_of_pos _ (by decide)
        obtain ⟨M, hM⟩ : ∃ x, p.tmod 20 = x := ⟨_, rfl⟩
        rw [hM] at m0 m1
        obtain ⟨mo, hmo⟩ : ∃ x, 1 + M = x := ⟨_, rfl⟩
        have u1p : IntKind.i64.wrap p = p := IntWalk.i64_in _ (by omega)
        have u2p : IntKind.i64.wrap M = M := IntWalk.i64_in _ (by omega)
        have u3p : IntKind.i64.wrap (1 + M) = mo := by rw [hmo]; exact IntWalk.i64_in _ (by omega)
        by_cases hr3 : p.tmod 3 = 0
        · have w0q : IntKind.u8.wrap (p.tmod 3) = 0 := by rw [hr3]; rfl
          obtain ⟨N, hN⟩ : ∃ N, nxt s mo 1000 = N := ⟨_, rfl⟩
          have CN := Lib.hid (next_any s a1 n1 c1 a2 n2 c2 mo 1000 wr hok HA.out.ls.q.ra HA.out.ls.q.rt (by omega) (by decide) N hN)
          rcases HI.out.next hT (show (1 : Int) ≤ mo by omega) hN with ⟨hz, ht, hf⟩ | ⟨hi, h0, h1, hx, hfe, hI2, hl2⟩
          · subst hz
            clear hN
            have HJ2 : Hid (len ≤ k + 1 → left T s G + (((k + 1 : Nat) : Int) - (len : Int)) ≤ 402 ∨ left T s G = 0) := Lib.hid (fun h9 => by have h2 := hmost; omega)
            clear hok hen hlen hr1 hr2 hmost hGl ht hf HJ
            replace hon := Lib.hid hon
            unfold nx0 at CN
            obtain ⟨sb, st, sd, sa, so, sf, se, sc⟩ := s
            try simp only at CN HA
            have y0 := HA.out.ls.q.c0
            have y1 := HA.out.ls.q.c1
            have y2 := HA.out.ls.q.c2
            have y3 := HA.out.ls.q.c3
            have y4 := HA.out.ls.q.c4
            have y5 := HA.out.ls.q.c5
            have y6 := HA.out.ls.q.c6
            have y7 := HA.out.ls.q.c7
            simp only at y0 y1 y2 y5 y6 y7
            have yf := HA.out.ls.q.fz
            go_wp2_with fail
            with_reducible refine CN.out.mono ?_
            rintro e wn ⟨rfl, hb⟩
            have HA2 := Lib.hid (HA.out.go hb)
            clear hb CN
            go_wp2_with fail
            go_roundw
            case rel => exact ⟨k + 1, _, _, _, _, _, _, _, _, _, _, _, rfl, by go_num, by omega, hon.out, HI, HJ2, HA2⟩
            case measure => simp [intOf]; omega
          · clear hN
            have hI2m := hI2.most
            have HJ2 : Hid (len ≤ k + 1 → left T (sentS s N.off (N.d.size : Int) N.fin) (G ++ [⟨N.off, (N.d.size : Int), N.fin⟩]) + (((k + 1 : Nat) : Int) - (len : Int)) ≤ 402 ∨ left T (sentS s N.off (N.d.size : Int) N.fin) (G ++ [⟨N.off, (N.d.size : Int), N.fin⟩]) = 0) := Lib.hid (fun h9 => by have h1 := HJ.out; omega)
            have CS := Lib.hid (fun W (k1 : Rd W (.slice a1 n1 c1) s.ak) (k2 : Rd W (.slice a2 n2 c2) s.td) => sent_any s a1 n1 c1 a2 n2 c2 N.off (N.d.size : Int) N.fin W hok (by omega) (by omega) k1 k2 h0 (by omega))
            have HI2 := Lib.hid hI2
            generalize sentS s N.off (N.d.size : Int) N.fin = S2 at *
            obtain ⟨o9, D, fi, iz⟩ := N
            simp only at hi h0 h1 hx hfe CS CN HI2 HJ2
            subst hi
            obtain ⟨m, hm⟩ : ∃ m : Nat, D.size = m := ⟨_, rfl⟩
            rw [hm] at h1 hx hfe CS HI2 HJ2
            have u1 : IntKind.u64.wrap (m : Int) = (m : Int) := IntWalk.u64_in _ (by omega)
            have u2 : IntKind.u64.wrap (o9 + (m : Int)) = o9 + (m : Int) := IntWalk.u64_in _ (by omega)
            have g1 : ¬ (T.size : Int) < o9 + (m : Int) := by omega
            have g2 : o9 ≤ o9 + (m : Int) := by omega
            have hds := bne_self D
            clear hok hen hlen hr1 hr2 hmost HJ hI2 hl2 hI2m
            replace hon := Lib.hid hon
            obtain ⟨sb, st, sd, sa, so, sf, se, sc⟩ := s
            obtain ⟨qb, qt, qd, qa, qo, qf, qe, qc⟩ := S2
            simp only at CS HA
            cases fi with
            | false =>
              clear hfe
              have y0 := HA.out.ls.q.c0
              have y1 := HA.out.ls.q.c1
              have y2 := HA.out.ls.q.c2
              have y3 := HA.out.ls.q.c3
              have y4 := HA.out.ls.q.c4
              have y5 := HA.out.ls.q.c5
              have y6 := HA.out.ls.q.c6
              have y7 := HA.out.ls.q.c7
              simp only at y0 y1 y2 y5 y6 y7
              have yf := HA.out.ls.q.fz
              go_wp2_with fail
              with_reducible refine CN.out.mono ?_
              rintro e wn ⟨rfl, hb⟩
              have HA2 := Lib.hid (HA.out.go hb)
              clear hb CN y0 y1 y2 y3 y4 y5 y6 y7 yf
              have y0 := HA2.out.ls.q.c0
              have y1 := HA2.out.ls.q.c1
              have y2 := HA2.out.ls.q.c2
              have y3 := HA2.out.ls.q.c3
              have y4 := HA2.out.ls.q.c4
              have y5 := HA2.out.ls.q.c5
              have y6 := HA2.out.ls.q.c6
              have y7 := HA2.out.ls.q.c7
              simp only at y0 y1 y2 y5 y6 y7
              have yf := HA2.out.ls.q.fz
              have hx := hx
              go_wp2_with fail
              with_reducible refine (CS.out _ HA2.out.ls.q.ra HA2.out.ls.q.rt).mono ?_
              rintro e wv3 ⟨a3x, n3x, d3x, a3y, n3y, d3y, rfl, hra, hrt, hka, hkt, hb⟩
              have HC3 := Lib.hid (HA2.out.ls.q.go hb)
              have HA3 := Lib.hid (HA2.out.set (s' := ⟨qb, qt, qd, qa, qo, qf, qe, qc⟩) hb hra hrt hka hkt)
              simp only at HA3
              clear hra hrt hka hkt hb
              have y0 := HC3.out.c0
              have y1 := HC3.out.c1
              have y2 := HC3.out.c2
              have y3 := HC3.out.c3
              have y4 := HC3.out.c4
              have y5 := HC3.out.c5
              have y6 := HC3.out.c6
              have y7 := HC3.out.c7
              simp only at y0 y1 y2 y5 y6 y7
              have yf := HC3.out.fz
              go_upto_region 22 with (fail)
              generalize (((((((wv3.setCell _ _).setCell _ _).setCell _ _).setCell _ _).setCell _ _).setCell _ _).setCell _ _).setCell _ _ = W3 at *
              clear y0 y1 y2 y3 y4 y5 y6 y7 yf
              have HA4 := Lib.hid (HA3.out.al (.cells #[.int .u64 o9, .int .i64 (m : Int), .bool false] 57))
              have HR4 := Lib.hid (rowS_one W3 ⟨o9, (m : Int), false⟩)
              simp only at HR4
              have hb4 := HA4.out.ls.bl.size
              go_wp2_with (at_builtin; refine wpList_append_S _ rfl _ _ rfl w.heap.size (.slice oa on oc) rfl G HA4.out.ow (.slice (some ⟨W3.heap.size, 0, none⟩) 1 1) rfl [⟨o9, (m : Int), false⟩] HR4.out (by simp <;> omega) (by first | exact hb4 | (simp at hb4 ⊢; omega)) ?_)
              intro oa2 on2 oc2 w9 hn9 ho9 hg9 he9
              replace hn9 := Lib.hid hn9
              have HA5 := Lib.hid (HA4.out.app ho9 hg9 (he9.imp id (fun h => by rw [h]; simp)))
              clear ho9 hg9 he9 hb4
              go_wp2_with fail
              go_roundw
              case rel => exact ⟨k + 1, _, _, _, _, _, _, _, _, _, _, _, rfl, by go_num, by omega, by first | exact hn9.out | (rw [List.length_append]; exact hn9.out) | (have := hn9.out; simp at this ⊢; omega), HI2, HJ2, HA5⟩
              case measure => simp [intOf]; omega
            | true =>
              replace hfe := Lib.hid (hfe rfl)
              have d9 : (o9 + (m : Int) == (T.size : Int)) = true := by rw [beq_iff_eq]; exact hfe.out
              have d8 : (o9 + (m : Int) != (T.size : Int)) = false := by rw [hfe.out]; simp
              have y0 := HA.out.ls.q.c0
              have y1 := HA.out.ls.q.c1
              have y2 := HA.out.ls.q.c2
              have y3 := HA.out.ls.q.c3
              have y4 := HA.out.ls.q.c4
              have y5 := HA.out.ls.q.c5
              have y6 := HA.out.ls.q.c6
              have y7 := HA.out.ls.q.c7
              simp only at y0 y1 y2 y5 y6 y7
              have yf := HA.out.ls.q.fz
              go_wp2_with fail
              with_reducible refine CN.out.mono ?_
              rintro e wn ⟨rfl, hb⟩
              have HA2 := Lib.hid (HA.out.go hb)
              clear hb CN y0 y1 y2 y3 y4 y5 y6 y7 yf
              have y0 := HA2.out.ls.q.c0
              have y1 := HA2.out.ls.q.c1
              have y2 := HA2.out.ls.q.c2
              have y3 := HA2.out.ls.q.c3
              have y4 := HA2.out.ls.q.c4
              have y5 := HA2.out.ls.q.c5
              have y6 := HA2.out.ls.q.c6
              have y7 := HA2.out.ls.q.c7
              simp only at y0 y1 y2 y5 y6 y7
              have yf := HA2.out.ls.q.fz
              have hx := hx
              go_wp2_with fail
              with_reducible refine (CS.out _ HA2.out.ls.q.ra HA2.out.ls.q.rt).mono ?_
              rintro e wv3 ⟨a3x, n3x, d3x, a3y, n3y, d3y, rfl, hra, hrt, hka, hkt, hb⟩
              have HC3 := Lib.hid (HA2.out.ls.q.go hb)
              have HA3 := Lib.hid (HA2.out.set (s' := ⟨qb, qt, qd, qa, qo, qf, qe, qc⟩) hb hra hrt hka hkt)
              simp only at HA3
              clear hra hrt hka hkt hb
              have y0 := HC3.out.c0
              have y1 := HC3.out.c1
              have y2 := HC3.out.c2
              have y3 := HC3.out.c3
              have y4 := HC3.out.c4
              have y5 := HC3.out.c5
              have y6 := HC3.out.c6
              have y7 := HC3.out.c7
              simp only at y0 y1 y2 y5 y6 y7
              have yf := HC3.out.fz
              go_upto_region 22 with (fail)
              generalize (((((((wv3.setCell _ _).setCell _ _).setCell _ _).setCell _ _).setCell _ _).setCell _ _).setCell _ _).setCell _ _ = W3 at *
              clear y0 y1 y2 y3 y4 y5 y6 y7 yf
              have HA4 := Lib.hid (HA3.out.al (.cells #[.int .u64 o9, .int .i64 (m : Int), .bool true] 57))
              have HR4 := Lib.hid (rowS_one W3 ⟨o9, (m : Int), true⟩)
              simp only at HR4
              have hb4 := HA4.out.ls.bl.size
              go_wp2_with (at_builtin; refine wpList_append_S _ rfl _ _ rfl w.heap.size (.slice oa on oc) rfl G HA4.out.ow (.slice (some ⟨W3.heap.size, 0, none⟩) 1 1) rfl [⟨o9, (m : Int), true⟩] HR4.out (by simp <;> omega) (by first | exact hb4 | (simp at hb4 ⊢; omega)) ?_)
              intro oa2 on2 oc2 w9 hn9 ho9 hg9 he9
              replace hn9 := Lib.hid hn9
              have HA5 := Lib.hid (HA4.out.app ho9 hg9 (he9.imp id (fun h => by rw [h]; simp)))
              clear ho9 hg9 he9 hb4
              go_wp2_with fail
              go_roundw
              case rel => exact ⟨k + 1, _, _, _, _, _, _, _, _, _, _, _, rfl, by go_num, by omega, by first | exact hn9.out | (rw [List.length_append]; exact hn9.out) | (have := hn9.out; simp at this ⊢; omega), HI2, HJ2, HA5⟩
              case measure => simp [intOf]; omega
        · by_cases hG0 : G.length = 0
          · obtain rfl : G = [] := List.eq_nil_of_length_eq_zero (by omega)
            simp only [List.length_nil] at hon
            subst hon
            obtain ⟨R3, hR3⟩ : ∃ x, p.tmod 3 = x := ⟨_, rfl⟩
            rw [hR3] at r0 r1 hr3
            have w0q : IntKind.u8.wrap R3 = R3 := by rw [IntKind.wrap_u8]; omega
            have w5q : (R3 == 0) = false := beq_eq_false_iff_ne.2 hr3
            obtain ⟨N, hN⟩ : ∃ N, nxt s mo 1000 = N := ⟨_, rfl⟩
            have CN := Lib.hid (next_any s a1 n1 c1 a2 n2 c2 mo 1000 wr hok HA.out.ls.q.ra HA.out.ls.q.rt (by omega) (by decide) N hN)
            rcases HI.out.next hT (show (1 : Int) ≤ mo by omega) hN with ⟨hz, ht, hf⟩ | ⟨hi, h0, h1, hx, hfe, hI2, hl2⟩
            · subst hz
              clear hN
              have HJ2 : Hid (len ≤ k + 1 → left T s [] + (((k + 1 : Nat) : Int) - (len : Int)) ≤ 402 ∨ left T s [] = 0) := Lib.hid (fun h9 => by have h2 := hmost; omega)
              clear hok hen hlen hr1 hr2 hmost hGl ht hf HJ
              unfold nx0 at CN
              obtain ⟨sb, st, sd, sa, so, sf, se, sc⟩ := s
              try simp only at CN HA
              have y0 := HA.out.ls.q.c0
              have y1 := HA.out.ls.q.c1
              have y2 := HA.out.ls.q.c2
              have y3 := HA.out.ls.q.c3
              have y4 := HA.out.ls.q.c4
              have y5 := HA.out.ls.q.c5
              have y6 := HA.out.ls.q.c6
              have y7 := HA.out.ls.q.c7
              simp only at y0 y1 y2 y5 y6 y7
              have yf := HA.out.ls.q.fz
              go_wp2_with fail
              with_reducible refine CN.out.mono ?_
              rintro e wn ⟨rfl, hb⟩
              have HA2 := Lib.hid (HA.out.go hb)
              clear hb CN
              go_wp2_with fail
              go_roundw
              case rel => exact ⟨k + 1, _, _, _, _, _, _, _, _, _, _, _, rfl, by go_num, by omega, rfl, HI, HJ2, HA2⟩
              case measure => simp [intOf]; omega
            · clear hN
              have hI2m := hI2.most
              have HJ2 : Hid (len ≤ k + 1 → left T (sentS s N.off (N.d.size : Int) N.fin) ([] ++ [⟨N.off, (N.d.size : Int), N.fin⟩]) + (((k + 1 : Nat) : Int) - (len : Int)) ≤ 402 ∨ left T (sentS s N.off (N.d.size : Int) N.fin) ([] ++ [⟨N.off, (N.d.size : Int), N.fin⟩]) = 0) := Lib.hid (fun h9 => by have h1 := HJ.out; omega)
              have CS := Lib.hid (fun W (k1 : Rd W (.slice a1 n1 c1) s.ak) (k2 : Rd W (.slice a2 n2 c2) s.td) => sent_any s a1 n1 c1 a2 n2 c2 N.off (N.d.size : Int) N.fin W hok (by omega) (by omega) k1 k2 h0 (by omega))
              have HI2 := Lib.hid hI2
              generalize sentS s N.off (N.d.size : Int) N.fin = S2 at *
              obtain ⟨o9, D, fi, iz⟩ := N
              simp only at hi h0 h1 hx hfe CS CN HI2 HJ2
              subst hi
              obtain ⟨m, hm⟩ : ∃ m : Nat, D.size = m := ⟨_, rfl⟩
              rw [hm] at h1 hx hfe CS HI2 HJ2
              have u1 : IntKind.u64.wrap (m : Int) = (m : Int) := IntWalk.u64_in _ (by omega)
              have u2 : IntKind.u64.wrap (o9 + (m : Int)) = o9 + (m : Int) := IntWalk.u64_in _ (by omega)
              have g1 : ¬ (T.size : Int) < o9 + (m : Int) := by omega
              have g2 : o9 ≤ o9 + (m : Int) := by omega
              have hds := bne_self D
              clear hok hen hlen hr1 hr2 hmost HJ hI2 hl2 hI2m
              obtain ⟨sb, st, sd, sa, so, sf, se, sc⟩ := s
              obtain ⟨qb, qt, qd, qa, qo, qf, qe, qc⟩ := S2
              simp only at CS HA
              cases fi with
              | false =>
                clear hfe
                have y0 := HA.out.ls.q.c0
                have y1 := HA.out.ls.q.c1
                have y2 := HA.out.ls.q.c2
                have y3 := HA.out.ls.q.c3
                have y4 := HA.out.ls.q.c4
                have y5 := HA.out.ls.q.c5
                have y6 := HA.out.ls.q.c6
                have y7 := HA.out.ls.q.c7
                simp only at y0 y1 y2 y5 y6 y7
                have yf := HA.out.ls.q.fz
                go_wp2_with fail
                with_reducible refine CN.out.mono ?_
                rintro e wn ⟨rfl, hb⟩
                have HA2 := Lib.hid (HA.out.go hb)
                clear hb CN y0 y1 y2 y3 y4 y5 y6 y7 yf
                have y0 := HA2.out.ls.q.c0
                have y1 := HA2.out.ls.q.c1
                have y2 := HA2.out.ls.q.c2
                have y3 := HA2.out.ls.q.c3
                have y4 := HA2.out.ls.q.c4
                have y5 := HA2.out.ls.q.c5
                have y6 := HA2.out.ls.q.c6
                have y7 := HA2.out.ls.q.c7
                simp only at y0 y1 y2 y5 y6 y7
                have yf := HA2.out.ls.q.fz
                have hx := hx
                go_wp2_with fail
                with_reducible refine (CS.out _ HA2.out.ls.q.ra HA2.out.ls.q.rt).mono ?_
                rintro e wv3 ⟨a3x, n3x, d3x, a3y, n3y, d3y, rfl, hra, hrt, hka, hkt, hb⟩
                have HC3 := Lib.hid (HA2.out.ls.q.go hb)
                have HA3 := Lib.hid (HA2.out.set (s' := ⟨qb, qt, qd, qa, qo, qf, qe, qc⟩) hb hra hrt hka hkt)
                simp only at HA3
                clear hra hrt hka hkt hb
                have y0 := HC3.out.c0
                have y1 := HC3.out.c1
                have y2 := HC3.out.c2
                have y3 := HC3.out.c3
                have y4 := HC3.out.c4
                have y5 := HC3.out.c5
                have y6 := HC3.out.c6
                have y7 := HC3.out.c7
                simp only at y0 y1 y2 y5 y6 y7
                have yf := HC3.out.fz
                go_upto_region 22 with (fail)
                generalize (((((((wv3.setCell _ _).setCell _ _).setCell _ _).setCell _ _).setCell _ _).setCell _ _).setCell _ _).setCell _ _ = W3 at *
                clear y0 y1 y2 y3 y4 y5 y6 y7 yf
                have HA4 := Lib.hid (HA3.out.al (.cells #[.int .u64 o9, .int .i64 (m : Int), .bool false] 57))
                have HR4 := Lib.hid (rowS_one W3 ⟨o9, (m : Int), false⟩)
                simp only at HR4
                have hb4 := HA4.out.ls.bl.size
                go_wp2_with (at_builtin; refine wpList_append_S _ rfl _ _ rfl w.heap.size (.slice oa 0 oc) rfl [] HA4.out.ow (.slice (some ⟨W3.heap.size, 0, none⟩) 1 1) rfl [⟨o9, (m : Int), false⟩] HR4.out (by simp <;> omega) (by first | exact hb4 | (simp at hb4 ⊢; omega)) ?_)
                intro oa2 on2 oc2 w9 hn9 ho9 hg9 he9
                replace hn9 := Lib.hid hn9
                have HA5 := Lib.hid (HA4.out.app ho9 hg9 (he9.imp id (fun h => by rw [h]; simp)))
                clear ho9 hg9 he9 hb4
                go_wp2_with fail
                go_roundw
                case rel => exact ⟨k + 1, _, _, _, _, _, _, _, _, _, _, _, rfl, by go_num, by omega, by first | exact hn9.out | (rw [List.length_append]; exact hn9.out) | (have := hn9.out; simp at this ⊢; omega), HI2, HJ2, HA5⟩
                case measure => simp [intOf]; omega
              | true =>
                replace hfe := Lib.hid (hfe rfl)
                have d9 : (o9 + (m : Int) == (T.size : Int)) = true := by rw [beq_iff_eq]; exact hfe.out
                have d8 : (o9 + (m : Int) != (T.size : Int)) = false := by rw [hfe.out]; simp
                have y0 := HA.out.ls.q.c0
                have y1 := HA.out.ls.q.c1
                have y2 := HA.out.ls.q.c2
                have y3 := HA.out.ls.q.c3
                have y4 := HA.out.ls.q.c4
                have y5 := HA.out.ls.q.c5
                have y6 := HA.out.ls.q.c6
                have y7 := HA.out.ls.q.c7
                simp only at y0 y1 y2 y5 y6 y7
                have yf := HA.out.ls.q.fz
                go_wp2_with fail
                with_reducible refine CN.out.mono ?_
                rintro e wn ⟨rfl, hb⟩
                have HA2 := Lib.hid (HA.out.go hb)
                clear hb CN y0 y1 y2 y3 y4 y5 y6 y7 yf
                have y0 := HA2.out.ls.q.c0
                have y1 := HA2.out.ls.q.c1
                have y2 := HA2.out.ls.q.c2
                have y3 := HA2.out.ls.q.c3
                have y4 := HA2.out.ls.q.c4
                have y5 := HA2.out.ls.q.c5
                have y6 := HA2.out.ls.q.c6
                have y7 := HA2.out.ls.q.c7
                simp only at y0 y1 y2 y5 y6 y7
                have yf := HA2.out.ls.q.fz
                have hx := hx
                go_wp2_with fail
                with_reducible refine (CS.out _ HA2.out.ls.q.ra HA2.out.ls.q.rt).mono ?_
                rintro e wv3 ⟨a3x, n3x, d3x, a3y, n3y, d3y, rfl, hra, hrt, hka, hkt, hb⟩
                have HC3 := Lib.hid (HA2.out.ls.q.go hb)
                have HA3 := Lib.hid (HA2.out.set (s' := ⟨qb, qt, qd, qa, qo, qf, qe, qc⟩) hb hra hrt hka hkt)
                simp only at HA3
                clear hra hrt hka hkt hb
                have y0 := HC3.out.c0
                have y1 := HC3.out.c1
                have y2 := HC3.out.c2
                have y3 := HC3.out.c3
                have y4 := HC3.out.c4
                have y5 := HC3.out.c5
                have y6 := HC3.out.c6
                have y7 := HC3.out.c7
                simp only at y0 y1 y2 y5 y6 y7
                have yf := HC3.out.fz
                go_upto_region 22 with (fail)
                generalize (((((((wv3.setCell _ _).setCell _ _).setCell _ _).setCell _ _).setCell _ _).setCell _ _).setCell _ _).setCell _ _ = W3 at *
                clear y0 y1 y2 y3 y4 y5 y6 y7 yf
                have HA4 := Lib.hid (HA3.out.al (.cells #[.int .u64 o9, .int .i64 (m : Int), .bool true] 57))
                have HR4 := Lib.hid (rowS_one W3 ⟨o9, (m : Int), true⟩)
                simp only at HR4
                have hb4 := HA4.out.ls.bl.size
                go_wp2_with (at_builtin; refine wpList_append_S _ rfl _ _ rfl w.heap.size (.slice oa 0 oc) rfl [] HA4.out.ow (.slice (some ⟨W3.heap.size, 0, none⟩) 1 1) rfl [⟨o9, (m : Int), true⟩] HR4.out (by simp <;> omega) (by first | exact hb4 | (simp at hb4 ⊢; omega)) ?_)
                intro oa2 on2 oc2 w9 hn9 ho9 hg9 he9
                replace hn9 := Lib.hid hn9
                have HA5 := Lib.hid (HA4.out.app ho9 hg9 (he9.imp id (fun h => by rw [h]; simp)))
                clear ho9 hg9 he9 hb4
                go_wp2_with fail
                go_roundw
                case rel => exact ⟨k + 1, _, _, _, _, _, _, _, _, _, _, _, rfl, by go_num, by omega, by first | exact hn9.out | (rw [List.length_append]; exact hn9.out) | (have := hn9.out; simp at this ⊢; omega), HI2, HJ2, HA5⟩
                case measure => simp [intOf]; omega
          · have hpos : (0 : Int) < (on : Int) := by omega
            have q0 : 0 ≤ p.tdiv 3 := Int.tdiv_nonneg p0 (by decide)
            have q1 : p.tdiv 3 ≤ p := Int.tdiv_le_self _ p0
            obtain ⟨Qd, hQd⟩ : ∃ x, p.tdiv 3 = x := ⟨_, rfl⟩
            rw [hQd] at q0 q1
            have w1q : IntKind.u8.wrap Qd = Qd := by rw [IntKind.wrap_u8]; omega
            have w2q : IntKind.i64.wrap Qd = Qd := IntWalk.i64_in _ (by omega)
            have t0 : 0 ≤ Qd.tmod (on : Int) := Int.tmod_nonneg _ q0
            have t1 : Qd.tmod (on : Int) < (on : Int) := Int.tmod_lt_of_pos _ (by omega)
            obtain ⟨K, hK⟩ : ∃ K : Nat, Qd.tmod (on : Int) = (K : Int) := ⟨(Qd.tmod (on : Int)).toNat, by omega⟩
            rw [hK] at t0 t1
            have w3q : IntKind.i64.wrap (K : Int) = (K : Int) := IntWalk.i64_in _ (by omega)
            have w4q : IntKind.i64.wrap ((K : Int) + 1) = (K : Int) + 1 := IntWalk.i64_in _ (by omega)
            have ne0 : ((on : Int) == 0) = false := by rw [beq_eq_false_iff_ne]; omega
            have kb1 : (K : Int) ≤ (oc : Int) := by have h9 := HA.out.ow.row; obtain ⟨_, _, e9, h8, _⟩ := h9; cases e9; omega
            have kb2 : (K : Int) + 1 ≤ (on : Int) := by omega
            have w5k : ((K : Int) + 1).toNat = K + 1 := by omega
            have w6k : (0 : Int) ≤ (K : Int) + 1 := by omega
            clear q0 q1 p0 p1
            by_cases hm1 : p.tmod 3 = 1
            · have w0q : IntKind.u8.wrap (p.tmod 3) = 1 := by rw [hm1]; rfl
              clear hr3 r0 r1
              obtain ⟨x, hxx⟩ : ∃ x, G.getD K sgZ = x := ⟨_, rfl⟩
              have hKl : K < G.length := by omega
              have hpo := HI.out.po x (by rw [← hxx]; simp [List.getD, hKl])
              obtain ⟨hI2, hl2⟩ := HI.out.ack hKl hxx
              have hI2m := hI2.most
              have HJ2 : Hid (len ≤ k + 1 → left T (ackS s x.off x.n x.f) (rmv K G) + (((k + 1 : Nat) : Int) - (len : Int)) ≤ 402 ∨ left T (ackS s x.off x.n x.f) (rmv K G) = 0) := Lib.hid (fun h9 => by have h1 := HJ.out; omega)
              have CT := Lib.hid (fun (a1 : Option Addr) (n1 c1 : Nat) (a2 : Option Addr) (n2 c2 : Nat) W (k1 : Rd W (.slice a1 n1 c1) s.ak) (k2 : Rd W (.slice a2 n2 c2) s.td) => acked_any s a1 n1 c1 a2 n2 c2 x.off x.n x.f W hok (by have := rd_len k1; omega) (by have := rd_len k2; omega) k1 k2 hpo.1 (by omega) (came_len hok (by omega) x.off x.n))
              have HI2 := Lib.hid hI2
              generalize ackS s x.off x.n x.f = S2 at *
              obtain ⟨q, rfl, hqn, hqc, hcell⟩ := HA.out.ow.some (show 0 < G.length by omega)
              obtain ⟨e0, e1, e2⟩ := hcell K hKl
              rw [hxx] at e0 e1 e2
              obtain ⟨xo, xn, xf⟩ := x
              simp only at e0 e1 e2 CT
              have HN2 : Hid (rmv K G = G.take K ++ G.drop (K + 1)) := Lib.hid rfl
              have HHQ : Hid (∀ k, (Value.slice (some ⟨q, 0, none⟩) on oc).ownBlock = some k → w.heap.size ≤ k ∧ k < wr.heap.size) := Lib.hid (fun k hk => HA.out.ow.lt hk)
              have HNG := Lib.hid HA.out.ng
              have hqlt : q < wr.heap.size := (HHQ.out q rfl).2
              have HGn := Lib.hid hon
              clear hon hqn hcell hxx hpo hI2 hI2m hok hen hlen hr1 hr2 hmost HJ hl2
              obtain ⟨sb, st, sd, sa, so, sf, se, sc⟩ := s
              obtain ⟨qb, qt, qd, qa, qo, qf, qe, qc⟩ := S2
              simp only at CT HA
              go_wp2_with fail
              have HX1 := Lib.hid (x3_made wr ⟨xo, xn, xf⟩)
              simp only at HX1
              have HA2 := Lib.hid (HA.out.al (.cells #[.int .u64 xo, .int .i64 xn, .bool xf] 57))
              have hqlt2 : q < (wr.alloc (.cells #[.int .u64 xo, .int .i64 xn, .bool xf] 57)).heap.size := by simp; omega
              have hp2 : wr.heap.size < (wr.alloc (.cells #[.int .u64 xo, .int .i64 xn, .bool xf] 57)).heap.size := by simp
              obtain ⟨px, hpx⟩ : ∃ p, wr.heap.size = p := ⟨_, rfl⟩
              rw [hpx] at hqlt hp2 HX1 ⊢
              clear e0 e1 e2
              generalize wr.alloc (.cells #[.int .u64 xo, .int .i64 xn, .bool xf] 57) = W2 at *
              refine wp_region_noPanic ?_
              refine wp_region_E (fun _ : World => True) (fun j => Nat.ble 10 j) (by kernel_rfl) ?_ (fun hHeld => ?_)
              · exact trivial
              refine wpAnyE_take (i := 1) (v := ?_) rfl (by kernel_rfl) (by kernel_rfl) (by kernel_rfl) (fun _ _ _ h => h) (Or.inl ⟨by rfl, ?_⟩) ?_
              rotate_left
              · (intro w hSw; go_simp; (try with_reducible rfl))
              try simp only [Act.put, List.getElem_toArray, List.getElem_cons_zero, List.getElem_cons_succ, List.setIfInBounds_toArray, List.set_cons_zero, List.set_cons_succ]
              refine wpAnyE_take (i := 2) (v := ?_) rfl (by kernel_rfl) (by kernel_rfl) (by kernel_rfl) (fun _ _ _ h => h) (Or.inl ⟨by rfl, ?_⟩) ?_
              rotate_left
              · (intro w hSw; go_simp; (try with_reducible rfl))
              try simp only [Act.put, List.getElem_toArray, List.getElem_cons_zero, List.getElem_cons_succ, List.setIfInBounds_toArray, List.set_cons_zero, List.set_cons_succ]
              refine wpAnyE_take (i := 3) (v := ?_) rfl (by kernel_rfl) (by kernel_rfl) (by kernel_rfl) (fun _ _ _ h => h) (Or.inl ⟨by rfl, ?_⟩) ?_
              rotate_left
              · (intro w hSw; go_simp; (try with_reducible rfl))
              try simp only [Act.put, List.getElem_toArray, List.getElem_cons_zero, List.getElem_cons_succ, List.setIfInBounds_toArray, List.set_cons_zero, List.set_cons_succ]
              refine wpAnyE_take (i := 5) (v := ?_) rfl (by kernel_rfl) (by kernel_rfl) (by kernel_rfl) (fun _ _ _ h => h) (Or.inl ⟨by rfl, ?_⟩) ?_
              rotate_left
              · (intro w hSw; go_simp; (try with_reducible rfl))
              try simp only [Act.put, List.getElem_toArray, List.getElem_cons_zero, List.getElem_cons_succ, List.setIfInBounds_toArray, List.set_cons_zero, List.set_cons_succ]
              refine wpAnyE_take (i := 6) (v := ?_) rfl (by kernel_rfl) (by kernel_rfl) (by kernel_rfl) (fun _ _ _ h => h) (Or.inl ⟨by rfl, ?_⟩) ?_
              rotate_left
              · (intro w hSw; go_simp; (try with_reducible rfl))
              try simp only [Act.put, List.getElem_toArray, List.getElem_cons_zero, List.getElem_cons_succ, List.setIfInBounds_toArray, List.set_cons_zero, List.set_cons_succ]
              refine wpAnyE_take (i := 7) (v := ?_) rfl (by kernel_rfl) (by kernel_rfl) (by kernel_rfl) (fun _ _ _ h => h) (Or.inl ⟨by rfl, ?_⟩) ?_
              rotate_left
              · (intro w hSw; go_simp; (try with_reducible rfl))
              try simp only [Act.put, List.getElem_toArray, List.getElem_cons_zero, List.getElem_cons_succ, List.setIfInBounds_toArray, List.set_cons_zero, List.set_cons_succ]
              refine wpAnyE_take (i := 8) (v := ?_) rfl (by kernel_rfl) (by kernel_rfl) (by kernel_rfl) (fun _ _ _ h => h) (Or.inl ⟨by rfl, ?_⟩) ?_
              rotate_left
              · (intro w hSw; go_simp; (try with_reducible rfl))
              try simp only [Act.put, List.getElem_toArray, List.getElem_cons_zero, List.getElem_cons_succ, List.setIfInBounds_toArray, List.set_cons_zero, List.set_cons_succ]
              refine wpAnyE_call (i := 0) (by kernel_rfl) rfl (by rfl) (fun K hK => ?_)
              go_simp
              have HA3 := Lib.hid (HA2.out.al (.cells #[] 57)).dr
              have HO3 := Lib.hid ((ownS_made W2).go (Below.refl _ _).drew)
              have HX3 := Lib.hid ((HX1.out.go ((Below.refl _ _).alloc (Nat.le_refl _) (.cells #[] 57))).go (Below.refl _ _).drew)
              have hz3 : W2.heap.size < (W2.alloc (.cells #[] 57)).drew.heap.size := by simp
              refine hK.out _ _ trivial (fun _ => ?_)
              clear hK K
              try simp only [Act.put, List.getElem_toArray, List.getElem_cons_zero, List.getElem_cons_succ, List.setIfInBounds_toArray, List.set_cons_zero, List.set_cons_succ]
              generalize (W2.alloc (.cells #[] 57)).drew = W3 at *
              obtain ⟨v4, w4, hr4, ho4, hg4, he4⟩ := run_append_S W3 W2.heap.size 55 (.slice (some ⟨W2.heap.size, 0, none⟩) 0 0) [] HO3.out (.slice (some ⟨q, 0, none⟩) (K) oc) (G.take K) ((HA3.out.ow.row).take (by omega)) (by simp <;> omega) (by omega)
              refine wpAnyE_call (i := 4) (by kernel_rfl) rfl (by rfl) (fun K hK => ?_)
              refine oper_append _ _ _ _ rfl _ _ rfl rfl hr4 ?_
              refine hK.out _ _ trivial (fun _ => ?_)
              clear hK K
              try simp only [Act.put, List.getElem_toArray, List.getElem_cons_zero, List.getElem_cons_succ, List.setIfInBounds_toArray, List.set_cons_zero, List.set_cons_succ]
              rw [List.nil_append] at ho4
              have HB4 : ∀ k, v4.ownBlock = some k → W2.heap.size ≤ k ∧ k < w4.heap.size := fun k hk => ho4.lt hk
              have HA4 := Lib.hid (HA3.out.far hg4 (fun p hp => by obtain rfl := own_eq hp; exact ⟨by have := HA2.out.ls.bl.size; omega, by have := HA2.out.ls.lt; omega, fun h => by have := HA2.out.ls.q.ra.blk h; omega, fun h => by have := HA2.out.ls.q.rt.blk h; omega, fun h => by have := own_eq h; omega⟩))
              have HX4 := Lib.hid (HX3.out.grown hg4 (fun h => by have := own_eq h; omega))
              obtain ⟨v5, w5, hr5, ho5, hg5, he5⟩ := run_append_S w4 W2.heap.size 55 v4 (G.take K) ho4 _ (G.drop (K + 1)) (RowS.drop0 (HA4.out.ow.row) (k := K + 1) (by omega)) (by simp <;> omega) (by have := hg4.size; omega)
              obtain ⟨a4, c4, rfl⟩ := ho4.form
              obtain ⟨a5, c5, rfl⟩ := ho5.form
              obtain ⟨n5, hn5⟩ : ∃ n, (G.take K ++ G.drop (K + 1)).length = n := ⟨_, rfl⟩
              rw [hn5] at hr5 ho5
              replace hn5 := Lib.hid hn5
              refine wpAnyE_call (i := 9) (by kernel_rfl) rfl (by rfl) (fun K hK => ?_)
              refine oper_append _ _ _ _ rfl _ _ rfl rfl hr5 ?_
              refine hK.out _ _ trivial (fun _ => ?_)
              clear hK K
              try simp only [Act.put, List.getElem_toArray, List.getElem_cons_zero, List.getElem_cons_succ, List.setIfInBounds_toArray, List.set_cons_zero, List.set_cons_succ]
              refine wpAnyE_take (i := 10) (v := ?_) rfl (by kernel_rfl) (by kernel_rfl) (by kernel_rfl) (fun _ _ _ h => h) (Or.inl ⟨by rfl, ?_⟩) ?_
              rotate_left
              · (intro w hSw; go_simp; (try with_reducible rfl))
              try simp only [Act.put, List.getElem_toArray, List.getElem_cons_zero, List.getElem_cons_succ, List.setIfInBounds_toArray, List.set_cons_zero, List.set_cons_succ]
              refine wpAnyE_done (by kernel_rfl) (NoPanic.normal ?_) _
              have HA5 := Lib.hid (HA4.out.far hg5 (fun p hp => ⟨by have := (HB4 p hp).1; have := HA2.out.ls.bl.size; omega, by have := (HB4 p hp).1; have := HA2.out.ls.lt; omega, fun h => by have := HA2.out.ls.q.ra.blk h; have := (HB4 p hp).1; omega, fun h => by have := HA2.out.ls.q.rt.blk h; have := (HB4 p hp).1; omega, fun h => by have := own_eq h; have := (HB4 p hp).1; omega⟩))
              have HX5 := Lib.hid (HX4.out.grown hg5 (fun h => by have := (HB4 px h).1; omega))
              have HA6 := Lib.hid (HA5.out.turn (ho5.mono HA2.out.ls.bl.size) (fun p hp => by have h5 := (ho5.lt hp).1; exact ⟨by have := HA2.out.ls.lt; omega, fun h => by have := HA2.out.ls.q.ra.blk h; omega, fun h => by have := HA2.out.ls.q.rt.blk h; omega⟩))
              have hx0 := HX5.out.c0
              have hx1 := HX5.out.c1
              have hx2 := HX5.out.c2
              simp only at hx0 hx1 hx2
              clear HA3 HA4 HA5 HO3 HX3 HX4 HB4 ho4 ho5 hg4 hg5 he4 he5 hr4 hr5
              try generalize (ite (oc = K + 1) (_ : Option Addr) _) = aX
              have y0 := HA6.out.ls.q.c0
              have y1 := HA6.out.ls.q.c1
              have y2 := HA6.out.ls.q.c2
              have y3 := HA6.out.ls.q.c3
              have y4 := HA6.out.ls.q.c4
              have y5 := HA6.out.ls.q.c5
              have y6 := HA6.out.ls.q.c6
              have y7 := HA6.out.ls.q.c7
              simp only at y0 y1 y2 y5 y6 y7
              have yf := HA6.out.ls.q.fz
              go_wp2_with fail
              with_reducible refine (CT.out _ _ _ _ _ _ _ HA6.out.ls.q.ra HA6.out.ls.q.rt).mono ?_
              rintro e wv7 ⟨a7x, n7x, d7x, a7y, n7y, d7y, rfl, hra, hrt, hka, hkt, hb⟩
              have HC7 := Lib.hid (HA6.out.ls.q.go hb)
              have HA7 := Lib.hid (HA6.out.set (s' := ⟨qb, qt, qd, qa, qo, qf, qe, qc⟩) hb hra hrt hka hkt)
              simp only at HA7
              clear hra hrt hka hkt hb
              have y0 := HC7.out.c0
              have y1 := HC7.out.c1
              have y2 := HC7.out.c2
              have y3 := HC7.out.c3
              have y4 := HC7.out.c4
              have y5 := HC7.out.c5
              have y6 := HC7.out.c6
              have y7 := HC7.out.c7
              simp only at y0 y1 y2 y5 y6 y7
              have yf := HC7.out.fz
              go_wp2_with fail
              generalize (((((((wv7.setCell _ _).setCell _ _).setCell _ _).setCell _ _).setCell _ _).setCell _ _).setCell _ _).setCell _ _ = W7 at *
              clear y0 y1 y2 y3 y4 y5 y6 y7 yf
              go_roundw
              case rel => exact ⟨k + 1, _, _, _, _, _, _, _, _, _, _, _, rfl, by go_num, by omega, by rw [HN2.out]; exact hn5.out.symm, HI2, HJ2, by rw [HN2.out]; exact HA7⟩
              case measure => simp [intOf]; omega
            · have hm2 : p.tmod 3 = 2 := by omega
              have w0q : IntKind.u8.wrap (p.tmod 3) = 2 := by rw [hm2]; rfl
              clear hr3 r0 r1 hm1
              obtain ⟨x, hxx⟩ : ∃ x, G.getD K sgZ = x := ⟨_, rfl⟩
              have hKl : K < G.length := by omega
              have hpo := HI.out.po x (by rw [← hxx]; simp [List.getD, hKl])
              have hI2 := HI.out.lost hKl hxx
              have hI2m := hI2.most
              have HJ2 : Hid (len ≤ k + 1 → left T (lostS s x.off x.n x.f) (rmv K G) + (((k + 1 : Nat) : Int) - (len : Int)) ≤ 402 ∨ left T (lostS s x.off x.n x.f) (rmv K G) = 0) := Lib.hid (fun h9 => by have h1 := HJ.out; omega)
              have CT := Lib.hid (fun (a1 : Option Addr) (n1 c1 : Nat) (a2 : Option Addr) (n2 c2 : Nat) W (k1 : Rd W (.slice a1 n1 c1) s.ak) (k2 : Rd W (.slice a2 n2 c2) s.td) => lost_any s a1 n1 c1 a2 n2 c2 x.off x.n x.f W hok (by have := rd_len k1; omega) (by have := rd_len k2; omega) k1 k2 hpo.1 (by omega))
              have HI2 := Lib.hid hI2
              generalize lostS s x.off x.n x.f = S2 at *
              obtain ⟨q, rfl, hqn, hqc, hcell⟩ := HA.out.ow.some (show 0 < G.length by omega)
              obtain ⟨e0, e1, e2⟩ := hcell K hKl
              rw [hxx] at e0 e1 e2
              obtain ⟨xo, xn, xf⟩ := x
              simp only at e0 e1 e2 CT
              have HN2 : Hid (rmv K G = G.take K ++ G.drop (K + 1)) := Lib.hid rfl
              have HHQ : Hid (∀ k, (Value.slice (some ⟨q, 0, none⟩) on oc).ownBlock = some k → w.heap.size ≤ k ∧ k < wr.heap.size) := Lib.hid (fun k hk => HA.out.ow.lt hk)
              have HNG := Lib.hid HA.out.ng
              have hqlt : q < wr.heap.size := (HHQ.out q rfl).2
              have HGn := Lib.hid hon
              clear hon hqn hcell hxx hpo hI2 hI2m hok hen hlen hr1 hr2 hmost HJ 
              obtain ⟨sb, st, sd, sa, so, sf, se, sc⟩ := s
              obtain ⟨qb, qt, qd, qa, qo, qf, qe, qc⟩ := S2
              simp only at CT HA
              go_wp2_with fail
              have HX1 := Lib.hid (x3_made wr ⟨xo, xn, xf⟩)
              simp only at HX1
              have HA2 := Lib.hid (HA.out.al (.cells #[.int .u64 xo, .int .i64 xn, .bool xf] 57))
              have hqlt2 : q < (wr.alloc (.cells #[.int .u64 xo, .int .i64 xn, .bool xf] 57)).heap.size := by simp; omega
              have hp2 : wr.heap.size < (wr.alloc (.cells #[.int .u64 xo, .int .i64 xn, .bool xf] 57)).heap.size := by simp
              obtain ⟨px, hpx⟩ : ∃ p, wr.heap.size = p := ⟨_, rfl⟩
              rw [hpx] at hqlt hp2 HX1 ⊢
              clear e0 e1 e2
              generalize wr.alloc (.cells #[.int .u64 xo, .int .i64 xn, .bool xf] 57) = W2 at *
              refine wp_region_noPanic ?_
              refine wp_region_E (fun _ : World => True) (fun j => Nat.ble 10 j) (by kernel_rfl) ?_ (fun hHeld => ?_)
              · exact trivial
              refine wpAnyE_take (i := 1) (v := ?_) rfl (by kernel_rfl) (by kernel_rfl) (by kernel_rfl) (fun _ _ _ h => h) (Or.inl ⟨by rfl, ?_⟩) ?_
              rotate_left
              · (intro w hSw; go_simp; (try with_reducible rfl))
              try simp only [Act.put, List.getElem_toArray, List.getElem_cons_zero, List.getElem_cons_succ, List.setIfInBounds_toArray, List.set_cons_zero, List.set_cons_succ]
              refine wpAnyE_take (i := 2) (v := ?_) rfl (by kernel_rfl) (by kernel_rfl) (by kernel_rfl) (fun _ _ _ h => h) (Or.inl ⟨by rfl, ?_⟩) ?_
              rotate_left
              · (intro w hSw; go_simp; (try with_reducible rfl))
              try simp only [Act.put, List.getElem_toArray, List.getElem_cons_zero, List.getElem_cons_succ, List.setIfInBounds_toArray, List.set_cons_zero, List.set_cons_succ]
              refine wpAnyE_take (i := 3) (v := ?_) rfl (by kernel_rfl) (by kernel_rfl) (by kernel_rfl) (fun _ _ _ h => h) (Or.inl ⟨by rfl, ?_⟩) ?_
              rotate_left
              · (intro w hSw; go_simp; (try with_reducible rfl))
              try simp only [Act.put, List.getElem_toArray, List.getElem_cons_zero, List.getElem_cons_succ, List.setIfInBounds_toArray, List.set_cons_zero, List.set_cons_succ]
              refine wpAnyE_take (i := 5) (v := ?_) rfl (by kernel_rfl) (by kernel_rfl) (by kernel_rfl) (fun _ _ _ h => h) (Or.inl ⟨by rfl, ?_⟩) ?_
              rotate_left
              · (intro w hSw; go_simp; (try with_reducible rfl))
              try simp only [Act.put, List.getElem_toArray, List.getElem_cons_zero, List.getElem_cons_succ, List.setIfInBounds_toArray, List.set_cons_zero, List.set_cons_succ]
              refine wpAnyE_take (i := 6) (v := ?_) rfl (by kernel_rfl) (by kernel_rfl) (by kernel_rfl) (fun _ _ _ h => h) (Or.inl ⟨by rfl, ?_⟩) ?_
              rotate_left
              · (intro w hSw; go_simp; (try with_reducible rfl))
              try simp only [Act.put, List.getElem_toArray, List.getElem_cons_zero, List.getElem_cons_succ, List.setIfInBounds_toArray, List.set_cons_zero, List.set_cons_succ]
              refine wpAnyE_take (i := 7) (v := ?_) rfl (by kernel_rfl) (by kernel_rfl) (by kernel_rfl) (fun _ _ _ h => h) (Or.inl ⟨by rfl, ?_⟩) ?_
              rotate_left
              · (intro w hSw; go_simp; (try with_reducible rfl))
              try simp only [Act.put, List.getElem_toArray, List.getElem_cons_zero, List.getElem_cons_succ, List.setIfInBounds_toArray, List.set_cons_zero, List.set_cons_succ]
              refine wpAnyE_take (i := 8) (v := ?_) rfl (by kernel_rfl) (by kernel_rfl) (by kernel_rfl) (fun _ _ _ h => h) (Or.inl ⟨by rfl, ?_⟩) ?_
              rotate_left
              · (intro w hSw; go_simp; (try with_reducible rfl))
              try simp only [Act.put, List.getElem_toArray, List.getElem_cons_zero, List.getElem_cons_succ, List.setIfInBounds_toArray, List.set_cons_zero, List.set_cons_succ]
              refine wpAnyE_call (i := 0) (by kernel_rfl) rfl (by rfl) (fun K hK => ?_)
              go_simp
              have HA3 := Lib.hid (HA2.out.al (.cells #[] 57)).dr
              have HO3 := Lib.hid ((ownS_made W2).go (Below.refl _ _).drew)
              have HX3 := Lib.hid ((HX1.out.go ((Below.refl _ _).alloc (Nat.le_refl _) (.cells #[] 57))).go (Below.refl _ _).drew)
              have hz3 : W2.heap.size < (W2.alloc (.cells #[] 57)).drew.heap.size := by simp
              refine hK.out _ _ trivial (fun _ => ?_)
              clear hK K
              try simp only [Act.put, List.getElem_toArray, List.getElem_cons_zero, List.getElem_cons_succ, List.setIfInBounds_toArray, List.set_cons_zero, List.set_cons_succ]
              generalize (W2.alloc (.cells #[] 57)).drew = W3 at *
              obtain ⟨v4, w4, hr4, ho4, hg4, he4⟩ := run_append_S W3 W2.heap.size 55 (.slice (some ⟨W2.heap.size, 0, none⟩) 0 0) [] HO3.out (.slice (some ⟨q, 0, none⟩) (K) oc) (G.take K) ((HA3.out.ow.row).take (by omega)) (by simp <;> omega) (by omega)
              refine wpAnyE_call (i := 4) (by kernel_rfl) rfl (by rfl) (fun K hK => ?_)
              refine oper_append _ _ _ _ rfl _ _ rfl rfl hr4 ?_
              refine hK.out _ _ trivial (fun _ => ?_)
              clear hK K
              try simp only [Act.put, List.getElem_toArray, List.getElem_cons_zero, List.getElem_cons_succ, List.setIfInBounds_toArray, List.set_cons_zero, List.set_cons_succ]
              rw [List.nil_append] at ho4
              have HB4 : ∀ k, v4.ownBlock = some k → W2.heap.size ≤ k ∧ k < w4.heap.size := fun k hk => ho4.lt hk
              have HA4 := Lib.hid (HA3.out.far hg4 (fun p hp => by obtain rfl := own_eq hp; exact ⟨by have := HA2.out.ls.bl.size; omega, by have := HA2.out.ls.lt; omega, fun h => by have := HA2.out.ls.q.ra.blk h; omega, fun h => by have := HA2.out.ls.q.rt.blk h; omega, fun h => by have := own_eq h; omega⟩))
              have HX4 := Lib.hid (HX3.out.grown hg4 (fun h => by have := own_eq h; omega))
              obtain ⟨v5, w5, hr5, ho5, hg5, he5⟩ := run_append_S w4 W2.heap.size 55 v4 (G.take K) ho4 _ (G.drop (K + 1)) (RowS.drop0 (HA4.out.ow.row) (k := K + 1) (by omega)) (by simp <;> omega) (by have := hg4.size; omega)
              obtain ⟨a4, c4, rfl⟩ := ho4.form
              obtain ⟨a5, c5, rfl⟩ := ho5.form
              obtain ⟨n5, hn5⟩ : ∃ n, (G.take K ++ G.drop (K + 1)).length = n := ⟨_, rfl⟩
              rw [hn5] at hr5 ho5
              replace hn5 := Lib.hid hn5
              refine wpAnyE_call (i := 9) (by kernel_rfl) rfl (by rfl) (fun K hK => ?_)
              refine oper_append _ _ _ _ rfl _ _ rfl rfl hr5 ?_
              refine hK.out _ _ trivial (fun _ => ?_)
              clear hK K
              try simp only [Act.put, List.getElem_toArray, List.getElem_cons_zero, List.getElem_cons_succ, List.setIfInBounds_toArray, List.set_cons_zero, List.set_cons_succ]
              refine wpAnyE_take (i := 10) (v := ?_) rfl (by kernel_rfl) (by kernel_rfl) (by kernel_rfl) (fun _ _ _ h => h) (Or.inl ⟨by rfl, ?_⟩) ?_
              rotate_left
              · (intro w hSw; go_simp; (try with_reducible rfl))
              try simp only [Act.put, List.getElem_toArray, List.getElem_cons_zero, List.getElem_cons_succ, List.setIfInBounds_toArray, List.set_cons_zero, List.set_cons_succ]
              refine wpAnyE_done (by kernel_rfl) (NoPanic.normal ?_) _
              have HA5 := Lib.hid (HA4.out.far hg5 (fun p hp => ⟨by have := (HB4 p hp).1; have := HA2.out.ls.bl.size; omega, by have := (HB4 p hp).1; have := HA2.out.ls.lt; omega, fun h => by have := HA2.out.ls.q.ra.blk h; have := (HB4 p hp).1; omega, fun h => by have := HA2.out.ls.q.rt.blk h; have := (HB4 p hp).1; omega, fun h => by have := own_eq h; have := (HB4 p hp).1; omega⟩))
              have HX5 := Lib.hid (HX4.out.grown hg5 (fun h => by have := (HB4 px h).1; omega))
              have HA6 := Lib.hid (HA5.out.turn (ho5.mono HA2.out.ls.bl.size) (fun p hp => by have h5 := (ho5.lt hp).1; exact ⟨by have := HA2.out.ls.lt; omega, fun h => by have := HA2.out.ls.q.ra.blk h; omega, fun h => by have := HA2.out.ls.q.rt.blk h; omega⟩))
              have hx0 := HX5.out.c0
              have hx1 := HX5.out.c1
              have hx2 := HX5.out.c2
              simp only at hx0 hx1 hx2
              clear HA3 HA4 HA5 HO3 HX3 HX4 HB4 ho4 ho5 hg4 hg5 he4 he5 hr4 hr5
              try generalize (ite (oc = K + 1) (_ : Option Addr) _) = aX
              have y0 := HA6.out.ls.q.c0
              have y1 := HA6.out.ls.q.c1
              have y2 := HA6.out.ls.q.c2
              have y3 := HA6.out.ls.q.c3
              have y4 := HA6.out.ls.q.c4
              have y5 := HA6.out.ls.q.c5
              have y6 := HA6.out.ls.q.c6
              have y7 := HA6.out.ls.q.c7
              simp only at y0 y1 y2 y5 y6 y7
              have yf := HA6.out.ls.q.fz
              go_wp2_with fail
              with_reducible refine (CT.out _ _ _ _ _ _ _ HA6.out.ls.q.ra HA6.out.ls.q.rt).mono ?_
              rintro e wv7 ⟨a7x, n7x, d7x, a7y, n7y, d7y, rfl, hra, hrt, hka, hkt, hb⟩
              have HC7 := Lib.hid (HA6.out.ls.q.go hb)
              have HA7 := Lib.hid (HA6.out.set (s' := ⟨qb, qt, qd, qa, qo, qf, qe, qc⟩) hb hra hrt hka hkt)
              simp only at HA7
              clear hra hrt hka hkt hb
              have y0 := HC7.out.c0
              have y1 := HC7.out.c1
              have y2 := HC7.out.c2
              have y3 := HC7.out.c3
              have y4 := HC7.out.c4
              have y5 := HC7.out.c5
              have y6 := HC7.out.c6
              have y7 := HC7.out.c7
              simp only at y0 y1 y2 y5 y6 y7
              have yf := HC7.out.fz
              go_wp2_with fail
              generalize (((((((wv7.setCell _ _).setCell _ _).setCell _ _).setCell _ _).setCell _ _).setCell _ _).setCell _ _).setCell _ _ = W7 at *
              clear y0 y1 y2 y3 y4 y5 y6 y7 yf
              go_roundw
              case rel => exact ⟨k + 1, _, _, _, _, _, _, _, _, _, _, _, rfl, by go_num, by omega, by rw [HN2.out]; exact hn5.out.symm, HI2, HJ2, by rw [HN2.out]; exact HA7⟩
              case measure => simp [intOf]; omega
      · have hA2 : ¬ (k : Int) < (len : Int) := by omega
        have hA3 : (len : Int) ≤ (k : Int) := by omega
        by_cases hG0 : G.length = 0
        · obtain rfl : G = [] := List.eq_nil_of_length_eq_zero (by omega)
          simp only [List.length_nil] at hon
          subst hon
          obtain ⟨N, hN⟩ : ∃ N, nxt s 1 1000 = N := ⟨_, rfl⟩
          have CN := Lib.hid (next_any s a1 n1 c1 a2 n2 c2 1 1000 wr hok HA.out.ls.q.ra HA.out.ls.q.rt (by omega) (by decide) N hN)
          rcases HI.out.next hT (show (1 : Int) ≤ 1 by omega) hN with ⟨hz, ht, hf⟩ | ⟨hi, h0, h1, hx, hfe, hI2, hl2⟩
          · subst hz
            clear hN
            have HJ2 : Hid (len ≤ k + 1 → left T s [] + (((k + 1 : Nat) : Int) - (len : Int)) ≤ 402 ∨ left T s [] = 0) := Lib.hid (fun h9 => by have h3 := left_idle (T := T) ht hf; exact .inr h3)
            clear hok hen hlen hr1 hr2 hmost hGl ht hf HJ
            unfold nx0 at CN
            obtain ⟨sb, st, sd, sa, so, sf, se, sc⟩ := s
            try simp only at CN HA
            have y0 := HA.out.ls.q.c0
            have y1 := HA.out.ls.q.c1
            have y2 := HA.out.ls.q.c2
            have y3 := HA.out.ls.q.c3
            have y4 := HA.out.ls.q.c4
            have y5 := HA.out.ls.q.c5
            have y6 := HA.out.ls.q.c6
            have y7 := HA.out.ls.q.c7
            simp only at y0 y1 y2 y5 y6 y7
            have yf := HA.out.ls.q.fz
            go_wp2_with fail
            with_reducible refine CN.out.mono ?_
            rintro e wn ⟨rfl, hb⟩
            have HA2 := Lib.hid (HA.out.go hb)
            clear hb CN
            go_wp2_with fail
            go_roundw
            case rel => exact ⟨k + 1, _, _, _, _, _, _, _, _, _, _, _, rfl, by go_num, by omega, rfl, HI, HJ2, HA2⟩
            case measure => simp [intOf]; omega
          · clear hN
            have hI2m := hI2.most
            have HJ2 : Hid (len ≤ k + 1 → left T (sentS s N.off (N.d.size : Int) N.fin) ([] ++ [⟨N.off, (N.d.size : Int), N.fin⟩]) + (((k + 1 : Nat) : Int) - (len : Int)) ≤ 402 ∨ left T (sentS s N.off (N.d.size : Int) N.fin) ([] ++ [⟨N.off, (N.d.size : Int), N.fin⟩]) = 0) := Lib.hid (fun h9 => by have h1 := HJ.out; omega)
            have CS := Lib.hid (fun W (k1 : Rd W (.slice a1 n1 c1) s.ak) (k2 : Rd W (.slice a2 n2 c2) s.td) => sent_any s a1 n1 c1 a2 n2 c2 N.off (N.d.size : Int) N.fin W hok (by omega) (by omega) k1 k2 h0 (by omega))
            have HI2 := Lib.hid hI2
            generalize sentS s N.off (N.d.size : Int) N.fin = S2 at *
            obtain ⟨o9, D, fi, iz⟩ := N
            simp only at hi h0 h1 hx hfe CS CN HI2 HJ2
            subst hi
            obtain ⟨m, hm⟩ : ∃ m : Nat, D.size = m := ⟨_, rfl⟩
            rw [hm] at h1 hx hfe CS HI2 HJ2
            have u1 : IntKind.u64.wrap (m : Int) = (m : Int) := IntWalk.u64_in _ (by omega)
            have u2 : IntKind.u64.wrap (o9 + (m : Int)) = o9 + (m : Int) := IntWalk.u64_in _ (by omega)
            have g1 : ¬ (T.size : Int) < o9 + (m : Int) := by omega
            have g2 : o9 ≤ o9 + (m : Int) := by omega
            have hds := bne_self D
            clear hok hen hlen hr1 hr2 hmost HJ hI2 hl2 hI2m
            obtain ⟨sb, st, sd, sa, so, sf, se, sc⟩ := s
            obtain ⟨qb, qt, qd, qa, qo, qf, qe, qc⟩ := S2
            simp only at CS HA
            cases fi with
            | false =>
              clear hfe
              have y0 := HA.out.ls.q.c0
              have y1 := HA.out.ls.q.c1
              have y2 := HA.out.ls.q.c2
              have y3 := HA.out.ls.q.c3
              have y4 := HA.out.ls.q.c4
              have y5 := HA.out.ls.q.c5
              have y6 := HA.out.ls.q.c6
              have y7 := HA.out.ls.q.c7
              simp only at y0 y1 y2 y5 y6 y7
              have yf := HA.out.ls.q.fz
              go_wp2_with fail
              with_reducible refine CN.out.mono ?_
              rintro e wn ⟨rfl, hb⟩
              have HA2 := Lib.hid (HA.out.go hb)
              clear hb CN y0 y1 y2 y3 y4 y5 y6 y7 yf
              have y0 := HA2.out.ls.q.c0
              have y1 := HA2.out.ls.q.c1
              have y2 := HA2.out.ls.q.c2
              have y3 := HA2.out.ls.q.c3
              have y4 := HA2.out.ls.q.c4
              have y5 := HA2.out.ls.q.c5
              have y6 := HA2.out.ls.q.c6
              have y7 := HA2.out.ls.q.c7
              simp only at y0 y1 y2 y5 y6 y7
              have yf := HA2.out.ls.q.fz
              have hx := hx
              go_wp2_with fail
              with_reducible refine (CS.out _ HA2.out.ls.q.ra HA2.out.ls.q.rt).mono ?_
              rintro e wv3 ⟨a3x, n3x, d3x, a3y, n3y, d3y, rfl, hra, hrt, hka, hkt, hb⟩
              have HC3 := Lib.hid (HA2.out.ls.q.go hb)
              have HA3 := Lib.hid (HA2.out.set (s' := ⟨qb, qt, qd, qa, qo, qf, qe, qc⟩) hb hra hrt hka hkt)
              simp only at HA3
              clear hra hrt hka hkt hb
              have y0 := HC3.out.c0
              have y1 := HC3.out.c1
              have y2 := HC3.out.c2
              have y3 := HC3.out.c3
              have y4 := HC3.out.c4
              have y5 := HC3.out.c5
              have y6 := HC3.out.c6
              have y7 := HC3.out.c7
              simp only at y0 y1 y2 y5 y6 y7
              have yf := HC3.out.fz
              go_upto_region 22 with (fail)
              generalize (((((((wv3.setCell _ _).setCell _ _).setCell _ _).setCell _ _).setCell _ _).setCell _ _).setCell _ _).setCell _ _ = W3 at *
              clear y0 y1 y2 y3 y4 y5 y6 y7 yf
              have HA4 := Lib.hid (HA3.out.al (.cells #[.int .u64 o9, .int .i64 (m : Int), .bool false] 57))
              have HR4 := Lib.hid (rowS_one W3 ⟨o9, (m : Int), false⟩)
              simp only at HR4
              have hb4 := HA4.out.ls.bl.size
              go_wp2_with (at_builtin; refine wpList_append_S _ rfl _ _ rfl w.heap.size (.slice oa 0 oc) rfl [] HA4.out.ow (.slice (some ⟨W3.heap.size, 0, none⟩) 1 1) rfl [⟨o9, (m : Int), false⟩] HR4.out (by simp <;> omega) (by first | exact hb4 | (simp at hb4 ⊢; omega)) ?_)
              intro oa2 on2 oc2 w9 hn9 ho9 hg9 he9
              replace hn9 := Lib.hid hn9
              have HA5 := Lib.hid (HA4.out.app ho9 hg9 (he9.imp id (fun h => by rw [h]; simp)))
              clear ho9 hg9 he9 hb4
              go_wp2_with fail
              go_roundw
              case rel => exact ⟨k + 1, _, _, _, _, _, _, _, _, _, _, _, rfl, by go_num, by omega, by first | exact hn9.out | (rw [List.length_append]; exact hn9.out) | (have := hn9.out; simp at this ⊢; omega), HI2, HJ2, HA5⟩
              case measure => simp [intOf]; omega
            | true =>
              replace hfe := Lib.hid (hfe rfl)
              have d9 : (o9 + (m : Int) == (T.size : Int)) = true := by rw [beq_iff_eq]; exact hfe.out
              have d8 : (o9 + (m : Int) != (T.size : Int)) = false := by rw [hfe.out]; simp
              have y0 := HA.out.ls.q.c0
              have y1 := HA.out.ls.q.c1
              have y2 := HA.out.ls.q.c2
              have y3 := HA.out.ls.q.c3
              have y4 := HA.out.ls.q.c4
              have y5 := HA.out.ls.q.c5
              have y6 := HA.out.ls.q.c6
              have y7 := HA.out.ls.q.c7
              simp only at y0 y1 y2 y5 y6 y7
              have yf := HA.out.ls.q.fz
              go_wp2_with fail
              with_reducible refine CN.out.mono ?_
              rintro e wn ⟨rfl, hb⟩
              have HA2 := Lib.hid (HA.out.go hb)
              clear hb CN y0 y1 y2 y3 y4 y5 y6 y7 yf
              have y0 := HA2.out.ls.q.c0
              have y1 := HA2.out.ls.q.c1
              have y2 := HA2.out.ls.q.c2
              have y3 := HA2.out.ls.q.c3
              have y4 := HA2.out.ls.q.c4
              have y5 := HA2.out.ls.q.c5
              have y6 := HA2.out.ls.q.c6
              have y7 := HA2.out.ls.q.c7
              simp only at y0 y1 y2 y5 y6 y7
              have yf := HA2.out.ls.q.fz
              have hx := hx
              go_wp2_with fail
              with_reducible refine (CS.out _ HA2.out.ls.q.ra HA2.out.ls.q.rt).mono ?_
              rintro e wv3 ⟨a3x, n3x, d3x, a3y, n3y, d3y, rfl, hra, hrt, hka, hkt, hb⟩
              have HC3 := Lib.hid (HA2.out.ls.q.go hb)
              have HA3 := Lib.hid (HA2.out.set (s' := ⟨qb, qt, qd, qa, qo, qf, qe, qc⟩) hb hra hrt hka hkt)
              simp only at HA3
              clear hra hrt hka hkt hb
              have y0 := HC3.out.c0
              have y1 := HC3.out.c1
              have y2 := HC3.out.c2
              have y3 := HC3.out.c3
              have y4 := HC3.out.c4
              have y5 := HC3.out.c5
              have y6 := HC3.out.c6
              have y7 := HC3.out.c7
              simp only at y0 y1 y2 y5 y6 y7
              have yf := HC3.out.fz
              go_upto_region 22 with (fail)
              generalize (((((((wv3.setCell _ _).setCell _ _).setCell _ _).setCell _ _).setCell _ _).setCell _ _).setCell _ _).setCell _ _ = W3 at *
              clear y0 y1 y2 y3 y4 y5 y6 y7 yf
              have HA4 := Lib.hid (HA3.out.al (.cells #[.int .u64 o9, .int .i64 (m : Int), .bool true] 57))
              have HR4 := Lib.hid (rowS_one W3 ⟨o9, (m : Int), true⟩)
              simp only at HR4
              have hb4 := HA4.out.ls.bl.size
              go_wp2_with (at_builtin; refine wpList_append_S _ rfl _ _ rfl w.heap.size (.slice oa 0 oc) rfl [] HA4.out.ow (.slice (some ⟨W3.heap.size, 0, none⟩) 1 1) rfl [⟨o9, (m : Int), true⟩] HR4.out (by simp <;> omega) (by first | exact hb4 | (simp at hb4 ⊢; omega)) ?_)
              intro oa2 on2 oc2 w9 hn9 ho9 hg9 he9
              replace hn9 := Lib.hid hn9
              have HA5 := Lib.hid (HA4.out.app ho9 hg9 (he9.imp id (fun h => by rw [h]; simp)))
              clear ho9 hg9 he9 hb4
              go_wp2_with fail
              go_roundw
              case rel => exact ⟨k + 1, _, _, _, _, _, _, _, _, _, _, _, rfl, by go_num, by omega, by first | exact hn9.out | (rw [List.length_append]; exact hn9.out) | (have := hn9.out; simp at this ⊢; omega), HI2, HJ2, HA5⟩
              case measure => simp [intOf]; omega
        · have hpos : (0 : Int) < (on : Int) := by omega
          have ne0 : ((on : Int) == 0) = false := by rw [beq_eq_false_iff_ne]; omega
          have t9 : Int.tmod 0 (on : Int) = 0 := Int.zero_tmod _
          have kb1 : (1 : Int) ≤ (on : Int) := by omega
          have w4q : IntKind.i64.wrap 1 = 1 := rfl
          obtain ⟨x, hxx⟩ : ∃ x, G.getD 0 sgZ = x := ⟨_, rfl⟩
          have hKl : 0 < G.length := by omega
          have hpo := HI.out.po x (by rw [← hxx]; simp [List.getD, hKl])
          obtain ⟨hI2, hl2⟩ := HI.out.ack hKl hxx
          have hI2m := hI2.most
          have HJ2 : Hid (len ≤ k + 1 → left T (ackS s x.off x.n x.f) (rmv 0 G) + (((k + 1 : Nat) : Int) - (len : Int)) ≤ 402 ∨ left T (ackS s x.off x.n x.f) (rmv 0 G) = 0) := Lib.hid (fun h9 => by have h1 := HJ.out; omega)
          have CT := Lib.hid (fun (a1 : Option Addr) (n1 c1 : Nat) (a2 : Option Addr) (n2 c2 : Nat) W (k1 : Rd W (.slice a1 n1 c1) s.ak) (k2 : Rd W (.slice a2 n2 c2) s.td) => acked_any s a1 n1 c1 a2 n2 c2 x.off x.n x.f W hok (by have := rd_len k1; omega) (by have := rd_len k2; omega) k1 k2 hpo.1 (by omega) (came_len hok (by omega) x.off x.n))
          have HI2 := Lib.hid hI2
          generalize ackS s x.off x.n x.f = S2 at *
          obtain ⟨q, rfl, hqn, hqc, hcell⟩ := HA.out.ow.some (show 0 < G.length by omega)
          obtain ⟨e0, e1, e2⟩ := hcell 0 hKl
          rw [hxx] at e0 e1 e2
          simp only [Nat.zero_mul, Nat.zero_add] at e0 e1 e2
          obtain ⟨xo, xn, xf⟩ := x
          simp only at e0 e1 e2 CT
          have HN2 : Hid (rmv 0 G = G.take 0 ++ G.drop (0 + 1)) := Lib.hid rfl
          have HHQ : Hid (∀ k, (Value.slice (some ⟨q, 0, none⟩) on oc).ownBlock = some k → w.heap.size ≤ k ∧ k < wr.heap.size) := Lib.hid (fun k hk => HA.out.ow.lt hk)
          have HNG := Lib.hid HA.out.ng
          have hqlt : q < wr.heap.size := (HHQ.out q rfl).2
          have HGn := Lib.hid hon
          clear hon hqn hcell hxx hpo hI2 hI2m hok hen hlen hr1 hr2 hmost HJ hl2
          obtain ⟨sb, st, sd, sa, so, sf, se, sc⟩ := s
          obtain ⟨qb, qt, qd, qa, qo, qf, qe, qc⟩ := S2
          simp only at CT HA
          go_wp2_with fail
          have HX1 := Lib.hid (x3_made wr ⟨xo, xn, xf⟩)
          simp only at HX1
          have HA2 := Lib.hid (HA.out.al (.cells #[.int .u64 xo, .int .i64 xn, .bool xf] 57))
          have hqlt2 : q < (wr.alloc (.cells #[.int .u64 xo, .int .i64 xn, .bool xf] 57)).heap.size := by simp; omega
          have hp2 : wr.heap.size < (wr.alloc (.cells #[.int .u64 xo, .int .i64 xn, .bool xf] 57)).heap.size := by simp
          obtain ⟨px, hpx⟩ : ∃ p, wr.heap.size = p := ⟨_, rfl⟩
          rw [hpx] at hqlt hp2 HX1 ⊢
          clear e0 e1 e2
          generalize wr.alloc (.cells #[.int .u64 xo, .int .i64 xn, .bool xf] 57) = W2 at *
          refine wp_region_noPanic ?_
          refine wp_region_E (fun _ : World => True) (fun j => Nat.ble 10 j) (by kernel_rfl) ?_ (fun hHeld => ?_)
          · exact trivial
          refine wpAnyE_take (i := 1) (v := ?_) rfl (by kernel_rfl) (by kernel_rfl) (by kernel_rfl) (fun _ _ _ h => h) (Or.inl ⟨by rfl, ?_⟩) ?_
          rotate_left
          · (intro w hSw; go_simp; (try with_reducible rfl))
          try simp only [Act.put, List.getElem_toArray, List.getElem_cons_zero, List.getElem_cons_succ, List.setIfInBounds_toArray, List.set_cons_zero, List.set_cons_succ]
          refine wpAnyE_take (i := 2) (v := ?_) rfl (by kernel_rfl) (by kernel_rfl) (by kernel_rfl) (fun _ _ _ h => h) (Or.inl ⟨by rfl, ?_⟩) ?_
          rotate_left
          · (intro w hSw; go_simp; (try with_reducible rfl))
          try simp only [Act.put, List.getElem_toArray, List.getElem_cons_zero, List.getElem_cons_succ, List.setIfInBounds_toArray, List.set_cons_zero, List.set_cons_succ]
          refine wpAnyE_take (i := 3) (v := ?_) rfl (by kernel_rfl) (by kernel_rfl) (by kernel_rfl) (fun _ _ _ h => h) (Or.inl ⟨by rfl, ?_⟩) ?_
          rotate_left
          · (intro w hSw; go_simp; (try with_reducible rfl))
          try simp only [Act.put, List.getElem_toArray, List.getElem_cons_zero, List.getElem_cons_succ, List.setIfInBounds_toArray, List.set_cons_zero, List.set_cons_succ]
          refine wpAnyE_take (i := 5) (v := ?_) rfl (by kernel_rfl) (by kernel_rfl) (by kernel_rfl) (fun _ _ _ h => h) (Or.inl ⟨by rfl, ?_⟩) ?_
          rotate_left
          · (intro w hSw; go_simp; (try with_reducible rfl))
          try simp only [Act.put, List.getElem_toArray, List.getElem_cons_zero, List.getElem_cons_succ, List.setIfInBounds_toArray, List.set_cons_zero, List.set_cons_succ]
          refine wpAnyE_take (i := 6) (v := ?_) rfl (by kernel_rfl) (by kernel_rfl) (by kernel_rfl) (fun _ _ _ h => h) (Or.inl ⟨by rfl, ?_⟩) ?_
          rotate_left
          · (intro w hSw; go_simp; (try with_reducible rfl))
          try simp only [Act.put, List.getElem_toArray, List.getElem_cons_zero, List.getElem_cons_succ, List.setIfInBounds_toArray, List.set_cons_zero, List.set_cons_succ]
          refine wpAnyE_take (i := 7) (v := ?_) rfl (by kernel_rfl) (by kernel_rfl) (by kernel_rfl) (fun _ _ _ h => h) (Or.inl ⟨by rfl, ?_⟩) ?_
          rotate_left
          · (intro w hSw; go_simp; (try with_reducible rfl))
          try simp only [Act.put, List.getElem_toArray, List.getElem_cons_zero, List.getElem_cons_succ, List.setIfInBounds_toArray, List.set_cons_zero, List.set_cons_succ]
          refine wpAnyE_take (i := 8) (v := ?_) rfl (by kernel_rfl) (by kernel_rfl) (by kernel_rfl) (fun _ _ _ h => h) (Or.inl ⟨by rfl, ?_⟩) ?_
          rotate_left
          · (intro w hSw; go_simp; (try with_reducible rfl))
          try simp only [Act.put, List.getElem_toArray, List.getElem_cons_zero, List.getElem_cons_succ, List.setIfInBounds_toArray, List.set_cons_zero, List.set_cons_succ]
          refine wpAnyE_call (i := 0) (by kernel_rfl) rfl (by rfl) (fun K hK => ?_)
          go_simp
          have HA3 := Lib.hid (HA2.out.al (.cells #[] 57)).dr
          have HO3 := Lib.hid ((ownS_made W2).go (Below.refl _ _).drew)
          have HX3 := Lib.hid ((HX1.out.go ((Below.refl _ _).alloc (Nat.le_refl _) (.cells #[] 57))).go (Below.refl _ _).drew)
          have hz3 : W2.heap.size < (W2.alloc (.cells #[] 57)).drew.heap.size := by simp
          refine hK.out _ _ trivial (fun _ => ?_)
          clear hK K
          try simp only [Act.put, List.getElem_toArray, List.getElem_cons_zero, List.getElem_cons_succ, List.setIfInBounds_toArray, List.set_cons_zero, List.set_cons_succ]
          generalize (W2.alloc (.cells #[] 57)).drew = W3 at *
          obtain ⟨v4, w4, hr4, ho4, hg4, he4⟩ := run_append_S W3 W2.heap.size 55 (.slice (some ⟨W2.heap.size, 0, none⟩) 0 0) [] HO3.out (.slice (some ⟨q, 0, none⟩) (0) oc) (G.take 0) ((HA3.out.ow.row).take (by omega)) (by simp <;> omega) (by omega)
          refine wpAnyE_call (i := 4) (by kernel_rfl) rfl (by rfl) (fun K hK => ?_)
          refine oper_append _ _ _ _ rfl _ _ rfl rfl hr4 ?_
          refine hK.out _ _ trivial (fun _ => ?_)
          clear hK K
          try simp only [Act.put, List.getElem_toArray, List.getElem_cons_zero, List.getElem_cons_succ, List.setIfInBounds_toArray, List.set_cons_zero, List.set_cons_succ]
          rw [List.nil_append] at ho4
          have HB4 : ∀ k, v4.ownBlock = some k → W2.heap.size ≤ k ∧ k < w4.heap.size := fun k hk => ho4.lt hk
          have HA4 := Lib.hid (HA3.out.far hg4 (fun p hp => by obtain rfl := own_eq hp; exact ⟨by have := HA2.out.ls.bl.size; omega, by have := HA2.out.ls.lt; omega, fun h => by have := HA2.out.ls.q.ra.blk h; omega, fun h => by have := HA2.out.ls.q.rt.blk h; omega, fun h => by have := own_eq h; omega⟩))
          have HX4 := Lib.hid (HX3.out.grown hg4 (fun h => by have := own_eq h; omega))
          obtain ⟨v5, w5, hr5, ho5, hg5, he5⟩ := run_append_S w4 W2.heap.size 55 v4 (G.take 0) ho4 _ (G.drop (0 + 1)) (RowS.drop0 (HA4.out.ow.row) (k := 1) (by omega)) (by simp <;> omega) (by have := hg4.size; omega)
          obtain ⟨a4, c4, rfl⟩ := ho4.form
          obtain ⟨a5, c5, rfl⟩ := ho5.form
          obtain ⟨n5, hn5⟩ : ∃ n, (G.take 0 ++ G.drop (0 + 1)).length = n := ⟨_, rfl⟩
          rw [hn5] at hr5 ho5
          replace hn5 := Lib.hid hn5
          refine wpAnyE_call (i := 9) (by kernel_rfl) rfl (by rfl) (fun K hK => ?_)
          refine oper_append _ _ _ _ rfl _ _ rfl rfl hr5 ?_
          refine hK.out _ _ trivial (fun _ => ?_)
          clear hK K
          try simp only [Act.put, List.getElem_toArray, List.getElem_cons_zero, List.getElem_cons_succ, List.setIfInBounds_toArray, List.set_cons_zero, List.set_cons_succ]
          refine wpAnyE_take (i := 10) (v := ?_) rfl (by kernel_rfl) (by kernel_rfl) (by kernel_rfl) (fun _ _ _ h => h) (Or.inl ⟨by rfl, ?_⟩) ?_
          rotate_left
          · (intro w hSw; go_simp; (try with_reducible rfl))
          try simp only [Act.put, List.getElem_toArray, List.getElem_cons_zero, List.getElem_cons_succ, List.setIfInBounds_toArray, List.set_cons_zero, List.set_cons_succ]
          refine wpAnyE_done (by kernel_rfl) (NoPanic.normal ?_) _
          have HA5 := Lib.hid (HA4.out.far hg5 (fun p hp => ⟨by have := (HB4 p hp).1; have := HA2.out.ls.bl.size; omega, by have := (HB4 p hp).1; have := HA2.out.ls.lt; omega, fun h => by have := HA2.out.ls.q.ra.blk h; have := (HB4 p hp).1; omega, fun h => by have := HA2.out.ls.q.rt.blk h; have := (HB4 p hp).1; omega, fun h => by have := own_eq h; have := (HB4 p hp).1; omega⟩))
          have HX5 := Lib.hid (HX4.out.grown hg5 (fun h => by have := (HB4 px h).1; omega))
          have HA6 := Lib.hid (HA5.out.turn (ho5.mono HA2.out.ls.bl.size) (fun p hp => by have h5 := (ho5.lt hp).1; exact ⟨by have := HA2.out.ls.lt; omega, fun h => by have := HA2.out.ls.q.ra.blk h; omega, fun h => by have := HA2.out.ls.q.rt.blk h; omega⟩))
          have hx0 := HX5.out.c0
          have hx1 := HX5.out.c1
          have hx2 := HX5.out.c2
          simp only at hx0 hx1 hx2
          clear HA3 HA4 HA5 HO3 HX3 HX4 HB4 ho4 ho5 hg4 hg5 he4 he5 hr4 hr5
          try generalize (ite (oc = 1) (_ : Option Addr) _) = aX
          have y0 := HA6.out.ls.q.c0
          have y1 := HA6.out.ls.q.c1
          have y2 := HA6.out.ls.q.c2
          have y3 := HA6.out.ls.q.c3
          have y4 := HA6.out.ls.q.c4
          have y5 := HA6.out.ls.q.c5
          have y6 := HA6.out.ls.q.c6
          have y7 := HA6.out.ls.q.c7
          simp only at y0 y1 y2 y5 y6 y7
          have yf := HA6.out.ls.q.fz
          go_wp2_with fail
          with_reducible refine (CT.out _ _ _ _ _ _ _ HA6.out.ls.q.ra HA6.out.ls.q.rt).mono ?_
          rintro e wv7 ⟨a7x, n7x, d7x, a7y, n7y, d7y, rfl, hra, hrt, hka, hkt, hb⟩
          have HC7 := Lib.hid (HA6.out.ls.q.go hb)
          have HA7 := Lib.hid (HA6.out.set (s' := ⟨qb, qt, qd, qa, qo, qf, qe, qc⟩) hb hra hrt hka hkt)
          simp only at HA7
          clear hra hrt hka hkt hb
          have y0 := HC7.out.c0
          have y1 := HC7.out.c1
          have y2 := HC7.out.c2
          have y3 := HC7.out.c3
          have y4 := HC7.out.c4
          have y5 := HC7.out.c5
          have y6 := HC7.out.c6
          have y7 := HC7.out.c7
          simp only at y0 y1 y2 y5 y6 y7
          have yf := HC7.out.fz
          go_wp2_with fail
          generalize (((((((wv7.setCell _ _).setCell _ _).setCell _ _).setCell _ _).setCell _ _).setCell _ _).setCell _ _).setCell _ _ = W7 at *
          clear y0 y1 y2 y3 y4 y5 y6 y7 yf
          go_roundw
          case rel => exact ⟨k + 1, _, _, _, _, _, _, _, _, _, _, _, rfl, by go_num, by omega, by rw [HN2.out]; exact hn5.out.symm, HI2, HJ2, by rw [HN2.out]; exact HA7⟩
          case measure => simp [intOf]; omega
    · obtain rfl : k = len + 500 := by omega
      have hl0 : left T s G = 0 := by have h1 := HJ.out (by omega); have h2 := hmost; omega
      obtain ⟨hG, hba, htp, hdn⟩ := HI.out.fin hl0
      subst hG
      simp only [List.length_nil] at hon
      subst hon
      have hlt2 : ¬ ((len + 500 : Nat) : Int) < (len : Int) + 500 := by omega
      have CD := Lib.hid (fun (u v : Value) W => done_any s u v W)
      rw [hdn] at CD
      clear hl0 hdn hmost hGl HJ HI
      obtain ⟨sb, st, sd, sa, so, sf, se, sc⟩ := s
      simp only at hba htp CD HA
      subst hba htp
      have y0 := HA.out.ls.q.c0
      have y1 := HA.out.ls.q.c1
      have y2 := HA.out.ls.q.c2
      have y3 := HA.out.ls.q.c3
      have y4 := HA.out.ls.q.c4
      have y5 := HA.out.ls.q.c5
      have y6 := HA.out.ls.q.c6
      have y7 := HA.out.ls.q.c7
      simp only at y0 y1 y2 y5 y6 y7
      have yf := HA.out.ls.q.fz
      go_wp2_with fail
      with_reducible refine (CD.out _ _ _).mono ?_
      rintro e5 w5 ⟨rfl, hb⟩
      have HA2 := Lib.hid (HA.out.go hb)
      clear hb y0 y1 y2 y3 y4 y5 y6 y7 yf
      have y0 := HA2.out.ls.q.c0
      have y1 := HA2.out.ls.q.c1
      have y2 := HA2.out.ls.q.c2
      have y3 := HA2.out.ls.q.c3
      have y4 := HA2.out.ls.q.c4
      have y5 := HA2.out.ls.q.c5
      have y6 := HA2.out.ls.q.c6
      have y7 := HA2.out.ls.q.c7
      simp only at y0 y1 y2 y5 y6 y7
      have yf := HA2.out.ls.q.fz
      go_wp2_with fail
      go_ret
      exact ⟨rfl, HA2.out.ls.bl⟩
theorem law_all (T : ByteArray) (a : Option Addr) (len cap : Nat) (z : List Int) (w : World) (w0 : T.size ≤ maxLen) (w1 : IsRow .u8 w a len cap z) :
    Calls Try.prog 4 #[.string T, .slice a len cap] w fun e w' => e = .returned (.bool true) ∧ Below w.heap.size w w' := by
  by_cases hT : T.size ≤ 200
  · by_cases hL : len ≤ 200
    · exact all_main T a len cap z w hT hL (ri_of w1)
    · exact all_picks T a len cap w hT (by omega)
  · exact all_text T a len cap w (by omega)
end Go.Proofs.Ytedijfcagkedaaa.Rg
