/- The laws of layer 11: RttBetween. By tools/gen-rtt-4.py. -/
import Derived.Test.YtgmaaeaaanjjaaaRtE
namespace Go.Proofs.Ytgmaaeaaanjjaaa
/-- What a caller's slice of integers is. -/
def IsRow (k : IntKind) (w : World) (a : Option Addr) (len cap : Nat) (zs : List Int) : Prop :=
  (a = none ∧ len = 0 ∧ cap = 0 ∧ zs = []) ∨ ∃ ad, a = some ad ∧ len ≤ cap ∧ cap ≤ maxLen ∧ zs.length = cap ∧ (∀ i, i < zs.length → w.cell? (ad.add i) = some (.int k (zs.getD i 0))) ∧ ∀ n ∈ zs, (Lit.int k n).wf = true
end Go.Proofs.Ytgmaaeaaanjjaaa
namespace Go.Proofs.Ytgmaaeaaanjjaaa.Rt
open Go.RowKit Go.ChangeShapes Go.WideShapes Go.Deep
set_option linter.unusedVariables false
set_option linter.unusedSimpArgs false

set_option maxHeartbeats 4000000 in
theorem between_long (a : Option Addr) (n c : Nat) (e : Option Addr) (n2 c2 : Nat) (m : Int) (w : World) (hn : 100 < (n : Int)) :
    Calls Try.prog 4 #[.slice a n c, .slice e n2 c2, .int .u8 m] w fun e w' => e = .returned (.bool true) ∧ Below w.heap.size w w' := by
  have CS := Lib.hid shown_any
  go_enter Try.func4, Try.ntmps4
  go_wp2_with fail
  with_reducible refine (CS.out _).mono ?_
  rintro e w1 ⟨rfl, hb⟩
  have HB1 := Lib.hid hb
  clear hb
  go_wp2_with fail
  go_ret
  exact ⟨rfl, HB1.out⟩
set_option maxHeartbeats 4000000 in
theorem between_none (a : Option Addr) (n c : Nat) (e : Option Addr) (n2 c2 : Nat) (m : Int) (w : World) (h : n = 0) :
    Calls Try.prog 4 #[.slice a n c, .slice e n2 c2, .int .u8 m] w fun e w' => e = .returned (.bool true) ∧ Below w.heap.size w w' := by
  subst h
  have CS := Lib.hid shown_any
  go_enter Try.func4, Try.ntmps4
  go_wp2_with fail
  with_reducible refine (CS.out _).mono ?_
  rintro e w1 ⟨rfl, hb⟩
  have HB1 := Lib.hid hb
  clear hb
  go_wp2_with fail
  go_ret
  exact ⟨rfl, HB1.out⟩
/-- A row of numbers as an argument. -/
def RI (k : IntKind) (w : World) (a : Option Addr) (n c : Nat) (l : List Int) : Prop :=
  n ≤ c ∧ ∀ j, j < n → ∃ b o, a = some ⟨b, o, none⟩ ∧ (∀ W, Below w.heap.size w W → W.cell? ⟨b, o + j, none⟩ = some (.int k (l.getD j 0))) ∧ (Lit.int k (l.getD j 0)).wf = true
theorem ri_of {k : IntKind} {w : World} {a : Option Addr} {n c : Nat} {l : List Int} (h : IsRow k w a n c l) : RI k w a n c l := by
  rcases h with ⟨rfl, rfl, rfl, rfl⟩ | ⟨x, rfl, hl, hm, hz, hcell, hwz⟩
  · exact ⟨Nat.le_refl _, fun j hj => absurd hj (by omega)⟩
  · refine ⟨hl, fun j hj => ?_⟩
    obtain ⟨b, off, spot⟩ := x
    have hspot : spot = none := by simpa [Addr.add] using World.cell?_spot (hcell 0 (by omega))
    subst hspot
    have h1 := hcell j (by omega)
    rw [add_plain] at h1
    have hb := block_lt_of_cell h1
    refine ⟨b, off, rfl, fun W hW => (hW.cell hb).trans h1, ?_⟩
    have hlt : j < l.length := by omega
    have := hwz (l[j]) (List.getElem_mem _)
    rw [List.getD_eq_getElem?_getD, List.getElem?_eq_getElem hlt]
    exact this
/-- What holds of the estimate behind some samples. -/
structure Bt (z0 : Int) (j : Nat) (s : St) (lo hi : Int) : Prop where
  ok : s.Ok
  l0 : 0 ≤ lo
  l1 : lo ≤ hi
  l2 : hi ≤ 65535
  st : (j = 0 ∧ s.any = false ∧ lo = z0 ∧ hi = z0) ∨ (s.any = true ∧ s.mn = lo ∧ lo ≤ s.sm ∧ s.sm ≤ hi ∧ s.va ≤ 65535)
theorem Bt.step {z0 : Int} {j : Nat} {s : St} {lo hi : Int} (h : Bt z0 j s lo hi) (z d m : Int) (hz : 0 ≤ z) (hz1 : z ≤ 65535) (hd : 0 ≤ d) (hd1 : d ≤ 255) (hm : 0 ≤ m) (hm1 : m ≤ 255) (hz0 : j = 0 → z = z0) :
    Bt z0 (j + 1) (samp s z d m) (min lo z) (max hi z) := by
  have h0 := h.l0
  have h1 := h.l1
  have h2 := h.l2
  have t1 : tk z = z := tk_of hz (by omega)
  have t2 : tk d = d := tk_of hd (by omega)
  have t3 : tk m = m := tk_of hm (by omega)
  refine ⟨samp_ok h.ok _ _ _, by omega, by omega, by omega, .inr ?_⟩
  rcases h.st with ⟨hj, ha, e1, e2⟩ | ⟨ha, e1, e2, e3, e4⟩
  · have := hz0 hj
    unfold samp
    rw [if_neg (by rw [ha]; decide)]
    simp only [t1]
    refine ⟨trivial, by omega, by omega, by omega, by omega⟩
  · have ok := h.ok
    have v0 := ok.va0
    unfold samp
    rw [if_pos ha]
    simp only [t1, t2, t3]
    have ht : min s.mn z ≤ took z (min d m) (min s.mn z) ∧ took z (min d m) (min s.mn z) ≤ z := by
      unfold took; split <;> omega
    generalize took z (min d m) (min s.mn z) = t at ht
    unfold apartN
    refine ⟨trivial, by omega, by omega, by omega, by omega⟩
set_option maxRecDepth 100000 in
set_option maxHeartbeats 8000000 in
theorem between_round (a : Option Addr) (n c : Nat) (e : Option Addr) (n2 c2 : Nat) (l e2 : List Int) (m : Int) (w : World) (hn0 : 0 < n) (hl : n ≤ 100) (hr : RI .u16 w a n c l) (he : RI .u8 w e n2 c2 e2) (hm0 : 0 ≤ m) (hm1 : m ≤ 255) (hn2 : n2 ≤ maxLen) :
    Calls Try.prog 4 #[.slice a n c, .slice e n2 c2, .int .u8 m] w fun e w' => e = .returned (.bool true) ∧ Below w.heap.size w w' := by
  have CS := Lib.hid shown_any
  have CN : Hid (∀ W : World, Calls Try.prog 9 #[] W fun e w' => e = .returned (.agg #[.bool false, .int .i64 0, .int .i64 10, .int .i64 5, .int .i64 0]) ∧ Below W.heap.size W w') := Lib.hid new_any
  have HR := Lib.hid hr
  have HE := Lib.hid he
  have hn100 : (n : Int) ≤ 100 := by omega
  have hn1 : (0 : Int) < (n : Int) := by omega
  have hnz : ((n : Int) == 0) = false := by rw [beq_eq_false_iff_ne]; omega
  have v3 : IntKind.i64.wrap m = m := IntWalk.i64_in _ (by omega)
  obtain ⟨ab, ao, ea, hcell0, hwf0⟩ := hr.2 0 hn0
  subst ea
  have hnc : (n : Int) ≤ (c : Int) := by have := hr.1; omega
  obtain ⟨Z0, hZ0⟩ : ∃ z, l.getD 0 0 = z := ⟨_, rfl⟩
  rw [hZ0] at hcell0 hwf0
  simp only [Lit.wf, Bool.and_eq_true, decide_eq_true_eq] at hwf0
  have hq0 : 0 ≤ Z0 := hwf0.1
  have hq1 : Z0 ≤ 65535 := hwf0.2
  have v4 : IntKind.i64.wrap Z0 = Z0 := IntWalk.i64_in _ (by omega)
  have HC0 := Lib.hid hcell0
  have HZZ := Lib.hid hZ0
  clear hr he hwf0 hcell0 hZ0
  go_enter Try.func4, Try.ntmps4
  go_wp2_with fail
  with_reducible refine (CS.out _).mono ?_
  rintro e w1 ⟨rfl, hb⟩
  have HB1 := Lib.hid hb
  clear hb
  go_wp2_with fail
  with_reducible refine (CN.out _).mono ?_
  rintro e w2 ⟨rfl, hb⟩
  have HB2 := Lib.hid (HB1.out.trans (hb.mono HB1.out.size))
  clear hb
  have hs2 := HB2.out.size
  have HW0 := Lib.hid (And.intro (Bx.made w2 25 false 0 10 5 0) (HB2.out.alloc HB2.out.size (.cells #[.bool false, .int .i64 0, .int .i64 10, .int .i64 5, .int .i64 0] 25)))
  have kk := HC0.out _ HW0.out.2
  rw [Nat.add_zero] at kk
  go_wp2_with fail
  clear HB2 HB1 kk
  generalize w2.alloc (.cells #[.bool false, .int .i64 0, .int .i64 10, .int .i64 5, .int .i64 0] 25) = W0 at HW0 ⊢
  generalize w2.heap.size = b7 at *
  go_loopw [8, 9, 10] (fun lv hv iv wr => ∃ (j : Nat) (S : St) (lo hi : Int), j ≤ n ∧ iv = .int .i64 j ∧ lv = .int .i64 lo ∧ hv = .int .i64 hi ∧ Bt Z0 j S lo hi ∧ BxS wr b7 25 S ∧ Below w.heap.size w wr) (fun _ _ iv _ => n - (intOf iv).toNat)
  case atStart => exact ⟨0, new, Z0, Z0, Nat.zero_le _, rfl, rfl, rfl, ⟨new_ok, hq0, Int.le_refl _, hq1, .inl ⟨rfl, rfl, rfl, rfl⟩⟩, HW0.out.1, HW0.out.2⟩
  case round =>
    obtain ⟨j, S, lo, hi, hj, rfl, rfl, rfl, hbt, hbx, hbb⟩ := hrel
    obtain ⟨sa, sla, ssm, sva, smn⟩ := S
    have HBT := Lib.hid hbt
    have HS : Hid (Bx wr b7 25 sa sla ssm sva smn ∧ Below w.heap.size w wr) := Lib.hid ⟨hbx, hbb⟩
    obtain ⟨q0, q1, q2, q3, q4⟩ := HS.out.1.cells
    clear hbx hbb hbt HW0
    by_cases hlt : ¬ j < n
    · have hltI : ¬ (j : Int) < (n : Int) := by omega
      go_wp2_with fail
      go_ret
      exact ⟨rfl, HS.out.2⟩
    replace hlt : j < n := by omega
    have hltI : (j : Int) < (n : Int) := by omega
    obtain ⟨ab', ao', ea', hcell, hwf⟩ := HR.out.2 j hlt
    simp only [Option.some.injEq, Addr.mk.injEq, and_true] at ea'
    obtain ⟨rfl, rfl⟩ := ea'
    have HZ0 : Hid (j = 0 → l.getD j 0 = Z0) := Lib.hid (fun h => by rw [h]; exact HZZ.out)
    generalize l.getD j 0 = Z at hcell hwf HZ0
    have HC := Lib.hid hcell
    simp only [Lit.wf, Bool.and_eq_true, decide_eq_true_eq] at hwf
    have hz0 : 0 ≤ Z := hwf.1
    have hz1 : Z ≤ 65535 := hwf.2
    have v1 : IntKind.i64.wrap Z = Z := IntWalk.i64_in _ (by omega)
    have k0 := hcell wr HS.out.2
    clear hcell hwf
    by_cases hd2 : j < n2
    · skip
      have hd2I : (j : Int) < (n2 : Int) := by omega
      obtain ⟨eb, eo, ee, hecell, hewf⟩ := HE.out.2 j (by omega)
      subst ee
      have hec : (n2 : Int) ≤ (c2 : Int) := by have := HE.out.1; omega
      generalize e2.getD j 0 = D0 at hecell hewf
      simp only [Lit.wf, Bool.and_eq_true, decide_eq_true_eq] at hewf
      have hd0 : 0 ≤ D0 := hewf.1
      have hd1 : D0 ≤ 255 := hewf.2
      clear hewf
      have k1 := hecell wr HS.out.2
      have v2 : IntKind.i64.wrap D0 = D0 := IntWalk.i64_in _ (by omega)
      clear hecell
      have HBT2 := Lib.hid (HBT.out.step Z D0 m hz0 hz1 hd0 hd1 hm0 hm1 HZ0.out)
      have hok2 := HBT2.out.ok
      have hst2 := HBT2.out.st
      have CA := Lib.hid (fun W => sample_any ⟨sa, sla, ssm, sva, smn⟩ Z D0 m W HBT.out.ok)
      have CT := Lib.hid (fun W => threshold_any (samp ⟨sa, sla, ssm, sva, smn⟩ Z D0 m) W HBT2.out.ok)
      have CP := Lib.hid (fun W => pto_any (samp ⟨sa, sla, ssm, sva, smn⟩ Z D0 m) 0 0 W HBT2.out.ok)
      have hT : thrN (samp ⟨sa, sla, ssm, sva, smn⟩ Z D0 m) ≥ 1 := by unfold thrN; omega
      have hP : ptoN (samp ⟨sa, sla, ssm, sva, smn⟩ Z D0 m) 0 0 ≥ 1 := by
        rw [pto_zero]
        have := hok2.sm0
        have : tk 0 = 0 := by decide
        omega
      generalize samp ⟨sa, sla, ssm, sva, smn⟩ Z D0 m = S2 at CA CT CP HBT2 hok2 hst2 hT hP
      obtain ⟨ta, tla, tsm, tva, tmn⟩ := S2
      generalize thrN ⟨ta, tla, tsm, tva, tmn⟩ = TV at CT hT
      generalize ptoN ⟨ta, tla, tsm, tva, tmn⟩ 0 0 = PV at CP hP
      have CA : Hid (∀ W : World, Calls Try.prog 15 #[.agg #[.bool sa, .int .i64 sla, .int .i64 ssm, .int .i64 sva, .int .i64 smn], .int .i64 Z, .int .i64 D0, .int .i64 m] W fun e w' => e = .returned (.agg #[.bool ta, .int .i64 tla, .int .i64 tsm, .int .i64 tva, .int .i64 tmn]) ∧ Below W.heap.size W w') := CA
      have CT : Hid (∀ W : World, Calls Try.prog 13 #[.agg #[.bool ta, .int .i64 tla, .int .i64 tsm, .int .i64 tva, .int .i64 tmn]] W fun e w' => e = .returned (.int .i64 TV) ∧ Below W.heap.size W w') := CT
      have CP : Hid (∀ W : World, Calls Try.prog 11 #[.agg #[.bool ta, .int .i64 tla, .int .i64 tsm, .int .i64 tva, .int .i64 tmn], .int .i64 0, .int .i64 0] W fun e w' => e = .returned (.int .i64 PV) ∧ Below W.heap.size W w') := CP
      obtain ⟨hmn, hlo, hhi, hva⟩ : tmn = min lo Z ∧ min lo Z ≤ tsm ∧ tsm ≤ max hi Z ∧ tva ≤ 65535 := by
        rcases hst2 with ⟨h, _⟩ | ⟨_, h1, h2, h3, h4⟩
        · omega
        · exact ⟨h1, h2, h3, h4⟩
      have hva0 : 0 ≤ tva := hok2.va0
      subst hmn
      clear hst2 hok2
      obtain ⟨LO, hLO⟩ : ∃ x, min lo Z = x := ⟨_, rfl⟩
      obtain ⟨HI, hHI⟩ : ∃ x, max hi Z = x := ⟨_, rfl⟩
      have m1 := min_run lo Z LO hLO
      have m2 := max_run hi Z HI hHI
      rw [hLO] at CA CT CP hlo HBT2
      rw [hHI] at hhi HBT2
      clear hLO hHI
      have g1 : ¬ (tsm < LO) := by omega
      have g2 : ¬ (tsm > HI) := by omega
      have g3 : ¬ (tva < 0) := by omega
      have g4 : ¬ (tva > 65535) := by omega
      have g5 : ¬ (TV < 1) := by omega
      have g6 : ¬ (PV < 1) := by omega
      have HS4' : Hid (Bx wr.drew b7 25 sa sla ssm sva smn ∧ Below w.heap.size w wr.drew) := Lib.hid ⟨HS.out.1, HS.out.2.drew⟩
      go_wp2_with fail
      go_cut [10] from 49 to 58 (fun v10 W => v10 = .int .i64 j ∧ Bx W b7 25 ta tla tsm tva LO ∧ Below w.heap.size w W)
      case first =>
        go_region_with (go_at_call 15; (with_reducible refine (CA.out _).mono ?_); rintro e5 x5 ⟨rfl, hb⟩; have HS5 : Hid (Bx x5 b7 25 sa sla ssm sva smn ∧ Below w.heap.size w x5) := Lib.hid ⟨HS4'.out.1.keep hb HS4'.out.1.lt, HS4'.out.2.trans (hb.mono HS4'.out.2.size)⟩; obtain ⟨r0, r1, r2, r3, r4⟩ := HS5.out.1.cells; obtain ⟨f0, f1, f2, f3, f4⟩ := HS5.out.1.fz; clear hb)
        all_goals (
          go_wp2_with fail
          go_meet
          case rel => exact ⟨rfl, HS5.out.1.put _ _ _ _ _, below_put HS5.out.2 (by omega) _ _ _ _ _⟩)
      case rest =>
        obtain ⟨rfl, hw, hwb⟩ := hcut
        have HS6 : Hid (Bx wc b7 25 ta tla tsm tva LO ∧ Below w.heap.size w wc) := Lib.hid ⟨hw, hwb⟩
        have k0 := HC.out wc hwb
        obtain ⟨y0, y1, y2, y3, y4⟩ := hw.cells
        clear hw hwb
        go_wp2_with fail
        with_reducible refine (CT.out _).mono ?_
        rintro e7 x7 ⟨rfl, hb⟩
        have HS7 : Hid (Bx x7 b7 25 ta tla tsm tva LO ∧ Below w.heap.size w x7) := Lib.hid ⟨HS6.out.1.keep hb HS6.out.1.lt, HS6.out.2.trans (hb.mono HS6.out.2.size)⟩
        obtain ⟨z0', z1', z2', z3', z4'⟩ := HS7.out.1.cells
        clear hb
        go_wp2_with fail
        with_reducible refine (CP.out _).mono ?_
        rintro e8 x8 ⟨rfl, hb⟩
        have HS8 : Hid (Bx x8 b7 25 ta tla tsm tva LO ∧ Below w.heap.size w x8) := Lib.hid ⟨HS7.out.1.keep hb HS7.out.1.lt, HS7.out.2.trans (hb.mono HS7.out.2.size)⟩
        clear hb
        go_wp2_with fail
        go_roundw
        case rel => exact ⟨j + 1, _, LO, HI, by omega, by push_cast; rfl, rfl, rfl, HBT2.out, HS8.out.1, HS8.out.2⟩
        case measure =>
          show n - ((j : Int) + 1).toNat < n - (j : Int).toNat
          omega
    · skip
      have hd2I : ¬ (j : Int) < (n2 : Int) := by omega
      have hd0 : (0 : Int) ≤ 0 := by omega
      have hd1 : (0 : Int) ≤ 255 := by omega
      have HBT2 := Lib.hid (HBT.out.step Z 0 m hz0 hz1 hd0 hd1 hm0 hm1 HZ0.out)
      have hok2 := HBT2.out.ok
      have hst2 := HBT2.out.st
      have CA := Lib.hid (fun W => sample_any ⟨sa, sla, ssm, sva, smn⟩ Z 0 m W HBT.out.ok)
      have CT := Lib.hid (fun W => threshold_any (samp ⟨sa, sla, ssm, sva, smn⟩ Z 0 m) W HBT2.out.ok)
      have CP := Lib.hid (fun W => pto_any (samp ⟨sa, sla, ssm, sva, smn⟩ Z 0 m) 0 0 W HBT2.out.ok)
      have hT : thrN (samp ⟨sa, sla, ssm, sva, smn⟩ Z 0 m) ≥ 1 := by unfold thrN; omega
      have hP : ptoN (samp ⟨sa, sla, ssm, sva, smn⟩ Z 0 m) 0 0 ≥ 1 := by
        rw [pto_zero]
        have := hok2.sm0
        have : tk 0 = 0 := by decide
        omega
      generalize samp ⟨sa, sla, ssm, sva, smn⟩ Z 0 m = S2 at CA CT CP HBT2 hok2 hst2 hT hP
      obtain ⟨ta, tla, tsm, tva, tmn⟩ := S2
      generalize thrN ⟨ta, tla, tsm, tva, tmn⟩ = TV at CT hT
      generalize ptoN ⟨ta, tla, tsm, tva, tmn⟩ 0 0 = PV at CP hP
      have CA : Hid (∀ W : World, Calls Try.prog 15 #[.agg #[.bool sa, .int .i64 sla, .int .i64 ssm, .int .i64 sva, .int .i64 smn], .int .i64 Z, .int .i64 0, .int .i64 m] W fun e w' => e = .returned (.agg #[.bool ta, .int .i64 tla, .int .i64 tsm, .int .i64 tva, .int .i64 tmn]) ∧ Below W.heap.size W w') := CA
      have CT : Hid (∀ W : World, Calls Try.prog 13 #[.agg #[.bool ta, .int .i64 tla, .int .i64 tsm, .int .i64 tva, .int .i64 tmn]] W fun e w' => e = .returned (.int .i64 TV) ∧ Below W.heap.size W w') := CT
      have CP : Hid (∀ W : World, Calls Try.prog 11 #[.agg #[.bool ta, .int .i64 tla, .int .i64 tsm, .int .i64 tva, .int .i64 tmn], .int .i64 0, .int .i64 0] W fun e w' => e = .returned (.int .i64 PV) ∧ Below W.heap.size W w') := CP
      obtain ⟨hmn, hlo, hhi, hva⟩ : tmn = min lo Z ∧ min lo Z ≤ tsm ∧ tsm ≤ max hi Z ∧ tva ≤ 65535 := by
        rcases hst2 with ⟨h, _⟩ | ⟨_, h1, h2, h3, h4⟩
        · omega
        · exact ⟨h1, h2, h3, h4⟩
      have hva0 : 0 ≤ tva := hok2.va0
      subst hmn
      clear hst2 hok2
      obtain ⟨LO, hLO⟩ : ∃ x, min lo Z = x := ⟨_, rfl⟩
      obtain ⟨HI, hHI⟩ : ∃ x, max hi Z = x := ⟨_, rfl⟩
      have m1 := min_run lo Z LO hLO
      have m2 := max_run hi Z HI hHI
      rw [hLO] at CA CT CP hlo HBT2
      rw [hHI] at hhi HBT2
      clear hLO hHI
      have g1 : ¬ (tsm < LO) := by omega
      have g2 : ¬ (tsm > HI) := by omega
      have g3 : ¬ (tva < 0) := by omega
      have g4 : ¬ (tva > 65535) := by omega
      have g5 : ¬ (TV < 1) := by omega
      have g6 : ¬ (PV < 1) := by omega
      have HS4' : Hid (Bx wr.drew b7 25 sa sla ssm sva smn ∧ Below w.heap.size w wr.drew) := Lib.hid ⟨HS.out.1, HS.out.2.drew⟩
      go_wp2_with fail
      go_cut [10] from 49 to 58 (fun v10 W => v10 = .int .i64 j ∧ Bx W b7 25 ta tla tsm tva LO ∧ Below w.heap.size w W)
      case first =>
        go_region_with (go_at_call 15; (with_reducible refine (CA.out _).mono ?_); rintro e5 x5 ⟨rfl, hb⟩; have HS5 : Hid (Bx x5 b7 25 sa sla ssm sva smn ∧ Below w.heap.size w x5) := Lib.hid ⟨HS4'.out.1.keep hb HS4'.out.1.lt, HS4'.out.2.trans (hb.mono HS4'.out.2.size)⟩; obtain ⟨r0, r1, r2, r3, r4⟩ := HS5.out.1.cells; obtain ⟨f0, f1, f2, f3, f4⟩ := HS5.out.1.fz; clear hb)
        all_goals (
          go_wp2_with fail
          go_meet
          case rel => exact ⟨rfl, HS5.out.1.put _ _ _ _ _, below_put HS5.out.2 (by omega) _ _ _ _ _⟩)
      case rest =>
        obtain ⟨rfl, hw, hwb⟩ := hcut
        have HS6 : Hid (Bx wc b7 25 ta tla tsm tva LO ∧ Below w.heap.size w wc) := Lib.hid ⟨hw, hwb⟩
        have k0 := HC.out wc hwb
        obtain ⟨y0, y1, y2, y3, y4⟩ := hw.cells
        clear hw hwb
        go_wp2_with fail
        with_reducible refine (CT.out _).mono ?_
        rintro e7 x7 ⟨rfl, hb⟩
        have HS7 : Hid (Bx x7 b7 25 ta tla tsm tva LO ∧ Below w.heap.size w x7) := Lib.hid ⟨HS6.out.1.keep hb HS6.out.1.lt, HS6.out.2.trans (hb.mono HS6.out.2.size)⟩
        obtain ⟨z0', z1', z2', z3', z4'⟩ := HS7.out.1.cells
        clear hb
        go_wp2_with fail
        with_reducible refine (CP.out _).mono ?_
        rintro e8 x8 ⟨rfl, hb⟩
        have HS8 : Hid (Bx x8 b7 25 ta tla tsm tva LO ∧ Below w.heap.size w x8) := Lib.hid ⟨HS7.out.1.keep hb HS7.out.1.lt, HS7.out.2.trans (hb.mono HS7.out.2.size)⟩
        clear hb
        go_wp2_with fail
        go_roundw
        case rel => exact ⟨j + 1, _, LO, HI, by omega, by push_cast; rfl, rfl, rfl, HBT2.out, HS8.out.1, HS8.out.2⟩
        case measure =>
          show n - ((j : Int) + 1).toNat < n - (j : Int).toNat
          omega
theorem law_between (a : Option Addr) (n c : Nat) (z : List Int) (e : Option Addr) (n2 c2 : Nat) (z2 : List Int) (m : Int) (w : World) (hr : IsRow .u16 w a n c z) (he : IsRow .u8 w e n2 c2 z2) (w1 : (Lit.int .u8 m).wf = true) :
    Calls Try.prog 4 #[.slice a n c, .slice e n2 c2, .int .u8 m] w fun e w' => e = .returned (.bool true) ∧ Below w.heap.size w w' := by
  simp only [Lit.wf, Bool.and_eq_true, decide_eq_true_eq] at w1
  have hn2 : n2 ≤ maxLen := by
    rcases he with ⟨_, rfl, _, _⟩ | ⟨_, _, hl, hm, _⟩
    · exact Nat.zero_le _
    · omega
  by_cases h : 100 < n
  · exact between_long a n c e n2 c2 m w (by omega)
  · by_cases h0 : n = 0
    · exact between_none a n c e n2 c2 m w h0
    · exact between_round a n c e n2 c2 z z2 m w (by omega) (by omega) (ri_of hr) (ri_of he) w1.1 w1.2 hn2
end Go.Proofs.Ytgmaaeaaanjjaaa.Rt
