/- Layer 15: the law of credit. By tools/gen-sendq-11.py. -/
import Derived.Test.YtedijfcagkedaaaSqN
import Derived.Deep.CutRange
import Derived.Deep.CutBlock
namespace Go.Proofs.Ytedijfcagkedaaa.Rg
set_option maxRecDepth 20000
open Go.RowKit Go.Shelf
set_option linter.unusedVariables false
set_option linter.unusedSimpArgs false

def CrR (w : World) (g : Nat) (len : Nat) (iv : Value) (wr : World) : Prop :=
  ∃ (k : Nat) (a1 : Option Addr) (n1 c1 : Nat) (a2 : Option Addr) (n2 c2 : Nat) (s : SS) (P : List Int), iv = .int .i64 k ∧ k ≤ len ∧ Hid (CrI s P (3 * k) (100 * k)) ∧ Hid (LS w wr g (.slice a1 n1 c1) (.slice a2 n2 c2) s)
set_option maxHeartbeats 1000000 in
theorem credit_no (a : Option Addr) (len cap : Nat) (G : List AcV) (cr most : Int) (w : World) (hn : G.length = len) (hm : len ≤ maxLen) (ht : Act5 w a len cap G) (hb : bdL G = false) :
    Calls Try.prog 5 #[.slice a len cap, .int .u16 cr, .int .i64 most] w fun e w' => e = .returned (.bool true) ∧ Below w.heap.size w w' := by
  have CH := Lib.hid (fun W => shown15_any W)
  have CB := Lib.hid (bounded_any a len cap G w hn hm ht)
  rw [hb] at CB
  clear hn hm ht hb
  go_enter Try.func5, Try.ntmps5
  go_wp2_with fail
  with_reducible refine CB.out.mono ?_
  rintro e w0 ⟨rfl, rfl⟩
  go_wp2_with fail
  with_reducible refine (CH.out _).mono ?_
  rintro e w1 ⟨rfl, hb1⟩
  go_wp2_with fail
  go_ret
  exact ⟨rfl, hb1⟩
set_option maxHeartbeats 16000000 in
theorem credit_main (a : Option Addr) (len cap : Nat) (G : List AcV) (cr most : Int) (w : World) (hn : G.length = len) (hm : len ≤ maxLen) (ht : Act5 w a len cap G) (hb : bdL G = true) (h0 : 0 ≤ cr) (h1 : cr < 65536) (h2 : most < 9223372036854775808) :
    Calls Try.prog 5 #[.slice a len cap, .int .u16 cr, .int .i64 most] w fun e w' => e = .returned (.bool true) ∧ Below w.heap.size w w' := by
  have CH := Lib.hid (fun W => shown15_any W)
  have CB := Lib.hid (bounded_any a len cap G w hn hm ht)
  rw [hb] at CB
  obtain ⟨hL0, hall⟩ := bdL_all hb
  have hL : len ≤ 60 := by omega
  have HA := Lib.hid hall
  have HT := Lib.hid ht
  have HN := Lib.hid hn
  have hcp := ht.1
  have uc : IntKind.u64.wrap cr = cr := IntWalk.u64_in _ (by omega)
  have HI0 := Lib.hid crI_first
  clear hn ht hb hm hL0 hall
  go_enter Try.func5, Try.ntmps5
  go_wp2_with fail
  with_reducible refine CB.out.mono ?_
  rintro e w0 ⟨rfl, rfl⟩
  go_wp2_with fail
  with_reducible refine (CH.out _).mono ?_
  rintro e1 w1 ⟨rfl, hb1⟩
  have HB1 := Lib.hid hb1
  clear hb1
  have HL0 := Lib.hid (ls_made w0 w1 (.slice none 0 0) (.slice none 0 0) s00 HB1.out (rd00 w1) (rd00 w1))
  unfold s00 at HL0 HI0
  simp only at HL0
  go_wp2_with fail
  obtain ⟨g, hg⟩ : ∃ g, w1.heap.size = g := ⟨_, rfl⟩
  go_loopw [8, 9, 10, 11, 12] (fun iv _ _ _ _ wr => CrR w0 w1.heap.size len iv wr) (fun iv _ _ _ _ _ => len - (intOf iv).toNat)
  case atStart => exact ⟨0, _, _, _, _, _, _, _, _, rfl, Nat.zero_le _, HI0, HL0⟩
  case round =>
    obtain ⟨k, a1, n1, c1, a2, n2, c2, s, P, rfl, hk, HI, HL⟩ := hrel
    rw [hg] at *
    replace hg := Lib.hid hg
    by_cases hlt : k < len
    · obtain ⟨b, o, rfl, hcell, hnb, hob⟩ := HT.out.2 k hlt
      obtain ⟨hx1, hx2, hx3⟩ := HA.out k (by have := HN.out; omega)
      obtain ⟨x, hx⟩ : ∃ x, G.getD k acZ = x := ⟨_, rfl⟩
      rw [hx] at hcell hnb hob hx1 hx2 hx3
      have HX := Lib.hid (fun W hW => act_cells hcell (W := W) hW)
      obtain ⟨P1, hI1⟩ := HI.out.act (by omega) hx1
      obtain ⟨S1, hS1⟩ : ∃ y, crS s x = y := ⟨_, rfl⟩
      rw [hS1] at hI1
      have HI1 := Lib.hid hI1
      have hlen := HI.out.len (by omega)
      have hok := HI.out.ok
      have hen := HI.out.en
      have hr1 := rd_len HL.out.q.ra
      have hr2 := rd_len HL.out.q.rt
      obtain ⟨xk, xn, xo, xd, xf⟩ := x
      obtain ⟨R0, hR0⟩ : ∃ r, xo.tmod 1000 = r := ⟨_, rfl⟩
      have hr0 : 0 ≤ xo.tmod 1000 := Int.tmod_nonneg _ hob.1
      have hr3 : xo.tmod 1000 < 1000 := Int.tmod_lt_of_pos _ (by decide)
      rw [hR0] at hr0 hr3
      have hw0 : IntKind.u64.wrap R0 = R0 := IntWalk.u64_in _ (by omega)
      simp only at HX hx1 hx2 hx3 hnb hob
      have k0 : (0 : Int) ≤ (k : Int) := by omega
      have k1 : (k : Int) < (len : Int) := by omega
      obtain ⟨e0, e1, e2, e3, e4⟩ := HX.out wr HL.out.bl
      have CAc := Lib.hid (HI.out.came (by omega))
      clear hx hcell hI1
      go_upto_block 2 with fail
      go_cut [8] from 22 to 157 (fun v8 W => v8 = .int .i64 k ∧ ∃ (a1 : Option Addr) (n1 c1 : Nat) (a2 : Option Addr) (n2 c2 : Nat), LS w0 W g (.slice a1 n1 c1) (.slice a2 n2 c2) S1)
      case first =>
        by_cases h_0 : xk = 0
        · subst h_0
          have e9 : wrS s xd 500 = S1 := by rw [← hS1]; rfl
          have C := Lib.hid (fun W (k1 : Rd W (.slice a1 n1 c1) s.ak) (k2 : Rd W (.slice a2 n2 c2) s.td) => write_any s a1 n1 c1 a2 n2 c2 xd 500 W hok (by omega) (by decide) (by omega) (by omega) k1 k2)
          rw [e9] at C
          unfold GvN at C
          clear hS1 HI1 CAc hlen hok hen hr1 hr2 hr0 hr3 hnb hob hx1 hx2 hx3 HI
          obtain ⟨sb, st, sd, sa, so, sf, se, sc⟩ := s
          obtain ⟨qb, qt, qd, qa, qo, qf, qe, qc⟩ := S1
          simp only at HL C
          go_wp2_with fail
          refine wp_region_noPanic ?_
          refine wp_region_E (fun W : World => LS w0 W g (.slice a1 n1 c1) (.slice a2 n2 c2) ⟨sb, st, sd, sa, so, sf, se, sc⟩) (fun j => Nat.ble 10 j) (by kernel_rfl) ?_ (fun hHeld => ?_)
          · exact HL.out.dr
          refine wpAnyE_take (i := 1) (v := ?_) rfl (by kernel_rfl) (by kernel_rfl) (by kernel_rfl) (fun _ _ _ h => h) (Or.inl ⟨by rfl, ?_⟩) ?_
          rotate_left
          · (intro w hSw; go_simp; (try with_reducible rfl))
          try simp only [Act.put, List.getElem_toArray, List.getElem_cons_zero, List.getElem_cons_succ, List.setIfInBounds_toArray, List.set_cons_zero, List.set_cons_succ]
          refine wpAnyE_take (i := 2) (v := ?_) rfl (by kernel_rfl) (by kernel_rfl) (by kernel_rfl) (fun _ _ _ h => h) (Or.inl ⟨by rfl, ?_⟩) ?_
          rotate_left
          · (intro w hSw; go_simp; (try with_reducible rfl))
          try simp only [Act.put, List.getElem_toArray, List.getElem_cons_zero, List.getElem_cons_succ, List.setIfInBounds_toArray, List.set_cons_zero, List.set_cons_succ]
          refine wpAnyE_take (i := 3) (v := ?_) rfl (by kernel_rfl) (by kernel_rfl) (by kernel_rfl) (fun _ _ _ h => h) (Or.inl ⟨by rfl, ?_⟩) ?_
          rotate_left
          · (intro w hSw; go_simp; (try with_reducible rfl))
          try simp only [Act.put, List.getElem_toArray, List.getElem_cons_zero, List.getElem_cons_succ, List.setIfInBounds_toArray, List.set_cons_zero, List.set_cons_succ]
          refine wpAnyE_take (i := 4) (v := ?_) rfl (by kernel_rfl) (by kernel_rfl) (by kernel_rfl) (fun _ _ _ h => h) (Or.inl ⟨by rfl, ?_⟩) ?_
          rotate_left
          · (intro w hSw; go_simp; (try with_reducible rfl))
          try simp only [Act.put, List.getElem_toArray, List.getElem_cons_zero, List.getElem_cons_succ, List.setIfInBounds_toArray, List.set_cons_zero, List.set_cons_succ]
          refine wpAnyE_load (i := 0) (v := ?_) rfl (by kernel_rfl) (by kernel_rfl) (by kernel_rfl) (by kernel_rfl) (fun _ _ _ h => h) (Or.inl ⟨by rfl, ?_⟩) (by assumption) ?_
          rotate_left
          · (intro w hSw; (obtain ⟨f0, f1, f2, f3, f4⟩ := HX.out _ hSw.bl; have e0 := hSw.q.c0; have e1 := hSw.q.c1; have e2 := hSw.q.c2; have e3 := hSw.q.c3; have e4 := hSw.q.c4; have e5 := hSw.q.c5; have e6 := hSw.q.c6; have e7 := hSw.q.c7; simp only at e0 e1 e2 e5 e6 e7; clear hSw); go_simp; (try with_reducible rfl))
          try simp only [Act.put, List.getElem_toArray, List.getElem_cons_zero, List.getElem_cons_succ, List.setIfInBounds_toArray, List.set_cons_zero, List.set_cons_succ]
          refine wpAnyE_load (i := 5) (v := ?_) rfl (by kernel_rfl) (by kernel_rfl) (by kernel_rfl) (by kernel_rfl) (fun _ _ _ h => h) (Or.inl ⟨by rfl, ?_⟩) (by assumption) ?_
          rotate_left
          · (intro w hSw; (obtain ⟨f0, f1, f2, f3, f4⟩ := HX.out _ hSw.bl; have e0 := hSw.q.c0; have e1 := hSw.q.c1; have e2 := hSw.q.c2; have e3 := hSw.q.c3; have e4 := hSw.q.c4; have e5 := hSw.q.c5; have e6 := hSw.q.c6; have e7 := hSw.q.c7; simp only at e0 e1 e2 e5 e6 e7; clear hSw); go_simp; (try with_reducible rfl))
          try simp only [Act.put, List.getElem_toArray, List.getElem_cons_zero, List.getElem_cons_succ, List.setIfInBounds_toArray, List.set_cons_zero, List.set_cons_succ]
          refine wpAnyE_call (i := 6) (by kernel_rfl) rfl (by rfl) (fun K hK => ?_)
          go_simp
          with_reducible refine (C.out _ HL.out.dr.q.ra HL.out.dr.q.rt).mono ?_
          rintro ex w3 ⟨b1, m1, d1, b2, m2, d2, rfl, hra, hrt, hka, hkt, hb⟩
          have HC := Lib.hid (HL.out.dr.q.go hb)
          have HL1 := Lib.hid (HL.out.dr.set (s' := ⟨qb, qt, qd, qa, qo, qf, qe, qc⟩) hb hra hrt hka hkt)
          have HLG := Lib.hid (HL.out.dr.go hb)
          simp only at HL1
          clear hra hrt hka hkt hb
          have y0 := HC.out.c0
          have y1 := HC.out.c1
          have y2 := HC.out.c2
          have y3 := HC.out.c3
          have y4 := HC.out.c4
          have y5 := HC.out.c5
          have y6 := HC.out.c6
          have y7 := HC.out.c7
          simp only at y0 y1 y2 y5 y6 y7
          have yf := HC.out.fz
          refine hK.out _ _ ?_ (fun hHeld => ?_)
          · exact HLG.out
          clear hK K
          try simp only [Act.put, List.getElem_toArray, List.getElem_cons_zero, List.getElem_cons_succ, List.setIfInBounds_toArray, List.set_cons_zero, List.set_cons_succ]
          refine wpAnyE_take (i := 7) (v := ?_) rfl (by kernel_rfl) (by kernel_rfl) (by kernel_rfl) (fun _ _ _ h => h) (Or.inl ⟨by rfl, ?_⟩) ?_
          rotate_left
          · (intro w hSw; go_simp; (try with_reducible rfl))
          try simp only [Act.put, List.getElem_toArray, List.getElem_cons_zero, List.getElem_cons_succ, List.setIfInBounds_toArray, List.set_cons_zero, List.set_cons_succ]
          refine wpAnyE_take (i := 8) (v := ?_) rfl (by kernel_rfl) (by kernel_rfl) (by kernel_rfl) (fun _ _ _ h => h) (Or.inl ⟨by rfl, ?_⟩) ?_
          rotate_left
          · (intro w hSw; go_simp; (try with_reducible rfl))
          try simp only [Act.put, List.getElem_toArray, List.getElem_cons_zero, List.getElem_cons_succ, List.setIfInBounds_toArray, List.set_cons_zero, List.set_cons_succ]
          refine wpAnyE_take (i := 9) (v := ?_) rfl (by kernel_rfl) (by kernel_rfl) (by kernel_rfl) (fun _ _ _ h => h) (Or.inl ⟨by rfl, ?_⟩) ?_
          rotate_left
          · (intro w hSw; go_simp; (try with_reducible rfl))
          try simp only [Act.put, List.getElem_toArray, List.getElem_cons_zero, List.getElem_cons_succ, List.setIfInBounds_toArray, List.set_cons_zero, List.set_cons_succ]
          refine wpAnyE_store (i := 10) (by kernel_rfl) rfl (by rfl) (by rfl) (fun K hK => ?_)
          go_simp
          refine hK.out _ _ ?_
          clear hK K
          try simp only [Act.put, List.getElem_toArray, List.getElem_cons_zero, List.getElem_cons_succ, List.setIfInBounds_toArray, List.set_cons_zero, List.set_cons_succ]
          refine wpAnyE_done (by kernel_rfl) (NoPanic.normal ?_) _
          generalize (((((((w3.setCell _ _).setCell _ _).setCell _ _).setCell _ _).setCell _ _).setCell _ _).setCell _ _).setCell _ _ = W5 at *
          clear y0 y1 y2 y3 y4 y5 y6 y7 yf
          go_wp2_with fail
          go_meet
          case rel => exact ⟨rfl, _, _, _, _, _, _, HL1.out⟩
        · by_cases h_1 : xk = 1
          · subst h_1
            clear h_0
            have e9 : finS s = S1 := by rw [← hS1]; rfl
            have C := Lib.hid (fun W (k1 : Rd W (.slice a1 n1 c1) s.ak) (k2 : Rd W (.slice a2 n2 c2) s.td) => finish_any s a1 n1 c1 a2 n2 c2 W (by omega) (by omega) k1 k2)
            rw [e9] at C
            clear hS1 HI1 CAc hlen hok hen hr1 hr2 hr0 hr3 hnb hob hx1 hx2 hx3 HI
            obtain ⟨sb, st, sd, sa, so, sf, se, sc⟩ := s
            obtain ⟨qb, qt, qd, qa, qo, qf, qe, qc⟩ := S1
            simp only at HL C
            have y0 := HL.out.q.c0
            have y1 := HL.out.q.c1
            have y2 := HL.out.q.c2
            have y3 := HL.out.q.c3
            have y4 := HL.out.q.c4
            have y5 := HL.out.q.c5
            have y6 := HL.out.q.c6
            have y7 := HL.out.q.c7
            simp only at y0 y1 y2 y5 y6 y7
            have yf := HL.out.q.fz
            go_wp2_with fail
            with_reducible refine (C.out _ HL.out.q.ra HL.out.q.rt).mono ?_
            rintro e wv5 ⟨a5x, n5x, d5x, a5y, n5y, d5y, rfl, hra, hrt, hka, hkt, hb⟩
            have HC5 := Lib.hid (HL.out.q.go hb)
            have HL1 := Lib.hid (HL.out.set (s' := ⟨qb, qt, qd, qa, qo, qf, qe, qc⟩) hb hra hrt hka hkt)
            simp only at HL1
            clear hra hrt hka hkt hb
            have y0 := HC5.out.c0
            have y1 := HC5.out.c1
            have y2 := HC5.out.c2
            have y3 := HC5.out.c3
            have y4 := HC5.out.c4
            have y5 := HC5.out.c5
            have y6 := HC5.out.c6
            have y7 := HC5.out.c7
            simp only at y0 y1 y2 y5 y6 y7
            have yf := HC5.out.fz
            go_wp2_with fail
            generalize (((((((wv5.setCell _ _).setCell _ _).setCell _ _).setCell _ _).setCell _ _).setCell _ _).setCell _ _).setCell _ _ = W5 at *
            clear y0 y1 y2 y3 y4 y5 y6 y7 yf
            go_meet
            case rel => exact ⟨rfl, _, _, _, _, _, _, HL1.out⟩
          · by_cases h_3 : xk = 3
            · subst h_3
              clear h_0 h_1
              have e9 : lostS s R0 xn xf = S1 := by rw [← hS1, ← hR0]; rfl
              have C := Lib.hid (fun W (k1 : Rd W (.slice a1 n1 c1) s.ak) (k2 : Rd W (.slice a2 n2 c2) s.td) => lost_any s a1 n1 c1 a2 n2 c2 R0 xn xf W hok (by omega) (by omega) k1 k2 hr0 (by omega))
              rw [e9] at C
              clear hS1 HI1 CAc hlen hok hen hr1 hr2 hr0 hr3 hnb hob hx1 hx2 hx3 HI
              obtain ⟨sb, st, sd, sa, so, sf, se, sc⟩ := s
              obtain ⟨qb, qt, qd, qa, qo, qf, qe, qc⟩ := S1
              simp only at HL C
              go_wp2_with fail
              refine wp_region_noPanic ?_
              refine wp_region_E (fun W : World => LS w0 W g (.slice a1 n1 c1) (.slice a2 n2 c2) ⟨sb, st, sd, sa, so, sf, se, sc⟩) (fun j => Nat.ble 18 j) (by kernel_rfl) ?_ (fun hHeld => ?_)
              · exact HL.out.dr
              refine wpAnyE_take (i := 1) (v := ?_) rfl (by kernel_rfl) (by kernel_rfl) (by kernel_rfl) (fun _ _ _ h => h) (Or.inl ⟨by rfl, ?_⟩) ?_
              rotate_left
              · (intro w hSw; go_simp; (try with_reducible rfl))
              try simp only [Act.put, List.getElem_toArray, List.getElem_cons_zero, List.getElem_cons_succ, List.setIfInBounds_toArray, List.set_cons_zero, List.set_cons_succ]
              refine wpAnyE_take (i := 2) (v := ?_) rfl (by kernel_rfl) (by kernel_rfl) (by kernel_rfl) (fun _ _ _ h => h) (Or.inl ⟨by rfl, ?_⟩) ?_
              rotate_left
              · (intro w hSw; go_simp; (try with_reducible rfl))
              try simp only [Act.put, List.getElem_toArray, List.getElem_cons_zero, List.getElem_cons_succ, List.setIfInBounds_toArray, List.set_cons_zero, List.set_cons_succ]
              refine wpAnyE_take (i := 3) (v := ?_) rfl (by kernel_rfl) (by kernel_rfl) (by kernel_rfl) (fun _ _ _ h => h) (Or.inl ⟨by rfl, ?_⟩) ?_
              rotate_left
              · (intro w hSw; go_simp; (try with_reducible rfl))
              try simp only [Act.put, List.getElem_toArray, List.getElem_cons_zero, List.getElem_cons_succ, List.setIfInBounds_toArray, List.set_cons_zero, List.set_cons_succ]
              refine wpAnyE_take (i := 4) (v := ?_) rfl (by kernel_rfl) (by kernel_rfl) (by kernel_rfl) (fun _ _ _ h => h) (Or.inl ⟨by rfl, ?_⟩) ?_
              rotate_left
              · (intro w hSw; go_simp; (try with_reducible rfl))
              try simp only [Act.put, List.getElem_toArray, List.getElem_cons_zero, List.getElem_cons_succ, List.setIfInBounds_toArray, List.set_cons_zero, List.set_cons_succ]
              refine wpAnyE_take (i := 7) (v := ?_) rfl (by kernel_rfl) (by kernel_rfl) (by kernel_rfl) (fun _ _ _ h => h) (Or.inl ⟨by rfl, ?_⟩) ?_
              rotate_left
              · (intro w hSw; go_simp; (try with_reducible rfl))
              try simp only [Act.put, List.getElem_toArray, List.getElem_cons_zero, List.getElem_cons_succ, List.setIfInBounds_toArray, List.set_cons_zero, List.set_cons_succ]
              refine wpAnyE_take (i := 8) (v := ?_) rfl (by kernel_rfl) (by kernel_rfl) (by kernel_rfl) (fun _ _ _ h => h) (Or.inl ⟨by rfl, ?_⟩) ?_
              rotate_left
              · (intro w hSw; go_simp; (try with_reducible rfl))
              try simp only [Act.put, List.getElem_toArray, List.getElem_cons_zero, List.getElem_cons_succ, List.setIfInBounds_toArray, List.set_cons_zero, List.set_cons_succ]
              refine wpAnyE_take (i := 9) (v := ?_) rfl (by kernel_rfl) (by kernel_rfl) (by kernel_rfl) (fun _ _ _ h => h) (Or.inl ⟨by rfl, ?_⟩) ?_
              rotate_left
              · (intro w hSw; go_simp; (try with_reducible rfl))
              try simp only [Act.put, List.getElem_toArray, List.getElem_cons_zero, List.getElem_cons_succ, List.setIfInBounds_toArray, List.set_cons_zero, List.set_cons_succ]
              refine wpAnyE_take (i := 10) (v := ?_) rfl (by kernel_rfl) (by kernel_rfl) (by kernel_rfl) (fun _ _ _ h => h) (Or.inl ⟨by rfl, ?_⟩) ?_
              rotate_left
              · (intro w hSw; go_simp; (try with_reducible rfl))
              try simp only [Act.put, List.getElem_toArray, List.getElem_cons_zero, List.getElem_cons_succ, List.setIfInBounds_toArray, List.set_cons_zero, List.set_cons_succ]
              refine wpAnyE_take (i := 12) (v := ?_) rfl (by kernel_rfl) (by kernel_rfl) (by kernel_rfl) (fun _ _ _ h => h) (Or.inl ⟨by rfl, ?_⟩) ?_
              rotate_left
              · (intro w hSw; go_simp; (try with_reducible rfl))
              try simp only [Act.put, List.getElem_toArray, List.getElem_cons_zero, List.getElem_cons_succ, List.setIfInBounds_toArray, List.set_cons_zero, List.set_cons_succ]
              refine wpAnyE_take (i := 13) (v := ?_) rfl (by kernel_rfl) (by kernel_rfl) (by kernel_rfl) (fun _ _ _ h => h) (Or.inl ⟨by rfl, ?_⟩) ?_
              rotate_left
              · (intro w hSw; go_simp; (try with_reducible rfl))
              try simp only [Act.put, List.getElem_toArray, List.getElem_cons_zero, List.getElem_cons_succ, List.setIfInBounds_toArray, List.set_cons_zero, List.set_cons_succ]
              refine wpAnyE_take (i := 14) (v := ?_) rfl (by kernel_rfl) (by kernel_rfl) (by kernel_rfl) (fun _ _ _ h => h) (Or.inl ⟨by rfl, ?_⟩) ?_
              rotate_left
              · (intro w hSw; go_simp; (try with_reducible rfl))
              try simp only [Act.put, List.getElem_toArray, List.getElem_cons_zero, List.getElem_cons_succ, List.setIfInBounds_toArray, List.set_cons_zero, List.set_cons_succ]
              refine wpAnyE_take (i := 15) (v := ?_) rfl (by kernel_rfl) (by kernel_rfl) (by kernel_rfl) (fun _ _ _ h => h) (Or.inl ⟨by rfl, ?_⟩) ?_
              rotate_left
              · (intro w hSw; go_simp; (try with_reducible rfl))
              try simp only [Act.put, List.getElem_toArray, List.getElem_cons_zero, List.getElem_cons_succ, List.setIfInBounds_toArray, List.set_cons_zero, List.set_cons_succ]
              refine wpAnyE_load (i := 0) (v := ?_) rfl (by kernel_rfl) (by kernel_rfl) (by kernel_rfl) (by kernel_rfl) (fun _ _ _ h => h) (Or.inl ⟨by rfl, ?_⟩) (by assumption) ?_
              rotate_left
              · (intro w hSw; (obtain ⟨f0, f1, f2, f3, f4⟩ := HX.out _ hSw.bl; have e0 := hSw.q.c0; have e1 := hSw.q.c1; have e2 := hSw.q.c2; have e3 := hSw.q.c3; have e4 := hSw.q.c4; have e5 := hSw.q.c5; have e6 := hSw.q.c6; have e7 := hSw.q.c7; simp only at e0 e1 e2 e5 e6 e7; clear hSw); go_simp; (try with_reducible rfl))
              try simp only [Act.put, List.getElem_toArray, List.getElem_cons_zero, List.getElem_cons_succ, List.setIfInBounds_toArray, List.set_cons_zero, List.set_cons_succ]
              refine wpAnyE_load (i := 5) (v := ?_) rfl (by kernel_rfl) (by kernel_rfl) (by kernel_rfl) (by kernel_rfl) (fun _ _ _ h => h) (Or.inl ⟨by rfl, ?_⟩) (by assumption) ?_
              rotate_left
              · (intro w hSw; (obtain ⟨f0, f1, f2, f3, f4⟩ := HX.out _ hSw.bl; have e0 := hSw.q.c0; have e1 := hSw.q.c1; have e2 := hSw.q.c2; have e3 := hSw.q.c3; have e4 := hSw.q.c4; have e5 := hSw.q.c5; have e6 := hSw.q.c6; have e7 := hSw.q.c7; simp only at e0 e1 e2 e5 e6 e7; clear hSw); go_simp; (try with_reducible rfl))
              try simp only [Act.put, List.getElem_toArray, List.getElem_cons_zero, List.getElem_cons_succ, List.setIfInBounds_toArray, List.set_cons_zero, List.set_cons_succ]
              refine wpAnyE_take (i := 6) (v := ?_) rfl (by kernel_rfl) (by kernel_rfl) (by kernel_rfl) (fun _ _ _ h => h) (Or.inl ⟨by rfl, ?_⟩) ?_
              rotate_left
              · (intro w hSw; go_simp; (try with_reducible rfl))
              try simp only [Act.put, List.getElem_toArray, List.getElem_cons_zero, List.getElem_cons_succ, List.setIfInBounds_toArray, List.set_cons_zero, List.set_cons_succ]
              refine wpAnyE_load (i := 11) (v := ?_) rfl (by kernel_rfl) (by kernel_rfl) (by kernel_rfl) (by kernel_rfl) (fun _ _ _ h => h) (Or.inl ⟨by rfl, ?_⟩) (by assumption) ?_
              rotate_left
              · (intro w hSw; (obtain ⟨f0, f1, f2, f3, f4⟩ := HX.out _ hSw.bl; have e0 := hSw.q.c0; have e1 := hSw.q.c1; have e2 := hSw.q.c2; have e3 := hSw.q.c3; have e4 := hSw.q.c4; have e5 := hSw.q.c5; have e6 := hSw.q.c6; have e7 := hSw.q.c7; simp only at e0 e1 e2 e5 e6 e7; clear hSw); go_simp; (try with_reducible rfl))
              try simp only [Act.put, List.getElem_toArray, List.getElem_cons_zero, List.getElem_cons_succ, List.setIfInBounds_toArray, List.set_cons_zero, List.set_cons_succ]
              refine wpAnyE_load (i := 16) (v := ?_) rfl (by kernel_rfl) (by kernel_rfl) (by kernel_rfl) (by kernel_rfl) (fun _ _ _ h => h) (Or.inl ⟨by rfl, ?_⟩) (by assumption) ?_
              rotate_left
              · (intro w hSw; (obtain ⟨f0, f1, f2, f3, f4⟩ := HX.out _ hSw.bl; have e0 := hSw.q.c0; have e1 := hSw.q.c1; have e2 := hSw.q.c2; have e3 := hSw.q.c3; have e4 := hSw.q.c4; have e5 := hSw.q.c5; have e6 := hSw.q.c6; have e7 := hSw.q.c7; simp only at e0 e1 e2 e5 e6 e7; clear hSw); go_simp; (try with_reducible rfl))
              try simp only [Act.put, List.getElem_toArray, List.getElem_cons_zero, List.getElem_cons_succ, List.setIfInBounds_toArray, List.set_cons_zero, List.set_cons_succ]
              refine wpAnyE_call (i := 17) (by kernel_rfl) rfl (by rfl) (fun K hK => ?_)
              go_simp
              with_reducible refine (C.out _ HL.out.dr.q.ra HL.out.dr.q.rt).mono ?_
              rintro ex w3 ⟨b1, m1, d1, b2, m2, d2, rfl, hra, hrt, hka, hkt, hb⟩
              have HC := Lib.hid (HL.out.dr.q.go hb)
              have HL1 := Lib.hid (HL.out.dr.set (s' := ⟨qb, qt, qd, qa, qo, qf, qe, qc⟩) hb hra hrt hka hkt)
              have HLG := Lib.hid (HL.out.dr.go hb)
              simp only at HL1
              clear hra hrt hka hkt hb
              have y0 := HC.out.c0
              have y1 := HC.out.c1
              have y2 := HC.out.c2
              have y3 := HC.out.c3
              have y4 := HC.out.c4
              have y5 := HC.out.c5
              have y6 := HC.out.c6
              have y7 := HC.out.c7
              simp only at y0 y1 y2 y5 y6 y7
              have yf := HC.out.fz
              refine hK.out _ _ ?_ (fun hHeld => ?_)
              · exact HLG.out
              clear hK K
              try simp only [Act.put, List.getElem_toArray, List.getElem_cons_zero, List.getElem_cons_succ, List.setIfInBounds_toArray, List.set_cons_zero, List.set_cons_succ]
              refine wpAnyE_store (i := 18) (by kernel_rfl) rfl (by rfl) (by rfl) (fun K hK => ?_)
              go_simp
              refine hK.out _ _ ?_
              clear hK K
              try simp only [Act.put, List.getElem_toArray, List.getElem_cons_zero, List.getElem_cons_succ, List.setIfInBounds_toArray, List.set_cons_zero, List.set_cons_succ]
              refine wpAnyE_done (by kernel_rfl) (NoPanic.normal ?_) _
              generalize (((((((w3.setCell _ _).setCell _ _).setCell _ _).setCell _ _).setCell _ _).setCell _ _).setCell _ _).setCell _ _ = W5 at *
              clear y0 y1 y2 y3 y4 y5 y6 y7 yf
              go_wp2_with fail
              go_meet
              case rel => exact ⟨rfl, _, _, _, _, _, _, HL1.out⟩
            · by_cases h_4 : xk = 4
              · subst h_4
                clear h_0 h_1 h_3
                have e9 : ackS s R0 xn xf = S1 := by rw [← hS1, ← hR0]; rfl
                have C := Lib.hid (fun W (k1 : Rd W (.slice a1 n1 c1) s.ak) (k2 : Rd W (.slice a2 n2 c2) s.td) => acked_any s a1 n1 c1 a2 n2 c2 R0 xn xf W hok (by omega) (by omega) k1 k2 hr0 (by omega) (CAc.out R0 xn))
                rw [e9] at C
                clear hS1 HI1 CAc hlen hok hen hr1 hr2 hr0 hr3 hnb hob hx1 hx2 hx3 HI
                obtain ⟨sb, st, sd, sa, so, sf, se, sc⟩ := s
                obtain ⟨qb, qt, qd, qa, qo, qf, qe, qc⟩ := S1
                simp only at HL C
                go_wp2_with fail
                refine wp_region_noPanic ?_
                refine wp_region_E (fun W : World => LS w0 W g (.slice a1 n1 c1) (.slice a2 n2 c2) ⟨sb, st, sd, sa, so, sf, se, sc⟩) (fun j => Nat.ble 18 j) (by kernel_rfl) ?_ (fun hHeld => ?_)
                · exact HL.out.dr
                refine wpAnyE_take (i := 1) (v := ?_) rfl (by kernel_rfl) (by kernel_rfl) (by kernel_rfl) (fun _ _ _ h => h) (Or.inl ⟨by rfl, ?_⟩) ?_
                rotate_left
                · (intro w hSw; go_simp; (try with_reducible rfl))
                try simp only [Act.put, List.getElem_toArray, List.getElem_cons_zero, List.getElem_cons_succ, List.setIfInBounds_toArray, List.set_cons_zero, List.set_cons_succ]
                refine wpAnyE_take (i := 2) (v := ?_) rfl (by kernel_rfl) (by kernel_rfl) (by kernel_rfl) (fun _ _ _ h => h) (Or.inl ⟨by rfl, ?_⟩) ?_
                rotate_left
                · (intro w hSw; go_simp; (try with_reducible rfl))
                try simp only [Act.put, List.getElem_toArray, List.getElem_cons_zero, List.getElem_cons_succ, List.setIfInBounds_toArray, List.set_cons_zero, List.set_cons_succ]
                refine wpAnyE_take (i := 3) (v := ?_) rfl (by kernel_rfl) (by kernel_rfl) (by kernel_rfl) (fun _ _ _ h => h) (Or.inl ⟨by rfl, ?_⟩) ?_
                rotate_left
                · (intro w hSw; go_simp; (try with_reducible rfl))
                try simp only [Act.put, List.getElem_toArray, List.getElem_cons_zero, List.getElem_cons_succ, List.setIfInBounds_toArray, List.set_cons_zero, List.set_cons_succ]
                refine wpAnyE_take (i := 4) (v := ?_) rfl (by kernel_rfl) (by kernel_rfl) (by kernel_rfl) (fun _ _ _ h => h) (Or.inl ⟨by rfl, ?_⟩) ?_
                rotate_left
                · (intro w hSw; go_simp; (try with_reducible rfl))
                try simp only [Act.put, List.getElem_toArray, List.getElem_cons_zero, List.getElem_cons_succ, List.setIfInBounds_toArray, List.set_cons_zero, List.set_cons_succ]
                refine wpAnyE_take (i := 7) (v := ?_) rfl (by kernel_rfl) (by kernel_rfl) (by kernel_rfl) (fun _ _ _ h => h) (Or.inl ⟨by rfl, ?_⟩) ?_
                rotate_left
                · (intro w hSw; go_simp; (try with_reducible rfl))
                try simp only [Act.put, List.getElem_toArray, List.getElem_cons_zero, List.getElem_cons_succ, List.setIfInBounds_toArray, List.set_cons_zero, List.set_cons_succ]
                refine wpAnyE_take (i := 8) (v := ?_) rfl (by kernel_rfl) (by kernel_rfl) (by kernel_rfl) (fun _ _ _ h => h) (Or.inl ⟨by rfl, ?_⟩) ?_
                rotate_left
                · (intro w hSw; go_simp; (try with_reducible rfl))
                try simp only [Act.put, List.getElem_toArray, List.getElem_cons_zero, List.getElem_cons_succ, List.setIfInBounds_toArray, List.set_cons_zero, List.set_cons_succ]
                refine wpAnyE_take (i := 9) (v := ?_) rfl (by kernel_rfl) (by kernel_rfl) (by kernel_rfl) (fun _ _ _ h => h) (Or.inl ⟨by rfl, ?_⟩) ?_
                rotate_left
                · (intro w hSw; go_simp; (try with_reducible rfl))
                try simp only [Act.put, List.getElem_toArray, List.getElem_cons_zero, List.getElem_cons_succ, List.setIfInBounds_toArray, List.set_cons_zero, List.set_cons_succ]
                refine wpAnyE_take (i := 10) (v := ?_) rfl (by kernel_rfl) (by kernel_rfl) (by kernel_rfl) (fun _ _ _ h => h) (Or.inl ⟨by rfl, ?_⟩) ?_
                rotate_left
                · (intro w hSw; go_simp; (try with_reducible rfl))
                try simp only [Act.put, List.getElem_toArray, List.getElem_cons_zero, List.getElem_cons_succ, List.setIfInBounds_toArray, List.set_cons_zero, List.set_cons_succ]
                refine wpAnyE_take (i := 12) (v := ?_) rfl (by kernel_rfl) (by kernel_rfl) (by kernel_rfl) (fun _ _ _ h => h) (Or.inl ⟨by rfl, ?_⟩) ?_
                rotate_left
                · (intro w hSw; go_simp; (try with_reducible rfl))
                try simp only [Act.put, List.getElem_toArray, List.getElem_cons_zero, List.getElem_cons_succ, List.setIfInBounds_toArray, List.set_cons_zero, List.set_cons_succ]
                refine wpAnyE_take (i := 13) (v := ?_) rfl (by kernel_rfl) (by kernel_rfl) (by kernel_rfl) (fun _ _ _ h => h) (Or.inl ⟨by rfl, ?_⟩) ?_
                rotate_left
                · (intro w hSw; go_simp; (try with_reducible rfl))
                try simp only [Act.put, List.getElem_toArray, List.getElem_cons_zero, List.getElem_cons_succ, List.setIfInBounds_toArray, List.set_cons_zero, List.set_cons_succ]
                refine wpAnyE_take (i := 14) (v := ?_) rfl (by kernel_rfl) (by kernel_rfl) (by kernel_rfl) (fun _ _ _ h => h) (Or.inl ⟨by rfl, ?_⟩) ?_
                rotate_left
                · (intro w hSw; go_simp; (try with_reducible rfl))
                try simp only [Act.put, List.getElem_toArray, List.getElem_cons_zero, List.getElem_cons_succ, List.setIfInBounds_toArray, List.set_cons_zero, List.set_cons_succ]
                refine wpAnyE_take (i := 15) (v := ?_) rfl (by kernel_rfl) (by kernel_rfl) (by kernel_rfl) (fun _ _ _ h => h) (Or.inl ⟨by rfl, ?_⟩) ?_
                rotate_left
                · (intro w hSw; go_simp; (try with_reducible rfl))
                try simp only [Act.put, List.getElem_toArray, List.getElem_cons_zero, List.getElem_cons_succ, List.setIfInBounds_toArray, List.set_cons_zero, List.set_cons_succ]
                refine wpAnyE_load (i := 0) (v := ?_) rfl (by kernel_rfl) (by kernel_rfl) (by kernel_rfl) (by kernel_rfl) (fun _ _ _ h => h) (Or.inl ⟨by rfl, ?_⟩) (by assumption) ?_
                rotate_left
                · (intro w hSw; (obtain ⟨f0, f1, f2, f3, f4⟩ := HX.out _ hSw.bl; have e0 := hSw.q.c0; have e1 := hSw.q.c1; have e2 := hSw.q.c2; have e3 := hSw.q.c3; have e4 := hSw.q.c4; have e5 := hSw.q.c5; have e6 := hSw.q.c6; have e7 := hSw.q.c7; simp only at e0 e1 e2 e5 e6 e7; clear hSw); go_simp; (try with_reducible rfl))
                try simp only [Act.put, List.getElem_toArray, List.getElem_cons_zero, List.getElem_cons_succ, List.setIfInBounds_toArray, List.set_cons_zero, List.set_cons_succ]
                refine wpAnyE_load (i := 5) (v := ?_) rfl (by kernel_rfl) (by kernel_rfl) (by kernel_rfl) (by kernel_rfl) (fun _ _ _ h => h) (Or.inl ⟨by rfl, ?_⟩) (by assumption) ?_
                rotate_left
                · (intro w hSw; (obtain ⟨f0, f1, f2, f3, f4⟩ := HX.out _ hSw.bl; have e0 := hSw.q.c0; have e1 := hSw.q.c1; have e2 := hSw.q.c2; have e3 := hSw.q.c3; have e4 := hSw.q.c4; have e5 := hSw.q.c5; have e6 := hSw.q.c6; have e7 := hSw.q.c7; simp only at e0 e1 e2 e5 e6 e7; clear hSw); go_simp; (try with_reducible rfl))
                try simp only [Act.put, List.getElem_toArray, List.getElem_cons_zero, List.getElem_cons_succ, List.setIfInBounds_toArray, List.set_cons_zero, List.set_cons_succ]
                refine wpAnyE_take (i := 6) (v := ?_) rfl (by kernel_rfl) (by kernel_rfl) (by kernel_rfl) (fun _ _ _ h => h) (Or.inl ⟨by rfl, ?_⟩) ?_
                rotate_left
                · (intro w hSw; go_simp; (try with_reducible rfl))
                try simp only [Act.put, List.getElem_toArray, List.getElem_cons_zero, List.getElem_cons_succ, List.setIfInBounds_toArray, List.set_cons_zero, List.set_cons_succ]
                refine wpAnyE_load (i := 11) (v := ?_) rfl (by kernel_rfl) (by kernel_rfl) (by kernel_rfl) (by kernel_rfl) (fun _ _ _ h => h) (Or.inl ⟨by rfl, ?_⟩) (by assumption) ?_
                rotate_left
                · (intro w hSw; (obtain ⟨f0, f1, f2, f3, f4⟩ := HX.out _ hSw.bl; have e0 := hSw.q.c0; have e1 := hSw.q.c1; have e2 := hSw.q.c2; have e3 := hSw.q.c3; have e4 := hSw.q.c4; have e5 := hSw.q.c5; have e6 := hSw.q.c6; have e7 := hSw.q.c7; simp only at e0 e1 e2 e5 e6 e7; clear hSw); go_simp; (try with_reducible rfl))
                try simp only [Act.put, List.getElem_toArray, List.getElem_cons_zero, List.getElem_cons_succ, List.setIfInBounds_toArray, List.set_cons_zero, List.set_cons_succ]
                refine wpAnyE_load (i := 16) (v := ?_) rfl (by kernel_rfl) (by kernel_rfl) (by kernel_rfl) (by kernel_rfl) (fun _ _ _ h => h) (Or.inl ⟨by rfl, ?_⟩) (by assumption) ?_
                rotate_left
                · (intro w hSw; (obtain ⟨f0, f1, f2, f3, f4⟩ := HX.out _ hSw.bl; have e0 := hSw.q.c0; have e1 := hSw.q.c1; have e2 := hSw.q.c2; have e3 := hSw.q.c3; have e4 := hSw.q.c4; have e5 := hSw.q.c5; have e6 := hSw.q.c6; have e7 := hSw.q.c7; simp only at e0 e1 e2 e5 e6 e7; clear hSw); go_simp; (try with_reducible rfl))
                try simp only [Act.put, List.getElem_toArray, List.getElem_cons_zero, List.getElem_cons_succ, List.setIfInBounds_toArray, List.set_cons_zero, List.set_cons_succ]
                refine wpAnyE_call (i := 17) (by kernel_rfl) rfl (by rfl) (fun K hK => ?_)
                go_simp
                with_reducible refine (C.out _ HL.out.dr.q.ra HL.out.dr.q.rt).mono ?_
                rintro ex w3 ⟨b1, m1, d1, b2, m2, d2, rfl, hra, hrt, hka, hkt, hb⟩
                have HC := Lib.hid (HL.out.dr.q.go hb)
                have HL1 := Lib.hid (HL.out.dr.set (s' := ⟨qb, qt, qd, qa, qo, qf, qe, qc⟩) hb hra hrt hka hkt)
                have HLG := Lib.hid (HL.out.dr.go hb)
                simp only at HL1
                clear hra hrt hka hkt hb
                have y0 := HC.out.c0
                have y1 := HC.out.c1
                have y2 := HC.out.c2
                have y3 := HC.out.c3
                have y4 := HC.out.c4
                have y5 := HC.out.c5
                have y6 := HC.out.c6
                have y7 := HC.out.c7
                simp only at y0 y1 y2 y5 y6 y7
                have yf := HC.out.fz
                refine hK.out _ _ ?_ (fun hHeld => ?_)
                · exact HLG.out
                clear hK K
                try simp only [Act.put, List.getElem_toArray, List.getElem_cons_zero, List.getElem_cons_succ, List.setIfInBounds_toArray, List.set_cons_zero, List.set_cons_succ]
                refine wpAnyE_store (i := 18) (by kernel_rfl) rfl (by rfl) (by rfl) (fun K hK => ?_)
                go_simp
                refine hK.out _ _ ?_
                clear hK K
                try simp only [Act.put, List.getElem_toArray, List.getElem_cons_zero, List.getElem_cons_succ, List.setIfInBounds_toArray, List.set_cons_zero, List.set_cons_succ]
                refine wpAnyE_done (by kernel_rfl) (NoPanic.normal ?_) _
                generalize (((((((w3.setCell _ _).setCell _ _).setCell _ _).setCell _ _).setCell _ _).setCell _ _).setCell _ _).setCell _ _ = W5 at *
                clear y0 y1 y2 y3 y4 y5 y6 y7 yf
                go_wp2_with fail
                go_meet
                case rel => exact ⟨rfl, _, _, _, _, _, _, HL1.out⟩
              · have e9 : s = S1 := by rw [← hS1]; unfold crS; rw [if_neg h_0, if_neg h_1, if_neg h_3, if_neg h_4]
                have q0 : (xk == 0) = false := beq_eq_false_iff_ne.2 h_0
                have q1 : (xk == 1) = false := beq_eq_false_iff_ne.2 h_1
                have q3 : (xk == 3) = false := beq_eq_false_iff_ne.2 h_3
                have q4 : (xk == 4) = false := beq_eq_false_iff_ne.2 h_4
                subst e9
                clear hS1 HI1 CAc hlen hok hen hr1 hr2 hr0 hr3 hnb hob hx1 hx2 hx3 HI
                clear h_0 h_1 h_3 h_4
                obtain ⟨sb, st, sd, sa, so, sf, se, sc⟩ := s
                try simp only at HL
                go_wp2_with fail
                go_meet
                case rel => exact ⟨rfl, _, _, _, _, _, _, HL.out⟩
      case rest =>
        obtain ⟨rfl, a1, n1, c1, a2, n2, c2, hL1⟩ := hcut
        have HL1 := Lib.hid hL1
        clear hL1 HL e0 e1 e2 e3 e4 CAc hlen hok hen hr1 hr2 hr0 hr3 hw0 hnb hob hx1 hx2 hx3 HX hR0 hS1
        obtain ⟨N, hN⟩ : ∃ N, nxt S1 most cr = N := ⟨_, rfl⟩
        have CN := Lib.hid (next_any S1 a1 n1 c1 a2 n2 c2 most cr wc HI1.out.ok HL1.out.q.ra HL1.out.q.rt h2 h0 N hN)
        obtain ⟨E, hE⟩ : ∃ E, en S1 = E := ⟨_, rfl⟩
        rcases next_facts HI1.out.ok HI1.out.ff h2 hN with h9 | ⟨hi, hd, ho, hf, hfs, ht⟩ | ⟨hi, hz, hcr, hmo, hba, hle, hfi, hN9, hxm⟩
        · subst h9
          clear hN
          obtain ⟨P2, hI2⟩ : ∃ P2, CrI S1 P2 (3 * k + 2 + 1) (100 * k + 100) := ⟨P1, HI1.out.ok, HI1.out.ch, by have := HI1.out.ln; omega, HI1.out.en, HI1.out.ff⟩
          have HI2 := Lib.hid hI2
          clear hI2
          unfold nx0 at CN
          try simp only at CN
          obtain ⟨sb, st, sd, sa, so, sf, se, sc⟩ := S1
          try simp only at HL1 CN
          have y0 := HL1.out.q.c0
          have y1 := HL1.out.q.c1
          have y2 := HL1.out.q.c2
          have y3 := HL1.out.q.c3
          have y4 := HL1.out.q.c4
          have y5 := HL1.out.q.c5
          have y6 := HL1.out.q.c6
          have y7 := HL1.out.q.c7
          simp only at y0 y1 y2 y5 y6 y7
          have yf := HL1.out.q.fz
          go_wp2_with fail
          with_reducible refine (CN.out).mono ?_
          rintro e wn2 ⟨rfl, hb⟩
          have HL2 := Lib.hid (HL1.out.go hb)
          clear hb
          have y0 := HL2.out.q.c0
          have y1 := HL2.out.q.c1
          have y2 := HL2.out.q.c2
          have y3 := HL2.out.q.c3
          have y4 := HL2.out.q.c4
          have y5 := HL2.out.q.c5
          have y6 := HL2.out.q.c6
          have y7 := HL2.out.q.c7
          simp only at y0 y1 y2 y5 y6 y7
          have yf := HL2.out.q.fz
          clear CN
          go_wp2_with fail
          go_roundw
          case rel => exact ⟨k + 1, _, _, _, _, _, _, _, _, by go_num, by omega, by rw [show 3 * (k + 1) = 3 * k + 2 + 1 by omega, show 100 * (k + 1) = 100 * k + 100 by omega]; exact HI2, HL2⟩
          case measure => simp [intOf]; omega
        · clear hN
          have hok1 := HI1.out.ok
          have hlen1 := HI1.out.len (by omega)
          have hen1 := HI1.out.en
          have hb1 := hok1.b1
          have hb0 := hok1.b0
          have hge1 := en_ge S1
          have hm0 : (N.d.size : Int) = 0 := by rw [hd]; rfl
          have CS := Lib.hid (fun W (k1 : Rd W (.slice a1 n1 c1) S1.ak) (k2 : Rd W (.slice a2 n2 c2) S1.td) => sent_any S1 a1 n1 c1 a2 n2 c2 N.off (N.d.size : Int) N.fin W hok1 (by have := rd_len k1; omega) (by have := rd_len k2; omega) k1 k2 (by omega) (by omega))
          obtain ⟨P2, hI2⟩ := HI1.out.next (N := N) (.inl ⟨hd, ht⟩)
          generalize sentS S1 N.off (N.d.size : Int) N.fin = S2 at *
          have HI2 := Lib.hid hI2
          clear hI2
          have CE := Lib.hid (fun (u v : Value) W => endq_End S1 u v W hok1.b0 hok1.b1)
          obtain ⟨o9, D, fi, iz⟩ := N
          simp only at hi hd ho hf CS CN
          subst hi hd hf
          rw [hE] at ho CE
          have ho9 : 0 ≤ E := by have := en_ge S1; omega
          have hE9 : E ≤ 1000000 := by omega
          subst ho
          have hfs := hfs
          have z0 : ((⟨#[]⟩ : ByteArray).size : Int) = 0 := rfl
          rw [z0] at CS
          have u1 : IntKind.u64.wrap 0 = 0 := rfl
          have u2 : IntKind.u64.wrap (o9 + 0) = o9 := by rw [Int.add_zero]; exact IntWalk.u64_in _ (by omega)
          have u3 : IntKind.u64.wrap o9 = o9 := IntWalk.u64_in _ (by omega)
          have hem := isEmptyY (D := (⟨#[]⟩ : ByteArray)) rfl
          clear hE
          clear hok1 hlen1 hen1 hb1 hb0 hge1
          obtain ⟨sb, st, sd, sa, so, sf, se, sc⟩ := S1
          obtain ⟨qb, qt, qd, qa, qo, qf, qe, qc⟩ := S2
          simp only at HL1 CS CN CE hfs
          subst hfs
          have y0 := HL1.out.q.c0
          have y1 := HL1.out.q.c1
          have y2 := HL1.out.q.c2
          have y3 := HL1.out.q.c3
          have y4 := HL1.out.q.c4
          have y5 := HL1.out.q.c5
          have y6 := HL1.out.q.c6
          have y7 := HL1.out.q.c7
          simp only at y0 y1 y2 y5 y6 y7
          have yf := HL1.out.q.fz
          go_wp2_with fail
          with_reducible refine (CN.out).mono ?_
          rintro e wn2 ⟨rfl, hb⟩
          have HL2 := Lib.hid (HL1.out.go hb)
          clear hb
          have y0 := HL2.out.q.c0
          have y1 := HL2.out.q.c1
          have y2 := HL2.out.q.c2
          have y3 := HL2.out.q.c3
          have y4 := HL2.out.q.c4
          have y5 := HL2.out.q.c5
          have y6 := HL2.out.q.c6
          have y7 := HL2.out.q.c7
          simp only at y0 y1 y2 y5 y6 y7
          have yf := HL2.out.q.fz
          clear CN
          go_wp2_with fail
          with_reducible refine (CE.out _ _ _).mono ?_
          rintro ee we ⟨rfl, hb⟩
          have HL3 := Lib.hid (HL2.out.go hb)
          clear hb CE
          clear y0 y1 y2 y3 y4 y5 y6 y7 yf
          have y0 := HL3.out.q.c0
          have y1 := HL3.out.q.c1
          have y2 := HL3.out.q.c2
          have y3 := HL3.out.q.c3
          have y4 := HL3.out.q.c4
          have y5 := HL3.out.q.c5
          have y6 := HL3.out.q.c6
          have y7 := HL3.out.q.c7
          simp only at y0 y1 y2 y5 y6 y7
          have yf := HL3.out.q.fz
          go_wp2_with fail
          with_reducible refine (CS.out _ HL3.out.q.ra HL3.out.q.rt).mono ?_
          rintro e wv4 ⟨a4x, n4x, d4x, a4y, n4y, d4y, rfl, hra, hrt, hka, hkt, hb⟩
          have HC4 := Lib.hid (HL3.out.q.go hb)
          have HL4 := Lib.hid (HL3.out.set (s' := ⟨qb, qt, qd, qa, qo, qf, qe, qc⟩) hb hra hrt hka hkt)
          simp only at HL4
          clear hra hrt hka hkt hb
          have y0 := HC4.out.c0
          have y1 := HC4.out.c1
          have y2 := HC4.out.c2
          have y3 := HC4.out.c3
          have y4 := HC4.out.c4
          have y5 := HC4.out.c5
          have y6 := HC4.out.c6
          have y7 := HC4.out.c7
          simp only at y0 y1 y2 y5 y6 y7
          have yf := HC4.out.fz
          go_wp2_with fail
          generalize (((((((wv4.setCell _ _).setCell _ _).setCell _ _).setCell _ _).setCell _ _).setCell _ _).setCell _ _).setCell _ _ = W4 at *
          clear y0 y1 y2 y3 y4 y5 y6 y7 yf
          go_roundw
          case rel => exact ⟨k + 1, _, _, _, _, _, _, _, _, by go_num, by omega, by rw [show 3 * (k + 1) = 3 * k + 2 + 1 by omega, show 100 * (k + 1) = 100 * k + 100 by omega]; exact HI2, HL4⟩
          case measure => simp [intOf]; omega
        · clear hN
          cases hff : N.fin with
          | false =>
            have hok1 := HI1.out.ok
            have hlen1 := HI1.out.len (by omega)
            have hen1 := HI1.out.en
            have hb1 := hok1.b1
            have hb0 := hok1.b0
            have hge1 := en_ge S1
            have CS := Lib.hid (fun W (k1 : Rd W (.slice a1 n1 c1) S1.ak) (k2 : Rd W (.slice a2 n2 c2) S1.td) => sent_any S1 a1 n1 c1 a2 n2 c2 N.off (N.d.size : Int) N.fin W hok1 (by have := rd_len k1; omega) (by have := rd_len k2; omega) k1 k2 (by omega) (by omega))
            obtain ⟨P2, hI2⟩ := HI1.out.next (N := N) (.inr ⟨hz, hba, hle, hxm⟩)
            generalize sentS S1 N.off (N.d.size : Int) N.fin = S2 at *
            have HI2 := Lib.hid hI2
            clear hI2
            obtain ⟨o9, D, fi, iz⟩ := N
            simp only at hi hz hcr hmo hba hle CS CN hfi
            subst hi
            obtain ⟨m, hm⟩ : ∃ m : Nat, D.size = m := ⟨_, rfl⟩
            rw [hm] at hz hcr hmo hle CS hfi
            have hem := isEmptyG (D := D) (by omega)
            have u1 : IntKind.u64.wrap (m : Int) = (m : Int) := IntWalk.u64_in _ (by omega)
            have u2 : IntKind.u64.wrap (o9 + (m : Int)) = o9 + (m : Int) := IntWalk.u64_in _ (by omega)
            have g1 : ¬ cr < o9 + (m : Int) := by omega
            have g2 : ¬ most < (m : Int) := by omega
            subst hff
            clear hz hcr hmo hba hle hxm hfi hN9 hE
            clear hok1 hlen1 hen1 hb1 hb0 hge1
            obtain ⟨sb, st, sd, sa, so, sf, se, sc⟩ := S1
            obtain ⟨qb, qt, qd, qa, qo, qf, qe, qc⟩ := S2
            simp only at HL1 CS CN
            have y0 := HL1.out.q.c0
            have y1 := HL1.out.q.c1
            have y2 := HL1.out.q.c2
            have y3 := HL1.out.q.c3
            have y4 := HL1.out.q.c4
            have y5 := HL1.out.q.c5
            have y6 := HL1.out.q.c6
            have y7 := HL1.out.q.c7
            simp only at y0 y1 y2 y5 y6 y7
            have yf := HL1.out.q.fz
            go_wp2_with fail
            with_reducible refine (CN.out).mono ?_
            rintro e wn2 ⟨rfl, hb⟩
            have HL2 := Lib.hid (HL1.out.go hb)
            clear hb
            have y0 := HL2.out.q.c0
            have y1 := HL2.out.q.c1
            have y2 := HL2.out.q.c2
            have y3 := HL2.out.q.c3
            have y4 := HL2.out.q.c4
            have y5 := HL2.out.q.c5
            have y6 := HL2.out.q.c6
            have y7 := HL2.out.q.c7
            simp only at y0 y1 y2 y5 y6 y7
            have yf := HL2.out.q.fz
            clear CN
            have hm := hm
            go_wp2_with fail
            with_reducible refine (CS.out _ HL2.out.q.ra HL2.out.q.rt).mono ?_
            rintro e wv4 ⟨a4x, n4x, d4x, a4y, n4y, d4y, rfl, hra, hrt, hka, hkt, hb⟩
            have HC4 := Lib.hid (HL2.out.q.go hb)
            have HL4 := Lib.hid (HL2.out.set (s' := ⟨qb, qt, qd, qa, qo, qf, qe, qc⟩) hb hra hrt hka hkt)
            simp only at HL4
            clear hra hrt hka hkt hb
            have y0 := HC4.out.c0
            have y1 := HC4.out.c1
            have y2 := HC4.out.c2
            have y3 := HC4.out.c3
            have y4 := HC4.out.c4
            have y5 := HC4.out.c5
            have y6 := HC4.out.c6
            have y7 := HC4.out.c7
            simp only at y0 y1 y2 y5 y6 y7
            have yf := HC4.out.fz
            go_wp2_with fail
            generalize (((((((wv4.setCell _ _).setCell _ _).setCell _ _).setCell _ _).setCell _ _).setCell _ _).setCell _ _).setCell _ _ = W4 at *
            clear y0 y1 y2 y3 y4 y5 y6 y7 yf
            go_roundw
            case rel => exact ⟨k + 1, _, _, _, _, _, _, _, _, by go_num, by omega, by rw [show 3 * (k + 1) = 3 * k + 2 + 1 by omega, show 100 * (k + 1) = 100 * k + 100 by omega]; exact HI2, HL4⟩
            case measure => simp [intOf]; omega
          | true =>
            have hok1 := HI1.out.ok
            have hlen1 := HI1.out.len (by omega)
            have hen1 := HI1.out.en
            have hb1 := hok1.b1
            have hb0 := hok1.b0
            have hge1 := en_ge S1
            have CS := Lib.hid (fun W (k1 : Rd W (.slice a1 n1 c1) S1.ak) (k2 : Rd W (.slice a2 n2 c2) S1.td) => sent_any S1 a1 n1 c1 a2 n2 c2 N.off (N.d.size : Int) N.fin W hok1 (by have := rd_len k1; omega) (by have := rd_len k2; omega) k1 k2 (by omega) (by omega))
            obtain ⟨P2, hI2⟩ := HI1.out.next (N := N) (.inr ⟨hz, hba, hle, hxm⟩)
            generalize sentS S1 N.off (N.d.size : Int) N.fin = S2 at *
            have HI2 := Lib.hid hI2
            clear hI2
            have CE := Lib.hid (fun (u v : Value) W => endq_End S1 u v W hok1.b0 hok1.b1)
            obtain ⟨o9, D, fi, iz⟩ := N
            simp only at hi hz hcr hmo hba hle CS CN hfi
            subst hi
            obtain ⟨m, hm⟩ : ∃ m : Nat, D.size = m := ⟨_, rfl⟩
            rw [hm] at hz hcr hmo hle CS hfi
            have hem := isEmptyG (D := D) (by omega)
            have u1 : IntKind.u64.wrap (m : Int) = (m : Int) := IntWalk.u64_in _ (by omega)
            have u2 : IntKind.u64.wrap (o9 + (m : Int)) = o9 + (m : Int) := IntWalk.u64_in _ (by omega)
            have g1 : ¬ cr < o9 + (m : Int) := by omega
            have g2 : ¬ most < (m : Int) := by omega
            subst hff
            obtain ⟨hfs, hfe⟩ := hfi rfl
            rw [hE] at hfe CE
            replace u2 : IntKind.u64.wrap (o9 + (m : Int)) = E := u2.trans hfe
            replace g1 : ¬ cr < E := by omega
            replace hfe := Lib.hid hfe
            clear hz hcr hmo hba hle hxm hfi hN9 hE
            clear hok1 hlen1 hen1 hb1 hb0 hge1
            obtain ⟨sb, st, sd, sa, so, sf, se, sc⟩ := S1
            obtain ⟨qb, qt, qd, qa, qo, qf, qe, qc⟩ := S2
            simp only at HL1 CS CN CE hfs
            subst hfs
            have y0 := HL1.out.q.c0
            have y1 := HL1.out.q.c1
            have y2 := HL1.out.q.c2
            have y3 := HL1.out.q.c3
            have y4 := HL1.out.q.c4
            have y5 := HL1.out.q.c5
            have y6 := HL1.out.q.c6
            have y7 := HL1.out.q.c7
            simp only at y0 y1 y2 y5 y6 y7
            have yf := HL1.out.q.fz
            go_wp2_with fail
            with_reducible refine (CN.out).mono ?_
            rintro e wn2 ⟨rfl, hb⟩
            have HL2 := Lib.hid (HL1.out.go hb)
            clear hb
            have y0 := HL2.out.q.c0
            have y1 := HL2.out.q.c1
            have y2 := HL2.out.q.c2
            have y3 := HL2.out.q.c3
            have y4 := HL2.out.q.c4
            have y5 := HL2.out.q.c5
            have y6 := HL2.out.q.c6
            have y7 := HL2.out.q.c7
            simp only at y0 y1 y2 y5 y6 y7
            have yf := HL2.out.q.fz
            clear CN
            have hm := hm
            go_wp2_with fail
            with_reducible refine (CE.out _ _ _).mono ?_
            rintro ee we ⟨rfl, hb⟩
            have HL3 := Lib.hid (HL2.out.go hb)
            clear hb CE
            clear y0 y1 y2 y3 y4 y5 y6 y7 yf
            have y0 := HL3.out.q.c0
            have y1 := HL3.out.q.c1
            have y2 := HL3.out.q.c2
            have y3 := HL3.out.q.c3
            have y4 := HL3.out.q.c4
            have y5 := HL3.out.q.c5
            have y6 := HL3.out.q.c6
            have y7 := HL3.out.q.c7
            simp only at y0 y1 y2 y5 y6 y7
            have yf := HL3.out.q.fz
            go_wp2_with fail
            with_reducible refine (CS.out _ HL3.out.q.ra HL3.out.q.rt).mono ?_
            rintro e wv4 ⟨a4x, n4x, d4x, a4y, n4y, d4y, rfl, hra, hrt, hka, hkt, hb⟩
            have HC4 := Lib.hid (HL3.out.q.go hb)
            have HL4 := Lib.hid (HL3.out.set (s' := ⟨qb, qt, qd, qa, qo, qf, qe, qc⟩) hb hra hrt hka hkt)
            simp only at HL4
            clear hra hrt hka hkt hb
            have y0 := HC4.out.c0
            have y1 := HC4.out.c1
            have y2 := HC4.out.c2
            have y3 := HC4.out.c3
            have y4 := HC4.out.c4
            have y5 := HC4.out.c5
            have y6 := HC4.out.c6
            have y7 := HC4.out.c7
            simp only at y0 y1 y2 y5 y6 y7
            have yf := HC4.out.fz
            go_wp2_with fail
            generalize (((((((wv4.setCell _ _).setCell _ _).setCell _ _).setCell _ _).setCell _ _).setCell _ _).setCell _ _).setCell _ _ = W4 at *
            clear y0 y1 y2 y3 y4 y5 y6 y7 yf
            go_roundw
            case rel => exact ⟨k + 1, _, _, _, _, _, _, _, _, by go_num, by omega, by rw [show 3 * (k + 1) = 3 * k + 2 + 1 by omega, show 100 * (k + 1) = 100 * k + 100 by omega]; exact HI2, HL4⟩
            case measure => simp [intOf]; omega
    · obtain rfl : k = len := by omega
      go_wp2_with fail
      go_ret
      exact ⟨rfl, HL.out.bl⟩
theorem law_credit (a : Option Addr) (len cap : Nat) (G : List AcV) (cr most : Int) (w : World) (hn : G.length = len) (hm : len ≤ maxLen) (ht : Act5 w a len cap G) (w1 : (Lit.int .u16 cr).wf = true) (w2 : (Lit.int .i64 most).wf = true) :
    Calls Try.prog 5 #[.slice a len cap, .int .u16 cr, .int .i64 most] w fun e w' => e = .returned (.bool true) ∧ Below w.heap.size w w' := by
  have hr := bounds_i64 w2
  simp only [Lit.wf, Bool.and_eq_true, decide_eq_true_eq] at w1
  have h1 : cr < 65536 := by have := w1.2; simp [IntKind.max, IntKind.bits, IntKind.signed] at this; omega
  cases hb : bdL G with
  | false => exact credit_no a len cap G cr most w hn hm ht hb
  | true => exact credit_main a len cap G cr most w hn hm ht hb w1.1 h1 (by omega)
end Go.Proofs.Ytedijfcagkedaaa.Rg
