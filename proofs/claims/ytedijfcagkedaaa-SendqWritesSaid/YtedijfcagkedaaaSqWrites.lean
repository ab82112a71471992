/- Layer 15: the law of writes. By tools/gen-sendq-10.py. -/
import Derived.Test.YtedijfcagkedaaaSqK
import Derived.Test.YtedijfcagkedaaaSqJ
namespace Go.Proofs.Ytedijfcagkedaaa.Rg
set_option maxRecDepth 20000
open Go.RowKit Go.Shelf
set_option linter.unusedVariables false
set_option linter.unusedSimpArgs false

def WrR (w : World) (g : Nat) (e : Int) (len : Nat) (av iv : Value) (wr : World) : Prop :=
  ∃ (k : Nat) (A : ByteArray) (a1 : Option Addr) (n1 c1 : Nat) (a2 : Option Addr) (n2 c2 : Nat) (s : SS), av = .string A ∧ iv = .int .i64 k ∧ k ≤ len ∧ Hid (WrI A e s k) ∧ Hid (LS w wr g (.slice a1 n1 c1) (.slice a2 n2 c2) s)
theorem toList_self (A : ByteArray) : (A.toList == A.toList) = true := beq_self_eq_true _
set_option maxHeartbeats 1000000 in
theorem writes_len (a : Option Addr) (len cap : Nat) (room e : Int) (w : World) (hL : 20 < len) :
    Calls Try.prog 6 #[.slice a len cap, .int .i64 room, .int .u8 e] w fun e w' => e = .returned (.bool true) ∧ Below w.heap.size w w' := by
  have CH := Lib.hid (fun W => shown15_any W)
  have d1 : (20 : Int) < (len : Int) := by omega
  go_enter Try.func6, Try.ntmps6
  go_wp2_with fail
  with_reducible refine (CH.out _).mono ?_
  rintro e w1 ⟨rfl, hb1⟩
  go_wp2_with fail
  go_ret
  exact ⟨rfl, hb1⟩
set_option maxHeartbeats 1000000 in
theorem writes_room (a : Option Addr) (len cap : Nat) (room e : Int) (w : World) (hL : len ≤ 20) (hr : 1048576 < room) :
    Calls Try.prog 6 #[.slice a len cap, .int .i64 room, .int .u8 e] w fun e w' => e = .returned (.bool true) ∧ Below w.heap.size w w' := by
  have CH := Lib.hid (fun W => shown15_any W)
  have d1 : ¬ (20 : Int) < (len : Int) := by omega
  have d2 : (1048576 : Int) < room := hr
  go_enter Try.func6, Try.ntmps6
  go_wp2_with fail
  with_reducible refine (CH.out _).mono ?_
  rintro e w1 ⟨rfl, hb1⟩
  go_wp2_with fail
  go_ret
  exact ⟨rfl, hb1⟩
set_option maxHeartbeats 16000000 in
theorem writes_main (a : Option Addr) (len cap : Nat) (l : List ByteArray) (room e : Int) (w : World) (hn : l.length = len) (hL : len ≤ 20) (hr : room ≤ 1048576) (ht : Txs w a len cap l) (h0 : 0 ≤ e) (h1 : e < 256) (h2 : -9223372036854775808 ≤ room) :
    Calls Try.prog 6 #[.slice a len cap, .int .i64 room, .int .u8 e] w fun e w' => e = .returned (.bool true) ∧ Below w.heap.size w w' := by
  have CH := Lib.hid (fun W => shown15_any W)
  have d1 : ¬ (20 : Int) < (len : Int) := by omega
  have d2 : ¬ (1048576 : Int) < room := by omega
  have ue : IntKind.i64.wrap e = e := IntWalk.i64_in _ (by omega)
  have HT := Lib.hid ht
  have HI0 := Lib.hid (wrI_first h0)
  obtain ⟨R1, hR1⟩ : ∃ x, max room 0 = x := ⟨_, rfl⟩
  have hx1 := max_run64 room 0 R1 hR1
  have hR1a : 0 ≤ R1 := by omega
  have hR1b : R1 ≤ 1048576 := by omega
  clear hn ht
  go_enter Try.func6, Try.ntmps6
  go_wp2_with fail
  with_reducible refine (CH.out _).mono ?_
  rintro e1 w1 ⟨rfl, hb1⟩
  have HB1 := Lib.hid hb1
  clear hb1
  have HL0 := Lib.hid (ls_made w w1 (.slice none 0 0) (.slice none 0 0) s00 HB1.out (rd00 w1) (rd00 w1))
  unfold s00 at HL0
  simp only at HL0
  have HI0b := HI0
  unfold s00 at HI0b
  go_wp2_with fail
  obtain ⟨g, hg⟩ : ∃ g, w1.heap.size = g := ⟨_, rfl⟩
  go_loopw [8, 9] (fun av iv wr => WrR w w1.heap.size e len av iv wr) (fun _ iv _ => len - (intOf iv).toNat)
  case atStart => exact ⟨0, _, _, _, _, _, _, _, _, rfl, rfl, Nat.zero_le _, HI0b, HL0⟩
  case round =>
    obtain ⟨k, A, a1, n1, c1, a2, n2, c2, s, rfl, rfl, hk, HI, HL⟩ := hrel
    rw [hg] at *
    replace hg := Lib.hid hg
    have hsz := HI.out.sz
    by_cases hlt : k < len
    · obtain ⟨b, o, rfl, hcell⟩ := HT.out.2 k hlt
      obtain ⟨D, hD⟩ : ∃ D, l.getD k ⟨#[]⟩ = D := ⟨_, rfl⟩
      rw [hD] at hcell
      have HX := Lib.hid hcell
      have hx := hcell wr HL.out.bl
      have hcp := HT.out.1
      clear hD hcell
      by_cases hbg : 200 < D.size
      · have hbg2 : (200 : Int) < (D.size : Int) := by omega
        clear hbg hsz
        go_wp2_with fail
        with_reducible refine (CH.out _).mono ?_
        rintro e3 w3 ⟨rfl, hb3⟩
        have HB3 := Lib.hid (nextG HL.out.bl hb3)
        clear hb3
        go_wp2_with fail
        go_ret
        exact ⟨rfl, HB3.out⟩
      · have hbg2 : ¬ (200 : Int) < (D.size : Int) := by omega
        have hD2 : D.size ≤ 200 := by omega
        obtain ⟨m1, m2, m3, m4, m5, m6⟩ := HI.out.mid
        obtain ⟨hNw, hI2⟩ := HI.out.step (by omega) hD2 room
        have hlen1 : (midS s e k).ak.length ≤ 100 := by rw [m3]; decide
        have hlen2 : (midS s e k).td.length ≤ 100 := by
          have h := is_fromL (a := 0) (b := (A.size : Int)) (by omega) (by omega) m1.ct m4
          rw [h]; unfold fromL; split <;> simp
        have hlen3 : s.ak.length ≤ 100 := by rw [HI.out.ak]; decide
        have hlen4 : s.td.length ≤ 100 := by
          have h := is_fromL (a := 0) (b := (A.size : Int)) (by omega) (by omega) HI.out.ok.ct HI.out.td
          rw [h]; unfold fromL; split <;> simp
        have hen : en (midS s e k) = (A.size : Int) := by unfold en; rw [m2, m5]; omega
        have CW := Lib.hid (fun (a1 : Option Addr) (n1 c1 : Nat) (a2 : Option Addr) (n2 c2 : Nat) W (k1 : Rd W (.slice a1 n1 c1) (midS s e k).ak) (k2 : Rd W (.slice a2 n2 c2) (midS s e k).td) => write_any (midS s e k) a1 n1 c1 a2 n2 c2 D room W m1 (by rw [hen]; omega) (by omega) (by have := rd_len k1; omega) (by have := rd_len k2; omega) k1 k2)
        rw [hNw] at CW
        generalize wrS (midS s e k) D room = S2 at *
        have hNr := wrN_range (s := midS s e k) (D := D) (room := room)
        rw [hNw] at hNr
        obtain ⟨R2, hR2⟩ : ∃ x, R1 - (A.size : Int) = x := ⟨_, rfl⟩
        have hw2 : IntKind.i64.wrap (R1 - (A.size : Int)) = R2 := by rw [hR2]; exact IntWalk.i64_in _ (by omega)
        obtain ⟨R3, hR3⟩ : ∃ x, max R2 0 = x := ⟨_, rfl⟩
        have hx3 := max_run64 R2 0 R3 hR3
        obtain ⟨R4, hR4⟩ : ∃ x, min (D.size : Int) R3 = x := ⟨_, rfl⟩
        have hx4 := min_run64 (D.size : Int) R3 R4 hR4
        have hwn : wantN A D room e k = if e ≤ (k : Int) then 0 else R4 := by unfold wantN; rw [hR1, hR2, hR3, hR4]
        obtain ⟨N, hN⟩ : ∃ x, wantN A D room e k = x := ⟨_, rfl⟩
        rw [hN] at CW hI2 hNr hwn
        obtain ⟨DD, hDD⟩ : ∃ x, D.extract 0 N.toNat = x := ⟨_, rfl⟩
        have hDz : DD.size ≤ 200 := by rw [← hDD, ByteArray.size_extract]; omega
        rw [hDD] at hI2
        replace hDD := Lib.hid hDD
        have HI2 := Lib.hid hI2
        have hcat : ¬ 9223372036854775807 < A.size + DD.size := by omega
        have s1 : 0 ≤ N := hNr.1
        have s2 : N ≤ (D.size : Int) := hNr.2
        have k0 : (0 : Int) ≤ (k : Int) := by omega
        have k1 : (k : Int) < (len : Int) := by omega
        clear m1 m2 m3 m4 m5 m6 hNw hI2 hlen1 hlen2 hen hNr hR2 hR3 hR4 hN hDz hD2 hbg
        unfold midS at CW
        by_cases hq : (k : Int) = e
        · rw [if_pos hq] at CW
          subst hq
          have CF := Lib.hid (fun W (k1 : Rd W (.slice a1 n1 c1) s.ak) (k2 : Rd W (.slice a2 n2 c2) s.td) => finish_any s a1 n1 c1 a2 n2 c2 W (by have := rd_len k1; omega) (by have := rd_len k2; omega) k1 k2)
          clear hlen3 hlen4
          generalize finS s = S1 at *
          obtain ⟨pb, pt, pd, pa, po, pf, pe, pc⟩ := S1
          obtain ⟨sb, st, sd, sa, so, sf, se, sc⟩ := s
          obtain ⟨qb, qt, qd, qa, qo, qf, qe, qc⟩ := S2
          unfold GvN at CW
          simp only at CW HL CF
          have y0 := HL.out.q.c0
          have y1 := HL.out.q.c1
          have y2 := HL.out.q.c2
          have y3 := HL.out.q.c3
          have y4 := HL.out.q.c4
          have y5 := HL.out.q.c5
          have y6 := HL.out.q.c6
          have y7 := HL.out.q.c7
          simp only at y0 y1 y2 y5 y6 y7
          have yf := HL.out.q.fz
          go_wp2_with fail
          with_reducible refine (CF.out _ HL.out.q.ra HL.out.q.rt).mono ?_
          rintro e wv9 ⟨a9x, n9x, d9x, a9y, n9y, d9y, rfl, hra, hrt, hka, hkt, hb⟩
          have HC9 := Lib.hid (HL.out.q.go hb)
          have HL1 := Lib.hid (HL.out.set (s' := ⟨pb, pt, pd, pa, po, pf, pe, pc⟩) hb hra hrt hka hkt)
          simp only at HL1
          clear hra hrt hka hkt hb
          have y0 := HC9.out.c0
          have y1 := HC9.out.c1
          have y2 := HC9.out.c2
          have y3 := HC9.out.c3
          have y4 := HC9.out.c4
          have y5 := HC9.out.c5
          have y6 := HC9.out.c6
          have y7 := HC9.out.c7
          simp only at y0 y1 y2 y5 y6 y7
          have yf := HC9.out.fz
          go_wp2_with fail
          generalize (((((((wv9.setCell _ _).setCell _ _).setCell _ _).setCell _ _).setCell _ _).setCell _ _).setCell _ _).setCell _ _ = W9 at *
          clear y0 y1 y2 y3 y4 y5 y6 y7 yf
          refine wp_region_noPanic ?_
          refine wp_region_E (fun W : World => LS w W g (.slice a9x n9x d9x) (.slice a9y n9y d9y) ⟨pb, pt, pd, pa, po, pf, pe, pc⟩) (fun j => Nat.ble 11 j) (by kernel_rfl) ?_ (fun hHeld => ?_)
          · exact HL1.out.dr
          refine wpAnyE_take (i := 1) (v := ?_) rfl (by kernel_rfl) (by kernel_rfl) (by kernel_rfl) (fun _ _ _ h => h) (Or.inl ⟨by rfl, ?_⟩) ?_
          rotate_left
          · (intro w hSw; go_simp; (try with_reducible rfl))
          try simp only [Act.put, List.getElem_toArray, List.getElem_cons_zero, List.getElem_cons_succ, List.setIfInBounds_toArray, List.set_cons_zero, List.set_cons_succ]
          refine wpAnyE_take (i := 2) (v := ?_) rfl (by kernel_rfl) (by kernel_rfl) (by kernel_rfl) (fun _ _ _ h => h) (Or.inl ⟨by rfl, ?_⟩) ?_
          rotate_left
          · (intro w hSw; go_simp; (try with_reducible rfl))
          try simp only [Act.put, List.getElem_toArray, List.getElem_cons_zero, List.getElem_cons_succ, List.setIfInBounds_toArray, List.set_cons_zero, List.set_cons_succ]
          refine wpAnyE_take (i := 3) (v := ?_) rfl (by kernel_rfl) (by kernel_rfl) (by kernel_rfl) (fun _ _ _ h => h) (Or.inl ⟨by rfl, ?_⟩) ?_
          rotate_left
          · (intro w hSw; go_simp; (try with_reducible rfl))
          try simp only [Act.put, List.getElem_toArray, List.getElem_cons_zero, List.getElem_cons_succ, List.setIfInBounds_toArray, List.set_cons_zero, List.set_cons_succ]
          refine wpAnyE_take (i := 5) (v := ?_) rfl (by kernel_rfl) (by kernel_rfl) (by kernel_rfl) (fun _ _ _ h => h) (Or.inl ⟨by rfl, ?_⟩) ?_
          rotate_left
          · (intro w hSw; go_simp; (try with_reducible rfl))
          try simp only [Act.put, List.getElem_toArray, List.getElem_cons_zero, List.getElem_cons_succ, List.setIfInBounds_toArray, List.set_cons_zero, List.set_cons_succ]
          refine wpAnyE_load (i := 0) (v := ?_) rfl (by kernel_rfl) (by kernel_rfl) (by kernel_rfl) (by kernel_rfl) (fun _ _ _ h => h) (Or.inl ⟨by rfl, ?_⟩) (by assumption) ?_
          rotate_left
          · (intro w hSw; (have kx := HX.out _ hSw.bl; have e0 := hSw.q.c0; have e1 := hSw.q.c1; have e2 := hSw.q.c2; have e3 := hSw.q.c3; have e4 := hSw.q.c4; have e5 := hSw.q.c5; have e6 := hSw.q.c6; have e7 := hSw.q.c7; simp only at e0 e1 e2 e5 e6 e7; clear hSw); go_simp; (try with_reducible rfl))
          try simp only [Act.put, List.getElem_toArray, List.getElem_cons_zero, List.getElem_cons_succ, List.setIfInBounds_toArray, List.set_cons_zero, List.set_cons_succ]
          refine wpAnyE_load (i := 4) (v := ?_) rfl (by kernel_rfl) (by kernel_rfl) (by kernel_rfl) (by kernel_rfl) (fun _ _ _ h => h) (Or.inl ⟨by rfl, ?_⟩) (by assumption) ?_
          rotate_left
          · (intro w hSw; (have kx := HX.out _ hSw.bl; have e0 := hSw.q.c0; have e1 := hSw.q.c1; have e2 := hSw.q.c2; have e3 := hSw.q.c3; have e4 := hSw.q.c4; have e5 := hSw.q.c5; have e6 := hSw.q.c6; have e7 := hSw.q.c7; simp only at e0 e1 e2 e5 e6 e7; clear hSw); go_simp; (try with_reducible rfl))
          try simp only [Act.put, List.getElem_toArray, List.getElem_cons_zero, List.getElem_cons_succ, List.setIfInBounds_toArray, List.set_cons_zero, List.set_cons_succ]
          refine wpAnyE_two (i := 6) (j := 10) (by kernel_rfl) rfl rfl (by rfl) (by rfl) (fun K hK => ?_) (fun K hK => ?_)
          · go_simp
            with_reducible refine (CW.out _ _ _ _ _ _ _ HL1.out.dr.q.ra HL1.out.dr.q.rt).mono ?_
            rintro ex w3 ⟨b1, m1, d1, b2, m2, d2, rfl, hra, hrt, hka, hkt, hb⟩
            have HC := Lib.hid (HL1.out.dr.go hb)
            have HRA := Lib.hid hra
            have HRT := Lib.hid hrt
            have HKA := Lib.hid hka
            have HKT := Lib.hid hkt
            have HGL0 := Lib.hid HL1.out.dr.lt
            clear hra hrt hka hkt hb
            refine hK.out _ _ ?_ (fun hHeld => ?_)
            · exact HC.out
            clear hK K
            try simp only [Act.put, List.getElem_toArray, List.getElem_cons_zero, List.getElem_cons_succ, List.setIfInBounds_toArray, List.set_cons_zero, List.set_cons_succ]
            refine wpAnyE_take (i := 7) (v := ?_) rfl (by kernel_rfl) (by kernel_rfl) (by kernel_rfl) (fun _ _ _ h => h) (Or.inl ⟨by rfl, ?_⟩) ?_
            rotate_left
            · (intro w hSw; go_simp; (try with_reducible rfl))
            try simp only [Act.put, List.getElem_toArray, List.getElem_cons_zero, List.getElem_cons_succ, List.setIfInBounds_toArray, List.set_cons_zero, List.set_cons_succ]
            refine wpAnyE_take (i := 8) (v := ?_) rfl (by kernel_rfl) (by kernel_rfl) (by kernel_rfl) (fun _ _ _ h => h) (Or.inl ⟨by rfl, ?_⟩) ?_
            rotate_left
            · (intro w hSw; go_simp; (try with_reducible rfl))
            try simp only [Act.put, List.getElem_toArray, List.getElem_cons_zero, List.getElem_cons_succ, List.setIfInBounds_toArray, List.set_cons_zero, List.set_cons_succ]
            refine wpAnyE_take (i := 9) (v := ?_) rfl (by kernel_rfl) (by kernel_rfl) (by kernel_rfl) (fun _ _ _ h => h) (Or.inl ⟨by rfl, ?_⟩) ?_
            rotate_left
            · (intro w hSw; go_simp; (try with_reducible rfl))
            try simp only [Act.put, List.getElem_toArray, List.getElem_cons_zero, List.getElem_cons_succ, List.setIfInBounds_toArray, List.set_cons_zero, List.set_cons_succ]
            refine wpAnyE_call (i := 10) (by kernel_rfl) rfl (by rfl) (fun K hK => ?_)
            go_simp
            refine hK.out _ _ ?_ (fun hHeld => ?_)
            · exact HC.out.al _
            clear hK K
            try simp only [Act.put, List.getElem_toArray, List.getElem_cons_zero, List.getElem_cons_succ, List.setIfInBounds_toArray, List.set_cons_zero, List.set_cons_succ]
            refine wpAnyE_store (i := 11) (by kernel_rfl) rfl (by rfl) (by rfl) (fun K hK => ?_)
            go_simp
            refine hK.out _ _ ?_
            clear hK K
            try simp only [Act.put, List.getElem_toArray, List.getElem_cons_zero, List.getElem_cons_succ, List.setIfInBounds_toArray, List.set_cons_zero, List.set_cons_succ]
            refine wpAnyE_take (i := 12) (v := ?_) rfl (by kernel_rfl) (by kernel_rfl) (by kernel_rfl) (fun _ _ _ h => h) (Or.inl ⟨by rfl, ?_⟩) ?_
            rotate_left
            · (intro w hSw; go_simp; (try with_reducible rfl))
            try simp only [Act.put, List.getElem_toArray, List.getElem_cons_zero, List.getElem_cons_succ, List.setIfInBounds_toArray, List.set_cons_zero, List.set_cons_succ]
            refine wpAnyE_done (by kernel_rfl) (NoPanic.normal ?_) _
            have HQ := Lib.hid (qb_made 29 w3 (.slice b1 m1 d1) (.slice b2 m2 d2) ⟨qb, qt, qd, qa, qo, qf, qe, qc⟩ HRA.out HRT.out)
            simp only at HQ
            have HG := Lib.hid (HC.out.al (.cells #[.int .u64 qb, .int .u64 qt, .string qd, .slice b1 m1 d1, .slice b2 m2 d2, .bool qf, .bool qe, .bool qc] 29))
            have NA2 : Hid (¬ Blk (.slice b1 m1 d1) g) := Lib.hid (fun h => by have h5 := HKA.out _ h; have := HGL0.out; omega)
            have NT2 : Hid (¬ Blk (.slice b2 m2 d2) g) := Lib.hid (fun h => by have h5 := HKT.out _ h; have := HGL0.out; omega)
            have HGL := Lib.hid HC.out.lt
            generalize w3.alloc _ = W5 at *
            have hpg : ¬ w3.heap.size = g := by have := HGL.out; omega
            have hpg' : ¬ g = w3.heap.size := fun h => hpg h.symm
            have HN := Lib.hid (HG.out.put (s' := ⟨qb, qt, qd, qa, qo, qf, qe, qc⟩) HQ.out.ra HQ.out.rt NA2.out NT2.out)
            simp only at HN
            have z0 := HQ.out.c0
            have z1 := HQ.out.c1
            have z2 := HQ.out.c2
            have z3 := HQ.out.c3
            have z4 := HQ.out.c4
            have z5 := HQ.out.c5
            have z6 := HQ.out.c6
            have z7 := HQ.out.c7
            simp only at z0 z1 z2 z5 z6 z7
            have zf := HQ.out.fz
            have y0 := HG.out.q.c0
            have y1 := HG.out.q.c1
            have y2 := HG.out.q.c2
            have y3 := HG.out.q.c3
            have y4 := HG.out.q.c4
            have y5 := HG.out.q.c5
            have y6 := HG.out.q.c6
            have y7 := HG.out.q.c7
            simp only at y0 y1 y2 y5 y6 y7
            have yf := HG.out.q.fz
            clear HKA HKT
            rw [if_pos (Int.le_refl _)] at hwn
            subst hwn
            have HI3 : Hid (WrI A (k : Int) ⟨qb, qt, qd, qa, qo, qf, qe, qc⟩ (k + 1)) := Lib.hid (by have h := HI2.out; rw [← hDD.out, show (0 : Int).toNat = 0 from rfl, append_none] at h; exact h)
            have hDD := hDD.out
            have hxx := HX.out _ HG.out.bl
            go_wp2_with fail
            go_roundw
            case rel => exact ⟨k + 1, _, _, _, _, _, _, _, _, rfl, by go_num, by omega, HI3, HN⟩
            case measure => simp [intOf]; omega
          · go_simp
            have HP := Lib.hid (HL1.out.al (.cells #[.int .u64 0, .int .u64 0, .string ⟨#[]⟩, .slice none 0 0, .slice none 0 0, .bool false, .bool false, .bool false] 29)).dr
            refine hK.out _ _ ?_ (fun hHeld => ?_)
            · exact HP.out
            clear hK K
            try simp only [Act.put, List.getElem_toArray, List.getElem_cons_zero, List.getElem_cons_succ, List.setIfInBounds_toArray, List.set_cons_zero, List.set_cons_succ]
            refine wpAnyE_call (i := 6) (by kernel_rfl) rfl (by rfl) (fun K hK => ?_)
            go_simp
            with_reducible refine (CW.out _ _ _ _ _ _ _ HP.out.q.ra HP.out.q.rt).mono ?_
            rintro ex w3 ⟨b1, m1, d1, b2, m2, d2, rfl, hra, hrt, hka, hkt, hb⟩
            have HC := Lib.hid (HP.out.go hb)
            have HRA := Lib.hid hra
            have HRT := Lib.hid hrt
            have HKA : Hid (∀ k, Blk (.slice b1 m1 d1) k → W9.heap.size + 1 ≤ k) := Lib.hid (fun k h => by have := hka k h; simp at this; omega)
            have HKT : Hid (∀ k, Blk (.slice b2 m2 d2) k → W9.heap.size + 1 ≤ k) := Lib.hid (fun k h => by have := hkt k h; simp at this; omega)
            have HGL := Lib.hid HL1.out.lt
            have hz : w3.heap[W9.heap.size]? = some (.cells #[.int .u64 0, .int .u64 0, .string ⟨#[]⟩, .slice none 0 0, .slice none 0 0, .bool false, .bool false, .bool false] 29 (0, 0)) := (hb.block W9.heap.size (by simp)).trans (heap_alloc_new W9 (.cells #[.int .u64 0, .int .u64 0, .string ⟨#[]⟩, .slice none 0 0, .slice none 0 0, .bool false, .bool false, .bool false] 29))
            have HZ := Lib.hid hz
            have z0 : w3.cell? ⟨W9.heap.size, 0, none⟩ = _ := Lib.cell_of_heap hz 0
            have z1 : w3.cell? ⟨W9.heap.size, 1, none⟩ = _ := Lib.cell_of_heap hz 1
            have z2 : w3.cell? ⟨W9.heap.size, 2, none⟩ = _ := Lib.cell_of_heap hz 2
            have z3 : w3.cell? ⟨W9.heap.size, 3, none⟩ = _ := Lib.cell_of_heap hz 3
            have z4 : w3.cell? ⟨W9.heap.size, 4, none⟩ = _ := Lib.cell_of_heap hz 4
            have z5 : w3.cell? ⟨W9.heap.size, 5, none⟩ = _ := Lib.cell_of_heap hz 5
            have z6 : w3.cell? ⟨W9.heap.size, 6, none⟩ = _ := Lib.cell_of_heap hz 6
            have z7 : w3.cell? ⟨W9.heap.size, 7, none⟩ = _ := Lib.cell_of_heap hz 7
            have zf : ∀ k, w3.frozen? ⟨W9.heap.size, k, none⟩ = false := fun k => Lib.frozen_of_heap hz k
            clear hra hrt hka hkt hb hz
            refine hK.out _ _ ?_ (fun hHeld => ?_)
            · exact HC.out
            clear hK K
            try simp only [Act.put, List.getElem_toArray, List.getElem_cons_zero, List.getElem_cons_succ, List.setIfInBounds_toArray, List.set_cons_zero, List.set_cons_succ]
            refine wpAnyE_take (i := 7) (v := ?_) rfl (by kernel_rfl) (by kernel_rfl) (by kernel_rfl) (fun _ _ _ h => h) (Or.inl ⟨by rfl, ?_⟩) ?_
            rotate_left
            · (intro w hSw; go_simp; (try with_reducible rfl))
            try simp only [Act.put, List.getElem_toArray, List.getElem_cons_zero, List.getElem_cons_succ, List.setIfInBounds_toArray, List.set_cons_zero, List.set_cons_succ]
            refine wpAnyE_take (i := 8) (v := ?_) rfl (by kernel_rfl) (by kernel_rfl) (by kernel_rfl) (fun _ _ _ h => h) (Or.inl ⟨by rfl, ?_⟩) ?_
            rotate_left
            · (intro w hSw; go_simp; (try with_reducible rfl))
            try simp only [Act.put, List.getElem_toArray, List.getElem_cons_zero, List.getElem_cons_succ, List.setIfInBounds_toArray, List.set_cons_zero, List.set_cons_succ]
            refine wpAnyE_take (i := 9) (v := ?_) rfl (by kernel_rfl) (by kernel_rfl) (by kernel_rfl) (fun _ _ _ h => h) (Or.inl ⟨by rfl, ?_⟩) ?_
            rotate_left
            · (intro w hSw; go_simp; (try with_reducible rfl))
            try simp only [Act.put, List.getElem_toArray, List.getElem_cons_zero, List.getElem_cons_succ, List.setIfInBounds_toArray, List.set_cons_zero, List.set_cons_succ]
            refine wpAnyE_store (i := 11) (by kernel_rfl) rfl (by rfl) (by rfl) (fun K hK => ?_)
            go_simp
            refine hK.out _ _ ?_
            clear hK K
            try simp only [Act.put, List.getElem_toArray, List.getElem_cons_zero, List.getElem_cons_succ, List.setIfInBounds_toArray, List.set_cons_zero, List.set_cons_succ]
            refine wpAnyE_take (i := 12) (v := ?_) rfl (by kernel_rfl) (by kernel_rfl) (by kernel_rfl) (fun _ _ _ h => h) (Or.inl ⟨by rfl, ?_⟩) ?_
            rotate_left
            · (intro w hSw; go_simp; (try with_reducible rfl))
            try simp only [Act.put, List.getElem_toArray, List.getElem_cons_zero, List.getElem_cons_succ, List.setIfInBounds_toArray, List.set_cons_zero, List.set_cons_succ]
            refine wpAnyE_done (by kernel_rfl) (NoPanic.normal ?_) _
            have NP1 : ¬ Blk (.slice b1 m1 d1) W9.heap.size := fun h => by have := HKA.out _ h; omega
            have NP2 : ¬ Blk (.slice b2 m2 d2) W9.heap.size := fun h => by have := HKT.out _ h; omega
            have HQ : Hid (Qb 29 ((((((((w3.setCell ⟨W9.heap.size, 0, none⟩ (.int .u64 qb)).setCell ⟨W9.heap.size, 1, none⟩ (.int .u64 qt)).setCell ⟨W9.heap.size, 2, none⟩ (.string qd)).setCell ⟨W9.heap.size, 3, none⟩ (.slice b1 m1 d1)).setCell ⟨W9.heap.size, 4, none⟩ (.slice b2 m2 d2)).setCell ⟨W9.heap.size, 5, none⟩ (.bool qf)).setCell ⟨W9.heap.size, 6, none⟩ (.bool qe)).setCell ⟨W9.heap.size, 7, none⟩ (.bool qc)) W9.heap.size (.slice b1 m1 d1) (.slice b2 m2 d2) ⟨qb, qt, qd, qa, qo, qf, qe, qc⟩) := Lib.hid ⟨eight_put HZ.out _ _ _ _ _ _ _ _, rd_eight HRA.out NP1 _ _ _ _ _ _ _ _, rd_eight HRT.out NP2 _ _ _ _ _ _ _ _, NP1, NP2⟩
            have HG := Lib.hid (HC.out.below8 (p := W9.heap.size) (by have := HGL.out; omega) (fun h => by have := HL1.out.q.ra.blk h; omega) (fun h => by have := HL1.out.q.rt.blk h; omega) (by have := HL1.out.bl.size; omega) (.int .u64 qb) (.int .u64 qt) (.string qd) (.slice b1 m1 d1) (.slice b2 m2 d2) (.bool qf) (.bool qe) (.bool qc))
            have NA2 : Hid (¬ Blk (.slice b1 m1 d1) g) := Lib.hid (fun h => by have h5 := HKA.out _ h; have := HGL.out; omega)
            have NT2 : Hid (¬ Blk (.slice b2 m2 d2) g) := Lib.hid (fun h => by have h5 := HKT.out _ h; have := HGL.out; omega)
            clear NP1 NP2 z0 z1 z2 z3 z4 z5 z6 z7 zf
            generalize (((((((w3.setCell _ _).setCell _ _).setCell _ _).setCell _ _).setCell _ _).setCell _ _).setCell _ _).setCell _ _ = W5 at *
            have hpg : ¬ W9.heap.size = g := by have := HGL.out; omega
            have hpg' : ¬ g = W9.heap.size := fun h => hpg h.symm
            have HN := Lib.hid (HG.out.put (s' := ⟨qb, qt, qd, qa, qo, qf, qe, qc⟩) HQ.out.ra HQ.out.rt NA2.out NT2.out)
            simp only at HN
            have z0 := HQ.out.c0
            have z1 := HQ.out.c1
            have z2 := HQ.out.c2
            have z3 := HQ.out.c3
            have z4 := HQ.out.c4
            have z5 := HQ.out.c5
            have z6 := HQ.out.c6
            have z7 := HQ.out.c7
            simp only at z0 z1 z2 z5 z6 z7
            have zf := HQ.out.fz
            have y0 := HG.out.q.c0
            have y1 := HG.out.q.c1
            have y2 := HG.out.q.c2
            have y3 := HG.out.q.c3
            have y4 := HG.out.q.c4
            have y5 := HG.out.q.c5
            have y6 := HG.out.q.c6
            have y7 := HG.out.q.c7
            simp only at y0 y1 y2 y5 y6 y7
            have yf := HG.out.q.fz
            clear HKA HKT
            rw [if_pos (Int.le_refl _)] at hwn
            subst hwn
            have HI3 : Hid (WrI A (k : Int) ⟨qb, qt, qd, qa, qo, qf, qe, qc⟩ (k + 1)) := Lib.hid (by have h := HI2.out; rw [← hDD.out, show (0 : Int).toNat = 0 from rfl, append_none] at h; exact h)
            have hDD := hDD.out
            have hxx := HX.out _ HG.out.bl
            go_wp2_with fail
            go_roundw
            case rel => exact ⟨k + 1, _, _, _, _, _, _, _, _, rfl, by go_num, by omega, HI3, HN⟩
            case measure => simp [intOf]; omega
        · rw [if_neg hq] at CW
          have dq : ((k : Int) == e) = false := beq_eq_false_iff_ne.2 hq
          clear hlen3 hlen4
          obtain ⟨pb, pt, pd, pa, po, pf, pe, pc⟩ := s
          obtain ⟨qb, qt, qd, qa, qo, qf, qe, qc⟩ := S2
          unfold GvN at CW
          simp only at CW HL
          have y0 := HL.out.q.c0
          have y1 := HL.out.q.c1
          have y2 := HL.out.q.c2
          have y3 := HL.out.q.c3
          have y4 := HL.out.q.c4
          have y5 := HL.out.q.c5
          have y6 := HL.out.q.c6
          have y7 := HL.out.q.c7
          simp only at y0 y1 y2 y5 y6 y7
          have yf := HL.out.q.fz
          by_cases hge0 : e ≤ (k : Int)
          · go_wp2_with fail
            clear y0 y1 y2 y3 y4 y5 y6 y7 yf
            refine wp_region_noPanic ?_
            refine wp_region_E (fun W : World => LS w W g (.slice a1 n1 c1) (.slice a2 n2 c2) ⟨pb, pt, pd, pa, po, pf, pe, pc⟩) (fun j => Nat.ble 11 j) (by kernel_rfl) ?_ (fun hHeld => ?_)
            · exact HL.out.dr
            refine wpAnyE_take (i := 1) (v := ?_) rfl (by kernel_rfl) (by kernel_rfl) (by kernel_rfl) (fun _ _ _ h => h) (Or.inl ⟨by rfl, ?_⟩) ?_
            rotate_left
            · (intro w hSw; go_simp; (try with_reducible rfl))
            try simp only [Act.put, List.getElem_toArray, List.getElem_cons_zero, List.getElem_cons_succ, List.setIfInBounds_toArray, List.set_cons_zero, List.set_cons_succ]
            refine wpAnyE_take (i := 2) (v := ?_) rfl (by kernel_rfl) (by kernel_rfl) (by kernel_rfl) (fun _ _ _ h => h) (Or.inl ⟨by rfl, ?_⟩) ?_
            rotate_left
            · (intro w hSw; go_simp; (try with_reducible rfl))
            try simp only [Act.put, List.getElem_toArray, List.getElem_cons_zero, List.getElem_cons_succ, List.setIfInBounds_toArray, List.set_cons_zero, List.set_cons_succ]
            refine wpAnyE_take (i := 3) (v := ?_) rfl (by kernel_rfl) (by kernel_rfl) (by kernel_rfl) (fun _ _ _ h => h) (Or.inl ⟨by rfl, ?_⟩) ?_
            rotate_left
            · (intro w hSw; go_simp; (try with_reducible rfl))
            try simp only [Act.put, List.getElem_toArray, List.getElem_cons_zero, List.getElem_cons_succ, List.setIfInBounds_toArray, List.set_cons_zero, List.set_cons_succ]
            refine wpAnyE_take (i := 5) (v := ?_) rfl (by kernel_rfl) (by kernel_rfl) (by kernel_rfl) (fun _ _ _ h => h) (Or.inl ⟨by rfl, ?_⟩) ?_
            rotate_left
            · (intro w hSw; go_simp; (try with_reducible rfl))
            try simp only [Act.put, List.getElem_toArray, List.getElem_cons_zero, List.getElem_cons_succ, List.setIfInBounds_toArray, List.set_cons_zero, List.set_cons_succ]
            refine wpAnyE_load (i := 0) (v := ?_) rfl (by kernel_rfl) (by kernel_rfl) (by kernel_rfl) (by kernel_rfl) (fun _ _ _ h => h) (Or.inl ⟨by rfl, ?_⟩) (by assumption) ?_
            rotate_left
            · (intro w hSw; (have kx := HX.out _ hSw.bl; have e0 := hSw.q.c0; have e1 := hSw.q.c1; have e2 := hSw.q.c2; have e3 := hSw.q.c3; have e4 := hSw.q.c4; have e5 := hSw.q.c5; have e6 := hSw.q.c6; have e7 := hSw.q.c7; simp only at e0 e1 e2 e5 e6 e7; clear hSw); go_simp; (try with_reducible rfl))
            try simp only [Act.put, List.getElem_toArray, List.getElem_cons_zero, List.getElem_cons_succ, List.setIfInBounds_toArray, List.set_cons_zero, List.set_cons_succ]
            refine wpAnyE_load (i := 4) (v := ?_) rfl (by kernel_rfl) (by kernel_rfl) (by kernel_rfl) (by kernel_rfl) (fun _ _ _ h => h) (Or.inl ⟨by rfl, ?_⟩) (by assumption) ?_
            rotate_left
            · (intro w hSw; (have kx := HX.out _ hSw.bl; have e0 := hSw.q.c0; have e1 := hSw.q.c1; have e2 := hSw.q.c2; have e3 := hSw.q.c3; have e4 := hSw.q.c4; have e5 := hSw.q.c5; have e6 := hSw.q.c6; have e7 := hSw.q.c7; simp only at e0 e1 e2 e5 e6 e7; clear hSw); go_simp; (try with_reducible rfl))
            try simp only [Act.put, List.getElem_toArray, List.getElem_cons_zero, List.getElem_cons_succ, List.setIfInBounds_toArray, List.set_cons_zero, List.set_cons_succ]
            refine wpAnyE_two (i := 6) (j := 10) (by kernel_rfl) rfl rfl (by rfl) (by rfl) (fun K hK => ?_) (fun K hK => ?_)
            · go_simp
              with_reducible refine (CW.out _ _ _ _ _ _ _ HL.out.dr.q.ra HL.out.dr.q.rt).mono ?_
              rintro ex w3 ⟨b1, m1, d1, b2, m2, d2, rfl, hra, hrt, hka, hkt, hb⟩
              have HC := Lib.hid (HL.out.dr.go hb)
              have HRA := Lib.hid hra
              have HRT := Lib.hid hrt
              have HKA := Lib.hid hka
              have HKT := Lib.hid hkt
              have HGL0 := Lib.hid HL.out.dr.lt
              clear hra hrt hka hkt hb
              refine hK.out _ _ ?_ (fun hHeld => ?_)
              · exact HC.out
              clear hK K
              try simp only [Act.put, List.getElem_toArray, List.getElem_cons_zero, List.getElem_cons_succ, List.setIfInBounds_toArray, List.set_cons_zero, List.set_cons_succ]
              refine wpAnyE_take (i := 7) (v := ?_) rfl (by kernel_rfl) (by kernel_rfl) (by kernel_rfl) (fun _ _ _ h => h) (Or.inl ⟨by rfl, ?_⟩) ?_
              rotate_left
              · (intro w hSw; go_simp; (try with_reducible rfl))
              try simp only [Act.put, List.getElem_toArray, List.getElem_cons_zero, List.getElem_cons_succ, List.setIfInBounds_toArray, List.set_cons_zero, List.set_cons_succ]
              refine wpAnyE_take (i := 8) (v := ?_) rfl (by kernel_rfl) (by kernel_rfl) (by kernel_rfl) (fun _ _ _ h => h) (Or.inl ⟨by rfl, ?_⟩) ?_
              rotate_left
              · (intro w hSw; go_simp; (try with_reducible rfl))
              try simp only [Act.put, List.getElem_toArray, List.getElem_cons_zero, List.getElem_cons_succ, List.setIfInBounds_toArray, List.set_cons_zero, List.set_cons_succ]
              refine wpAnyE_take (i := 9) (v := ?_) rfl (by kernel_rfl) (by kernel_rfl) (by kernel_rfl) (fun _ _ _ h => h) (Or.inl ⟨by rfl, ?_⟩) ?_
              rotate_left
              · (intro w hSw; go_simp; (try with_reducible rfl))
              try simp only [Act.put, List.getElem_toArray, List.getElem_cons_zero, List.getElem_cons_succ, List.setIfInBounds_toArray, List.set_cons_zero, List.set_cons_succ]
              refine wpAnyE_call (i := 10) (by kernel_rfl) rfl (by rfl) (fun K hK => ?_)
              go_simp
              refine hK.out _ _ ?_ (fun hHeld => ?_)
              · exact HC.out.al _
              clear hK K
              try simp only [Act.put, List.getElem_toArray, List.getElem_cons_zero, List.getElem_cons_succ, List.setIfInBounds_toArray, List.set_cons_zero, List.set_cons_succ]
              refine wpAnyE_store (i := 11) (by kernel_rfl) rfl (by rfl) (by rfl) (fun K hK => ?_)
              go_simp
              refine hK.out _ _ ?_
              clear hK K
              try simp only [Act.put, List.getElem_toArray, List.getElem_cons_zero, List.getElem_cons_succ, List.setIfInBounds_toArray, List.set_cons_zero, List.set_cons_succ]
              refine wpAnyE_take (i := 12) (v := ?_) rfl (by kernel_rfl) (by kernel_rfl) (by kernel_rfl) (fun _ _ _ h => h) (Or.inl ⟨by rfl, ?_⟩) ?_
              rotate_left
              · (intro w hSw; go_simp; (try with_reducible rfl))
              try simp only [Act.put, List.getElem_toArray, List.getElem_cons_zero, List.getElem_cons_succ, List.setIfInBounds_toArray, List.set_cons_zero, List.set_cons_succ]
              refine wpAnyE_done (by kernel_rfl) (NoPanic.normal ?_) _
              have HQ := Lib.hid (qb_made 29 w3 (.slice b1 m1 d1) (.slice b2 m2 d2) ⟨qb, qt, qd, qa, qo, qf, qe, qc⟩ HRA.out HRT.out)
              simp only at HQ
              have HG := Lib.hid (HC.out.al (.cells #[.int .u64 qb, .int .u64 qt, .string qd, .slice b1 m1 d1, .slice b2 m2 d2, .bool qf, .bool qe, .bool qc] 29))
              have NA2 : Hid (¬ Blk (.slice b1 m1 d1) g) := Lib.hid (fun h => by have h5 := HKA.out _ h; have := HGL0.out; omega)
              have NT2 : Hid (¬ Blk (.slice b2 m2 d2) g) := Lib.hid (fun h => by have h5 := HKT.out _ h; have := HGL0.out; omega)
              have HGL := Lib.hid HC.out.lt
              generalize w3.alloc _ = W5 at *
              have hpg : ¬ w3.heap.size = g := by have := HGL.out; omega
              have hpg' : ¬ g = w3.heap.size := fun h => hpg h.symm
              have HN := Lib.hid (HG.out.put (s' := ⟨qb, qt, qd, qa, qo, qf, qe, qc⟩) HQ.out.ra HQ.out.rt NA2.out NT2.out)
              simp only at HN
              have z0 := HQ.out.c0
              have z1 := HQ.out.c1
              have z2 := HQ.out.c2
              have z3 := HQ.out.c3
              have z4 := HQ.out.c4
              have z5 := HQ.out.c5
              have z6 := HQ.out.c6
              have z7 := HQ.out.c7
              simp only at z0 z1 z2 z5 z6 z7
              have zf := HQ.out.fz
              have y0 := HG.out.q.c0
              have y1 := HG.out.q.c1
              have y2 := HG.out.q.c2
              have y3 := HG.out.q.c3
              have y4 := HG.out.q.c4
              have y5 := HG.out.q.c5
              have y6 := HG.out.q.c6
              have y7 := HG.out.q.c7
              simp only at y0 y1 y2 y5 y6 y7
              have yf := HG.out.q.fz
              clear HKA HKT
              have hge : e ≤ (k : Int) := by omega
              rw [if_pos hge] at hwn
              subst hwn
              have dN : decide (e ≤ (k : Int)) = true := decide_eq_true hge
              have HI3 : Hid (WrI A e ⟨qb, qt, qd, qa, qo, qf, qe, qc⟩ (k + 1)) := Lib.hid (by have h := HI2.out; rw [← hDD.out, show (0 : Int).toNat = 0 from rfl, append_none] at h; exact h)
              have hDD := hDD.out
              have hxx := HX.out _ HG.out.bl
              go_wp2_with fail
              go_roundw
              case rel => exact ⟨k + 1, _, _, _, _, _, _, _, _, rfl, by go_num, by omega, HI3, HN⟩
              case measure => simp [intOf]; omega
            · go_simp
              have HP := Lib.hid (HL.out.al (.cells #[.int .u64 0, .int .u64 0, .string ⟨#[]⟩, .slice none 0 0, .slice none 0 0, .bool false, .bool false, .bool false] 29)).dr
              refine hK.out _ _ ?_ (fun hHeld => ?_)
              · exact HP.out
              clear hK K
              try simp only [Act.put, List.getElem_toArray, List.getElem_cons_zero, List.getElem_cons_succ, List.setIfInBounds_toArray, List.set_cons_zero, List.set_cons_succ]
              refine wpAnyE_call (i := 6) (by kernel_rfl) rfl (by rfl) (fun K hK => ?_)
              go_simp
              with_reducible refine (CW.out _ _ _ _ _ _ _ HP.out.q.ra HP.out.q.rt).mono ?_
              rintro ex w3 ⟨b1, m1, d1, b2, m2, d2, rfl, hra, hrt, hka, hkt, hb⟩
              have HC := Lib.hid (HP.out.go hb)
              have HRA := Lib.hid hra
              have HRT := Lib.hid hrt
              have HKA : Hid (∀ k, Blk (.slice b1 m1 d1) k → wr.heap.size + 1 ≤ k) := Lib.hid (fun k h => by have := hka k h; simp at this; omega)
              have HKT : Hid (∀ k, Blk (.slice b2 m2 d2) k → wr.heap.size + 1 ≤ k) := Lib.hid (fun k h => by have := hkt k h; simp at this; omega)
              have HGL := Lib.hid HL.out.lt
              have hz : w3.heap[wr.heap.size]? = some (.cells #[.int .u64 0, .int .u64 0, .string ⟨#[]⟩, .slice none 0 0, .slice none 0 0, .bool false, .bool false, .bool false] 29 (0, 0)) := (hb.block wr.heap.size (by simp)).trans (heap_alloc_new wr (.cells #[.int .u64 0, .int .u64 0, .string ⟨#[]⟩, .slice none 0 0, .slice none 0 0, .bool false, .bool false, .bool false] 29))
              have HZ := Lib.hid hz
              have z0 : w3.cell? ⟨wr.heap.size, 0, none⟩ = _ := Lib.cell_of_heap hz 0
              have z1 : w3.cell? ⟨wr.heap.size, 1, none⟩ = _ := Lib.cell_of_heap hz 1
              have z2 : w3.cell? ⟨wr.heap.size, 2, none⟩ = _ := Lib.cell_of_heap hz 2
              have z3 : w3.cell? ⟨wr.heap.size, 3, none⟩ = _ := Lib.cell_of_heap hz 3
              have z4 : w3.cell? ⟨wr.heap.size, 4, none⟩ = _ := Lib.cell_of_heap hz 4
              have z5 : w3.cell? ⟨wr.heap.size, 5, none⟩ = _ := Lib.cell_of_heap hz 5
              have z6 : w3.cell? ⟨wr.heap.size, 6, none⟩ = _ := Lib.cell_of_heap hz 6
              have z7 : w3.cell? ⟨wr.heap.size, 7, none⟩ = _ := Lib.cell_of_heap hz 7
              have zf : ∀ k, w3.frozen? ⟨wr.heap.size, k, none⟩ = false := fun k => Lib.frozen_of_heap hz k
              clear hra hrt hka hkt hb hz
              refine hK.out _ _ ?_ (fun hHeld => ?_)
              · exact HC.out
              clear hK K
              try simp only [Act.put, List.getElem_toArray, List.getElem_cons_zero, List.getElem_cons_succ, List.setIfInBounds_toArray, List.set_cons_zero, List.set_cons_succ]
              refine wpAnyE_take (i := 7) (v := ?_) rfl (by kernel_rfl) (by kernel_rfl) (by kernel_rfl) (fun _ _ _ h => h) (Or.inl ⟨by rfl, ?_⟩) ?_
              rotate_left
              · (intro w hSw; go_simp; (try with_reducible rfl))
              try simp only [Act.put, List.getElem_toArray, List.getElem_cons_zero, List.getElem_cons_succ, List.setIfInBounds_toArray, List.set_cons_zero, List.set_cons_succ]
              refine wpAnyE_take (i := 8) (v := ?_) rfl (by kernel_rfl) (by kernel_rfl) (by kernel_rfl) (fun _ _ _ h => h) (Or.inl ⟨by rfl, ?_⟩) ?_
              rotate_left
              · (intro w hSw; go_simp; (try with_reducible rfl))
              try simp only [Act.put, List.getElem_toArray, List.getElem_cons_zero, List.getElem_cons_succ, List.setIfInBounds_toArray, List.set_cons_zero, List.set_cons_succ]
              refine wpAnyE_take (i := 9) (v := ?_) rfl (by kernel_rfl) (by kernel_rfl) (by kernel_rfl) (fun _ _ _ h => h) (Or.inl ⟨by rfl, ?_⟩) ?_
              rotate_left
              · (intro w hSw; go_simp; (try with_reducible rfl))
              try simp only [Act.put, List.getElem_toArray, List.getElem_cons_zero, List.getElem_cons_succ, List.setIfInBounds_toArray, List.set_cons_zero, List.set_cons_succ]
              refine wpAnyE_store (i := 11) (by kernel_rfl) rfl (by rfl) (by rfl) (fun K hK => ?_)
              go_simp
              refine hK.out _ _ ?_
              clear hK K
              try simp only [Act.put, List.getElem_toArray, List.getElem_cons_zero, List.getElem_cons_succ, List.setIfInBounds_toArray, List.set_cons_zero, List.set_cons_succ]
              refine wpAnyE_take (i := 12) (v := ?_) rfl (by kernel_rfl) (by kernel_rfl) (by kernel_rfl) (fun _ _ _ h => h) (Or.inl ⟨by rfl, ?_⟩) ?_
              rotate_left
              · (intro w hSw; go_simp; (try with_reducible rfl))
              try simp only [Act.put, List.getElem_toArray, List.getElem_cons_zero, List.getElem_cons_succ, List.setIfInBounds_toArray, List.set_cons_zero, List.set_cons_succ]
              refine wpAnyE_done (by kernel_rfl) (NoPanic.normal ?_) _
              have NP1 : ¬ Blk (.slice b1 m1 d1) wr.heap.size := fun h => by have := HKA.out _ h; omega
              have NP2 : ¬ Blk (.slice b2 m2 d2) wr.heap.size := fun h => by have := HKT.out _ h; omega
              have HQ : Hid (Qb 29 ((((((((w3.setCell ⟨wr.heap.size, 0, none⟩ (.int .u64 qb)).setCell ⟨wr.heap.size, 1, none⟩ (.int .u64 qt)).setCell ⟨wr.heap.size, 2, none⟩ (.string qd)).setCell ⟨wr.heap.size, 3, none⟩ (.slice b1 m1 d1)).setCell ⟨wr.heap.size, 4, none⟩ (.slice b2 m2 d2)).setCell ⟨wr.heap.size, 5, none⟩ (.bool qf)).setCell ⟨wr.heap.size, 6, none⟩ (.bool qe)).setCell ⟨wr.heap.size, 7, none⟩ (.bool qc)) wr.heap.size (.slice b1 m1 d1) (.slice b2 m2 d2) ⟨qb, qt, qd, qa, qo, qf, qe, qc⟩) := Lib.hid ⟨eight_put HZ.out _ _ _ _ _ _ _ _, rd_eight HRA.out NP1 _ _ _ _ _ _ _ _, rd_eight HRT.out NP2 _ _ _ _ _ _ _ _, NP1, NP2⟩
              have HG := Lib.hid (HC.out.below8 (p := wr.heap.size) (by have := HGL.out; omega) (fun h => by have := HL.out.q.ra.blk h; omega) (fun h => by have := HL.out.q.rt.blk h; omega) (by have := HL.out.bl.size; omega) (.int .u64 qb) (.int .u64 qt) (.string qd) (.slice b1 m1 d1) (.slice b2 m2 d2) (.bool qf) (.bool qe) (.bool qc))
              have NA2 : Hid (¬ Blk (.slice b1 m1 d1) g) := Lib.hid (fun h => by have h5 := HKA.out _ h; have := HGL.out; omega)
              have NT2 : Hid (¬ Blk (.slice b2 m2 d2) g) := Lib.hid (fun h => by have h5 := HKT.out _ h; have := HGL.out; omega)
              clear NP1 NP2 z0 z1 z2 z3 z4 z5 z6 z7 zf
              generalize (((((((w3.setCell _ _).setCell _ _).setCell _ _).setCell _ _).setCell _ _).setCell _ _).setCell _ _).setCell _ _ = W5 at *
              have hpg : ¬ wr.heap.size = g := by have := HGL.out; omega
              have hpg' : ¬ g = wr.heap.size := fun h => hpg h.symm
              have HN := Lib.hid (HG.out.put (s' := ⟨qb, qt, qd, qa, qo, qf, qe, qc⟩) HQ.out.ra HQ.out.rt NA2.out NT2.out)
              simp only at HN
              have z0 := HQ.out.c0
              have z1 := HQ.out.c1
              have z2 := HQ.out.c2
              have z3 := HQ.out.c3
              have z4 := HQ.out.c4
              have z5 := HQ.out.c5
              have z6 := HQ.out.c6
              have z7 := HQ.out.c7
              simp only at z0 z1 z2 z5 z6 z7
              have zf := HQ.out.fz
              have y0 := HG.out.q.c0
              have y1 := HG.out.q.c1
              have y2 := HG.out.q.c2
              have y3 := HG.out.q.c3
              have y4 := HG.out.q.c4
              have y5 := HG.out.q.c5
              have y6 := HG.out.q.c6
              have y7 := HG.out.q.c7
              simp only at y0 y1 y2 y5 y6 y7
              have yf := HG.out.q.fz
              clear HKA HKT
              have hge : e ≤ (k : Int) := by omega
              rw [if_pos hge] at hwn
              subst hwn
              have dN : decide (e ≤ (k : Int)) = true := decide_eq_true hge
              have HI3 : Hid (WrI A e ⟨qb, qt, qd, qa, qo, qf, qe, qc⟩ (k + 1)) := Lib.hid (by have h := HI2.out; rw [← hDD.out, show (0 : Int).toNat = 0 from rfl, append_none] at h; exact h)
              have hDD := hDD.out
              have hxx := HX.out _ HG.out.bl
              go_wp2_with fail
              go_roundw
              case rel => exact ⟨k + 1, _, _, _, _, _, _, _, _, rfl, by go_num, by omega, HI3, HN⟩
              case measure => simp [intOf]; omega
          · go_wp2_with fail
            clear y0 y1 y2 y3 y4 y5 y6 y7 yf
            refine wp_region_noPanic ?_
            refine wp_region_E (fun W : World => LS w W g (.slice a1 n1 c1) (.slice a2 n2 c2) ⟨pb, pt, pd, pa, po, pf, pe, pc⟩) (fun j => Nat.ble 11 j) (by kernel_rfl) ?_ (fun hHeld => ?_)
            · exact HL.out.dr
            refine wpAnyE_take (i := 1) (v := ?_) rfl (by kernel_rfl) (by kernel_rfl) (by kernel_rfl) (fun _ _ _ h => h) (Or.inl ⟨by rfl, ?_⟩) ?_
            rotate_left
            · (intro w hSw; go_simp; (try with_reducible rfl))
            try simp only [Act.put, List.getElem_toArray, List.getElem_cons_zero, List.getElem_cons_succ, List.setIfInBounds_toArray, List.set_cons_zero, List.set_cons_succ]
            refine wpAnyE_take (i := 2) (v := ?_) rfl (by kernel_rfl) (by kernel_rfl) (by kernel_rfl) (fun _ _ _ h => h) (Or.inl ⟨by rfl, ?_⟩) ?_
            rotate_left
            · (intro w hSw; go_simp; (try with_reducible rfl))
            try simp only [Act.put, List.getElem_toArray, List.getElem_cons_zero, List.getElem_cons_succ, List.setIfInBounds_toArray, List.set_cons_zero, List.set_cons_succ]
            refine wpAnyE_take (i := 3) (v := ?_) rfl (by kernel_rfl) (by kernel_rfl) (by kernel_rfl) (fun _ _ _ h => h) (Or.inl ⟨by rfl, ?_⟩) ?_
            rotate_left
            · (intro w hSw; go_simp; (try with_reducible rfl))
            try simp only [Act.put, List.getElem_toArray, List.getElem_cons_zero, List.getElem_cons_succ, List.setIfInBounds_toArray, List.set_cons_zero, List.set_cons_succ]
            refine wpAnyE_take (i := 5) (v := ?_) rfl (by kernel_rfl) (by kernel_rfl) (by kernel_rfl) (fun _ _ _ h => h) (Or.inl ⟨by rfl, ?_⟩) ?_
            rotate_left
            · (intro w hSw; go_simp; (try with_reducible rfl))
            try simp only [Act.put, List.getElem_toArray, List.getElem_cons_zero, List.getElem_cons_succ, List.setIfInBounds_toArray, List.set_cons_zero, List.set_cons_succ]
            refine wpAnyE_load (i := 0) (v := ?_) rfl (by kernel_rfl) (by kernel_rfl) (by kernel_rfl) (by kernel_rfl) (fun _ _ _ h => h) (Or.inl ⟨by rfl, ?_⟩) (by assumption) ?_
            rotate_left
            · (intro w hSw; (have kx := HX.out _ hSw.bl; have e0 := hSw.q.c0; have e1 := hSw.q.c1; have e2 := hSw.q.c2; have e3 := hSw.q.c3; have e4 := hSw.q.c4; have e5 := hSw.q.c5; have e6 := hSw.q.c6; have e7 := hSw.q.c7; simp only at e0 e1 e2 e5 e6 e7; clear hSw); go_simp; (try with_reducible rfl))
            try simp only [Act.put, List.getElem_toArray, List.getElem_cons_zero, List.getElem_cons_succ, List.setIfInBounds_toArray, List.set_cons_zero, List.set_cons_succ]
            refine wpAnyE_load (i := 4) (v := ?_) rfl (by kernel_rfl) (by kernel_rfl) (by kernel_rfl) (by kernel_rfl) (fun _ _ _ h => h) (Or.inl ⟨by rfl, ?_⟩) (by assumption) ?_
            rotate_left
            · (intro w hSw; (have kx := HX.out _ hSw.bl; have e0 := hSw.q.c0; have e1 := hSw.q.c1; have e2 := hSw.q.c2; have e3 := hSw.q.c3; have e4 := hSw.q.c4; have e5 := hSw.q.c5; have e6 := hSw.q.c6; have e7 := hSw.q.c7; simp only at e0 e1 e2 e5 e6 e7; clear hSw); go_simp; (try with_reducible rfl))
            try simp only [Act.put, List.getElem_toArray, List.getElem_cons_zero, List.getElem_cons_succ, List.setIfInBounds_toArray, List.set_cons_zero, List.set_cons_succ]
            refine wpAnyE_two (i := 6) (j := 10) (by kernel_rfl) rfl rfl (by rfl) (by rfl) (fun K hK => ?_) (fun K hK => ?_)
            · go_simp
              with_reducible refine (CW.out _ _ _ _ _ _ _ HL.out.dr.q.ra HL.out.dr.q.rt).mono ?_
              rintro ex w3 ⟨b1, m1, d1, b2, m2, d2, rfl, hra, hrt, hka, hkt, hb⟩
              have HC := Lib.hid (HL.out.dr.go hb)
              have HRA := Lib.hid hra
              have HRT := Lib.hid hrt
              have HKA := Lib.hid hka
              have HKT := Lib.hid hkt
              have HGL0 := Lib.hid HL.out.dr.lt
              clear hra hrt hka hkt hb
              refine hK.out _ _ ?_ (fun hHeld => ?_)
              · exact HC.out
              clear hK K
              try simp only [Act.put, List.getElem_toArray, List.getElem_cons_zero, List.getElem_cons_succ, List.setIfInBounds_toArray, List.set_cons_zero, List.set_cons_succ]
              refine wpAnyE_take (i := 7) (v := ?_) rfl (by kernel_rfl) (by kernel_rfl) (by kernel_rfl) (fun _ _ _ h => h) (Or.inl ⟨by rfl, ?_⟩) ?_
              rotate_left
              · (intro w hSw; go_simp; (try with_reducible rfl))
              try simp only [Act.put, List.getElem_toArray, List.getElem_cons_zero, List.getElem_cons_succ, List.setIfInBounds_toArray, List.set_cons_zero, List.set_cons_succ]
              refine wpAnyE_take (i := 8) (v := ?_) rfl (by kernel_rfl) (by kernel_rfl) (by kernel_rfl) (fun _ _ _ h => h) (Or.inl ⟨by rfl, ?_⟩) ?_
              rotate_left
              · (intro w hSw; go_simp; (try with_reducible rfl))
              try simp only [Act.put, List.getElem_toArray, List.getElem_cons_zero, List.getElem_cons_succ, List.setIfInBounds_toArray, List.set_cons_zero, List.set_cons_succ]
              refine wpAnyE_take (i := 9) (v := ?_) rfl (by kernel_rfl) (by kernel_rfl) (by kernel_rfl) (fun _ _ _ h => h) (Or.inl ⟨by rfl, ?_⟩) ?_
              rotate_left
              · (intro w hSw; go_simp; (try with_reducible rfl))
              try simp only [Act.put, List.getElem_toArray, List.getElem_cons_zero, List.getElem_cons_succ, List.setIfInBounds_toArray, List.set_cons_zero, List.set_cons_succ]
              refine wpAnyE_call (i := 10) (by kernel_rfl) rfl (by rfl) (fun K hK => ?_)
              go_simp
              refine hK.out _ _ ?_ (fun hHeld => ?_)
              · exact HC.out.al _
              clear hK K
              try simp only [Act.put, List.getElem_toArray, List.getElem_cons_zero, List.getElem_cons_succ, List.setIfInBounds_toArray, List.set_cons_zero, List.set_cons_succ]
              refine wpAnyE_store (i := 11) (by kernel_rfl) rfl (by rfl) (by rfl) (fun K hK => ?_)
              go_simp
              refine hK.out _ _ ?_
              clear hK K
              try simp only [Act.put, List.getElem_toArray, List.getElem_cons_zero, List.getElem_cons_succ, List.setIfInBounds_toArray, List.set_cons_zero, List.set_cons_succ]
              refine wpAnyE_take (i := 12) (v := ?_) rfl (by kernel_rfl) (by kernel_rfl) (by kernel_rfl) (fun _ _ _ h => h) (Or.inl ⟨by rfl, ?_⟩) ?_
              rotate_left
              · (intro w hSw; go_simp; (try with_reducible rfl))
              try simp only [Act.put, List.getElem_toArray, List.getElem_cons_zero, List.getElem_cons_succ, List.setIfInBounds_toArray, List.set_cons_zero, List.set_cons_succ]
              refine wpAnyE_done (by kernel_rfl) (NoPanic.normal ?_) _
              have HQ := Lib.hid (qb_made 29 w3 (.slice b1 m1 d1) (.slice b2 m2 d2) ⟨qb, qt, qd, qa, qo, qf, qe, qc⟩ HRA.out HRT.out)
              simp only at HQ
              have HG := Lib.hid (HC.out.al (.cells #[.int .u64 qb, .int .u64 qt, .string qd, .slice b1 m1 d1, .slice b2 m2 d2, .bool qf, .bool qe, .bool qc] 29))
              have NA2 : Hid (¬ Blk (.slice b1 m1 d1) g) := Lib.hid (fun h => by have h5 := HKA.out _ h; have := HGL0.out; omega)
              have NT2 : Hid (¬ Blk (.slice b2 m2 d2) g) := Lib.hid (fun h => by have h5 := HKT.out _ h; have := HGL0.out; omega)
              have HGL := Lib.hid HC.out.lt
              generalize w3.alloc _ = W5 at *
              have hpg : ¬ w3.heap.size = g := by have := HGL.out; omega
              have hpg' : ¬ g = w3.heap.size := fun h => hpg h.symm
              have HN := Lib.hid (HG.out.put (s' := ⟨qb, qt, qd, qa, qo, qf, qe, qc⟩) HQ.out.ra HQ.out.rt NA2.out NT2.out)
              simp only at HN
              have z0 := HQ.out.c0
              have z1 := HQ.out.c1
              have z2 := HQ.out.c2
              have z3 := HQ.out.c3
              have z4 := HQ.out.c4
              have z5 := HQ.out.c5
              have z6 := HQ.out.c6
              have z7 := HQ.out.c7
              simp only at z0 z1 z2 z5 z6 z7
              have zf := HQ.out.fz
              have y0 := HG.out.q.c0
              have y1 := HG.out.q.c1
              have y2 := HG.out.q.c2
              have y3 := HG.out.q.c3
              have y4 := HG.out.q.c4
              have y5 := HG.out.q.c5
              have y6 := HG.out.q.c6
              have y7 := HG.out.q.c7
              simp only at y0 y1 y2 y5 y6 y7
              have yf := HG.out.q.fz
              clear HKA HKT
              have hge : ¬ e ≤ (k : Int) := by omega
              rw [if_neg hge] at hwn
              subst hwn
              have dN : decide (e ≤ (k : Int)) = false := decide_eq_false hge
              have HI3 := HI2
              have hDD := hDD.out
              have hxx := HX.out _ HG.out.bl
              go_wp2_with fail
              go_roundw
              case rel => exact ⟨k + 1, _, _, _, _, _, _, _, _, rfl, by go_num, by omega, HI3, HN⟩
              case measure => simp [intOf]; omega
            · go_simp
              have HP := Lib.hid (HL.out.al (.cells #[.int .u64 0, .int .u64 0, .string ⟨#[]⟩, .slice none 0 0, .slice none 0 0, .bool false, .bool false, .bool false] 29)).dr
              refine hK.out _ _ ?_ (fun hHeld => ?_)
              · exact HP.out
              clear hK K
              try simp only [Act.put, List.getElem_toArray, List.getElem_cons_zero, List.getElem_cons_succ, List.setIfInBounds_toArray, List.set_cons_zero, List.set_cons_succ]
              refine wpAnyE_call (i := 6) (by kernel_rfl) rfl (by rfl) (fun K hK => ?_)
              go_simp
              with_reducible refine (CW.out _ _ _ _ _ _ _ HP.out.q.ra HP.out.q.rt).mono ?_
              rintro ex w3 ⟨b1, m1, d1, b2, m2, d2, rfl, hra, hrt, hka, hkt, hb⟩
              have HC := Lib.hid (HP.out.go hb)
              have HRA := Lib.hid hra
              have HRT := Lib.hid hrt
              have HKA : Hid (∀ k, Blk (.slice b1 m1 d1) k → wr.heap.size + 1 ≤ k) := Lib.hid (fun k h => by have := hka k h; simp at this; omega)
              have HKT : Hid (∀ k, Blk (.slice b2 m2 d2) k → wr.heap.size + 1 ≤ k) := Lib.hid (fun k h => by have := hkt k h; simp at this; omega)
              have HGL := Lib.hid HL.out.lt
              have hz : w3.heap[wr.heap.size]? = some (.cells #[.int .u64 0, .int .u64 0, .string ⟨#[]⟩, .slice none 0 0, .slice none 0 0, .bool false, .bool false, .bool false] 29 (0, 0)) := (hb.block wr.heap.size (by simp)).trans (heap_alloc_new wr (.cells #[.int .u64 0, .int .u64 0, .string ⟨#[]⟩, .slice none 0 0, .slice none 0 0, .bool false, .bool false, .bool false] 29))
              have HZ := Lib.hid hz
              have z0 : w3.cell? ⟨wr.heap.size, 0, none⟩ = _ := Lib.cell_of_heap hz 0
              have z1 : w3.cell? ⟨wr.heap.size, 1, none⟩ = _ := Lib.cell_of_heap hz 1
              have z2 : w3.cell? ⟨wr.heap.size, 2, none⟩ = _ := Lib.cell_of_heap hz 2
              have z3 : w3.cell? ⟨wr.heap.size, 3, none⟩ = _ := Lib.cell_of_heap hz 3
              have z4 : w3.cell? ⟨wr.heap.size, 4, none⟩ = _ := Lib.cell_of_heap hz 4
              have z5 : w3.cell? ⟨wr.heap.size, 5, none⟩ = _ := Lib.cell_of_heap hz 5
              have z6 : w3.cell? ⟨wr.heap.size, 6, none⟩ = _ := Lib.cell_of_heap hz 6
              have z7 : w3.cell? ⟨wr.heap.size, 7, none⟩ = _ := Lib.cell_of_heap hz 7
              have zf : ∀ k, w3.frozen? ⟨wr.heap.size, k, none⟩ = false := fun k => Lib.frozen_of_heap hz k
              clear hra hrt hka hkt hb hz
              refine hK.out _ _ ?_ (fun hHeld => ?_)
              · exact HC.out
              clear hK K
              try simp only [Act.put, List.getElem_toArray, List.getElem_cons_zero, List.getElem_cons_succ, List.setIfInBounds_toArray, List.set_cons_zero, List.set_cons_succ]
              refine wpAnyE_take (i := 7) (v := ?_) rfl (by kernel_rfl) (by kernel_rfl) (by kernel_rfl) (fun _ _ _ h => h) (Or.inl ⟨by rfl, ?_⟩) ?_
              rotate_left
              · (intro w hSw; go_simp; (try with_reducible rfl))
              try simp only [Act.put, List.getElem_toArray, List.getElem_cons_zero, List.getElem_cons_succ, List.setIfInBounds_toArray, List.set_cons_zero, List.set_cons_succ]
              refine wpAnyE_take (i := 8) (v := ?_) rfl (by kernel_rfl) (by kernel_rfl) (by kernel_rfl) (fun _ _ _ h => h) (Or.inl ⟨by rfl, ?_⟩) ?_
              rotate_left
              · (intro w hSw; go_simp; (try with_reducible rfl))
              try simp only [Act.put, List.getElem_toArray, List.getElem_cons_zero, List.getElem_cons_succ, List.setIfInBounds_toArray, List.set_cons_zero, List.set_cons_succ]
              refine wpAnyE_take (i := 9) (v := ?_) rfl (by kernel_rfl) (by kernel_rfl) (by kernel_rfl) (fun _ _ _ h => h) (Or.inl ⟨by rfl, ?_⟩) ?_
              rotate_left
              · (intro w hSw; go_simp; (try with_reducible rfl))
              try simp only [Act.put, List.getElem_toArray, List.getElem_cons_zero, List.getElem_cons_succ, List.setIfInBounds_toArray, List.set_cons_zero, List.set_cons_succ]
              refine wpAnyE_store (i := 11) (by kernel_rfl) rfl (by rfl) (by rfl) (fun K hK => ?_)
              go_simp
              refine hK.out _ _ ?_
              clear hK K
              try simp only [Act.put, List.getElem_toArray, List.getElem_cons_zero, List.getElem_cons_succ, List.setIfInBounds_toArray, List.set_cons_zero, List.set_cons_succ]
              refine wpAnyE_take (i := 12) (v := ?_) rfl (by kernel_rfl) (by kernel_rfl) (by kernel_rfl) (fun _ _ _ h => h) (Or.inl ⟨by rfl, ?_⟩) ?_
              rotate_left
              · (intro w hSw; go_simp; (try with_reducible rfl))
              try simp only [Act.put, List.getElem_toArray, List.getElem_cons_zero, List.getElem_cons_succ, List.setIfInBounds_toArray, List.set_cons_zero, List.set_cons_succ]
              refine wpAnyE_done (by kernel_rfl) (NoPanic.normal ?_) _
              have NP1 : ¬ Blk (.slice b1 m1 d1) wr.heap.size := fun h => by have := HKA.out _ h; omega
              have NP2 : ¬ Blk (.slice b2 m2 d2) wr.heap.size := fun h => by have := HKT.out _ h; omega
              have HQ : Hid (Qb 29 ((((((((w3.setCell ⟨wr.heap.size, 0, none⟩ (.int .u64 qb)).setCell ⟨wr.heap.size, 1, none⟩ (.int .u64 qt)).setCell ⟨wr.heap.size, 2, none⟩ (.string qd)).setCell ⟨wr.heap.size, 3, none⟩ (.slice b1 m1 d1)).setCell ⟨wr.heap.size, 4, none⟩ (.slice b2 m2 d2)).setCell ⟨wr.heap.size, 5, none⟩ (.bool qf)).setCell ⟨wr.heap.size, 6, none⟩ (.bool qe)).setCell ⟨wr.heap.size, 7, none⟩ (.bool qc)) wr.heap.size (.slice b1 m1 d1) (.slice b2 m2 d2) ⟨qb, qt, qd, qa, qo, qf, qe, qc⟩) := Lib.hid ⟨eight_put HZ.out _ _ _ _ _ _ _ _, rd_eight HRA.out NP1 _ _ _ _ _ _ _ _, rd_eight HRT.out NP2 _ _ _ _ _ _ _ _, NP1, NP2⟩
              have HG := Lib.hid (HC.out.below8 (p := wr.heap.size) (by have := HGL.out; omega) (fun h => by have := HL.out.q.ra.blk h; omega) (fun h => by have := HL.out.q.rt.blk h; omega) (by have := HL.out.bl.size; omega) (.int .u64 qb) (.int .u64 qt) (.string qd) (.slice b1 m1 d1) (.slice b2 m2 d2) (.bool qf) (.bool qe) (.bool qc))
              have NA2 : Hid (¬ Blk (.slice b1 m1 d1) g) := Lib.hid (fun h => by have h5 := HKA.out _ h; have := HGL.out; omega)
              have NT2 : Hid (¬ Blk (.slice b2 m2 d2) g) := Lib.hid (fun h => by have h5 := HKT.out _ h; have := HGL.out; omega)
              clear NP1 NP2 z0 z1 z2 z3 z4 z5 z6 z7 zf
              generalize (((((((w3.setCell _ _).setCell _ _).setCell _ _).setCell _ _).setCell _ _).setCell _ _).setCell _ _).setCell _ _ = W5 at *
              have hpg : ¬ wr.heap.size = g := by have := HGL.out; omega
              have hpg' : ¬ g = wr.heap.size := fun h => hpg h.symm
              have HN := Lib.hid (HG.out.put (s' := ⟨qb, qt, qd, qa, qo, qf, qe, qc⟩) HQ.out.ra HQ.out.rt NA2.out NT2.out)
              simp only at HN
              have z0 := HQ.out.c0
              have z1 := HQ.out.c1
              have z2 := HQ.out.c2
              have z3 := HQ.out.c3
              have z4 := HQ.out.c4
              have z5 := HQ.out.c5
              have z6 := HQ.out.c6
              have z7 := HQ.out.c7
              simp only at z0 z1 z2 z5 z6 z7
              have zf := HQ.out.fz
              have y0 := HG.out.q.c0
              have y1 := HG.out.q.c1
              have y2 := HG.out.q.c2
              have y3 := HG.out.q.c3
              have y4 := HG.out.q.c4
              have y5 := HG.out.q.c5
              have y6 := HG.out.q.c6
              have y7 := HG.out.q.c7
              simp only at y0 y1 y2 y5 y6 y7
              have yf := HG.out.q.fz
              clear HKA HKT
              have hge : ¬ e ≤ (k : Int) := by omega
              rw [if_neg hge] at hwn
              subst hwn
              have dN : decide (e ≤ (k : Int)) = false := decide_eq_false hge
              have HI3 := HI2
              have hDD := hDD.out
              have hxx := HX.out _ HG.out.bl
              go_wp2_with fail
              go_roundw
              case rel => exact ⟨k + 1, _, _, _, _, _, _, _, _, rfl, by go_num, by omega, HI3, HN⟩
              case measure => simp [intOf]; omega
    · obtain rfl : k = len := by omega
      obtain ⟨hcn, hen⟩ := HI.out.count hL
      have hlen4 : s.td.length ≤ 1000 := by
        have h := is_fromL (a := 0) (b := (A.size : Int)) (by omega) (by omega) HI.out.ok.ct HI.out.td
        rw [h]; unfold fromL; split <;> simp
      have CC := Lib.hid (fun (v : Value) W (k2 : Rd W v s.td) => count' v s.td W hlen4 HI.out.ok.ct k2)
      rw [hcn] at CC
      have CE := Lib.hid (fun (u v : Value) W => endq_End s u v W HI.out.ok.b0 HI.out.ok.b1)
      rw [hen] at CE
      have v1 : IntKind.u64.wrap (A.size : Int) = (A.size : Int) := IntWalk.u64_in _ (by omega)
      have hd := HI.out.d
      have hb := HI.out.ba
      clear hlt hcn hen hlen4 hsz HI
      obtain ⟨sb, st, sd, sa, so, sf, se, sc⟩ := s
      simp only at hd hb CC CE HL
      subst hd hb
      have td := toList_self sd
      have y0 := HL.out.q.c0
      have y1 := HL.out.q.c1
      have y2 := HL.out.q.c2
      have y3 := HL.out.q.c3
      have y4 := HL.out.q.c4
      have y5 := HL.out.q.c5
      have y6 := HL.out.q.c6
      have y7 := HL.out.q.c7
      simp only at y0 y1 y2 y5 y6 y7
      have yf := HL.out.q.fz
      go_wp2_with fail
      with_reducible refine (CC.out _ _ HL.out.q.rt).mono ?_
      rintro e5 w5 ⟨rfl, hb⟩
      have HL2 := Lib.hid (HL.out.go hb)
      clear hb y0 y1 y2 y3 y4 y5 y6 y7 yf
      have y0 := HL2.out.q.c0
      have y1 := HL2.out.q.c1
      have y2 := HL2.out.q.c2
      have y3 := HL2.out.q.c3
      have y4 := HL2.out.q.c4
      have y5 := HL2.out.q.c5
      have y6 := HL2.out.q.c6
      have y7 := HL2.out.q.c7
      simp only at y0 y1 y2 y5 y6 y7
      have yf := HL2.out.q.fz
      go_wp2_with fail
      with_reducible refine (CE.out _ _ _).mono ?_
      rintro e6 w6 ⟨rfl, hb⟩
      have HL3 := Lib.hid (HL2.out.go hb)
      clear hb y0 y1 y2 y3 y4 y5 y6 y7 yf
      have y0 := HL3.out.q.c0
      have y1 := HL3.out.q.c1
      have y2 := HL3.out.q.c2
      have y3 := HL3.out.q.c3
      have y4 := HL3.out.q.c4
      have y5 := HL3.out.q.c5
      have y6 := HL3.out.q.c6
      have y7 := HL3.out.q.c7
      simp only at y0 y1 y2 y5 y6 y7
      have yf := HL3.out.q.fz
      go_wp2_with fail
      go_ret
      exact ⟨rfl, HL3.out.bl⟩
theorem law_writes (a : Option Addr) (len cap : Nat) (l : List ByteArray) (room e : Int) (w : World) (hn : l.length = len) (hm : len ≤ maxLen) (ht : Txs w a len cap l) (w1 : (Lit.int .i64 room).wf = true) (w2 : (Lit.int .u8 e).wf = true) :
    Calls Try.prog 6 #[.slice a len cap, .int .i64 room, .int .u8 e] w fun e w' => e = .returned (.bool true) ∧ Below w.heap.size w w' := by
  have hr := bounds_i64 w1
  simp only [Lit.wf, Bool.and_eq_true, decide_eq_true_eq] at w2
  have h1 : e < 256 := by have := w2.2; simp [IntKind.max, IntKind.bits, IntKind.signed] at this; omega
  by_cases hL : len ≤ 20
  · by_cases hq : room ≤ 1048576
    · exact writes_main a len cap l room e w hn hL hq ht w2.1 h1 hr.1
    · exact writes_room a len cap room e w hL (by omega)
  · exact writes_len a len cap room e w (by omega)
end Go.Proofs.Ytedijfcagkedaaa.Rg
