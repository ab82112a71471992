/- Layer 16: StreamBroken: a stream that the other side gave up tells nothing any more but that, unless its end came ahead -/
import Derived.Test.YtoblmhpjendbfaaGreatDoorJb38
namespace Go.Proofs.YtoblmhpjendbfaaGreatDoor.Rg
set_option maxRecDepth 20000
open Go.RowKit Go.Shelf
set_option linter.unusedVariables false
set_option linter.unusedSimpArgs false

set_option maxHeartbeats 4000000 in
theorem broken_out (X : ByteArray) (at_ : Int) (fi : Bool) (more : Int) (w : World) (ht : Vm.Tab w) (h : 200 < (X.size : Int)) : Calls Tryz.prog 7 #[.string X, .int .u8 at_, .bool fi, .int .u8 more] w fun e w' => e = .returned (.bool true) ∧ Below w.heap.size w w' := by
  have CS := Lib.hid (shown16_any w ht)
  clear ht
  go_enter Tryz.func7, Tryz.ntmps7
  go_wp2_with fail
  refine CS.out.mono ?_
  rintro e w1 ⟨rfl, hb⟩
  have HB := Lib.hid hb
  clear hb
  go_wp2_with fail
  go_ret
  exact ⟨rfl, HB.out⟩
set_option maxRecDepth 100000 in
set_option maxHeartbeats 4000000 in
theorem broken_A (X : ByteArray) (at_ : Int) (more : Int) (w : World) (ht : Vm.Tab w) (hX : (X.size : Int) ≤ 200) (ha : 0 ≤ at_ ∧ at_ ≤ 255) (hb2 : 0 ≤ more ∧ more ≤ 255) (hm : 0 < more) : Calls Tryz.prog 7 #[.string X, .int .u8 at_, .bool true, .int .u8 more] w fun e w' => e = .returned (.bool true) ∧ Below w.heap.size w w' := by
  have hn0 : (0 : Int) ≤ (X.size : Int) := by omega
  have v1 : IntKind.i64.wrap ((X.size : Int) + 1) = (X.size : Int) + 1 := IntWalk.i64_in _ (by omega)
  have v2 : IntKind.i64.wrap at_ = at_ := IntWalk.i64_in _ (by omega)
  have v3 : IntKind.i64.wrap more = more := IntWalk.i64_in _ (by omega)
  have v3u : IntKind.u64.wrap more = more := IntWalk.u64_in _ (by omega)
  obtain ⟨N1, hN1⟩ : ∃ x, (X.size : Int) + 1 = x := ⟨_, rfl⟩
  obtain ⟨K, hK⟩ : ∃ x, at_.tmod N1 = x := ⟨_, rfl⟩
  have hK2 : at_ % N1 = K := by rw [← hK, Int.tmod_eq_emod_of_nonneg (by omega)]
  have hK0 : 0 ≤ K := by rw [← hK2]; exact Int.emod_nonneg _ (by omega)
  have hK1 : K ≤ (X.size : Int) := by have := Int.emod_lt_of_pos at_ (show 0 < N1 by omega); omega
  have hz1 : (N1 == 0) = false := by rw [beq_eq_false_iff_ne]; omega
  obtain ⟨M, hM⟩ : ∃ x, (X.size : Int) + more = x := ⟨_, rfl⟩
  have v4 : IntKind.i64.wrap ((X.size : Int) + more) = M := by rw [hM]; exact IntWalk.i64_in _ (by omega)
  have v5 : IntKind.u64.wrap M = M := IntWalk.u64_in _ (by omega)
  have v6 : wrap64 M = M := IntWalk.wrap64_in M (by omega)
  rw [hN1] at v1
  have CS := Lib.hid (fun W (ht : Vm.Tab W) => shown16_any W ht)
  have CNW := Lib.hid (fun W => new16_any 0 1000 W)
  have CD1 : Hid (∀ a1 n1 c1 a2 n2 c2 a3 n3 c3 W, TR W (.slice a1 n1 c1) (.slice a2 n2 c2) (.slice a3 n3 c3) ⟨#[]⟩ (newT 0 1000) → Calls Tryz.prog 14 #[.agg #[.int .u64 (newT 0 1000).o.ba, .int .u64 (newT 0 1000).o.tp, .string (newT 0 1000).o.d, .slice a1 n1 c1, .slice a2 n2 c2, .bool (newT 0 1000).o.fin, .bool (newT 0 1000).o.ft, .bool (newT 0 1000).o.fa, .int .u64 (newT 0 1000).cr, .int .u64 (newT 0 1000).cd, .int .u64 (newT 0 1000).wy, .bool (newT 0 1000).rs, .bool (newT 0 1000).td, .bool (newT 0 1000).gn, .int .u64 (newT 0 1000).i.rd, .slice a3 n3 c3, .int .u64 (newT 0 1000).i.fin, .bool (newT 0 1000).i.kn, .int .u64 (newT 0 1000).wn, .int .u64 (newT 0 1000).lm, .bool (newT 0 1000).rz, .bool (newT 0 1000).bk, .bool (newT 0 1000).sp, .int .u64 (newT 0 1000).sc, .bool (newT 0 1000).st], .agg #[.int .u64 8, .int .u64 4, .int .u64 0, .int .u64 0, .int .u64 0, .int .u64 0, .int .u64 0, .int .u64 0, .bool true, .string X, .string ⟨#[]⟩, .string ⟨#[]⟩, .slice none 0 0]] W fun e w' => DataQ W ⟨#[]⟩ (newT 0 1000) (strF 4 ⟨0, X, true, true⟩) ((brS1 (X.size : Int) true), (X.size : Int), 0) e w') := Lib.hid (fun a1 n1 c1 a2 n2 c2 a3 n3 c3 W hr => by
      have h := data16_any (newT 0 1000) ⟨#[]⟩ a1 n1 c1 a2 n2 c2 a3 n3 c3 (strF 4 ⟨0, X, true, true⟩) (X.size : Int) W Gt.gsG_zero (by decide) (by decide) (Int.le_refl 0) (by show (0 : Int) + ((X.data.toList.length : Nat) : Int) = _; rw [Array.length_toList, Int.zero_add]; rfl) (by omega) (by have := rd_len hr.ra; have e : (newT 0 1000).o.ak.length = 0 := rfl; omega) (by have := rd_len hr.rt; have e : (newT 0 1000).o.td.length = 0 := rfl; omega) (by have h1 := rowg_len hr.rx; have hl := (show (newT 0 1000).i.l.length = 0 from rfl); rw [h1] at hl; omega) hr
      rw [show ((strF 4 ⟨0, X, true, true⟩) : Fm.Frm).off = 0 from rfl, show ((strF 4 ⟨0, X, true, true⟩) : Fm.Frm).fin = true from rfl, br_data hn0 (by omega) true] at h
      exact h)
  have CR1 : Hid (∀ T' (hg : Gt.GsG T' (brS1 (X.size : Int) true).i) (hx : T'.extract 0 K.toNat = X.extract 0 K.toNat) a1 n1 c1 a2 n2 c2 a3 n3 c3 W, TR W (.slice a1 n1 c1) (.slice a2 n2 c2) (.slice a3 n3 c3) T' (brS1 (X.size : Int) true) → Calls Tryz.prog 26 #[.agg #[.int .u64 (brS1 (X.size : Int) true).o.ba, .int .u64 (brS1 (X.size : Int) true).o.tp, .string (brS1 (X.size : Int) true).o.d, .slice a1 n1 c1, .slice a2 n2 c2, .bool (brS1 (X.size : Int) true).o.fin, .bool (brS1 (X.size : Int) true).o.ft, .bool (brS1 (X.size : Int) true).o.fa, .int .u64 (brS1 (X.size : Int) true).cr, .int .u64 (brS1 (X.size : Int) true).cd, .int .u64 (brS1 (X.size : Int) true).wy, .bool (brS1 (X.size : Int) true).rs, .bool (brS1 (X.size : Int) true).td, .bool (brS1 (X.size : Int) true).gn, .int .u64 (brS1 (X.size : Int) true).i.rd, .slice a3 n3 c3, .int .u64 (brS1 (X.size : Int) true).i.fin, .bool (brS1 (X.size : Int) true).i.kn, .int .u64 (brS1 (X.size : Int) true).wn, .int .u64 (brS1 (X.size : Int) true).lm, .bool (brS1 (X.size : Int) true).rz, .bool (brS1 (X.size : Int) true).bk, .bool (brS1 (X.size : Int) true).sp, .int .u64 (brS1 (X.size : Int) true).sc, .bool (brS1 (X.size : Int) true).st], .int .i64 K] W (GvR W.heap.size W T' (brS2 (X.size : Int) K true) (X.extract 0 K.toNat) ((brS1 (X.size : Int) true).i.kn && decide ((brS1 (X.size : Int) true).i.fin = (brS1 (X.size : Int) true).i.rd + K)) 0)) := Lib.hid (fun T' hg hx a1 n1 c1 a2 n2 c2 a3 n3 c3 W hr => by
      have h := read16_any (brS1 (X.size : Int) true) T' a1 n1 c1 a2 n2 c2 a3 n3 c3 K W hg (by have := fr0_len (X.size : Int); show (fr0 _).length ≤ 900; omega) (by show Gt.hiS ⟨0, fr0 (X.size : Int), if true = true then (X.size : Int) else 0, true⟩ ≤ 1000; rw [fr0_hi hn0]; omega) (by show (1000 : Int) < _; decide) (by show (0 : Int) ≤ 1000; decide) (by show (1000 : Int) < _; decide) (by have := rd_len hr.ra; have e : (brS1 (X.size : Int) true).o.ak.length = 0 := rfl; omega) (by have := rd_len hr.rt; have e : (brS1 (X.size : Int) true).o.td.length = 0 := rfl; omega) (by have h1 := rowg_len hr.rx; have hl := (show (brS1 (X.size : Int) true).i.l.length ≤ 1 from fr0_len (X.size : Int)); rw [h1] at hl; omega) hr
      rw [br_tk hK0 hK1 true, br_read hK0 hK1 (by omega) true, show (brS1 (X.size : Int) true).bk = false from rfl] at h
      simp only [Bool.false_eq_true, if_false] at h
      rw [show (brS1 (X.size : Int) true).i.rd = 0 from rfl, Int.zero_add, show (0 : Int).toNat = 0 from rfl, hx] at h
      rw [show (brS1 (X.size : Int) true).i.rd = 0 from rfl, Int.zero_add]
      exact h)
  have CB : Hid (∀ T' (hg : Gt.GsG T' (brS1 (X.size : Int) true).i) a1 n1 c1 a2 n2 c2 a3 n3 c3 W, TR W (.slice a1 n1 c1) (.slice a2 n2 c2) (.slice a3 n3 c3) T' (brS2 (X.size : Int) K true) → Calls Tryz.prog 16 #[.agg #[.int .u64 (brS2 (X.size : Int) K true).o.ba, .int .u64 (brS2 (X.size : Int) K true).o.tp, .string (brS2 (X.size : Int) K true).o.d, .slice a1 n1 c1, .slice a2 n2 c2, .bool (brS2 (X.size : Int) K true).o.fin, .bool (brS2 (X.size : Int) K true).o.ft, .bool (brS2 (X.size : Int) K true).o.fa, .int .u64 (brS2 (X.size : Int) K true).cr, .int .u64 (brS2 (X.size : Int) K true).cd, .int .u64 (brS2 (X.size : Int) K true).wy, .bool (brS2 (X.size : Int) K true).rs, .bool (brS2 (X.size : Int) K true).td, .bool (brS2 (X.size : Int) K true).gn, .int .u64 (brS2 (X.size : Int) K true).i.rd, .slice a3 n3 c3, .int .u64 (brS2 (X.size : Int) K true).i.fin, .bool (brS2 (X.size : Int) K true).i.kn, .int .u64 (brS2 (X.size : Int) K true).wn, .int .u64 (brS2 (X.size : Int) K true).lm, .bool (brS2 (X.size : Int) K true).rz, .bool (brS2 (X.size : Int) K true).bk, .bool (brS2 (X.size : Int) K true).sp, .int .u64 (brS2 (X.size : Int) K true).sc, .bool (brS2 (X.size : Int) K true).st], .agg #[.int .u64 4, .int .u64 4, .int .u64 0, .int .u64 M, .int .u64 9, .int .u64 0, .int .u64 0, .int .u64 0, .bool false, .string ⟨#[]⟩, .string ⟨#[]⟩, .string ⟨#[]⟩, .slice none 0 0]] W fun e w' => BreakQ W T' (brS2 (X.size : Int) K true) ((brS2 (X.size : Int) K true), 0, 140) e w') := Lib.hid (fun T' hg a1 n1 c1 a2 n2 c2 a3 n3 c3 W hr => by
      have h := break16_any (brS2 (X.size : Int) K true) T' a1 n1 c1 a2 n2 c2 a3 n3 c3 (frK 4 4 0 M 9 none0 false) W (br_g1 hn0 hg hK0 hK1) (by have := br_len (X.size : Int) K true; omega) (by show (1000 : Int) < _; decide) (by show 0 ≤ M; omega) (by have := rd_len hr.ra; have e : (brS2 (X.size : Int) K true).o.ak.length = 0 := rfl; omega) (by have := rd_len hr.rt; have e : (brS2 (X.size : Int) K true).o.td.length = 0 := rfl; omega) (by have h1 := rowg_len hr.rx; have hl := br_len (X.size : Int) K true; rw [h1] at hl; omega) hr
      rw [show (frK 4 4 0 M 9 none0 false).max = M from rfl, show (frK 4 4 0 M 9 none0 false).code = 9 from rfl, br_no (T := T') hK0 hK1 (by omega) (by omega)] at h
      exact h)
  have HT := Lib.hid ht
  have HXB : Hid (∀ (T : ByteArray) (hd : ∀ r : Ran, 0 ≤ r.1 → r.1 ≤ r.2 → r.2 < 0 + (X.size : Int) → X.extract (r.1 - 0).toNat (r.2 - 0 + 1).toNat = Gt.bt T r), T.extract 0 K.toNat = X.extract 0 K.toNat) := Lib.hid (fun T hd => br_text hK0 hK1 hd)
  have e1 : decide ((0 : Int) < more) = true := decide_eq_true hm
  have d1 : ¬ (200 : Int) < (X.size : Int) := by omega
  have hKN : ((K.toNat : Nat) : Int) = K := by omega
  have hKs : K.toNat ≤ X.size := by omega
  have HMM := Lib.hid hM
  clear ht hn0 ha hb2 hm hX
  go_enter Tryz.func7, Tryz.ntmps7
  go_wp2_with fail
  refine (CS.out _ HT.out).mono ?_
  rintro e w0 ⟨rfl, hb⟩
  have HB0 := Lib.hid hb
  clear hb CS
  go_wp2_with fail
  refine (CNW.out _).mono ?_
  rintro e w1 ⟨b1, b4, b7, b2, b5, b8, b3, b6, b9, rfl, hn⟩
  have HN := Lib.hid hn
  clear hn CNW
  have HL := Lib.hid (LT.new HB0.out HN.out)
  go_upto_region 4 with (refine st35 rfl (zb_made w1) rfl rfl rfl (by rfl) ?_)
  obtain ⟨g, hg⟩ : ∃ x, w1.heap.size = x := ⟨_, rfl⟩
  rw [hg] at HL ⊢
  generalize (w1.alloc (.cells #[.int .u64 0, .int .u64 0, .string ⟨#[]⟩, .slice none 0 0, .slice none 0 0, .bool false, .bool false, .bool false, .int .u64 0, .int .u64 0, .int .u64 0, .bool false, .bool false, .bool false, .int .u64 0, .slice none 0 0, .int .u64 0, .bool false, .int .u64 0, .int .u64 0, .bool false, .bool false, .bool false, .int .u64 0, .bool false] 35)).setRow g _ = W1 at HL ⊢
  clear hg HN
  go_wp2_with (refine ld35 rfl HL.out.q rfl (by rfl) ?_)
  refine (CD1.out _ _ _ _ _ _ _ _ _ _ HL.out.r).mono ?_
  rintro e wa ⟨T', ⟨e1, e4, e7, e2, e5, e8, e3, e6, e9, rfl, hn⟩, hg, _, hd⟩
  have HN := Lib.hid hn
  have HGT : Hid (Gt.GsG T' (brS1 (X.size : Int) true).i) := Lib.hid hg
  have HX : Hid (T'.extract 0 K.toNat = X.extract 0 K.toNat) := Lib.hid (HXB.out T' (fun r h1 h2 h3 => hd rfl rfl r h1 h2 (by show r.2 < 0 + ((X.data.toList.length : Nat) : Int); rw [Array.length_toList]; exact h3) (fun k hk => ⟨by have := hk.1; show (0 : Int) ≤ k; omega, fun hm => absurd hm (mem_nil k)⟩)))
  have CR1T := Lib.hid (CR1.out T' HGT.out HX.out)
  have CBT := Lib.hid (CB.out T' HGT.out)
  clear hn hg hd HXB CR1 CB HX
  have HLa := Lib.hid (HL.out.next HN.out)
  have H35 := Lib.hid (HL.out.q.go HN.out.bl)
  go_upto_region 6 with (refine st35 rfl H35.out rfl rfl rfl (by rfl) ?_)
  generalize World.setRow _ _ _ = Wa at HLa ⊢
  clear H35 HN HL CD1
  go_wp2_with (refine ld35 rfl HLa.out.q rfl (by rfl) ?_)
  refine (CR1T.out _ _ _ _ _ _ _ _ _ _ HLa.out.r).mono ?_
  rintro e wb ⟨f1, f4, f7, f2, f5, f8, f3, f6, f9, rfl, hn⟩
  have HN := Lib.hid hn
  clear hn
  have HLb := Lib.hid (HLa.out.next HN.out)
  have H35 := Lib.hid (HLa.out.q.go HN.out.bl)
  go_upto_region 7 with (refine st35 rfl H35.out rfl rfl rfl (by rfl) ?_)
  generalize World.setRow _ _ _ = Wb at HLb ⊢
  clear H35 HN HLa CR1T
  go_wp2_with (refine ld35 rfl HLb.out.q rfl (by rfl) ?_)
  refine (CBT.out _ _ _ _ _ _ _ _ _ _ HLb.out.r).mono ?_
  rintro e wc ⟨T2, ⟨h1, h4, h7, h2, h5, h8, h3, h6, h9, rfl, hn⟩, hg2, _⟩
  have HN := Lib.hid hn
  have HG2 : Hid (Gt.GsG T2 (brS2 (X.size : Int) K true).i) := Lib.hid hg2
  clear hn hg2
  have HLc := Lib.hid (LT.new HLb.out.bl HN.out)
  go_upto_region 8 with (refine st35 rfl (zb_made wc) rfl rfl rfl (by rfl) ?_)
  generalize (wc.alloc (.cells #[.int .u64 0, .int .u64 0, .string ⟨#[]⟩, .slice none 0 0, .slice none 0 0, .bool false, .bool false, .bool false, .int .u64 0, .int .u64 0, .int .u64 0, .bool false, .bool false, .bool false, .int .u64 0, .slice none 0 0, .int .u64 0, .bool false, .int .u64 0, .int .u64 0, .bool false, .bool false, .bool false, .int .u64 0, .bool false] 35)).setRow wc.heap.size _ = Wc at HLc ⊢
  obtain ⟨q, hq⟩ : ∃ x, wc.heap.size = x := ⟨_, rfl⟩
  rw [hq] at HLc ⊢
  clear hq HN HLb CBT
  have z21 : Wc.cell? ⟨q, 21, none⟩ = some (.bool false) := HLc.out.q.c21
  go_wp2_with fail
  go_ret
  exact ⟨rfl, HLc.out.bl⟩
set_option maxRecDepth 100000 in
set_option maxHeartbeats 4000000 in
theorem broken_B (X : ByteArray) (at_ : Int) (more : Int) (w : World) (ht : Vm.Tab w) (hX : (X.size : Int) ≤ 200) (ha : 0 ≤ at_ ∧ at_ ≤ 255) (hb2 : 0 ≤ more ∧ more ≤ 255) (hm : more = 0) : Calls Tryz.prog 7 #[.string X, .int .u8 at_, .bool true, .int .u8 more] w fun e w' => e = .returned (.bool true) ∧ Below w.heap.size w w' := by
  have hn0 : (0 : Int) ≤ (X.size : Int) := by omega
  have v1 : IntKind.i64.wrap ((X.size : Int) + 1) = (X.size : Int) + 1 := IntWalk.i64_in _ (by omega)
  have v2 : IntKind.i64.wrap at_ = at_ := IntWalk.i64_in _ (by omega)
  have v3 : IntKind.i64.wrap more = more := IntWalk.i64_in _ (by omega)
  have v3u : IntKind.u64.wrap more = more := IntWalk.u64_in _ (by omega)
  obtain ⟨N1, hN1⟩ : ∃ x, (X.size : Int) + 1 = x := ⟨_, rfl⟩
  obtain ⟨K, hK⟩ : ∃ x, at_.tmod N1 = x := ⟨_, rfl⟩
  have hK2 : at_ % N1 = K := by rw [← hK, Int.tmod_eq_emod_of_nonneg (by omega)]
  have hK0 : 0 ≤ K := by rw [← hK2]; exact Int.emod_nonneg _ (by omega)
  have hK1 : K ≤ (X.size : Int) := by have := Int.emod_lt_of_pos at_ (show 0 < N1 by omega); omega
  have hz1 : (N1 == 0) = false := by rw [beq_eq_false_iff_ne]; omega
  obtain ⟨M, hM⟩ : ∃ x, (X.size : Int) + more = x := ⟨_, rfl⟩
  have v4 : IntKind.i64.wrap ((X.size : Int) + more) = M := by rw [hM]; exact IntWalk.i64_in _ (by omega)
  have v5 : IntKind.u64.wrap M = M := IntWalk.u64_in _ (by omega)
  have v6 : wrap64 M = M := IntWalk.wrap64_in M (by omega)
  rw [hN1] at v1
  have CS := Lib.hid (fun W (ht : Vm.Tab W) => shown16_any W ht)
  have CNW := Lib.hid (fun W => new16_any 0 1000 W)
  have CD1 : Hid (∀ a1 n1 c1 a2 n2 c2 a3 n3 c3 W, TR W (.slice a1 n1 c1) (.slice a2 n2 c2) (.slice a3 n3 c3) ⟨#[]⟩ (newT 0 1000) → Calls Tryz.prog 14 #[.agg #[.int .u64 (newT 0 1000).o.ba, .int .u64 (newT 0 1000).o.tp, .string (newT 0 1000).o.d, .slice a1 n1 c1, .slice a2 n2 c2, .bool (newT 0 1000).o.fin, .bool (newT 0 1000).o.ft, .bool (newT 0 1000).o.fa, .int .u64 (newT 0 1000).cr, .int .u64 (newT 0 1000).cd, .int .u64 (newT 0 1000).wy, .bool (newT 0 1000).rs, .bool (newT 0 1000).td, .bool (newT 0 1000).gn, .int .u64 (newT 0 1000).i.rd, .slice a3 n3 c3, .int .u64 (newT 0 1000).i.fin, .bool (newT 0 1000).i.kn, .int .u64 (newT 0 1000).wn, .int .u64 (newT 0 1000).lm, .bool (newT 0 1000).rz, .bool (newT 0 1000).bk, .bool (newT 0 1000).sp, .int .u64 (newT 0 1000).sc, .bool (newT 0 1000).st], .agg #[.int .u64 8, .int .u64 4, .int .u64 0, .int .u64 0, .int .u64 0, .int .u64 0, .int .u64 0, .int .u64 0, .bool true, .string X, .string ⟨#[]⟩, .string ⟨#[]⟩, .slice none 0 0]] W fun e w' => DataQ W ⟨#[]⟩ (newT 0 1000) (strF 4 ⟨0, X, true, true⟩) ((brS1 (X.size : Int) true), (X.size : Int), 0) e w') := Lib.hid (fun a1 n1 c1 a2 n2 c2 a3 n3 c3 W hr => by
      have h := data16_any (newT 0 1000) ⟨#[]⟩ a1 n1 c1 a2 n2 c2 a3 n3 c3 (strF 4 ⟨0, X, true, true⟩) (X.size : Int) W Gt.gsG_zero (by decide) (by decide) (Int.le_refl 0) (by show (0 : Int) + ((X.data.toList.length : Nat) : Int) = _; rw [Array.length_toList, Int.zero_add]; rfl) (by omega) (by have := rd_len hr.ra; have e : (newT 0 1000).o.ak.length = 0 := rfl; omega) (by have := rd_len hr.rt; have e : (newT 0 1000).o.td.length = 0 := rfl; omega) (by have h1 := rowg_len hr.rx; have hl := (show (newT 0 1000).i.l.length = 0 from rfl); rw [h1] at hl; omega) hr
      rw [show ((strF 4 ⟨0, X, true, true⟩) : Fm.Frm).off = 0 from rfl, show ((strF 4 ⟨0, X, true, true⟩) : Fm.Frm).fin = true from rfl, br_data hn0 (by omega) true] at h
      exact h)
  have CR1 : Hid (∀ T' (hg : Gt.GsG T' (brS1 (X.size : Int) true).i) (hx : T'.extract 0 K.toNat = X.extract 0 K.toNat) a1 n1 c1 a2 n2 c2 a3 n3 c3 W, TR W (.slice a1 n1 c1) (.slice a2 n2 c2) (.slice a3 n3 c3) T' (brS1 (X.size : Int) true) → Calls Tryz.prog 26 #[.agg #[.int .u64 (brS1 (X.size : Int) true).o.ba, .int .u64 (brS1 (X.size : Int) true).o.tp, .string (brS1 (X.size : Int) true).o.d, .slice a1 n1 c1, .slice a2 n2 c2, .bool (brS1 (X.size : Int) true).o.fin, .bool (brS1 (X.size : Int) true).o.ft, .bool (brS1 (X.size : Int) true).o.fa, .int .u64 (brS1 (X.size : Int) true).cr, .int .u64 (brS1 (X.size : Int) true).cd, .int .u64 (brS1 (X.size : Int) true).wy, .bool (brS1 (X.size : Int) true).rs, .bool (brS1 (X.size : Int) true).td, .bool (brS1 (X.size : Int) true).gn, .int .u64 (brS1 (X.size : Int) true).i.rd, .slice a3 n3 c3, .int .u64 (brS1 (X.size : Int) true).i.fin, .bool (brS1 (X.size : Int) true).i.kn, .int .u64 (brS1 (X.size : Int) true).wn, .int .u64 (brS1 (X.size : Int) true).lm, .bool (brS1 (X.size : Int) true).rz, .bool (brS1 (X.size : Int) true).bk, .bool (brS1 (X.size : Int) true).sp, .int .u64 (brS1 (X.size : Int) true).sc, .bool (brS1 (X.size : Int) true).st], .int .i64 K] W (GvR W.heap.size W T' (brS2 (X.size : Int) K true) (X.extract 0 K.toNat) ((brS1 (X.size : Int) true).i.kn && decide ((brS1 (X.size : Int) true).i.fin = (brS1 (X.size : Int) true).i.rd + K)) 0)) := Lib.hid (fun T' hg hx a1 n1 c1 a2 n2 c2 a3 n3 c3 W hr => by
      have h := read16_any (brS1 (X.size : Int) true) T' a1 n1 c1 a2 n2 c2 a3 n3 c3 K W hg (by have := fr0_len (X.size : Int); show (fr0 _).length ≤ 900; omega) (by show Gt.hiS ⟨0, fr0 (X.size : Int), if true = true then (X.size : Int) else 0, true⟩ ≤ 1000; rw [fr0_hi hn0]; omega) (by show (1000 : Int) < _; decide) (by show (0 : Int) ≤ 1000; decide) (by show (1000 : Int) < _; decide) (by have := rd_len hr.ra; have e : (brS1 (X.size : Int) true).o.ak.length = 0 := rfl; omega) (by have := rd_len hr.rt; have e : (brS1 (X.size : Int) true).o.td.length = 0 := rfl; omega) (by have h1 := rowg_len hr.rx; have hl := (show (brS1 (X.size : Int) true).i.l.length ≤ 1 from fr0_len (X.size : Int)); rw [h1] at hl; omega) hr
      rw [br_tk hK0 hK1 true, br_read hK0 hK1 (by omega) true, show (brS1 (X.size : Int) true).bk = false from rfl] at h
      simp only [Bool.false_eq_true, if_false] at h
      rw [show (brS1 (X.size : Int) true).i.rd = 0 from rfl, Int.zero_add, show (0 : Int).toNat = 0 from rfl, hx] at h
      rw [show (brS1 (X.size : Int) true).i.rd = 0 from rfl, Int.zero_add]
      exact h)
  have CB : Hid (∀ T' (hg : Gt.GsG T' (brS1 (X.size : Int) true).i) a1 n1 c1 a2 n2 c2 a3 n3 c3 W, TR W (.slice a1 n1 c1) (.slice a2 n2 c2) (.slice a3 n3 c3) T' (brS2 (X.size : Int) K true) → Calls Tryz.prog 16 #[.agg #[.int .u64 (brS2 (X.size : Int) K true).o.ba, .int .u64 (brS2 (X.size : Int) K true).o.tp, .string (brS2 (X.size : Int) K true).o.d, .slice a1 n1 c1, .slice a2 n2 c2, .bool (brS2 (X.size : Int) K true).o.fin, .bool (brS2 (X.size : Int) K true).o.ft, .bool (brS2 (X.size : Int) K true).o.fa, .int .u64 (brS2 (X.size : Int) K true).cr, .int .u64 (brS2 (X.size : Int) K true).cd, .int .u64 (brS2 (X.size : Int) K true).wy, .bool (brS2 (X.size : Int) K true).rs, .bool (brS2 (X.size : Int) K true).td, .bool (brS2 (X.size : Int) K true).gn, .int .u64 (brS2 (X.size : Int) K true).i.rd, .slice a3 n3 c3, .int .u64 (brS2 (X.size : Int) K true).i.fin, .bool (brS2 (X.size : Int) K true).i.kn, .int .u64 (brS2 (X.size : Int) K true).wn, .int .u64 (brS2 (X.size : Int) K true).lm, .bool (brS2 (X.size : Int) K true).rz, .bool (brS2 (X.size : Int) K true).bk, .bool (brS2 (X.size : Int) K true).sp, .int .u64 (brS2 (X.size : Int) K true).sc, .bool (brS2 (X.size : Int) K true).st], .agg #[.int .u64 4, .int .u64 4, .int .u64 0, .int .u64 M, .int .u64 9, .int .u64 0, .int .u64 0, .int .u64 0, .bool false, .string ⟨#[]⟩, .string ⟨#[]⟩, .string ⟨#[]⟩, .slice none 0 0]] W fun e w' => BreakQ W T' (brS2 (X.size : Int) K true) ((brS2 (X.size : Int) K true), 0, 0) e w') := Lib.hid (fun T' hg a1 n1 c1 a2 n2 c2 a3 n3 c3 W hr => by
      have h := break16_any (brS2 (X.size : Int) K true) T' a1 n1 c1 a2 n2 c2 a3 n3 c3 (frK 4 4 0 M 9 none0 false) W (br_g1 hn0 hg hK0 hK1) (by have := br_len (X.size : Int) K true; omega) (by show (1000 : Int) < _; decide) (by show 0 ≤ M; omega) (by have := rd_len hr.ra; have e : (brS2 (X.size : Int) K true).o.ak.length = 0 := rfl; omega) (by have := rd_len hr.rt; have e : (brS2 (X.size : Int) K true).o.td.length = 0 := rfl; omega) (by have h1 := rowg_len hr.rx; have hl := br_len (X.size : Int) K true; rw [h1] at hl; omega) hr
      rw [show (frK 4 4 0 M 9 none0 false).max = M from rfl, show (frK 4 4 0 M 9 none0 false).code = 9 from rfl, (show breakT (brS2 (X.size : Int) K true) M 9 = ((brS2 (X.size : Int) K true), 0, 0) from by rw [show M = (X.size : Int) from by omega]; exact br_same hg hK0 hK1 (by omega))] at h
      exact h)
  have HT := Lib.hid ht
  have HXB : Hid (∀ (T : ByteArray) (hd : ∀ r : Ran, 0 ≤ r.1 → r.1 ≤ r.2 → r.2 < 0 + (X.size : Int) → X.extract (r.1 - 0).toNat (r.2 - 0 + 1).toNat = Gt.bt T r), T.extract 0 K.toNat = X.extract 0 K.toNat) := Lib.hid (fun T hd => br_text hK0 hK1 hd)
  have e1 : decide ((0 : Int) < more) = false := decide_eq_false (by omega)
  have CR2 : Hid (∀ T' (hg : Gt.GsG T' (brS1 (X.size : Int) true).i) T2 (hg2 : Gt.GsG T2 (brS2 (X.size : Int) K true).i) a1 n1 c1 a2 n2 c2 a3 n3 c3 W, TR W (.slice a1 n1 c1) (.slice a2 n2 c2) (.slice a3 n3 c3) T2 (brS2 (X.size : Int) K true) → Calls Tryz.prog 26 #[.agg #[.int .u64 (brS2 (X.size : Int) K true).o.ba, .int .u64 (brS2 (X.size : Int) K true).o.tp, .string (brS2 (X.size : Int) K true).o.d, .slice a1 n1 c1, .slice a2 n2 c2, .bool (brS2 (X.size : Int) K true).o.fin, .bool (brS2 (X.size : Int) K true).o.ft, .bool (brS2 (X.size : Int) K true).o.fa, .int .u64 (brS2 (X.size : Int) K true).cr, .int .u64 (brS2 (X.size : Int) K true).cd, .int .u64 (brS2 (X.size : Int) K true).wy, .bool (brS2 (X.size : Int) K true).rs, .bool (brS2 (X.size : Int) K true).td, .bool (brS2 (X.size : Int) K true).gn, .int .u64 (brS2 (X.size : Int) K true).i.rd, .slice a3 n3 c3, .int .u64 (brS2 (X.size : Int) K true).i.fin, .bool (brS2 (X.size : Int) K true).i.kn, .int .u64 (brS2 (X.size : Int) K true).wn, .int .u64 (brS2 (X.size : Int) K true).lm, .bool (brS2 (X.size : Int) K true).rz, .bool (brS2 (X.size : Int) K true).bk, .bool (brS2 (X.size : Int) K true).sp, .int .u64 (brS2 (X.size : Int) K true).sc, .bool (brS2 (X.size : Int) K true).st], .int .i64 5] W (fun e w' => ∃ d b, GvR W.heap.size W T2 (readT (brS2 (X.size : Int) K true) 5) d b 0 e w')) := Lib.hid (fun T' hg T2 hg2 a1 n1 c1 a2 n2 c2 a3 n3 c3 W hr => by
      have h := read16_any (brS2 (X.size : Int) K true) T2 a1 n1 c1 a2 n2 c2 a3 n3 c3 5 W hg2 (by have := br_len (X.size : Int) K true; omega) (by show Gt.hiS (brS2 (X.size : Int) K true).i ≤ 1000; rw [br_hi hK0 hK1 hg]; omega) (by show (1000 : Int) < _; decide) (by show (0 : Int) ≤ 1000; decide) (by show (1000 : Int) < _; decide) (by have := rd_len hr.ra; have e : (brS2 (X.size : Int) K true).o.ak.length = 0 := rfl; omega) (by have := rd_len hr.rt; have e : (brS2 (X.size : Int) K true).o.td.length = 0 := rfl; omega) (by have h1 := rowg_len hr.rx; have hl := br_len (X.size : Int) K true; rw [h1] at hl; omega) hr
      rw [show (brS2 (X.size : Int) K true).bk = false from rfl] at h
      simp only [Bool.false_eq_true, if_false, if_true] at h
      exact h.mono (fun _ _ hk => ⟨_, _, hk⟩))
  have d1 : ¬ (200 : Int) < (X.size : Int) := by omega
  have hKN : ((K.toNat : Nat) : Int) = K := by omega
  have hKs : K.toNat ≤ X.size := by omega
  have HMM := Lib.hid hM
  clear ht hn0 ha hb2 hm hX
  go_enter Tryz.func7, Tryz.ntmps7
  go_wp2_with fail
  refine (CS.out _ HT.out).mono ?_
  rintro e w0 ⟨rfl, hb⟩
  have HB0 := Lib.hid hb
  clear hb CS
  go_wp2_with fail
  refine (CNW.out _).mono ?_
  rintro e w1 ⟨b1, b4, b7, b2, b5, b8, b3, b6, b9, rfl, hn⟩
  have HN := Lib.hid hn
  clear hn CNW
  have HL := Lib.hid (LT.new HB0.out HN.out)
  go_upto_region 4 with (refine st35 rfl (zb_made w1) rfl rfl rfl (by rfl) ?_)
  obtain ⟨g, hg⟩ : ∃ x, w1.heap.size = x := ⟨_, rfl⟩
  rw [hg] at HL ⊢
  generalize (w1.alloc (.cells #[.int .u64 0, .int .u64 0, .string ⟨#[]⟩, .slice none 0 0, .slice none 0 0, .bool false, .bool false, .bool false, .int .u64 0, .int .u64 0, .int .u64 0, .bool false, .bool false, .bool false, .int .u64 0, .slice none 0 0, .int .u64 0, .bool false, .int .u64 0, .int .u64 0, .bool false, .bool false, .bool false, .int .u64 0, .bool false] 35)).setRow g _ = W1 at HL ⊢
  clear hg HN
  go_wp2_with (refine ld35 rfl HL.out.q rfl (by rfl) ?_)
  refine (CD1.out _ _ _ _ _ _ _ _ _ _ HL.out.r).mono ?_
  rintro e wa ⟨T', ⟨e1, e4, e7, e2, e5, e8, e3, e6, e9, rfl, hn⟩, hg, _, hd⟩
  have HN := Lib.hid hn
  have HGT : Hid (Gt.GsG T' (brS1 (X.size : Int) true).i) := Lib.hid hg
  have HX : Hid (T'.extract 0 K.toNat = X.extract 0 K.toNat) := Lib.hid (HXB.out T' (fun r h1 h2 h3 => hd rfl rfl r h1 h2 (by show r.2 < 0 + ((X.data.toList.length : Nat) : Int); rw [Array.length_toList]; exact h3) (fun k hk => ⟨by have := hk.1; show (0 : Int) ≤ k; omega, fun hm => absurd hm (mem_nil k)⟩)))
  have CR1T := Lib.hid (CR1.out T' HGT.out HX.out)
  have CBT := Lib.hid (CB.out T' HGT.out)
  clear hn hg hd HXB CR1 CB HX
  have HLa := Lib.hid (HL.out.next HN.out)
  have H35 := Lib.hid (HL.out.q.go HN.out.bl)
  go_upto_region 6 with (refine st35 rfl H35.out rfl rfl rfl (by rfl) ?_)
  generalize World.setRow _ _ _ = Wa at HLa ⊢
  clear H35 HN HL CD1
  go_wp2_with (refine ld35 rfl HLa.out.q rfl (by rfl) ?_)
  refine (CR1T.out _ _ _ _ _ _ _ _ _ _ HLa.out.r).mono ?_
  rintro e wb ⟨f1, f4, f7, f2, f5, f8, f3, f6, f9, rfl, hn⟩
  have HN := Lib.hid hn
  clear hn
  have HLb := Lib.hid (HLa.out.next HN.out)
  have H35 := Lib.hid (HLa.out.q.go HN.out.bl)
  go_upto_region 7 with (refine st35 rfl H35.out rfl rfl rfl (by rfl) ?_)
  generalize World.setRow _ _ _ = Wb at HLb ⊢
  clear H35 HN HLa CR1T
  go_wp2_with (refine ld35 rfl HLb.out.q rfl (by rfl) ?_)
  refine (CBT.out _ _ _ _ _ _ _ _ _ _ HLb.out.r).mono ?_
  rintro e wc ⟨T2, ⟨h1, h4, h7, h2, h5, h8, h3, h6, h9, rfl, hn⟩, hg2, _⟩
  have HN := Lib.hid hn
  have HG2 : Hid (Gt.GsG T2 (brS2 (X.size : Int) K true).i) := Lib.hid hg2
  clear hn hg2
  have HLc := Lib.hid (LT.new HLb.out.bl HN.out)
  go_upto_region 8 with (refine st35 rfl (zb_made wc) rfl rfl rfl (by rfl) ?_)
  generalize (wc.alloc (.cells #[.int .u64 0, .int .u64 0, .string ⟨#[]⟩, .slice none 0 0, .slice none 0 0, .bool false, .bool false, .bool false, .int .u64 0, .int .u64 0, .int .u64 0, .bool false, .bool false, .bool false, .int .u64 0, .slice none 0 0, .int .u64 0, .bool false, .int .u64 0, .int .u64 0, .bool false, .bool false, .bool false, .int .u64 0, .bool false] 35)).setRow wc.heap.size _ = Wc at HLc ⊢
  obtain ⟨q, hq⟩ : ∃ x, wc.heap.size = x := ⟨_, rfl⟩
  rw [hq] at HLc ⊢
  clear hq HN HLb CBT
  have CR2T := Lib.hid (CR2.out T' HGT.out T2 HG2.out)
  clear CR2
  have z21 : Wc.cell? ⟨q, 21, none⟩ = some (.bool false) := HLc.out.q.c21
  go_wp2_with (refine ld35 rfl HLc.out.q rfl (by rfl) ?_)
  refine (CR2T.out _ _ _ _ _ _ _ _ _ _ HLc.out.r).mono ?_
  rintro e wd ⟨d, b, k1, k4, k7, k2, k5, k8, k3, k6, k9, rfl, hn⟩
  have HN := Lib.hid hn
  clear hn CR2T
  have HL7 := Lib.hid (HLc.out.go HN.out.bl)
  have HL8 := Lib.hid (HL7.out.go ((Below.refl wd.heap.size wd).alloc (Nat.le_refl _) (.cells #[.int .u64 0, .int .u64 0, .string ⟨#[]⟩, .slice none 0 0, .slice none 0 0, .bool false, .bool false, .bool false, .int .u64 0, .int .u64 0, .int .u64 0, .bool false, .bool false, .bool false, .int .u64 0, .slice none 0 0, .int .u64 0, .bool false, .int .u64 0, .int .u64 0, .bool false, .bool false, .bool false, .int .u64 0, .bool false] 35)))
  have HL9 := Lib.hid (HL8.out.row (k := wd.heap.size) (.inr ⟨by have := HL7.out.q.lt; omega, HL7.out.bl.size, fun hk => Nat.lt_irrefl _ (HL7.out.r.ra.blk hk), fun hk => Nat.lt_irrefl _ (HL7.out.r.rt.blk hk), fun hk => Nat.lt_irrefl _ (HL7.out.r.rx.blk hk)⟩) #[.int .u64 (readT (brS2 (X.size : Int) K true) 5).o.ba, .int .u64 (readT (brS2 (X.size : Int) K true) 5).o.tp, .string (readT (brS2 (X.size : Int) K true) 5).o.d, .slice k1 k4 k7, .slice k2 k5 k8, .bool (readT (brS2 (X.size : Int) K true) 5).o.fin, .bool (readT (brS2 (X.size : Int) K true) 5).o.ft, .bool (readT (brS2 (X.size : Int) K true) 5).o.fa, .int .u64 (readT (brS2 (X.size : Int) K true) 5).cr, .int .u64 (readT (brS2 (X.size : Int) K true) 5).cd, .int .u64 (readT (brS2 (X.size : Int) K true) 5).wy, .bool (readT (brS2 (X.size : Int) K true) 5).rs, .bool (readT (brS2 (X.size : Int) K true) 5).td, .bool (readT (brS2 (X.size : Int) K true) 5).gn, .int .u64 (readT (brS2 (X.size : Int) K true) 5).i.rd, .slice k3 k6 k9, .int .u64 (readT (brS2 (X.size : Int) K true) 5).i.fin, .bool (readT (brS2 (X.size : Int) K true) 5).i.kn, .int .u64 (readT (brS2 (X.size : Int) K true) 5).wn, .int .u64 (readT (brS2 (X.size : Int) K true) 5).lm, .bool (readT (brS2 (X.size : Int) K true) 5).rz, .bool (readT (brS2 (X.size : Int) K true) 5).bk, .bool (readT (brS2 (X.size : Int) K true) 5).sp, .int .u64 (readT (brS2 (X.size : Int) K true) 5).sc, .bool (readT (brS2 (X.size : Int) K true) 5).st])
  go_upto_region 13 with (refine st35 rfl (zb_made wd) rfl rfl rfl (by rfl) ?_)
  generalize World.setRow _ _ _ = We at HL9 ⊢
  clear HN HL7 HL8 HLc
  have z21 := HL9.out.q.c21
  go_wp2_with fail
  go_ret
  exact ⟨rfl, HL9.out.bl⟩
theorem br3_hi {n k m : Int} {T : ByteArray} (h : Gt.GsG T (brS1 n false).i) (h0 : 0 ≤ k) (h1 : k ≤ n) (hm : n ≤ m) (hm2 : m ≤ 1000) : Gt.hiS (brS3 n k m).i = m := by
  have hr : Gt.rfS (brS2 n k false).i true m = 0 := by
    unfold Gt.rfS
    rw [if_neg]
    rintro (⟨h2, _⟩ | ⟨_, h2⟩)
    · cases h2
    · rw [br_hi h0 h1 h] at h2; omega
  show Gt.hiS { Gt.putS (brS2 n k false).i m m true with l := [] } = m
  rw [Gt.putS_yes hr]
  exact Gt.hiS_kn (by simp)
set_option maxRecDepth 100000 in
set_option maxHeartbeats 4000000 in
theorem broken_C (X : ByteArray) (at_ : Int) (more : Int) (w : World) (ht : Vm.Tab w) (hX : (X.size : Int) ≤ 200) (ha : 0 ≤ at_ ∧ at_ ≤ 255) (hb2 : 0 ≤ more ∧ more ≤ 255)  : Calls Tryz.prog 7 #[.string X, .int .u8 at_, .bool false, .int .u8 more] w fun e w' => e = .returned (.bool true) ∧ Below w.heap.size w w' := by
  have hn0 : (0 : Int) ≤ (X.size : Int) := by omega
  have v1 : IntKind.i64.wrap ((X.size : Int) + 1) = (X.size : Int) + 1 := IntWalk.i64_in _ (by omega)
  have v2 : IntKind.i64.wrap at_ = at_ := IntWalk.i64_in _ (by omega)
  have v3 : IntKind.i64.wrap more = more := IntWalk.i64_in _ (by omega)
  have v3u : IntKind.u64.wrap more = more := IntWalk.u64_in _ (by omega)
  obtain ⟨N1, hN1⟩ : ∃ x, (X.size : Int) + 1 = x := ⟨_, rfl⟩
  obtain ⟨K, hK⟩ : ∃ x, at_.tmod N1 = x := ⟨_, rfl⟩
  have hK2 : at_ % N1 = K := by rw [← hK, Int.tmod_eq_emod_of_nonneg (by omega)]
  have hK0 : 0 ≤ K := by rw [← hK2]; exact Int.emod_nonneg _ (by omega)
  have hK1 : K ≤ (X.size : Int) := by have := Int.emod_lt_of_pos at_ (show 0 < N1 by omega); omega
  have hz1 : (N1 == 0) = false := by rw [beq_eq_false_iff_ne]; omega
  obtain ⟨M, hM⟩ : ∃ x, (X.size : Int) + more = x := ⟨_, rfl⟩
  have v4 : IntKind.i64.wrap ((X.size : Int) + more) = M := by rw [hM]; exact IntWalk.i64_in _ (by omega)
  have v5 : IntKind.u64.wrap M = M := IntWalk.u64_in _ (by omega)
  have v6 : wrap64 M = M := IntWalk.wrap64_in M (by omega)
  rw [hN1] at v1
  have CS := Lib.hid (fun W (ht : Vm.Tab W) => shown16_any W ht)
  have CNW := Lib.hid (fun W => new16_any 0 1000 W)
  have CD1 : Hid (∀ a1 n1 c1 a2 n2 c2 a3 n3 c3 W, TR W (.slice a1 n1 c1) (.slice a2 n2 c2) (.slice a3 n3 c3) ⟨#[]⟩ (newT 0 1000) → Calls Tryz.prog 14 #[.agg #[.int .u64 (newT 0 1000).o.ba, .int .u64 (newT 0 1000).o.tp, .string (newT 0 1000).o.d, .slice a1 n1 c1, .slice a2 n2 c2, .bool (newT 0 1000).o.fin, .bool (newT 0 1000).o.ft, .bool (newT 0 1000).o.fa, .int .u64 (newT 0 1000).cr, .int .u64 (newT 0 1000).cd, .int .u64 (newT 0 1000).wy, .bool (newT 0 1000).rs, .bool (newT 0 1000).td, .bool (newT 0 1000).gn, .int .u64 (newT 0 1000).i.rd, .slice a3 n3 c3, .int .u64 (newT 0 1000).i.fin, .bool (newT 0 1000).i.kn, .int .u64 (newT 0 1000).wn, .int .u64 (newT 0 1000).lm, .bool (newT 0 1000).rz, .bool (newT 0 1000).bk, .bool (newT 0 1000).sp, .int .u64 (newT 0 1000).sc, .bool (newT 0 1000).st], .agg #[.int .u64 8, .int .u64 4, .int .u64 0, .int .u64 0, .int .u64 0, .int .u64 0, .int .u64 0, .int .u64 0, .bool false, .string X, .string ⟨#[]⟩, .string ⟨#[]⟩, .slice none 0 0]] W fun e w' => DataQ W ⟨#[]⟩ (newT 0 1000) (strF 4 ⟨0, X, false, true⟩) ((brS1 (X.size : Int) false), (X.size : Int), 0) e w') := Lib.hid (fun a1 n1 c1 a2 n2 c2 a3 n3 c3 W hr => by
      have h := data16_any (newT 0 1000) ⟨#[]⟩ a1 n1 c1 a2 n2 c2 a3 n3 c3 (strF 4 ⟨0, X, false, true⟩) (X.size : Int) W Gt.gsG_zero (by decide) (by decide) (Int.le_refl 0) (by show (0 : Int) + ((X.data.toList.length : Nat) : Int) = _; rw [Array.length_toList, Int.zero_add]; rfl) (by omega) (by have := rd_len hr.ra; have e : (newT 0 1000).o.ak.length = 0 := rfl; omega) (by have := rd_len hr.rt; have e : (newT 0 1000).o.td.length = 0 := rfl; omega) (by have h1 := rowg_len hr.rx; have hl := (show (newT 0 1000).i.l.length = 0 from rfl); rw [h1] at hl; omega) hr
      rw [show ((strF 4 ⟨0, X, false, true⟩) : Fm.Frm).off = 0 from rfl, show ((strF 4 ⟨0, X, false, true⟩) : Fm.Frm).fin = false from rfl, br_data hn0 (by omega) false] at h
      exact h)
  have CR1 : Hid (∀ T' (hg : Gt.GsG T' (brS1 (X.size : Int) false).i) (hx : T'.extract 0 K.toNat = X.extract 0 K.toNat) a1 n1 c1 a2 n2 c2 a3 n3 c3 W, TR W (.slice a1 n1 c1) (.slice a2 n2 c2) (.slice a3 n3 c3) T' (brS1 (X.size : Int) false) → Calls Tryz.prog 26 #[.agg #[.int .u64 (brS1 (X.size : Int) false).o.ba, .int .u64 (brS1 (X.size : Int) false).o.tp, .string (brS1 (X.size : Int) false).o.d, .slice a1 n1 c1, .slice a2 n2 c2, .bool (brS1 (X.size : Int) false).o.fin, .bool (brS1 (X.size : Int) false).o.ft, .bool (brS1 (X.size : Int) false).o.fa, .int .u64 (brS1 (X.size : Int) false).cr, .int .u64 (brS1 (X.size : Int) false).cd, .int .u64 (brS1 (X.size : Int) false).wy, .bool (brS1 (X.size : Int) false).rs, .bool (brS1 (X.size : Int) false).td, .bool (brS1 (X.size : Int) false).gn, .int .u64 (brS1 (X.size : Int) false).i.rd, .slice a3 n3 c3, .int .u64 (brS1 (X.size : Int) false).i.fin, .bool (brS1 (X.size : Int) false).i.kn, .int .u64 (brS1 (X.size : Int) false).wn, .int .u64 (brS1 (X.size : Int) false).lm, .bool (brS1 (X.size : Int) false).rz, .bool (brS1 (X.size : Int) false).bk, .bool (brS1 (X.size : Int) false).sp, .int .u64 (brS1 (X.size : Int) false).sc, .bool (brS1 (X.size : Int) false).st], .int .i64 K] W (GvR W.heap.size W T' (brS2 (X.size : Int) K false) (X.extract 0 K.toNat) ((brS1 (X.size : Int) false).i.kn && decide ((brS1 (X.size : Int) false).i.fin = (brS1 (X.size : Int) false).i.rd + K)) 0)) := Lib.hid (fun T' hg hx a1 n1 c1 a2 n2 c2 a3 n3 c3 W hr => by
      have h := read16_any (brS1 (X.size : Int) false) T' a1 n1 c1 a2 n2 c2 a3 n3 c3 K W hg (by have := fr0_len (X.size : Int); show (fr0 _).length ≤ 900; omega) (by show Gt.hiS ⟨0, fr0 (X.size : Int), if false = true then (X.size : Int) else 0, false⟩ ≤ 1000; rw [fr0_hi hn0]; omega) (by show (1000 : Int) < _; decide) (by show (0 : Int) ≤ 1000; decide) (by show (1000 : Int) < _; decide) (by have := rd_len hr.ra; have e : (brS1 (X.size : Int) false).o.ak.length = 0 := rfl; omega) (by have := rd_len hr.rt; have e : (brS1 (X.size : Int) false).o.td.length = 0 := rfl; omega) (by have h1 := rowg_len hr.rx; have hl := (show (brS1 (X.size : Int) false).i.l.length ≤ 1 from fr0_len (X.size : Int)); rw [h1] at hl; omega) hr
      rw [br_tk hK0 hK1 false, br_read hK0 hK1 (by omega) false, show (brS1 (X.size : Int) false).bk = false from rfl] at h
      simp only [Bool.false_eq_true, if_false] at h
      rw [show (brS1 (X.size : Int) false).i.rd = 0 from rfl, Int.zero_add, show (0 : Int).toNat = 0 from rfl, hx] at h
      rw [show (brS1 (X.size : Int) false).i.rd = 0 from rfl, Int.zero_add]
      exact h)
  have CB : Hid (∀ T' (hg : Gt.GsG T' (brS1 (X.size : Int) false).i) a1 n1 c1 a2 n2 c2 a3 n3 c3 W, TR W (.slice a1 n1 c1) (.slice a2 n2 c2) (.slice a3 n3 c3) T' (brS2 (X.size : Int) K false) → Calls Tryz.prog 16 #[.agg #[.int .u64 (brS2 (X.size : Int) K false).o.ba, .int .u64 (brS2 (X.size : Int) K false).o.tp, .string (brS2 (X.size : Int) K false).o.d, .slice a1 n1 c1, .slice a2 n2 c2, .bool (brS2 (X.size : Int) K false).o.fin, .bool (brS2 (X.size : Int) K false).o.ft, .bool (brS2 (X.size : Int) K false).o.fa, .int .u64 (brS2 (X.size : Int) K false).cr, .int .u64 (brS2 (X.size : Int) K false).cd, .int .u64 (brS2 (X.size : Int) K false).wy, .bool (brS2 (X.size : Int) K false).rs, .bool (brS2 (X.size : Int) K false).td, .bool (brS2 (X.size : Int) K false).gn, .int .u64 (brS2 (X.size : Int) K false).i.rd, .slice a3 n3 c3, .int .u64 (brS2 (X.size : Int) K false).i.fin, .bool (brS2 (X.size : Int) K false).i.kn, .int .u64 (brS2 (X.size : Int) K false).wn, .int .u64 (brS2 (X.size : Int) K false).lm, .bool (brS2 (X.size : Int) K false).rz, .bool (brS2 (X.size : Int) K false).bk, .bool (brS2 (X.size : Int) K false).sp, .int .u64 (brS2 (X.size : Int) K false).sc, .bool (brS2 (X.size : Int) K false).st], .agg #[.int .u64 4, .int .u64 4, .int .u64 0, .int .u64 M, .int .u64 9, .int .u64 0, .int .u64 0, .int .u64 0, .bool false, .string ⟨#[]⟩, .string ⟨#[]⟩, .string ⟨#[]⟩, .slice none 0 0]] W fun e w' => BreakQ W T' (brS2 (X.size : Int) K false) ((brS3 (X.size : Int) K M), more, 0) e w') := Lib.hid (fun T' hg a1 n1 c1 a2 n2 c2 a3 n3 c3 W hr => by
      have h := break16_any (brS2 (X.size : Int) K false) T' a1 n1 c1 a2 n2 c2 a3 n3 c3 (frK 4 4 0 M 9 none0 false) W (br_g1 hn0 hg hK0 hK1) (by have := br_len (X.size : Int) K false; omega) (by show (1000 : Int) < _; decide) (by show 0 ≤ M; omega) (by have := rd_len hr.ra; have e : (brS2 (X.size : Int) K false).o.ak.length = 0 := rfl; omega) (by have := rd_len hr.rt; have e : (brS2 (X.size : Int) K false).o.td.length = 0 := rfl; omega) (by have h1 := rowg_len hr.rx; have hl := br_len (X.size : Int) K false; rw [h1] at hl; omega) hr
      rw [show (frK 4 4 0 M 9 none0 false).max = M from rfl, show (frK 4 4 0 M 9 none0 false).code = 9 from rfl, br_off hg hK0 hK1 (by omega) (by omega), show M - (X.size : Int) = more from by omega] at h
      exact h)
  have HT := Lib.hid ht
  have HXB : Hid (∀ (T : ByteArray) (hd : ∀ r : Ran, 0 ≤ r.1 → r.1 ≤ r.2 → r.2 < 0 + (X.size : Int) → X.extract (r.1 - 0).toNat (r.2 - 0 + 1).toNat = Gt.bt T r), T.extract 0 K.toNat = X.extract 0 K.toNat) := Lib.hid (fun T hd => br_text hK0 hK1 hd)
  have hmm : M - (X.size : Int) = more := by omega
  have CR2 : Hid (∀ T' (hg : Gt.GsG T' (brS1 (X.size : Int) false).i) T2 (hg2 : Gt.GsG T2 (brS3 (X.size : Int) K M).i) a1 n1 c1 a2 n2 c2 a3 n3 c3 W, TR W (.slice a1 n1 c1) (.slice a2 n2 c2) (.slice a3 n3 c3) T2 (brS3 (X.size : Int) K M) → Calls Tryz.prog 26 #[.agg #[.int .u64 (brS3 (X.size : Int) K M).o.ba, .int .u64 (brS3 (X.size : Int) K M).o.tp, .string (brS3 (X.size : Int) K M).o.d, .slice a1 n1 c1, .slice a2 n2 c2, .bool (brS3 (X.size : Int) K M).o.fin, .bool (brS3 (X.size : Int) K M).o.ft, .bool (brS3 (X.size : Int) K M).o.fa, .int .u64 (brS3 (X.size : Int) K M).cr, .int .u64 (brS3 (X.size : Int) K M).cd, .int .u64 (brS3 (X.size : Int) K M).wy, .bool (brS3 (X.size : Int) K M).rs, .bool (brS3 (X.size : Int) K M).td, .bool (brS3 (X.size : Int) K M).gn, .int .u64 (brS3 (X.size : Int) K M).i.rd, .slice a3 n3 c3, .int .u64 (brS3 (X.size : Int) K M).i.fin, .bool (brS3 (X.size : Int) K M).i.kn, .int .u64 (brS3 (X.size : Int) K M).wn, .int .u64 (brS3 (X.size : Int) K M).lm, .bool (brS3 (X.size : Int) K M).rz, .bool (brS3 (X.size : Int) K M).bk, .bool (brS3 (X.size : Int) K M).sp, .int .u64 (brS3 (X.size : Int) K M).sc, .bool (brS3 (X.size : Int) K M).st], .int .i64 5] W (fun e w' => GvR W.heap.size W T2 (readT (brS3 (X.size : Int) K M) 5) ⟨#[]⟩ true 160 e w')) := Lib.hid (fun T' hg T2 hg2 a1 n1 c1 a2 n2 c2 a3 n3 c3 W hr => by
      have h := read16_any (brS3 (X.size : Int) K M) T2 a1 n1 c1 a2 n2 c2 a3 n3 c3 5 W hg2 (by show 0 ≤ 900; decide) (by rw [br3_hi hg hK0 hK1 (by omega) (by omega)]; show M ≤ 1000; omega) (by show (1000 : Int) < _; decide) (by show (0 : Int) ≤ 1000; decide) (by show (1000 : Int) < _; decide) (by have := rd_len hr.ra; have e : (brS3 (X.size : Int) K M).o.ak.length = 0 := rfl; omega) (by have := rd_len hr.rt; have e : (brS3 (X.size : Int) K M).o.td.length = 0 := rfl; omega) (by have h1 := rowg_len hr.rx; have hl := (show (brS3 (X.size : Int) K M).i.l.length = 0 from rfl); rw [h1] at hl; omega) hr
      rw [show (brS3 (X.size : Int) K M).bk = true from rfl] at h
      simp only [Bool.false_eq_true, if_false, if_true] at h
      exact h)
  have d1 : ¬ (200 : Int) < (X.size : Int) := by omega
  have hKN : ((K.toNat : Nat) : Int) = K := by omega
  have hKs : K.toNat ≤ X.size := by omega
  have HMM := Lib.hid hM
  clear ht hn0 ha hb2 hX
  go_enter Tryz.func7, Tryz.ntmps7
  go_wp2_with fail
  refine (CS.out _ HT.out).mono ?_
  rintro e w0 ⟨rfl, hb⟩
  have HB0 := Lib.hid hb
  clear hb CS
  go_wp2_with fail
  refine (CNW.out _).mono ?_
  rintro e w1 ⟨b1, b4, b7, b2, b5, b8, b3, b6, b9, rfl, hn⟩
  have HN := Lib.hid hn
  clear hn CNW
  have HL := Lib.hid (LT.new HB0.out HN.out)
  go_upto_region 4 with (refine st35 rfl (zb_made w1) rfl rfl rfl (by rfl) ?_)
  obtain ⟨g, hg⟩ : ∃ x, w1.heap.size = x := ⟨_, rfl⟩
  rw [hg] at HL ⊢
  generalize (w1.alloc (.cells #[.int .u64 0, .int .u64 0, .string ⟨#[]⟩, .slice none 0 0, .slice none 0 0, .bool false, .bool false, .bool false, .int .u64 0, .int .u64 0, .int .u64 0, .bool false, .bool false, .bool false, .int .u64 0, .slice none 0 0, .int .u64 0, .bool false, .int .u64 0, .int .u64 0, .bool false, .bool false, .bool false, .int .u64 0, .bool false] 35)).setRow g _ = W1 at HL ⊢
  clear hg HN
  go_wp2_with (refine ld35 rfl HL.out.q rfl (by rfl) ?_)
  refine (CD1.out _ _ _ _ _ _ _ _ _ _ HL.out.r).mono ?_
  rintro e wa ⟨T', ⟨e1, e4, e7, e2, e5, e8, e3, e6, e9, rfl, hn⟩, hg, _, hd⟩
  have HN := Lib.hid hn
  have HGT : Hid (Gt.GsG T' (brS1 (X.size : Int) false).i) := Lib.hid hg
  have HX : Hid (T'.extract 0 K.toNat = X.extract 0 K.toNat) := Lib.hid (HXB.out T' (fun r h1 h2 h3 => hd rfl rfl r h1 h2 (by show r.2 < 0 + ((X.data.toList.length : Nat) : Int); rw [Array.length_toList]; exact h3) (fun k hk => ⟨by have := hk.1; show (0 : Int) ≤ k; omega, fun hm => absurd hm (mem_nil k)⟩)))
  have CR1T := Lib.hid (CR1.out T' HGT.out HX.out)
  have CBT := Lib.hid (CB.out T' HGT.out)
  clear hn hg hd HXB CR1 CB HX
  have HLa := Lib.hid (HL.out.next HN.out)
  have H35 := Lib.hid (HL.out.q.go HN.out.bl)
  go_upto_region 6 with (refine st35 rfl H35.out rfl rfl rfl (by rfl) ?_)
  generalize World.setRow _ _ _ = Wa at HLa ⊢
  clear H35 HN HL CD1
  go_wp2_with (refine ld35 rfl HLa.out.q rfl (by rfl) ?_)
  refine (CR1T.out _ _ _ _ _ _ _ _ _ _ HLa.out.r).mono ?_
  rintro e wb ⟨f1, f4, f7, f2, f5, f8, f3, f6, f9, rfl, hn⟩
  have HN := Lib.hid hn
  clear hn
  have HLb := Lib.hid (HLa.out.next HN.out)
  have H35 := Lib.hid (HLa.out.q.go HN.out.bl)
  go_upto_region 7 with (refine st35 rfl H35.out rfl rfl rfl (by rfl) ?_)
  generalize World.setRow _ _ _ = Wb at HLb ⊢
  clear H35 HN HLa CR1T
  go_wp2_with (refine ld35 rfl HLb.out.q rfl (by rfl) ?_)
  refine (CBT.out _ _ _ _ _ _ _ _ _ _ HLb.out.r).mono ?_
  rintro e wc ⟨T2, ⟨h1, h4, h7, h2, h5, h8, h3, h6, h9, rfl, hn⟩, hg2, _⟩
  have HN := Lib.hid hn
  have HG2 : Hid (Gt.GsG T2 (brS3 (X.size : Int) K M).i) := Lib.hid hg2
  clear hn hg2
  have HLc := Lib.hid (LT.new HLb.out.bl HN.out)
  go_upto_region 8 with (refine st35 rfl (zb_made wc) rfl rfl rfl (by rfl) ?_)
  generalize (wc.alloc (.cells #[.int .u64 0, .int .u64 0, .string ⟨#[]⟩, .slice none 0 0, .slice none 0 0, .bool false, .bool false, .bool false, .int .u64 0, .int .u64 0, .int .u64 0, .bool false, .bool false, .bool false, .int .u64 0, .slice none 0 0, .int .u64 0, .bool false, .int .u64 0, .int .u64 0, .bool false, .bool false, .bool false, .int .u64 0, .bool false] 35)).setRow wc.heap.size _ = Wc at HLc ⊢
  obtain ⟨q, hq⟩ : ∃ x, wc.heap.size = x := ⟨_, rfl⟩
  rw [hq] at HLc ⊢
  clear hq HN HLb CBT
  have CR2T := Lib.hid (CR2.out T' HGT.out T2 HG2.out)
  clear CR2
  go_wp2_with (refine ld35 rfl HLc.out.q rfl (by rfl) ?_)
  refine (CR2T.out _ _ _ _ _ _ _ _ _ _ HLc.out.r).mono ?_
  rintro e wd ⟨k1, k4, k7, k2, k5, k8, k3, k6, k9, rfl, hn⟩
  have HN := Lib.hid hn
  clear hn CR2T
  have HL7 := Lib.hid (HLc.out.go HN.out.bl)
  have HL8 := Lib.hid (HL7.out.go ((Below.refl wd.heap.size wd).alloc (Nat.le_refl _) (.cells #[.int .u64 0, .int .u64 0, .string ⟨#[]⟩, .slice none 0 0, .slice none 0 0, .bool false, .bool false, .bool false, .int .u64 0, .int .u64 0, .int .u64 0, .bool false, .bool false, .bool false, .int .u64 0, .slice none 0 0, .int .u64 0, .bool false, .int .u64 0, .int .u64 0, .bool false, .bool false, .bool false, .int .u64 0, .bool false] 35)))
  have HL9 := Lib.hid (HL8.out.row (k := wd.heap.size) (.inr ⟨by have := HL7.out.q.lt; omega, HL7.out.bl.size, fun hk => Nat.lt_irrefl _ (HL7.out.r.ra.blk hk), fun hk => Nat.lt_irrefl _ (HL7.out.r.rt.blk hk), fun hk => Nat.lt_irrefl _ (HL7.out.r.rx.blk hk)⟩) #[.int .u64 (readT (brS3 (X.size : Int) K M) 5).o.ba, .int .u64 (readT (brS3 (X.size : Int) K M) 5).o.tp, .string (readT (brS3 (X.size : Int) K M) 5).o.d, .slice k1 k4 k7, .slice k2 k5 k8, .bool (readT (brS3 (X.size : Int) K M) 5).o.fin, .bool (readT (brS3 (X.size : Int) K M) 5).o.ft, .bool (readT (brS3 (X.size : Int) K M) 5).o.fa, .int .u64 (readT (brS3 (X.size : Int) K M) 5).cr, .int .u64 (readT (brS3 (X.size : Int) K M) 5).cd, .int .u64 (readT (brS3 (X.size : Int) K M) 5).wy, .bool (readT (brS3 (X.size : Int) K M) 5).rs, .bool (readT (brS3 (X.size : Int) K M) 5).td, .bool (readT (brS3 (X.size : Int) K M) 5).gn, .int .u64 (readT (brS3 (X.size : Int) K M) 5).i.rd, .slice k3 k6 k9, .int .u64 (readT (brS3 (X.size : Int) K M) 5).i.fin, .bool (readT (brS3 (X.size : Int) K M) 5).i.kn, .int .u64 (readT (brS3 (X.size : Int) K M) 5).wn, .int .u64 (readT (brS3 (X.size : Int) K M) 5).lm, .bool (readT (brS3 (X.size : Int) K M) 5).rz, .bool (readT (brS3 (X.size : Int) K M) 5).bk, .bool (readT (brS3 (X.size : Int) K M) 5).sp, .int .u64 (readT (brS3 (X.size : Int) K M) 5).sc, .bool (readT (brS3 (X.size : Int) K M) 5).st])
  go_upto_region 13 with (refine st35 rfl (zb_made wd) rfl rfl rfl (by rfl) ?_)
  generalize World.setRow _ _ _ = We at HL9 ⊢
  clear HN HL7 HL8 HLc
  have hh6 : h6 = 0 := (rowg_len HL9.out.r.rx).symm
  subst hh6
  have z21 := HL9.out.q.c21
  have z10 := HL9.out.q.c10
  have z14 := HL9.out.q.c14
  have z15 := HL9.out.q.c15
  have z16 := HL9.out.q.c16
  have z17 := HL9.out.q.c17
  go_wp2_with fail
  refine (held_none _ _ _ _ _ _).mono ?_
  rintro e we ⟨rfl, hb⟩
  have HBE := Lib.hid (HL9.out.bl.trans (hb.mono HL9.out.bl.size))
  clear hb HL9
  go_wp2_with fail
  go_ret
  exact ⟨rfl, HBE.out⟩
theorem law_broken (X : ByteArray) (at_ : Int) (fi : Bool) (more : Int) (w : World) (ht : Vm.Tab w) (w0 : X.size ≤ maxLen) (w1 : (Lit.int .u8 at_).wf = true) (w2 : (Lit.int .u8 more).wf = true) :
    Calls Tryz.prog 7 #[.string X, .int .u8 at_, .bool fi, .int .u8 more] w fun e w' => e = .returned (.bool true) ∧ Below w.heap.size w w' := by
  simp only [Lit.wf, Bool.and_eq_true, decide_eq_true_eq] at w1 w2
  have h1 : at_ < 256 := by have := w1.2; simp [IntKind.max, IntKind.bits, IntKind.signed] at this; omega
  have h2 : more < 256 := by have := w2.2; simp [IntKind.max, IntKind.bits, IntKind.signed] at this; omega
  by_cases hX : (X.size : Int) ≤ 200
  · cases fi with
    | true =>
      by_cases hm : 0 < more
      · exact broken_A X at_ more w ht hX ⟨w1.1, by omega⟩ ⟨w2.1, by omega⟩ hm
      · exact broken_B X at_ more w ht hX ⟨w1.1, by omega⟩ ⟨w2.1, by omega⟩ (by have h3 : (0 : Int) ≤ more := w2.1; omega)
    | false => exact broken_C X at_ more w ht hX ⟨w1.1, by omega⟩ ⟨w2.1, by omega⟩
  · exact broken_out X at_ fi more w ht (by omega)
end Go.Proofs.YtoblmhpjendbfaaGreatDoor.Rg
