/- Layer 16: Read, Data, Break -/
import Derived.Test.YtoblmhpjendbfaaGreatDoorJb33
namespace Go.Proofs.YtoblmhpjendbfaaGreatDoor.Rg
set_option maxRecDepth 20000
open Go.RowKit Go.Shelf
set_option linter.unusedVariables false
set_option linter.unusedSimpArgs false

theorem results_ts2 {fn : Func} {p ta tb : Tmp} (h : fn.results = #[.cell p 35, .tmp ta, .tmp tb]) (tmps : Array Value) (g : Nat) (u v x : Value) (s : TS) (xa : Value) (xb : Value) (w : World) (hp : tmps.getD p undef = .pointer (some ⟨g, 0, none⟩)) (ha : tmps.getD ta undef = xa) (hb : tmps.getD tb undef = xb) (hc : TB w g u v x s) :
    (results fn tmps).run Tryz.prog w = .ok (.tuple #[.agg #[.int .u64 s.o.ba, .int .u64 s.o.tp, .string s.o.d, u, v, .bool s.o.fin, .bool s.o.ft, .bool s.o.fa, .int .u64 s.cr, .int .u64 s.cd, .int .u64 s.wy, .bool s.rs, .bool s.td, .bool s.gn, .int .u64 s.i.rd, x, .int .u64 s.i.fin, .bool s.i.kn, .int .u64 s.wn, .int .u64 s.lm, .bool s.rz, .bool s.bk, .bool s.sp, .int .u64 s.sc, .bool s.st], xa, xb]) w := by
  have hp' : tmps[p]?.getD undef = .pointer (some ⟨g, 0, none⟩) := by simpa using hp
  have ha' : tmps[ta]?.getD undef = xa := by simpa using ha
  have hb' : tmps[tb]?.getD undef = xb := by simpa using hb
  have hl := run_loadVar_row w g _ _ _ _ _ hc Tryz.underlying35 rfl infT
  simp [results, h, hp', ha', hb', asAddr, Sem.run_bind, Result.andThen, hl]
theorem results_ts3 {fn : Func} {p ta tb td : Tmp} (h : fn.results = #[.cell p 35, .tmp ta, .tmp tb, .tmp td]) (tmps : Array Value) (g : Nat) (u v x : Value) (s : TS) (xa : Value) (xb : Value) (xd : Value) (w : World) (hp : tmps.getD p undef = .pointer (some ⟨g, 0, none⟩)) (ha : tmps.getD ta undef = xa) (hb : tmps.getD tb undef = xb) (hd : tmps.getD td undef = xd) (hc : TB w g u v x s) :
    (results fn tmps).run Tryz.prog w = .ok (.tuple #[.agg #[.int .u64 s.o.ba, .int .u64 s.o.tp, .string s.o.d, u, v, .bool s.o.fin, .bool s.o.ft, .bool s.o.fa, .int .u64 s.cr, .int .u64 s.cd, .int .u64 s.wy, .bool s.rs, .bool s.td, .bool s.gn, .int .u64 s.i.rd, x, .int .u64 s.i.fin, .bool s.i.kn, .int .u64 s.wn, .int .u64 s.lm, .bool s.rz, .bool s.bk, .bool s.sp, .int .u64 s.sc, .bool s.st], xa, xb, xd]) w := by
  have hp' : tmps[p]?.getD undef = .pointer (some ⟨g, 0, none⟩) := by simpa using hp
  have ha' : tmps[ta]?.getD undef = xa := by simpa using ha
  have hb' : tmps[tb]?.getD undef = xb := by simpa using hb
  have hd' : tmps[td]?.getD undef = xd := by simpa using hd
  have hl := run_loadVar_row w g _ _ _ _ _ hc Tryz.underlying35 rfl infT
  simp [results, h, hp', ha', hb', hd', asAddr, Sem.run_bind, Result.andThen, hl]
/-- What Read gives. -/
def GvR (m : Nat) (w : World) (T : ByteArray) (s : TS) (d : ByteArray) (b : Bool) (er : Int) (e : Ending) (w' : World) : Prop := ∃ a1 n1 c1 a2 n2 c2 a3 n3 c3, e = .returned (.tuple #[.agg #[.int .u64 s.o.ba, .int .u64 s.o.tp, .string s.o.d, .slice a1 n1 c1, .slice a2 n2 c2, .bool s.o.fin, .bool s.o.ft, .bool s.o.fa, .int .u64 s.cr, .int .u64 s.cd, .int .u64 s.wy, .bool s.rs, .bool s.td, .bool s.gn, .int .u64 s.i.rd, .slice a3 n3 c3, .int .u64 s.i.fin, .bool s.i.kn, .int .u64 s.wn, .int .u64 s.lm, .bool s.rz, .bool s.bk, .bool s.sp, .int .u64 s.sc, .bool s.st], .string d, .bool b, .int .i64 er]) ∧ N3 m w w' (.slice a1 n1 c1) (.slice a2 n2 c2) (.slice a3 n3 c3) T s
/-- What Data and Break give. -/
def GvD (m : Nat) (w : World) (T : ByteArray) (s : TS) (k er : Int) (e : Ending) (w' : World) : Prop := ∃ a1 n1 c1 a2 n2 c2 a3 n3 c3, e = .returned (.tuple #[.agg #[.int .u64 s.o.ba, .int .u64 s.o.tp, .string s.o.d, .slice a1 n1 c1, .slice a2 n2 c2, .bool s.o.fin, .bool s.o.ft, .bool s.o.fa, .int .u64 s.cr, .int .u64 s.cd, .int .u64 s.wy, .bool s.rs, .bool s.td, .bool s.gn, .int .u64 s.i.rd, .slice a3 n3 c3, .int .u64 s.i.fin, .bool s.i.kn, .int .u64 s.wn, .int .u64 s.lm, .bool s.rz, .bool s.bk, .bool s.sp, .int .u64 s.sc, .bool s.st], .int .u64 k, .int .i64 er]) ∧ N3 m w w' (.slice a1 n1 c1) (.slice a2 n2 c2) (.slice a3 n3 c3) T s
theorem rowg_len {W : World} {a : Option Addr} {k d : Nat} {T : ByteArray} {l : List Ran} (h : Gt.RowG W (.slice a k d) T l) : l.length = k := by
  obtain ⟨a', c', e, _⟩ := h
  cases e; rfl
set_option maxRecDepth 100000 in
set_option maxHeartbeats 4000000 in
theorem read16_any (s : TS) (T : ByteArray) (a1 : Option Addr) (n1 c1 : Nat) (a2 : Option Addr) (n2 c2 : Nat) (a3 : Option Addr) (n3 c3 : Nat) (n : Int) (w : World) (hg : Gt.GsG T s.i) (hL : s.i.l.length ≤ 900) (hlm : Gt.hiS s.i ≤ s.lm) (h3 : s.lm < 4611686018427387904) (h4 : 0 ≤ s.wn) (h5 : s.wn < 4611686018427387904) (hl1 : n1 ≤ 1000) (hl2 : n2 ≤ 1000) (hl3 : n3 ≤ 1000) (h : TR w (.slice a1 n1 c1) (.slice a2 n2 c2) (.slice a3 n3 c3) T s) :
    Calls Tryz.prog 26 #[.agg #[.int .u64 s.o.ba, .int .u64 s.o.tp, .string s.o.d, .slice a1 n1 c1, .slice a2 n2 c2, .bool s.o.fin, .bool s.o.ft, .bool s.o.fa, .int .u64 s.cr, .int .u64 s.cd, .int .u64 s.wy, .bool s.rs, .bool s.td, .bool s.gn, .int .u64 s.i.rd, .slice a3 n3 c3, .int .u64 s.i.fin, .bool s.i.kn, .int .u64 s.wn, .int .u64 s.lm, .bool s.rz, .bool s.bk, .bool s.sp, .int .u64 s.sc, .bool s.st], .int .i64 n] w (GvR w.heap.size w T (readT s n) (if s.bk then (⟨#[]⟩ : ByteArray) else T.extract s.i.rd.toNat (s.i.rd + Gt.tk s.i n).toNat) (if s.bk then true else (s.i.kn && decide (s.i.fin = s.i.rd + Gt.tk s.i n))) (if s.bk then (160 : Int) else 0)) := by
  have CT := Lib.hid (fun (a : Option Addr) (k d : Nat) W (hr : Gt.RowG W (.slice a k d) T s.i.l) => Gt.take_any T s.i a k d n W hg.ok hg.t hL (rowg_len hr) hr)
  have htk := Gt.tk_range hg.ok n
  have hrh := Gt.rdy_hi hg.ok
  have hrd := hg.ok.r0
  obtain ⟨S2, hS2⟩ : ∃ x, { s with i := Gt.takeS s.i (Gt.tk s.i n) } = x := ⟨_, rfl⟩
  have CR := Lib.hid (fun a1 n1 c1 a2 n2 c2 a3 n3 c3 W (hr : TR W (.slice a1 n1 c1) (.slice a2 n2 c2) (.slice a3 n3 c3) T S2) fu fv fx => raise_any (m := w.heap.size + 2) S2 T a1 n1 c1 a2 n2 c2 a3 n3 c3 W (by rw [← hS2]; show s.i.rd + Gt.tk s.i n ≤ s.lm; omega) (by rw [← hS2]; show 0 ≤ s.i.rd + Gt.tk s.i n; omega) (by rw [← hS2]; exact h3) (by rw [← hS2]; exact h4) (by rw [← hS2]; exact h5) hr fu fv fx)
  clear hg hL hlm h3 h4 h5 htk hrh hrd
  obtain ⟨R, hR⟩ : ∃ R, readT s n = R := ⟨_, rfl⟩
  obtain ⟨DD, hDD⟩ : ∃ x, (if s.bk then (⟨#[]⟩ : ByteArray) else T.extract s.i.rd.toNat (s.i.rd + Gt.tk s.i n).toNat) = x := ⟨_, rfl⟩
  obtain ⟨BB, hBB⟩ : ∃ x, (if s.bk then true else (s.i.kn && decide (s.i.fin = s.i.rd + Gt.tk s.i n))) = x := ⟨_, rfl⟩
  obtain ⟨EE, hEE⟩ : ∃ x, (if s.bk then (160 : Int) else 0) = x := ⟨_, rfl⟩
  rw [hR, hDD, hBB, hEE]
  have HR := Lib.hid (And.intro hR (And.intro hDD (And.intro hBB hEE)))
  clear hR hDD hBB hEE
  have CO := Lib.hid (fun W (hr : TR W (.slice a1 n1 c1) (.slice a2 n2 c2) (.slice a3 n3 c3) T s) => own_any s T a1 n1 c1 a2 n2 c2 a3 n3 c3 W hl1 hl2 hl3 hr)
  clear hl1 hl2 hl3
  have HF0 : Hid (FT 0 w ((w.alloc (.cells #[.int .u64 s.o.ba, .int .u64 s.o.tp, .string s.o.d, .slice a1 n1 c1, .slice a2 n2 c2, .bool s.o.fin, .bool s.o.ft, .bool s.o.fa, .int .u64 s.cr, .int .u64 s.cd, .int .u64 s.wy, .bool s.rs, .bool s.td, .bool s.gn, .int .u64 s.i.rd, .slice a3 n3 c3, .int .u64 s.i.fin, .bool s.i.kn, .int .u64 s.wn, .int .u64 s.lm, .bool s.rz, .bool s.bk, .bool s.sp, .int .u64 s.sc, .bool s.st] 35)).alloc (.cells #[.int .u64 0, .int .u64 0, .string ⟨#[]⟩, .slice none 0 0, .slice none 0 0, .bool false, .bool false, .bool false, .int .u64 0, .int .u64 0, .int .u64 0, .bool false, .bool false, .bool false, .int .u64 0, .slice none 0 0, .int .u64 0, .bool false, .int .u64 0, .int .u64 0, .bool false, .bool false, .bool false, .int .u64 0, .bool false] 35)) w.heap.size (w.heap.size + 1) (.slice a1 n1 c1) (.slice a2 n2 c2) (.slice a3 n3 c3) T s) := Lib.hid (ft_made1 w a1 n1 c1 a2 n2 c2 a3 n3 c3 T s h (fun _ _ => Nat.zero_le _) (fun _ _ => Nat.zero_le _) (fun _ _ => Nat.zero_le _))
  clear h
  go_enter Tryz.func26, Tryz.ntmps26
  go_upto_region 1 with (fail)
  generalize ((w.alloc (.cells #[.int .u64 s.o.ba, .int .u64 s.o.tp, .string s.o.d, .slice a1 n1 c1, .slice a2 n2 c2, .bool s.o.fin, .bool s.o.ft, .bool s.o.fa, .int .u64 s.cr, .int .u64 s.cd, .int .u64 s.wy, .bool s.rs, .bool s.td, .bool s.gn, .int .u64 s.i.rd, .slice a3 n3 c3, .int .u64 s.i.fin, .bool s.i.kn, .int .u64 s.wn, .int .u64 s.lm, .bool s.rz, .bool s.bk, .bool s.sp, .int .u64 s.sc, .bool s.st] 35)).alloc (.cells #[.int .u64 0, .int .u64 0, .string ⟨#[]⟩, .slice none 0 0, .slice none 0 0, .bool false, .bool false, .bool false, .int .u64 0, .int .u64 0, .int .u64 0, .bool false, .bool false, .bool false, .int .u64 0, .slice none 0 0, .int .u64 0, .bool false, .int .u64 0, .int .u64 0, .bool false, .bool false, .bool false, .int .u64 0, .bool false] 35)) = W0 at HF0 ⊢
  go_wp2_with (refine ld35 rfl HF0.out.q rfl (by rfl) ?_)
  refine (CO.out _ HF0.out.r).mono ?_
  rintro e w1 ⟨b1, k1, d1, b2, k2, d2, b3, k3, d3, rfl, hn⟩
  have HN := Lib.hid hn
  clear hn
  have HF1 := Lib.hid (HF0.out.new (m' := w.heap.size) HN.out (Nat.le_refl _))
  have HFR : Hid ((∀ k, Blk (.slice b1 k1 d1) k → w.heap.size + 2 ≤ k) ∧ (∀ k, Blk (.slice b2 k2 d2) k → w.heap.size + 2 ≤ k)) := Lib.hid ⟨fun k hk => by have := HN.out.nu k hk; have := HF0.out.z.lt; omega, fun k hk => by have := HN.out.nv k hk; have := HF0.out.z.lt; omega⟩
  go_upto_region 2 with (refine st35 rfl (HF0.out.q.go HN.out.bl) rfl rfl rfl (by rfl) ?_)
  generalize World.setRow _ _ _ = W1 at HF1 ⊢
  clear HN HF0 CO
  have z21 := HF1.out.q.c21
  by_cases hk : s.bk = true
  · obtain rfl : s = R := by rw [← HR.out.1]; unfold readT; rw [if_pos hk]
    obtain rfl : (⟨#[]⟩ : ByteArray) = DD := by rw [← HR.out.2.1, if_pos hk]
    obtain rfl : true = BB := by rw [← HR.out.2.2.1, if_pos hk]
    obtain rfl : (160 : Int) = EE := by rw [← HR.out.2.2.2, if_pos hk]
    clear HR
    rw [hk] at z21
    replace hk := Lib.hid hk
    go_upto_region 3 with (fail)
    refine wp_region_lit ?_
    refine wpList_load_row rfl _ _ rfl w.heap.size rfl _ _ _ _ HF1.out.q Tryz.underlying35 rfl infT ?_
    refine wpList_store_row rfl _ _ _ rfl (w.heap.size + 1) _ rfl rfl _ _ HF1.out.z infT rfl (one_ts _ _ _ _ _ _ _ _ _ _) ?_
    have HE := Lib.hid HF1.out.end
    generalize World.setRow _ _ _ = WW at HE ⊢
    go_wp2
    exact bodyPost_ret (results_ts3 Tryz.results26 _ (w.heap.size + 1) (.slice b1 k1 d1) (.slice b2 k2 d2) (.slice b3 k3 d3) s (.string ⟨#[]⟩) (.bool true) (.int .i64 160) _ rfl rfl rfl rfl HE.out.1) rfl ⟨_, _, _, _, _, _, _, _, _, rfl, HE.out.2⟩
  · replace hk : s.bk = false := by simpa using hk
    have hRR : raiseT S2 = R := by rw [← HR.out.1, ← hS2]; unfold readT; rw [if_neg (by rw [hk]; decide)]
    have HDD := Lib.hid (show DD = T.extract s.i.rd.toNat (s.i.rd + Gt.tk s.i n).toNat by rw [← HR.out.2.1, if_neg (by rw [hk]; decide)])
    have HBB := Lib.hid (show BB = (s.i.kn && decide (s.i.fin = s.i.rd + Gt.tk s.i n)) by rw [← HR.out.2.2.1, if_neg (by rw [hk]; decide)])
    obtain rfl : (0 : Int) = EE := by rw [← HR.out.2.2.2, if_neg (by rw [hk]; decide)]
    rw [← HDD.out, ← HBB.out] at CT
    clear HR HDD HBB
    rw [hk] at z21
    replace hk := Lib.hid hk
    obtain ⟨RD, hRD⟩ : ∃ x, s.i.rd + Gt.tk s.i n = x := ⟨_, rfl⟩
    obtain ⟨TL, hTL⟩ : ∃ x, Gt.dropL s.i (Gt.tk s.i n) = x := ⟨_, rfl⟩
    have HS2 : Hid ((⟨s.o, s.cr, s.cd, s.wy, s.rs, s.td, s.gn, ⟨RD, TL, s.i.fin, s.i.kn⟩, s.wn, s.lm, s.rz, s.bk, s.sp, s.sc, s.st⟩ : TS) = S2) := Lib.hid (by rw [← hS2, ← hRD, ← hTL]; rfl)
    rw [hRD, hTL] at CT
    rw [hRR] at CR
    clear hRD hTL hRR hS2
    have z14 := HF1.out.q.c14
    have z15 := HF1.out.q.c15
    have z16 := HF1.out.q.c16
    have z17 := HF1.out.q.c17
    go_wp2_with fail
    refine (CT.out _ _ _ _ HF1.out.r.rx).mono ?_
    rintro e w2 ⟨a4, c4, rfl, hrow, hnew, hb⟩
    generalize TL.length = k4 at hrow hnew ⊢
    have HRW := Lib.hid hrow
    have HNW := Lib.hid hnew
    have HF2 := Lib.hid (HF1.out.go hb)
    clear hrow hnew hb z14 z15 z16 z17 z21
    go_upto_region 5 with (fail)
    have HA : Hid (Below w2.heap.size w2 (w2.alloc (.cells #[.int .u64 RD, .slice a4 k4 c4, .int .u64 s.i.fin, .bool s.i.kn] 33))) := Lib.hid ((Below.refl _ _).alloc (Nat.le_refl _) _)
    have HGB : Hid ((w2.alloc (.cells #[.int .u64 RD, .slice a4 k4 c4, .int .u64 s.i.fin, .bool s.i.kn] 33)).heap[w2.heap.size]? = some (.cells #[.int .u64 RD, .slice a4 k4 c4, .int .u64 s.i.fin, .bool s.i.kn] 33 (0, 0))) := Lib.hid (heap_alloc_new w2 _)
    have HF3 := Lib.hid (HF2.out.go HA.out)
    have HRW3 := Lib.hid (HRW.out.go HA.out)
    have HW2 := Lib.hid HF2.out.z.lt
    have HW1 := Lib.hid HF1.out.z.lt
    generalize w2.alloc (.cells #[.int .u64 RD, .slice a4 k4 c4, .int .u64 s.i.fin, .bool s.i.kn] 33) = W3 at HA HGB HF3 HRW3 ⊢
    have g0 : W3.cell? ⟨w2.heap.size, 0, none⟩ = _ := Lib.cell_of_heap HGB.out 0
    have g1 : W3.cell? ⟨w2.heap.size, 1, none⟩ = _ := Lib.cell_of_heap HGB.out 1
    have g2 : W3.cell? ⟨w2.heap.size, 2, none⟩ = _ := Lib.cell_of_heap HGB.out 2
    have g3 : W3.cell? ⟨w2.heap.size, 3, none⟩ = _ := Lib.cell_of_heap HGB.out 3
    have zf := HF3.out.q.fz
    have z14 := HF3.out.q.c14
    have z15 := HF3.out.q.c15
    have z16 := HF3.out.q.c16
    have z17 := HF3.out.q.c17
    have HF4 := Lib.hid (HF3.out.in4 (i := ⟨RD, TL, s.i.fin, s.i.kn⟩) HRW3.out (fun k hk => by have := HNW.out k hk; have := HW1.out; have := HF1.out.hZ; refine ⟨?_, ?_, ?_⟩ <;> omega))
    rw [HS2.out] at HF4
    go_upto_region 6 with (fail)
    generalize World.setCell _ _ _ = W4 at HF4 ⊢
    clear g0 g1 g2 g3 z14 z15 z16 z17 zf
    go_wp2_with (refine ld35 rfl HF4.out.q rfl (by rfl) ?_)
    refine (CR.out _ _ _ _ _ _ _ _ _ _ HF4.out.r (fun k hk => by have := HF4.out.fu k hk; omega) (fun k hk => by have := HF4.out.fv k hk; omega) (fun k hk => by have := HF4.out.fx k hk; omega)).mono ?_
    rintro e w5 ⟨b4, j4, d4, b5, j5, d5, b6, j6, d6, rfl, hq⟩
    have HQ := Lib.hid hq
    clear hq
    have HE := Lib.hid (back_row (m := w.heap.size) (HF4.out.z.go HQ.out.bl) (nextG HF4.out.bl HQ.out.bl) (by omega) HQ.out.r HQ.out.nu HQ.out.nv HQ.out.nx (by omega) (by omega))
    go_wp2_with (refine st35 rfl (HF4.out.z.go HQ.out.bl) rfl rfl rfl (by rfl) ?_)
    generalize World.setRow _ _ _ = WW at HE ⊢
    go_wp2
    exact bodyPost_ret (results_ts3 Tryz.results26 _ (w.heap.size + 1) (.slice b4 j4 d4) (.slice b5 j5 d5) (.slice b6 j6 d6) R (.string DD) (.bool BB) (.int .i64 0) _ rfl rfl rfl rfl HE.out.1) rfl ⟨_, _, _, _, _, _, _, _, _, rfl, HE.out.2⟩
open Gt in
/-- What Data gives. -/
def DataQ (w : World) (T : ByteArray) (s : TS) (f : Fm.Frm) (R : TS × Int × Int) (e : Ending) (w' : World) : Prop := ∃ T', GvD w.heap.size w T' R.1 R.2.1 R.2.2 e w' ∧ Gt.GsG T' R.1.i ∧ (∀ x ∈ s.i.l, bt T' x = bt T x) ∧ (R.2.2 = 0 → s.bk = false → ∀ r : Ran, f.off ≤ r.1 → r.1 ≤ r.2 → r.2 < f.off + (f.data.length : Int) → (∀ k, inn r k → s.i.rd ≤ k ∧ ¬ mem s.i.l k) → (⟨f.data.toArray⟩ : ByteArray).extract (r.1 - f.off).toNat (r.2 - f.off + 1).toNat = bt T' r)
set_option maxRecDepth 100000 in
open Gt in
set_option maxHeartbeats 4000000 in
theorem data16_any (s : TS) (T : ByteArray) (a1 : Option Addr) (n1 c1 : Nat) (a2 : Option Addr) (n2 c2 : Nat) (a3 : Option Addr) (n3 c3 : Nat) (f : Fm.Frm) (E : Int) (w : World) (hg : Gt.GsG T s.i) (hL : s.i.l.length ≤ 250) (h3 : s.lm < 4611686018427387904) (h0 : 0 ≤ f.off) (hE : f.off + (f.data.length : Int) = E) (hE2 : E < 9223372036854775808) (hl1 : n1 ≤ 1000) (hl2 : n2 ≤ 1000) (hl3 : n3 ≤ 1000) (h : TR w (.slice a1 n1 c1) (.slice a2 n2 c2) (.slice a3 n3 c3) T s) :
    Calls Tryz.prog 14 #[.agg #[.int .u64 s.o.ba, .int .u64 s.o.tp, .string s.o.d, .slice a1 n1 c1, .slice a2 n2 c2, .bool s.o.fin, .bool s.o.ft, .bool s.o.fa, .int .u64 s.cr, .int .u64 s.cd, .int .u64 s.wy, .bool s.rs, .bool s.td, .bool s.gn, .int .u64 s.i.rd, .slice a3 n3 c3, .int .u64 s.i.fin, .bool s.i.kn, .int .u64 s.wn, .int .u64 s.lm, .bool s.rz, .bool s.bk, .bool s.sp, .int .u64 s.sc, .bool s.st], .agg #[.int .u64 f.kind, .int .u64 f.id, .int .u64 f.off, .int .u64 f.max, .int .u64 f.code, .int .u64 f.seq, .int .u64 f.prior, .int .u64 f.delay, .bool f.fin, .string ⟨f.data.toArray⟩, .string ⟨f.cid.toArray⟩, .string ⟨f.token.toArray⟩, .slice f.set.a f.set.n f.set.c]] w fun e w' => DataQ w T s f (dataT s f.off E f.fin) e w' := by
  have hds : (⟨f.data.toArray⟩ : ByteArray).size = f.data.length := by simp [ByteArray.size]
  have v0 : IntKind.u64.wrap ((f.data.length : Nat) : Int) = (f.data.length : Int) := IntWalk.u64_in _ (by omega)
  have v1 : IntKind.u64.wrap (f.off + (f.data.length : Int)) = E := by rw [hE]; exact IntWalk.u64_in _ (by omega)
  obtain ⟨PI, hPI⟩ : ∃ x, Gt.putS s.i f.off E f.fin = x := ⟨_, rfl⟩
  obtain ⟨S2, hS2⟩ : ∃ x, { s with i := PI } = x := ⟨_, rfl⟩
  obtain ⟨KK, hKK⟩ : ∃ x, Gt.hiS PI - Gt.hiS s.i = x := ⟨_, rfl⟩
  have CP0 := Lib.hid (fun (hE3 : E ≤ s.lm) (a : Option Addr) (k d : Nat) W (hr : Gt.RowG W (.slice a k d) T s.i.l) => Gt.put_gen T s.i a k d f.off (⟨f.data.toArray⟩ : ByteArray) f.fin E W hg hL (rowg_len hr) hr h0 (by rw [hds]; exact hE) (by omega))
  rw [hPI] at CP0
  rw [hds] at CP0
  have CF := Lib.hid (fun (hR0 : Gt.rfS s.i f.fin E = 0) (hE3 : E ≤ s.lm) T' (hg' : Gt.GsG T' PI) a1 n1 c1 a2 n2 c2 a3 n3 c3 a4 k4 c4 W h4 h3 => further_any s T a1 n1 c1 a2 n2 c2 a3 n3 c3 T' PI a4 k4 c4 W hg (by omega) hg' (by rw [← hPI]; have := Gt.put_len s.i f.off E f.fin; omega) (by rw [← hPI] at hg' ⊢; exact (Gt.hi_put hg hR0 h0 (by omega) hg').1) h4 h3)
  rw [hKK] at CF
  obtain ⟨R, hR⟩ : ∃ R, dataT s f.off E f.fin = R := ⟨_, rfl⟩
  rw [hR]
  have HR := Lib.hid (And.intro hR (And.intro hPI (And.intro hS2 hKK)))
  have HRF := Lib.hid (Gt.rfS_two s.i f.fin E)
  have HGS := Lib.hid hg
  clear hR hPI hS2 hKK hg hL h3 h0 hE hE2 hds
  have CO := Lib.hid (fun W (hr : TR W (.slice a1 n1 c1) (.slice a2 n2 c2) (.slice a3 n3 c3) T s) => own_any s T a1 n1 c1 a2 n2 c2 a3 n3 c3 W hl1 hl2 hl3 hr)
  clear hl1 hl2 hl3
  have HG0 := Lib.hid (ft_made2 (m := 0) w a1 n1 c1 a2 n2 c2 a3 n3 c3 T s f h (fun _ _ => Nat.zero_le _) (fun _ _ => Nat.zero_le _) (fun _ _ => Nat.zero_le _)).2
  have HF0 : Hid (FT 0 w (((w.alloc (.cells #[.int .u64 s.o.ba, .int .u64 s.o.tp, .string s.o.d, .slice a1 n1 c1, .slice a2 n2 c2, .bool s.o.fin, .bool s.o.ft, .bool s.o.fa, .int .u64 s.cr, .int .u64 s.cd, .int .u64 s.wy, .bool s.rs, .bool s.td, .bool s.gn, .int .u64 s.i.rd, .slice a3 n3 c3, .int .u64 s.i.fin, .bool s.i.kn, .int .u64 s.wn, .int .u64 s.lm, .bool s.rz, .bool s.bk, .bool s.sp, .int .u64 s.sc, .bool s.st] 35)).alloc (.cells #[.int .u64 f.kind, .int .u64 f.id, .int .u64 f.off, .int .u64 f.max, .int .u64 f.code, .int .u64 f.seq, .int .u64 f.prior, .int .u64 f.delay, .bool f.fin, .string ⟨f.data.toArray⟩, .string ⟨f.cid.toArray⟩, .string ⟨f.token.toArray⟩, .slice f.set.a f.set.n f.set.c] 48)).alloc (.cells #[.int .u64 0, .int .u64 0, .string ⟨#[]⟩, .slice none 0 0, .slice none 0 0, .bool false, .bool false, .bool false, .int .u64 0, .int .u64 0, .int .u64 0, .bool false, .bool false, .bool false, .int .u64 0, .slice none 0 0, .int .u64 0, .bool false, .int .u64 0, .int .u64 0, .bool false, .bool false, .bool false, .int .u64 0, .bool false] 35)) w.heap.size (w.heap.size + 2) (.slice a1 n1 c1) (.slice a2 n2 c2) (.slice a3 n3 c3) T s) := Lib.hid (ft_made2 w a1 n1 c1 a2 n2 c2 a3 n3 c3 T s f h (fun _ _ => Nat.zero_le _) (fun _ _ => Nat.zero_le _) (fun _ _ => Nat.zero_le _)).1
  clear h
  go_enter Tryz.func14, Tryz.ntmps14
  go_upto_region 1 with (fail)
  generalize (((w.alloc (.cells #[.int .u64 s.o.ba, .int .u64 s.o.tp, .string s.o.d, .slice a1 n1 c1, .slice a2 n2 c2, .bool s.o.fin, .bool s.o.ft, .bool s.o.fa, .int .u64 s.cr, .int .u64 s.cd, .int .u64 s.wy, .bool s.rs, .bool s.td, .bool s.gn, .int .u64 s.i.rd, .slice a3 n3 c3, .int .u64 s.i.fin, .bool s.i.kn, .int .u64 s.wn, .int .u64 s.lm, .bool s.rz, .bool s.bk, .bool s.sp, .int .u64 s.sc, .bool s.st] 35)).alloc (.cells #[.int .u64 f.kind, .int .u64 f.id, .int .u64 f.off, .int .u64 f.max, .int .u64 f.code, .int .u64 f.seq, .int .u64 f.prior, .int .u64 f.delay, .bool f.fin, .string ⟨f.data.toArray⟩, .string ⟨f.cid.toArray⟩, .string ⟨f.token.toArray⟩, .slice f.set.a f.set.n f.set.c] 48)).alloc (.cells #[.int .u64 0, .int .u64 0, .string ⟨#[]⟩, .slice none 0 0, .slice none 0 0, .bool false, .bool false, .bool false, .int .u64 0, .int .u64 0, .int .u64 0, .bool false, .bool false, .bool false, .int .u64 0, .slice none 0 0, .int .u64 0, .bool false, .int .u64 0, .int .u64 0, .bool false, .bool false, .bool false, .int .u64 0, .bool false] 35)) = W0 at HF0 HG0 ⊢
  go_wp2_with (refine ld35 rfl HF0.out.q rfl (by rfl) ?_)
  refine (CO.out _ HF0.out.r).mono ?_
  rintro e w1 ⟨b1, k1, d1, b2, k2, d2, b3, k3, d3, rfl, hn⟩
  have HN := Lib.hid hn
  clear hn
  have HF1 := Lib.hid (HF0.out.new (m' := w.heap.size) HN.out (Nat.le_refl _))
  have HG1 : Hid (FB (w1.setRow w.heap.size #[.int .u64 s.o.ba, .int .u64 s.o.tp, .string s.o.d, .slice b1 k1 d1, .slice b2 k2 d2, .bool s.o.fin, .bool s.o.ft, .bool s.o.fa, .int .u64 s.cr, .int .u64 s.cd, .int .u64 s.wy, .bool s.rs, .bool s.td, .bool s.gn, .int .u64 s.i.rd, .slice b3 k3 d3, .int .u64 s.i.fin, .bool s.i.kn, .int .u64 s.wn, .int .u64 s.lm, .bool s.rz, .bool s.bk, .bool s.sp, .int .u64 s.sc, .bool s.st]) (w.heap.size + 1) f) := Lib.hid ((setRow_other _ _ _ _ (by omega)).trans (HG0.out.go HN.out.bl))
  have HFR : Hid ((∀ k, Blk (.slice b1 k1 d1) k → w.heap.size + 3 ≤ k) ∧ (∀ k, Blk (.slice b2 k2 d2) k → w.heap.size + 3 ≤ k)) := Lib.hid ⟨fun k hk => by have := HN.out.nu k hk; have := HF0.out.z.lt; omega, fun k hk => by have := HN.out.nv k hk; have := HF0.out.z.lt; omega⟩
  go_upto_region 2 with (refine st35 rfl (HF0.out.q.go HN.out.bl) rfl rfl rfl (by rfl) ?_)
  generalize World.setRow _ _ _ = W1 at HF1 HG1 ⊢
  clear HN HF0 CO HG0
  have z19 := HF1.out.q.c19
  have g2 := HG1.out.c2
  have g8 := HG1.out.c8
  have g9 := HG1.out.c9
  by_cases hc : s.lm < E
  · obtain rfl : (s, (0 : Int), (170 : Int)) = R := by rw [← HR.out.1]; unfold dataT; rw [if_pos hc]
    have e1 : decide (s.lm < E) = true := decide_eq_true hc
    clear HR CP0 CF
    replace hc := Lib.hid hc
    have HE := Lib.hid HF1.out.end
    go_wp2_with (first | refine ld35 rfl HF1.out.q rfl (by rfl) ?_ | refine st35 rfl HF1.out.z rfl rfl rfl (by rfl) ?_)
    generalize World.setRow _ _ _ = WW at HE ⊢
    exact bodyPost_ret (results_ts2 Tryz.results14 _ (w.heap.size + 2) (.slice b1 k1 d1) (.slice b2 k2 d2) (.slice b3 k3 d3) s (.int .u64 0) (.int .i64 170) _ rfl rfl rfl HE.out.1) rfl ⟨T, ⟨_, _, _, _, _, _, _, _, _, rfl, HE.out.2⟩, HGS.out, fun _ _ => rfl, fun hq => absurd (show (170 : Int) = 0 from hq) (by decide)⟩
  · have e1 : decide (s.lm < E) = false := decide_eq_false hc
    have CP := Lib.hid (CP0.out (by omega))
    have CF2 := Lib.hid (fun hR0 => CF.out hR0 (by omega))
    have HC := Lib.hid hc
    clear CP0 CF hc
    have z14 := HF1.out.q.c14
    have z15 := HF1.out.q.c15
    have z16 := HF1.out.q.c16
    have z17 := HF1.out.q.c17
    rcases HRF.out with hrf | hrf
    · have z21 := HF1.out.q.c21
      rw [hrf] at CP
      have CF := Lib.hid (CF2.out hrf)
      have HRF0 := Lib.hid hrf
      clear hrf CF2
      go_wp2_with fail
      refine (CP.out _ _ _ _ HF1.out.r.rx).mono ?_
      rintro e w2 ⟨a4, c4, T', rfl, hgT, hbs, hbn, hrow, hnew, hb⟩
      obtain ⟨k4, hk4⟩ : ∃ k, PI.l.length = k := ⟨_, rfl⟩
      rw [hk4] at hrow hnew ⊢
      have HGT := Lib.hid (And.intro hgT (And.intro hbs hbn))
      have HRW := Lib.hid hrow
      have HNW := Lib.hid hnew
      have HF2 := Lib.hid (HF1.out.go hb)
      have HG2 := Lib.hid (HG1.out.go hb)
      clear hrow hnew hb hgT hbs hbn hk4 z14 z15 z16 z17
      go_upto_region 5 with (fail)
      have HA : Hid (Below w2.heap.size w2 (w2.alloc (.cells #[.int .u64 PI.rd, .slice a4 k4 c4, .int .u64 PI.fin, .bool PI.kn] 33))) := Lib.hid ((Below.refl _ _).alloc (Nat.le_refl _) _)
      have HGB : Hid (Gt.Gb (w2.alloc (.cells #[.int .u64 PI.rd, .slice a4 k4 c4, .int .u64 PI.fin, .bool PI.kn] 33)) w2.heap.size 33 PI (.slice a4 k4 c4)) := Lib.hid (Gt.gb_made w2 33 PI (.slice a4 k4 c4))
      have HF3 := Lib.hid (HF2.out.go HA.out)
      have HG3 := Lib.hid (HG2.out.go HA.out)
      have HRW3 := Lib.hid (HRW.out.go HA.out)
      have HW1 := Lib.hid HF1.out.z.lt
      generalize w2.alloc (.cells #[.int .u64 PI.rd, .slice a4 k4 c4, .int .u64 PI.fin, .bool PI.kn] 33) = W3 at HA HGB HF3 HG3 HRW3 ⊢
      clear HF2 HG2 HRW
      clear z21
      have z21 := HF3.out.q.c21
      by_cases hk : s.bk = true
      · obtain rfl : (s, (0 : Int), (0 : Int)) = R := by rw [← HR.out.1]; unfold dataT; rw [if_neg (by have := HC.out; omega), if_pos HRF0.out, if_pos hk]
        clear HR
        have HK := Lib.hid hk
        rw [hk] at z21
        clear hk
        have HE := Lib.hid HF3.out.end
        go_wp2_with (first | refine ld35 rfl HF3.out.q rfl (by rfl) ?_ | refine st35 rfl HF3.out.z rfl rfl rfl (by rfl) ?_)
        generalize World.setRow _ _ _ = WW at HE ⊢
        exact bodyPost_ret (results_ts2 Tryz.results14 _ (w.heap.size + 2) (.slice b1 k1 d1) (.slice b2 k2 d2) (.slice b3 k3 d3) s (.int .u64 0) (.int .i64 0) _ rfl rfl rfl HE.out.1) rfl ⟨T, ⟨_, _, _, _, _, _, _, _, _, rfl, HE.out.2⟩, HGS.out, fun _ _ => rfl, fun _ hq => absurd (hq.symm.trans HK.out) (by decide)⟩
      · replace hk : s.bk = false := by simpa using hk
        obtain rfl : (S2, KK, (0 : Int)) = R := by rw [← HR.out.1]; unfold dataT; rw [if_neg (by have := HC.out; omega), if_pos HRF0.out, if_neg (by rw [hk]; decide), HR.out.2.1, HR.out.2.2.1, HR.out.2.2.2]
        have HS2 := Lib.hid HR.out.2.2.1
        have HGI : Hid (PI = S2.i) := Lib.hid (by rw [← HS2.out])
        clear HR
        rw [hk] at z21
        replace hk := Lib.hid hk
        have g0 := HGB.out.c0
        have g1 := HGB.out.c1
        have gg2 := HGB.out.c2
        have g3 := HGB.out.c3
        go_wp2_with (refine ld35 rfl HF3.out.q rfl (by rfl) ?_)
        refine (CF.out T' HGT.out.1 _ _ _ _ _ _ _ _ _ _ _ _ _ HRW3.out HF3.out.r.rx).mono ?_
        rintro e w4 ⟨rfl, hb⟩
        have HF4 := Lib.hid (HF3.out.go hb)
        have HGB4 := Lib.hid (HGB.out.go hb)
        have HRW4 := Lib.hid (HRW3.out.go hb)
        clear hb g0 g1 gg2 g3 z21
        go_upto_region 8 with (fail)
        have z14 := HF4.out.q.c14
        have z15 := HF4.out.q.c15
        have z16 := HF4.out.q.c16
        have z17 := HF4.out.q.c17
        have g0 := HGB4.out.c0
        have g1 := HGB4.out.c1
        have gg2 := HGB4.out.c2
        have g3 := HGB4.out.c3
        have zf := HF4.out.q.fz
        have HF5 := Lib.hid (HF4.out.in4 (i := PI) HRW4.out (fun k hk => by have := HNW.out k hk; have := HW1.out; have := HF1.out.hZ; refine ⟨?_, ?_, ?_⟩ <;> omega))
        rw [HS2.out] at HF5
        go_upto_region 9 with (fail)
        generalize World.setCell _ _ _ = W5 at HF5 ⊢
        have HE := Lib.hid HF5.out.end
        go_wp2_with (first | refine ld35 rfl HF5.out.q rfl (by rfl) ?_ | refine st35 rfl HF5.out.z rfl rfl rfl (by rfl) ?_)
        generalize World.setRow _ _ _ = WW at HE ⊢
        exact bodyPost_ret (results_ts2 Tryz.results14 _ (w.heap.size + 2) (.slice b1 k1 d1) (.slice b2 k2 d2) (.slice a4 k4 c4) S2 (.int .u64 KK) (.int .i64 0) _ rfl rfl rfl HE.out.1) rfl ⟨T', ⟨_, _, _, _, _, _, _, _, _, rfl, HE.out.2⟩, HGI.out ▸ HGT.out.1, HGT.out.2.1, fun _ _ => HGT.out.2.2 (by first | exact rfl | trivial)⟩
    · rw [hrf] at CP
      obtain rfl : (s, (0 : Int), (140 : Int)) = R := by rw [← HR.out.1]; unfold dataT; rw [if_neg (by have := HC.out; omega), if_neg (by rw [hrf]; decide)]
      clear HR
      replace hrf := Lib.hid hrf
      go_wp2_with fail
      refine (CP.out _ _ _ _ HF1.out.r.rx).mono ?_
      rintro e w2 ⟨a4, c4, T', rfl, hgT, hbs, hbn, hrow, hnew, hb⟩
      obtain ⟨k4, hk4⟩ : ∃ k, PI.l.length = k := ⟨_, rfl⟩
      rw [hk4] at hrow hnew ⊢
      have HGT := Lib.hid (And.intro hgT (And.intro hbs hbn))
      have HRW := Lib.hid hrow
      have HNW := Lib.hid hnew
      have HF2 := Lib.hid (HF1.out.go hb)
      have HG2 := Lib.hid (HG1.out.go hb)
      clear hrow hnew hb hgT hbs hbn hk4 z14 z15 z16 z17
      go_upto_region 5 with (fail)
      have HA : Hid (Below w2.heap.size w2 (w2.alloc (.cells #[.int .u64 PI.rd, .slice a4 k4 c4, .int .u64 PI.fin, .bool PI.kn] 33))) := Lib.hid ((Below.refl _ _).alloc (Nat.le_refl _) _)
      have HGB : Hid (Gt.Gb (w2.alloc (.cells #[.int .u64 PI.rd, .slice a4 k4 c4, .int .u64 PI.fin, .bool PI.kn] 33)) w2.heap.size 33 PI (.slice a4 k4 c4)) := Lib.hid (Gt.gb_made w2 33 PI (.slice a4 k4 c4))
      have HF3 := Lib.hid (HF2.out.go HA.out)
      have HG3 := Lib.hid (HG2.out.go HA.out)
      have HRW3 := Lib.hid (HRW.out.go HA.out)
      have HW1 := Lib.hid HF1.out.z.lt
      generalize w2.alloc (.cells #[.int .u64 PI.rd, .slice a4 k4 c4, .int .u64 PI.fin, .bool PI.kn] 33) = W3 at HA HGB HF3 HG3 HRW3 ⊢
      clear HF2 HG2 HRW
      have HE := Lib.hid HF3.out.end
      go_wp2_with (first | refine ld35 rfl HF3.out.q rfl (by rfl) ?_ | refine st35 rfl HF3.out.z rfl rfl rfl (by rfl) ?_)
      generalize World.setRow _ _ _ = WW at HE ⊢
      exact bodyPost_ret (results_ts2 Tryz.results14 _ (w.heap.size + 2) (.slice b1 k1 d1) (.slice b2 k2 d2) (.slice b3 k3 d3) s (.int .u64 0) (.int .i64 140) _ rfl rfl rfl HE.out.1) rfl ⟨T, ⟨_, _, _, _, _, _, _, _, _, rfl, HE.out.2⟩, HGS.out, fun _ _ => rfl, fun hq => absurd (show (140 : Int) = 0 from hq) (by decide)⟩
theorem results_set (tmps : Array Value) (g : Nat) (r f : Int) (v : Value) (k : Bool) (e : Int) (w : World) (hp : tmps.getD 4 undef = .pointer (some ⟨g, 0, none⟩)) (hu : tmps.getD 5 undef = .int .i64 e) (hc : w.heap[g]? = some (.cells #[.int .u64 r, v, .int .u64 f, .bool k] 33 (0, 0))) :
    (results Tryz.f54 tmps).run Tryz.prog w = .ok (.tuple #[.agg #[.int .u64 r, v, .int .u64 f, .bool k], .int .i64 e]) w := by
  have c0 : w.cell? ⟨g, 0, none⟩ = some (.int .u64 r) := Lib.cell_of_heap hc 0
  have c1 : w.cell? ⟨g, 1, none⟩ = some v := Lib.cell_of_heap hc 1
  have c2 : w.cell? ⟨g, 2, none⟩ = some (.int .u64 f) := Lib.cell_of_heap hc 2
  have c3 : w.cell? ⟨g, 3, none⟩ = some (.bool k) := Lib.cell_of_heap hc 3

  rw [results_cell_tmp Tryz.results54]
  simp only [hp, hu]
  go_simp
/-- What Break gives. -/
def BreakQ (w : World) (T : ByteArray) (s : TS) (R : TS × Int × Int) (e : Ending) (w' : World) : Prop := ∃ T', GvD w.heap.size w T' R.1 R.2.1 R.2.2 e w' ∧ Gt.GsG T' R.1.i ∧ (∀ x ∈ s.i.l, Gt.bt T' x = Gt.bt T x)
set_option maxHeartbeats 4000000 in
theorem set_gen (T : ByteArray) (s : Gt.GS) (a : Option Addr) (n c : Nat) (E : Int) (w : World) (h : Gt.GsG T s) (hL : s.l.length ≤ 250) (hn : s.l.length = n) (hr : Gt.RowG w (.slice a n c) T s.l) (h0 : 0 ≤ E) (hEm : E ≤ 4611686018427387903) :
    Calls Tryz.prog 54 #[.agg #[.int .u64 s.rd, .slice a n c, .int .u64 s.fin, .bool s.kn], .int .u64 E] w fun e w' =>
      ∃ a' c' T', e = .returned (.tuple #[.agg #[.int .u64 (Gt.putS s E E true).rd, .slice a' (Gt.putS s E E true).l.length c', .int .u64 (Gt.putS s E E true).fin, .bool (Gt.putS s E E true).kn], .int .i64 (Gt.rfS s true E)]) ∧ Gt.GsG T' (Gt.putS s E E true) ∧ (∀ x ∈ s.l, Gt.bt T' x = Gt.bt T x) ∧
        True ∧
        Gt.RowG w' (.slice a' (Gt.putS s E E true).l.length c') T' (Gt.putS s E E true).l ∧ (∀ q, Blk (.slice a' (Gt.putS s E E true).l.length c') q → w.heap.size ≤ q) ∧ Below w.heap.size w w' := by
  obtain ⟨PI, hPI⟩ : ∃ x, Gt.putS s E E true = x := ⟨_, rfl⟩
  obtain ⟨RV, hRV⟩ : ∃ x, Gt.rfS s true E = x := ⟨_, rfl⟩
  have CP := Lib.hid (fun W (hr : Gt.RowG W (.slice a n c) T s.l) => Gt.put_gen T s a n c E ⟨#[]⟩ true E W h hL hn hr h0 (by simp [ByteArray.size]) hEm)
  rw [hPI, hRV] at CP
  rw [hPI, hRV]
  have HB0 : Hid (Below w.heap.size w ((w.alloc (.cells #[.int .u64 s.rd, .slice a n c, .int .u64 s.fin, .bool s.kn] 33)).alloc (.cells #[.int .u64 0, .slice none 0 0, .int .u64 0, .bool false] 33))) := Lib.hid (((Below.refl _ w).alloc (Nat.le_refl _) _).alloc (by simp) _)
  have HZ0 : Hid (Gt.Gb ((w.alloc (.cells #[.int .u64 s.rd, .slice a n c, .int .u64 s.fin, .bool s.kn] 33)).alloc (.cells #[.int .u64 0, .slice none 0 0, .int .u64 0, .bool false] 33)) (w.heap.size + 1) 33 ⟨0, [], 0, false⟩ (.slice none 0 0)) := Lib.hid (by
    have h := Gt.gb_made (w.alloc (.cells #[.int .u64 s.rd, .slice a n c, .int .u64 s.fin, .bool s.kn] 33)) 33 ⟨0, [], 0, false⟩ (.slice none 0 0)
    rwa [World.size_alloc] at h)
  have HR0 := Lib.hid (hr.go HB0.out)
  clear h hL hn hr h0 hEm hPI hRV
  go_enter Tryz.func54, Tryz.ntmps54
  go_wp2_with fail
  refine (CP.out _ HR0.out).mono ?_
  rintro e w1 ⟨a4, c4, T', rfl, hgT, hbs, hbn, hrow, hnew, hb⟩
  have HZ1 := Lib.hid (HZ0.out.go hb)
  have HB1 := Lib.hid (nextG HB0.out hb)
  have HRW := Lib.hid hrow
  have HNW : Hid (∀ q, Blk (.slice a4 PI.l.length c4) q → w.heap.size + 2 ≤ q) := Lib.hid (fun q hq => by have := hnew q hq; simpa using this)
  have HGT := Lib.hid (And.intro hgT hbs)
  clear hgT hbs hbn hrow hnew hb
  have z0 := HZ1.out.c0
  have z1 := HZ1.out.c1
  have z2 := HZ1.out.c2
  have z3 := HZ1.out.c3
  simp only at z0 z2 z3
  have zf := HZ1.out.fz
  have HBK : Hid (¬ Blk (.slice a4 PI.l.length c4) (w.heap.size + 1)) := Lib.hid (fun h => by have := HNW.out _ h; omega)
  have HF := Lib.hid (HZ1.out.put PI (.slice a4 PI.l.length c4))
  have HRF := Lib.hid (HRW.out.put4 HBK.out (.int .u64 PI.rd) (.slice a4 PI.l.length c4) (.int .u64 PI.fin) (.bool PI.kn))
  have HBF := Lib.hid (Gt.below_put4 HB1.out (Nat.le_succ _) (.int .u64 PI.rd) (.slice a4 PI.l.length c4) (.int .u64 PI.fin) (.bool PI.kn))
  go_wp2_with fail
  exact bodyPost_ret (results_set _ (w.heap.size + 1) PI.rd PI.fin (.slice a4 PI.l.length c4) PI.kn RV _ rfl rfl HF.out) rfl ⟨a4, c4, T', rfl, HGT.out.1, HGT.out.2, trivial, HRF.out, fun q hq => by have := HNW.out q hq; omega, HBF.out⟩
set_option maxRecDepth 100000 in
set_option maxHeartbeats 4000000 in
theorem break16_any (s : TS) (T : ByteArray) (a1 : Option Addr) (n1 c1 : Nat) (a2 : Option Addr) (n2 c2 : Nat) (a3 : Option Addr) (n3 c3 : Nat) (f : Fm.Frm) (w : World) (hg : Gt.GsG T s.i) (hL : s.i.l.length ≤ 250) (h3 : s.lm < 4611686018427387904) (h0 : 0 ≤ f.max) (hl1 : n1 ≤ 1000) (hl2 : n2 ≤ 1000) (hl3 : n3 ≤ 1000) (h : TR w (.slice a1 n1 c1) (.slice a2 n2 c2) (.slice a3 n3 c3) T s) :
    Calls Tryz.prog 16 #[.agg #[.int .u64 s.o.ba, .int .u64 s.o.tp, .string s.o.d, .slice a1 n1 c1, .slice a2 n2 c2, .bool s.o.fin, .bool s.o.ft, .bool s.o.fa, .int .u64 s.cr, .int .u64 s.cd, .int .u64 s.wy, .bool s.rs, .bool s.td, .bool s.gn, .int .u64 s.i.rd, .slice a3 n3 c3, .int .u64 s.i.fin, .bool s.i.kn, .int .u64 s.wn, .int .u64 s.lm, .bool s.rz, .bool s.bk, .bool s.sp, .int .u64 s.sc, .bool s.st], .agg #[.int .u64 f.kind, .int .u64 f.id, .int .u64 f.off, .int .u64 f.max, .int .u64 f.code, .int .u64 f.seq, .int .u64 f.prior, .int .u64 f.delay, .bool f.fin, .string ⟨f.data.toArray⟩, .string ⟨f.cid.toArray⟩, .string ⟨f.token.toArray⟩, .slice f.set.a f.set.n f.set.c]] w fun e w' => BreakQ w T s (breakT s f.max f.code) e w' := by
  obtain ⟨PI, hPI⟩ : ∃ x, Gt.putS s.i f.max f.max true = x := ⟨_, rfl⟩
  obtain ⟨S1, hS1⟩ : ∃ x, { s with i := PI } = x := ⟨_, rfl⟩
  obtain ⟨S2, hS2⟩ : ∃ x, offT S1 f.code = x := ⟨_, rfl⟩
  obtain ⟨KK, hKK⟩ : ∃ x, Gt.hiS PI - Gt.hiS s.i = x := ⟨_, rfl⟩
  have CP0 := Lib.hid (fun (hE3 : f.max ≤ s.lm) (a : Option Addr) (k d : Nat) W (hr : Gt.RowG W (.slice a k d) T s.i.l) => set_gen T s.i a k d f.max W hg hL (rowg_len hr) hr h0 (by omega))
  rw [hPI] at CP0
  have CF := Lib.hid (fun (hR0 : Gt.rfS s.i true f.max = 0) (hE3 : f.max ≤ s.lm) T' (hg' : Gt.GsG T' PI) a1 n1 c1 a2 n2 c2 a3 n3 c3 a4 k4 c4 W h4 h3 => further_any s T a1 n1 c1 a2 n2 c2 a3 n3 c3 T' PI a4 k4 c4 W hg (by omega) hg' (by rw [← hPI]; have := Gt.put_len s.i f.max f.max true; omega) (by rw [← hPI] at hg' ⊢; exact (Gt.hi_put hg hR0 h0 (by omega) hg').1) h4 h3)
  rw [hKK] at CF
  have CW := Lib.hid (fun a1 n1 c1 a2 n2 c2 a3 n3 c3 W (hr : TR W (.slice a1 n1 c1) (.slice a2 n2 c2) (.slice a3 n3 c3) T s) => whole_any s T a1 n1 c1 a2 n2 c2 a3 n3 c3 W hg (by omega) hr)
  have CB := Lib.hid (fun T' a1 n1 c1 a2 n2 c2 a3 n3 c3 W (hr : TR W (.slice a1 n1 c1) (.slice a2 n2 c2) (.slice a3 n3 c3) T' S1) fu fv fx => off_any (m := w.heap.size + 3) S1 T' a1 n1 c1 a2 n2 c2 a3 n3 c3 f.code W hr fu fv fx)
  rw [hS2] at CB
  obtain ⟨R, hR⟩ : ∃ R, breakT s f.max f.code = R := ⟨_, rfl⟩
  rw [hR]
  have HR := Lib.hid (And.intro hR (And.intro hPI (And.intro hS1 (And.intro hS2 hKK))))
  have HRF := Lib.hid (Gt.rfS_two s.i true f.max)
  have HGS := Lib.hid hg
  clear hR hPI hS1 hS2 hKK hg hL h3 h0
  have CO := Lib.hid (fun W (hr : TR W (.slice a1 n1 c1) (.slice a2 n2 c2) (.slice a3 n3 c3) T s) => own_any s T a1 n1 c1 a2 n2 c2 a3 n3 c3 W hl1 hl2 hl3 hr)
  clear hl1 hl2 hl3
  have HG0 := Lib.hid (ft_made2 (m := 0) w a1 n1 c1 a2 n2 c2 a3 n3 c3 T s f h (fun _ _ => Nat.zero_le _) (fun _ _ => Nat.zero_le _) (fun _ _ => Nat.zero_le _)).2
  have HF0 : Hid (FT 0 w (((w.alloc (.cells #[.int .u64 s.o.ba, .int .u64 s.o.tp, .string s.o.d, .slice a1 n1 c1, .slice a2 n2 c2, .bool s.o.fin, .bool s.o.ft, .bool s.o.fa, .int .u64 s.cr, .int .u64 s.cd, .int .u64 s.wy, .bool s.rs, .bool s.td, .bool s.gn, .int .u64 s.i.rd, .slice a3 n3 c3, .int .u64 s.i.fin, .bool s.i.kn, .int .u64 s.wn, .int .u64 s.lm, .bool s.rz, .bool s.bk, .bool s.sp, .int .u64 s.sc, .bool s.st] 35)).alloc (.cells #[.int .u64 f.kind, .int .u64 f.id, .int .u64 f.off, .int .u64 f.max, .int .u64 f.code, .int .u64 f.seq, .int .u64 f.prior, .int .u64 f.delay, .bool f.fin, .string ⟨f.data.toArray⟩, .string ⟨f.cid.toArray⟩, .string ⟨f.token.toArray⟩, .slice f.set.a f.set.n f.set.c] 48)).alloc (.cells #[.int .u64 0, .int .u64 0, .string ⟨#[]⟩, .slice none 0 0, .slice none 0 0, .bool false, .bool false, .bool false, .int .u64 0, .int .u64 0, .int .u64 0, .bool false, .bool false, .bool false, .int .u64 0, .slice none 0 0, .int .u64 0, .bool false, .int .u64 0, .int .u64 0, .bool false, .bool false, .bool false, .int .u64 0, .bool false] 35)) w.heap.size (w.heap.size + 2) (.slice a1 n1 c1) (.slice a2 n2 c2) (.slice a3 n3 c3) T s) := Lib.hid (ft_made2 w a1 n1 c1 a2 n2 c2 a3 n3 c3 T s f h (fun _ _ => Nat.zero_le _) (fun _ _ => Nat.zero_le _) (fun _ _ => Nat.zero_le _)).1
  clear h
  go_enter Tryz.func16, Tryz.ntmps16
  go_upto_region 1 with (fail)
  generalize (((w.alloc (.cells #[.int .u64 s.o.ba, .int .u64 s.o.tp, .string s.o.d, .slice a1 n1 c1, .slice a2 n2 c2, .bool s.o.fin, .bool s.o.ft, .bool s.o.fa, .int .u64 s.cr, .int .u64 s.cd, .int .u64 s.wy, .bool s.rs, .bool s.td, .bool s.gn, .int .u64 s.i.rd, .slice a3 n3 c3, .int .u64 s.i.fin, .bool s.i.kn, .int .u64 s.wn, .int .u64 s.lm, .bool s.rz, .bool s.bk, .bool s.sp, .int .u64 s.sc, .bool s.st] 35)).alloc (.cells #[.int .u64 f.kind, .int .u64 f.id, .int .u64 f.off, .int .u64 f.max, .int .u64 f.code, .int .u64 f.seq, .int .u64 f.prior, .int .u64 f.delay, .bool f.fin, .string ⟨f.data.toArray⟩, .string ⟨f.cid.toArray⟩, .string ⟨f.token.toArray⟩, .slice f.set.a f.set.n f.set.c] 48)).alloc (.cells #[.int .u64 0, .int .u64 0, .string ⟨#[]⟩, .slice none 0 0, .slice none 0 0, .bool false, .bool false, .bool false, .int .u64 0, .int .u64 0, .int .u64 0, .bool false, .bool false, .bool false, .int .u64 0, .slice none 0 0, .int .u64 0, .bool false, .int .u64 0, .int .u64 0, .bool false, .bool false, .bool false, .int .u64 0, .bool false] 35)) = W0 at HF0 HG0 ⊢
  go_wp2_with (refine ld35 rfl HF0.out.q rfl (by rfl) ?_)
  refine (CO.out _ HF0.out.r).mono ?_
  rintro e w1 ⟨b1, k1, d1, b2, k2, d2, b3, k3, d3, rfl, hn⟩
  have HN := Lib.hid hn
  clear hn
  have HF1 := Lib.hid (HF0.out.new (m' := w.heap.size) HN.out (Nat.le_refl _))
  have HG1 : Hid (FB (w1.setRow w.heap.size #[.int .u64 s.o.ba, .int .u64 s.o.tp, .string s.o.d, .slice b1 k1 d1, .slice b2 k2 d2, .bool s.o.fin, .bool s.o.ft, .bool s.o.fa, .int .u64 s.cr, .int .u64 s.cd, .int .u64 s.wy, .bool s.rs, .bool s.td, .bool s.gn, .int .u64 s.i.rd, .slice b3 k3 d3, .int .u64 s.i.fin, .bool s.i.kn, .int .u64 s.wn, .int .u64 s.lm, .bool s.rz, .bool s.bk, .bool s.sp, .int .u64 s.sc, .bool s.st]) (w.heap.size + 1) f) := Lib.hid ((setRow_other _ _ _ _ (by omega)).trans (HG0.out.go HN.out.bl))
  have HFR : Hid ((∀ k, Blk (.slice b1 k1 d1) k → w.heap.size + 3 ≤ k) ∧ (∀ k, Blk (.slice b2 k2 d2) k → w.heap.size + 3 ≤ k)) := Lib.hid ⟨fun k hk => by have := HN.out.nu k hk; have := HF0.out.z.lt; omega, fun k hk => by have := HN.out.nv k hk; have := HF0.out.z.lt; omega⟩
  go_upto_region 2 with (refine st35 rfl (HF0.out.q.go HN.out.bl) rfl rfl rfl (by rfl) ?_)
  generalize World.setRow _ _ _ = W1 at HF1 HG1 ⊢
  clear HN HF0 CO HG0
  have z19 := HF1.out.q.c19
  have g3 := HG1.out.c3
  by_cases hc : s.lm < f.max
  · obtain rfl : (s, (0 : Int), (170 : Int)) = R := by rw [← HR.out.1]; unfold breakT; rw [if_pos hc]
    have e1 : decide (s.lm < f.max) = true := decide_eq_true hc
    clear HR CP0 CF CW CB
    replace hc := Lib.hid hc
    have HE := Lib.hid HF1.out.end
    go_wp2_with (first | refine ld35 rfl HF1.out.q rfl (by rfl) ?_ | refine st35 rfl HF1.out.z rfl rfl rfl (by rfl) ?_)
    generalize World.setRow _ _ _ = WW at HE ⊢
    exact bodyPost_ret (results_ts2 Tryz.results16 _ (w.heap.size + 2) (.slice b1 k1 d1) (.slice b2 k2 d2) (.slice b3 k3 d3) s (.int .u64 0) (.int .i64 170) _ rfl rfl rfl HE.out.1) rfl ⟨T, ⟨_, _, _, _, _, _, _, _, _, rfl, HE.out.2⟩, HGS.out, fun _ _ => rfl⟩
  · have e1 : decide (s.lm < f.max) = false := decide_eq_false hc
    have CP := Lib.hid (CP0.out (by omega))
    have CF2 := Lib.hid (fun hR0 => CF.out hR0 (by omega))
    have HC := Lib.hid hc
    clear CP0 CF hc
    have z14 := HF1.out.q.c14
    have z15 := HF1.out.q.c15
    have z16 := HF1.out.q.c16
    have z17 := HF1.out.q.c17
    rcases HRF.out with hrf | hrf
    · rw [hrf] at CP
      have CF := Lib.hid (CF2.out hrf)
      have HRF0 := Lib.hid hrf
      clear hrf CF2
      go_wp2_with fail
      refine (CP.out _ _ _ _ HF1.out.r.rx).mono ?_
      rintro e w2 ⟨a4, c4, T', rfl, hgT, hbs, hbn, hrow, hnew, hb⟩
      obtain ⟨k4, hk4⟩ : ∃ k, PI.l.length = k := ⟨_, rfl⟩
      rw [hk4] at hrow hnew ⊢
      have HGT := Lib.hid (And.intro hgT (And.intro hbs hbn))
      have HRW := Lib.hid hrow
      have HNW := Lib.hid hnew
      have HF2 := Lib.hid (HF1.out.go hb)
      have HG2 := Lib.hid (HG1.out.go hb)
      clear hrow hnew hb hgT hbs hbn hk4 z14 z15 z16 z17
      go_upto_region 5 with (fail)
      have HA : Hid (Below w2.heap.size w2 (w2.alloc (.cells #[.int .u64 PI.rd, .slice a4 k4 c4, .int .u64 PI.fin, .bool PI.kn] 33))) := Lib.hid ((Below.refl _ _).alloc (Nat.le_refl _) _)
      have HGB : Hid (Gt.Gb (w2.alloc (.cells #[.int .u64 PI.rd, .slice a4 k4 c4, .int .u64 PI.fin, .bool PI.kn] 33)) w2.heap.size 33 PI (.slice a4 k4 c4)) := Lib.hid (Gt.gb_made w2 33 PI (.slice a4 k4 c4))
      have HF3 := Lib.hid (HF2.out.go HA.out)
      have HG3 := Lib.hid (HG2.out.go HA.out)
      have HRW3 := Lib.hid (HRW.out.go HA.out)
      have HW1 := Lib.hid HF1.out.z.lt
      generalize w2.alloc (.cells #[.int .u64 PI.rd, .slice a4 k4 c4, .int .u64 PI.fin, .bool PI.kn] 33) = W3 at HA HGB HF3 HG3 HRW3 ⊢
      clear HF2 HG2 HRW
      have z21 := HF3.out.q.c21
      by_cases hk : s.bk = true
      · obtain rfl : (S2, KK, (0 : Int)) = R := by rw [← HR.out.1]; unfold breakT; rw [if_neg (by have := HC.out; omega), if_pos HRF0.out, if_neg (by rw [hk]; simp), HR.out.2.1, HR.out.2.2.1, HR.out.2.2.2.1, HR.out.2.2.2.2]
        rw [hk] at z21
        replace hk := Lib.hid hk
        have HS1 := Lib.hid HR.out.2.2.1
        have HS2 := Lib.hid HR.out.2.2.2.1
        have HGI : Hid (S2.i = { PI with l := [] }) := Lib.hid (by rw [← HS2.out, ← HS1.out]; rfl)
        clear HR
        have g0 := HGB.out.c0
        have g1 := HGB.out.c1
        have gg2 := HGB.out.c2
        have gg3 := HGB.out.c3
        go_wp2_with (refine ld35 rfl HF3.out.q rfl (by rfl) ?_)
        refine (CF.out T' HGT.out.1 _ _ _ _ _ _ _ _ _ _ _ _ _ HRW3.out HF3.out.r.rx).mono ?_
        rintro e w4 ⟨rfl, hb⟩
        have HF4 := Lib.hid (HF3.out.go hb)
        have HG4 := Lib.hid (HG3.out.go hb)
        have HGB4 := Lib.hid (HGB.out.go hb)
        have HRW4 := Lib.hid (HRW3.out.go hb)
        clear hb g0 g1 gg2 gg3 z21 g3
        go_upto_region 10 with (fail)
        have z14 := HF4.out.q.c14
        have z15 := HF4.out.q.c15
        have z16 := HF4.out.q.c16
        have z17 := HF4.out.q.c17
        have g0 := HGB4.out.c0
        have g1 := HGB4.out.c1
        have gg2 := HGB4.out.c2
        have gg3 := HGB4.out.c3
        have zf := HF4.out.q.fz
        have HF5 := Lib.hid (HF4.out.in4 (i := PI) HRW4.out (fun k hk => by have := HNW.out k hk; have := HW1.out; have := HF1.out.hZ; refine ⟨?_, ?_, ?_⟩ <;> omega))
        rw [HS1.out] at HF5
        have HG5 : Hid (FB ((((w4.setCell ⟨w.heap.size, 14, none⟩ (.int .u64 PI.rd)).setCell ⟨w.heap.size, 15, none⟩ (.slice a4 k4 c4)).setCell ⟨w.heap.size, 16, none⟩ (.int .u64 PI.fin)).setCell ⟨w.heap.size, 17, none⟩ (.bool PI.kn)) (w.heap.size + 1) f) := Lib.hid ((Below.heap_setCell _ ⟨w.heap.size, 17, none⟩ _ _ (by simp)).trans ((Below.heap_setCell _ ⟨w.heap.size, 16, none⟩ _ _ (by simp)).trans ((Below.heap_setCell _ ⟨w.heap.size, 15, none⟩ _ _ (by simp)).trans ((Below.heap_setCell _ ⟨w.heap.size, 14, none⟩ _ _ (by simp)).trans HG4.out))))
        go_upto_region 11 with (fail)
        generalize World.setCell _ _ _ = W5 at HF5 HG5 ⊢
        clear g0 g1 gg2 gg3 z14 z15 z16 z17 zf HF4 HG4
        have g4 := HG5.out.c4
        go_wp2_with (refine ld35 rfl HF5.out.q rfl (by rfl) ?_)
        refine (CB.out T' _ _ _ _ _ _ _ _ _ _ HF5.out.r (fun k hk => by have := HF5.out.fu k hk; have := HFR.out.1 k hk; omega) (fun k hk => by have := HF5.out.fv k hk; have := HFR.out.2 k hk; omega) (fun k hk => by have := HNW.out k hk; have := HW1.out; omega)).mono ?_
        rintro e w6 ⟨b4, j4, d4, b5, j5, d5, b6, j6, d6, rfl, hq⟩
        have HQ := Lib.hid hq
        clear hq
        have HE := Lib.hid (back_row (m := w.heap.size) (HF5.out.z.go HQ.out.bl) (nextG HF5.out.bl HQ.out.bl) (by omega) HQ.out.r HQ.out.nu HQ.out.nv HQ.out.nx (by omega) (by omega))
        go_wp2_with (refine st35 rfl (HF5.out.z.go HQ.out.bl) rfl rfl rfl (by rfl) ?_)
        generalize World.setRow _ _ _ = WW at HE ⊢
        exact bodyPost_ret (results_ts2 Tryz.results16 _ (w.heap.size + 2) (.slice b4 j4 d4) (.slice b5 j5 d5) (.slice b6 j6 d6) S2 (.int .u64 KK) (.int .i64 0) _ rfl rfl rfl HE.out.1) rfl ⟨T', ⟨_, _, _, _, _, _, _, _, _, rfl, HE.out.2⟩, (by show Gt.GsG T' S2.i; rw [HGI.out]; exact Gt.off_gsg HGT.out.1), HGT.out.2.1⟩
      · replace hk : s.bk = false := by simpa using hk
        rw [hk] at z21
        have HK := Lib.hid hk
        clear hk
        go_wp2_with (refine ld35 rfl HF3.out.q rfl (by rfl) ?_)
        refine (CW.out _ _ _ _ _ _ _ _ _ _ HF3.out.r).mono ?_
        rintro e w7 ⟨rfl, hb⟩
        have HF7 := Lib.hid (HF3.out.go hb)
        have HGB7 := Lib.hid (HGB.out.go hb)
        have HRW7 := Lib.hid (HRW3.out.go hb)
        have HG7 := Lib.hid (HG3.out.go hb)
        clear hb
        by_cases hd : wholeB s = true
        · obtain rfl : (s, (0 : Int), (0 : Int)) = R := by rw [← HR.out.1]; unfold breakT; rw [if_neg (by have := HC.out; omega), if_pos HRF0.out, if_pos ⟨HK.out, hd⟩]
          clear HR
          rw [hd]
          replace hd := Lib.hid hd
          have HE := Lib.hid HF7.out.end
          go_wp2_with (first | refine ld35 rfl HF7.out.q rfl (by rfl) ?_ | refine st35 rfl HF7.out.z rfl rfl rfl (by rfl) ?_)
          generalize World.setRow _ _ _ = WW at HE ⊢
          exact bodyPost_ret (results_ts2 Tryz.results16 _ (w.heap.size + 2) (.slice b1 k1 d1) (.slice b2 k2 d2) (.slice b3 k3 d3) s (.int .u64 0) (.int .i64 0) _ rfl rfl rfl HE.out.1) rfl ⟨T, ⟨_, _, _, _, _, _, _, _, _, rfl, HE.out.2⟩, HGS.out, fun _ _ => rfl⟩
        · replace hd : wholeB s = false := by simpa using hd
          obtain rfl : (S2, KK, (0 : Int)) = R := by rw [← HR.out.1]; unfold breakT; rw [if_neg (by have := HC.out; omega), if_pos HRF0.out, if_neg (by rw [hd]; simp), HR.out.2.1, HR.out.2.2.1, HR.out.2.2.2.1, HR.out.2.2.2.2]
          rw [hd]
          replace hd := Lib.hid hd
          have HS1 := Lib.hid HR.out.2.2.1
          have HS2 := Lib.hid HR.out.2.2.2.1
          have HGI : Hid (S2.i = { PI with l := [] }) := Lib.hid (by rw [← HS2.out, ← HS1.out]; rfl)
          clear HR
          have g0 := HGB7.out.c0
          have g1 := HGB7.out.c1
          have gg2 := HGB7.out.c2
          have gg3 := HGB7.out.c3
          go_wp2_with (refine ld35 rfl HF7.out.q rfl (by rfl) ?_)
          refine (CF.out T' HGT.out.1 _ _ _ _ _ _ _ _ _ _ _ _ _ HRW7.out HF7.out.r.rx).mono ?_
          rintro e w4 ⟨rfl, hb⟩
          have HF4 := Lib.hid (HF7.out.go hb)
          have HG4 := Lib.hid (HG7.out.go hb)
          have HGB4 := Lib.hid (HGB7.out.go hb)
          have HRW4 := Lib.hid (HRW7.out.go hb)
          clear hb g0 g1 gg2 gg3 z21 g3
          go_upto_region 10 with (fail)
          have z14 := HF4.out.q.c14
          have z15 := HF4.out.q.c15
          have z16 := HF4.out.q.c16
          have z17 := HF4.out.q.c17
          have g0 := HGB4.out.c0
          have g1 := HGB4.out.c1
          have gg2 := HGB4.out.c2
          have gg3 := HGB4.out.c3
          have zf := HF4.out.q.fz
          have HF5 := Lib.hid (HF4.out.in4 (i := PI) HRW4.out (fun k hk => by have := HNW.out k hk; have := HW1.out; have := HF1.out.hZ; refine ⟨?_, ?_, ?_⟩ <;> omega))
          rw [HS1.out] at HF5
          have HG5 : Hid (FB ((((w4.setCell ⟨w.heap.size, 14, none⟩ (.int .u64 PI.rd)).setCell ⟨w.heap.size, 15, none⟩ (.slice a4 k4 c4)).setCell ⟨w.heap.size, 16, none⟩ (.int .u64 PI.fin)).setCell ⟨w.heap.size, 17, none⟩ (.bool PI.kn)) (w.heap.size + 1) f) := Lib.hid ((Below.heap_setCell _ ⟨w.heap.size, 17, none⟩ _ _ (by simp)).trans ((Below.heap_setCell _ ⟨w.heap.size, 16, none⟩ _ _ (by simp)).trans ((Below.heap_setCell _ ⟨w.heap.size, 15, none⟩ _ _ (by simp)).trans ((Below.heap_setCell _ ⟨w.heap.size, 14, none⟩ _ _ (by simp)).trans HG4.out))))
          go_upto_region 11 with (fail)
          generalize World.setCell _ _ _ = W5 at HF5 HG5 ⊢
          clear g0 g1 gg2 gg3 z14 z15 z16 z17 zf HF4 HG4
          have g4 := HG5.out.c4
          go_wp2_with (refine ld35 rfl HF5.out.q rfl (by rfl) ?_)
          refine (CB.out T' _ _ _ _ _ _ _ _ _ _ HF5.out.r (fun k hk => by have := HF5.out.fu k hk; have := HFR.out.1 k hk; omega) (fun k hk => by have := HF5.out.fv k hk; have := HFR.out.2 k hk; omega) (fun k hk => by have := HNW.out k hk; have := HW1.out; omega)).mono ?_
          rintro e w6 ⟨b4, j4, d4, b5, j5, d5, b6, j6, d6, rfl, hq⟩
          have HQ := Lib.hid hq
          clear hq
          have HE := Lib.hid (back_row (m := w.heap.size) (HF5.out.z.go HQ.out.bl) (nextG HF5.out.bl HQ.out.bl) (by omega) HQ.out.r HQ.out.nu HQ.out.nv HQ.out.nx (by omega) (by omega))
          go_wp2_with (refine st35 rfl (HF5.out.z.go HQ.out.bl) rfl rfl rfl (by rfl) ?_)
          generalize World.setRow _ _ _ = WW at HE ⊢
          exact bodyPost_ret (results_ts2 Tryz.results16 _ (w.heap.size + 2) (.slice b4 j4 d4) (.slice b5 j5 d5) (.slice b6 j6 d6) S2 (.int .u64 KK) (.int .i64 0) _ rfl rfl rfl HE.out.1) rfl ⟨T', ⟨_, _, _, _, _, _, _, _, _, rfl, HE.out.2⟩, (by show Gt.GsG T' S2.i; rw [HGI.out]; exact Gt.off_gsg HGT.out.1), HGT.out.2.1⟩
    · rw [hrf] at CP
      obtain rfl : (s, (0 : Int), (140 : Int)) = R := by rw [← HR.out.1]; unfold breakT; rw [if_neg (by have := HC.out; omega), if_neg (by rw [hrf]; decide)]
      clear HR
      replace hrf := Lib.hid hrf
      go_wp2_with fail
      refine (CP.out _ _ _ _ HF1.out.r.rx).mono ?_
      rintro e w2 ⟨a4, c4, T', rfl, hgT, hbs, hbn, hrow, hnew, hb⟩
      obtain ⟨k4, hk4⟩ : ∃ k, PI.l.length = k := ⟨_, rfl⟩
      rw [hk4] at hrow hnew ⊢
      have HGT := Lib.hid (And.intro hgT (And.intro hbs hbn))
      have HRW := Lib.hid hrow
      have HNW := Lib.hid hnew
      have HF2 := Lib.hid (HF1.out.go hb)
      have HG2 := Lib.hid (HG1.out.go hb)
      clear hrow hnew hb hgT hbs hbn hk4 z14 z15 z16 z17
      go_upto_region 5 with (fail)
      have HA : Hid (Below w2.heap.size w2 (w2.alloc (.cells #[.int .u64 PI.rd, .slice a4 k4 c4, .int .u64 PI.fin, .bool PI.kn] 33))) := Lib.hid ((Below.refl _ _).alloc (Nat.le_refl _) _)
      have HGB : Hid (Gt.Gb (w2.alloc (.cells #[.int .u64 PI.rd, .slice a4 k4 c4, .int .u64 PI.fin, .bool PI.kn] 33)) w2.heap.size 33 PI (.slice a4 k4 c4)) := Lib.hid (Gt.gb_made w2 33 PI (.slice a4 k4 c4))
      have HF3 := Lib.hid (HF2.out.go HA.out)
      have HG3 := Lib.hid (HG2.out.go HA.out)
      have HRW3 := Lib.hid (HRW.out.go HA.out)
      have HW1 := Lib.hid HF1.out.z.lt
      generalize w2.alloc (.cells #[.int .u64 PI.rd, .slice a4 k4 c4, .int .u64 PI.fin, .bool PI.kn] 33) = W3 at HA HGB HF3 HG3 HRW3 ⊢
      clear HF2 HG2 HRW
      have HE := Lib.hid HF3.out.end
      go_wp2_with (first | refine ld35 rfl HF3.out.q rfl (by rfl) ?_ | refine st35 rfl HF3.out.z rfl rfl rfl (by rfl) ?_)
      generalize World.setRow _ _ _ = WW at HE ⊢
      exact bodyPost_ret (results_ts2 Tryz.results16 _ (w.heap.size + 2) (.slice b1 k1 d1) (.slice b2 k2 d2) (.slice b3 k3 d3) s (.int .u64 0) (.int .i64 140) _ rfl rfl rfl HE.out.1) rfl ⟨T, ⟨_, _, _, _, _, _, _, _, _, rfl, HE.out.2⟩, HGS.out, fun _ _ => rfl⟩
end Go.Proofs.YtoblmhpjendbfaaGreatDoor.Rg
