/- Layer 16: a law's stream in a block; shown · Layer 16: StreamBroken: a stream that the other side gave up -/
import Derived.Test.YtoblmhpjendbfaaGreatDoorJb37
namespace Go.Proofs.YtoblmhpjendbfaaGreatDoor.Rg
set_option maxRecDepth 20000
open Go.RowKit Go.Shelf
set_option linter.unusedVariables false
set_option linter.unusedSimpArgs false

/-- A law's stream in its block. -/
structure LT (w W : World) (g : Nat) (u v x : Value) (T : ByteArray) (s : TS) : Prop where
  q : TB W g u v x s
  r : TR W u v x T s
  bl : Below w.heap.size w W
  hg : w.heap.size ≤ g
  fu : ¬ Blk u g
  fv : ¬ Blk v g
  fx : ¬ Blk x g
theorem LT.go {w W W' : World} {g : Nat} {u v x : Value} {T : ByteArray} {s : TS} (h : LT w W g u v x T s) (hb : Below W.heap.size W W') : LT w W' g u v x T s := ⟨h.q.go hb, h.r.go hb, nextG h.bl hb, h.hg, h.fu, h.fv, h.fx⟩
theorem LT.mk' {w W : World} {g m : Nat} {u v x : Value} {T : ByteArray} {s : TS} {A : Array Value} (hz : W.heap[g]? = some (.cells A 35 (0, 0))) (hr : TR W u v x T s) (hb : Below w.heap.size w W) (hg : w.heap.size ≤ g) (fu : ¬ Blk u g) (fv : ¬ Blk v g) (fx : ¬ Blk x g) : LT w (W.setRow g #[.int .u64 s.o.ba, .int .u64 s.o.tp, .string s.o.d, u, v, .bool s.o.fin, .bool s.o.ft, .bool s.o.fa, .int .u64 s.cr, .int .u64 s.cd, .int .u64 s.wy, .bool s.rs, .bool s.td, .bool s.gn, .int .u64 s.i.rd, x, .int .u64 s.i.fin, .bool s.i.kn, .int .u64 s.wn, .int .u64 s.lm, .bool s.rz, .bool s.bk, .bool s.sp, .int .u64 s.sc, .bool s.st]) g u v x T s :=
  ⟨setRow_heap W g _ _ _ _ hz, hr.row fu fv fx _, below_setRow hb hg _, hg, fu, fv, fx⟩
/-- The state that a call told is stored where the elder one stood. -/
theorem LT.next {w W1 W2 : World} {g : Nat} {u v x u' v' x' : Value} {T T' : ByteArray} {s s' : TS} (h : LT w W1 g u v x T s) (hn : N3 W1.heap.size W1 W2 u' v' x' T' s') : LT w (W2.setRow g #[.int .u64 s'.o.ba, .int .u64 s'.o.tp, .string s'.o.d, u', v', .bool s'.o.fin, .bool s'.o.ft, .bool s'.o.fa, .int .u64 s'.cr, .int .u64 s'.cd, .int .u64 s'.wy, .bool s'.rs, .bool s'.td, .bool s'.gn, .int .u64 s'.i.rd, x', .int .u64 s'.i.fin, .bool s'.i.kn, .int .u64 s'.wn, .int .u64 s'.lm, .bool s'.rz, .bool s'.bk, .bool s'.sp, .int .u64 s'.sc, .bool s'.st]) g u' v' x' T' s' :=
  LT.mk' (m := 0) (h.q.go hn.bl) hn.r (nextG h.bl hn.bl) h.hg (fun hk => by have := hn.nu _ hk; have := h.q.lt; omega) (fun hk => by have := hn.nv _ hk; have := h.q.lt; omega) (fun hk => by have := hn.nx _ hk; have := h.q.lt; omega)
/-- .. or in a new block. -/
theorem LT.new {w W1 W2 : World} {u' v' x' : Value} {T' : ByteArray} {s' : TS} (hb : Below w.heap.size w W1) (hn : N3 W1.heap.size W1 W2 u' v' x' T' s') : LT w ((W2.alloc (.cells #[.int .u64 0, .int .u64 0, .string ⟨#[]⟩, .slice none 0 0, .slice none 0 0, .bool false, .bool false, .bool false, .int .u64 0, .int .u64 0, .int .u64 0, .bool false, .bool false, .bool false, .int .u64 0, .slice none 0 0, .int .u64 0, .bool false, .int .u64 0, .int .u64 0, .bool false, .bool false, .bool false, .int .u64 0, .bool false] 35)).setRow W2.heap.size #[.int .u64 s'.o.ba, .int .u64 s'.o.tp, .string s'.o.d, u', v', .bool s'.o.fin, .bool s'.o.ft, .bool s'.o.fa, .int .u64 s'.cr, .int .u64 s'.cd, .int .u64 s'.wy, .bool s'.rs, .bool s'.td, .bool s'.gn, .int .u64 s'.i.rd, x', .int .u64 s'.i.fin, .bool s'.i.kn, .int .u64 s'.wn, .int .u64 s'.lm, .bool s'.rz, .bool s'.bk, .bool s'.sp, .int .u64 s'.sc, .bool s'.st]) W2.heap.size u' v' x' T' s' :=
  LT.mk' (m := 0) (zb_made W2) (hn.r.go ((Below.refl _ _).alloc (Nat.le_refl _) _)) ((nextG hb hn.bl).alloc (nextG hb hn.bl).size _) (nextG hb hn.bl).size (fun hk => by have := hn.r.ra.blk hk; omega) (fun hk => by have := hn.r.rt.blk hk; omega) (fun hk => by have := hn.r.rx.blk hk; omega)
theorem LT.row {w W : World} {g k : Nat} {u v x : Value} {T : ByteArray} {s : TS} (h : LT w W g u v x T s) (hk : W.heap.size ≤ k ∨ (k ≠ g ∧ w.heap.size ≤ k ∧ ¬ Blk u k ∧ ¬ Blk v k ∧ ¬ Blk x k)) (cs : Array Value) : LT w (W.setRow k cs) g u v x T s := by
  have h1 := h.q.lt
  have h2 := h.bl.size
  rcases hk with hk | ⟨e1, e2, e3, e4, e5⟩
  · exact ⟨(setRow_other W k g cs (by omega)).trans h.q, h.r.row (fun hq => by have := h.r.ra.blk hq; omega) (fun hq => by have := h.r.rt.blk hq; omega) (fun hq => by have := h.r.rx.blk hq; omega) cs, below_setRow h.bl (by omega) cs, h.hg, h.fu, h.fv, h.fx⟩
  · exact ⟨(setRow_other W k g cs (fun e => e1 e.symm)).trans h.q, h.r.row e3 e4 e5 cs, below_setRow h.bl e2 cs, h.hg, h.fu, h.fv, h.fx⟩
theorem LT.out8 {w W : World} {g : Nat} {u v x u' v' : Value} {T : ByteArray} {s : TS} {o : SS} (h : LT w W g u v x T s) (ra : Rd W u' o.ak) (rt : Rd W v' o.td) (fu : ¬ Blk u' g) (fv : ¬ Blk v' g) : LT w ((((((((W.setCell ⟨g, 0, none⟩ (.int .u64 o.ba)).setCell ⟨g, 1, none⟩ (.int .u64 o.tp)).setCell ⟨g, 2, none⟩ (.string o.d)).setCell ⟨g, 3, none⟩ (u')).setCell ⟨g, 4, none⟩ (v')).setCell ⟨g, 5, none⟩ (.bool o.fin)).setCell ⟨g, 6, none⟩ (.bool o.ft)).setCell ⟨g, 7, none⟩ (.bool o.fa)) g u' v' x T { s with o := o } :=
  ⟨((((((((h.q.s0 _).s1 _).s2 _).sU _).sV _).s5 _).s6 _).s7 _), ⟨(rd_set (rd_set (rd_set (rd_set (rd_set (rd_set (rd_set (rd_set ra fu _) fu _) fu _) fu _) fu _) fu _) fu _) fu _), (rd_set (rd_set (rd_set (rd_set (rd_set (rd_set (rd_set (rd_set rt fv _) fv _) fv _) fv _) fv _) fv _) fv _) fv _), (rowg_set (rowg_set (rowg_set (rowg_set (rowg_set (rowg_set (rowg_set (rowg_set h.r.rx h.fx _) h.fx _) h.fx _) h.fx _) h.fx _) h.fx _) h.fx _) h.fx _)⟩, below_eight h.bl h.hg _ _ _ _ _ _ _ _, h.hg, fu, fv, h.fx⟩
/-! ### shown -/
def ab2 : ByteArray := ⟨#[97, 98]⟩
def xyz : ByteArray := ⟨#[120, 121, 122]⟩
def shS0 : TS := newT 2 9
def shS1 : TS := { shS0 with o := wrS s00 abc 9 }
def shF : Fm.Frm := strF 4 ⟨0, ab2, false, true⟩
def shS2 : TS := sentT shS1 shF
def shS3 : TS := (dataT shS2 0 3 true).1
theorem shw : wrN s00 abc 9 = 3 := by kernel_rfl
theorem shx1 : nextT shS1 4 100 50 = some shF := by kernel_rfl
theorem shtp : shS2.o.tp - shS1.o.tp = 2 := by kernel_rfl
theorem shx2 : nextT shS2 4 100 50 = none := by kernel_rfl
theorem shd1 : dataT shS2 0 3 true = (shS3, 3, 0) := by kernel_rfl
theorem shd2 : dataT shS3 9 10 false = (shS3, 0, 170) := by kernel_rfl
theorem shi3 : shS3.i = ⟨0, [(0, 2)], 3, true⟩ := by kernel_rfl
theorem shi2 : shS2.i = ⟨0, [], 0, false⟩ := by kernel_rfl
theorem shb3 : shS3.bk = false := by kernel_rfl
theorem shb2 : shS2.bk = false := by kernel_rfl
theorem shl3 : shS3.lm = 9 ∧ shS3.wn = 9 := ⟨by kernel_rfl, by kernel_rfl⟩
theorem shl2 : shS2.lm = 9 := by kernel_rfl
theorem shtk : Gt.tk shS3.i 5 = 3 := by rw [shi3]; kernel_rfl
theorem shhi : Gt.hiS shS3.i = 3 := by rw [shi3]; kernel_rfl
theorem shok1 : SsOk shS1.o := wr_ok ss00 (by decide)
theorem shok2 : SsOk shS2.o := by
  have e : shS2.o = sentS shS1.o 0 2 false := by kernel_rfl
  rw [e]
  exact sent_ok shok1 _ _ _
theorem shk1 : shS1.o.ak.length ≤ 100 ∧ shS1.o.td.length ≤ 100 ∧ shS1.o.tp = 0 := ⟨by decide +kernel, by decide +kernel, by kernel_rfl⟩
theorem shk2 : shS2.o.ak.length ≤ 100 ∧ shS2.o.td.length ≤ 100 ∧ shS2.o.tp = 2 := ⟨by decide +kernel, by decide +kernel, by kernel_rfl⟩
theorem shil2 : shS2.i.l.length = 0 := by rw [shi2]; rfl
theorem shil3 : shS3.i.l.length = 1 := by rw [shi3]; rfl
theorem shk3 : shS3.o.ak.length ≤ 100 ∧ shS3.o.td.length ≤ 100 := ⟨by decide +kernel, by decide +kernel⟩
set_option maxRecDepth 100000 in
set_option maxHeartbeats 4000000 in
theorem shown16_any (w : World) (ht : Vm.Tab w) : Calls Tryz.prog 9 #[] w fun e w' => e = .returned (.bool true) ∧ Below w.heap.size w w' := by
  have CNW := Lib.hid (fun W => new16_any 2 9 W)
  have CW := Lib.hid (fun a1 n1 c1 a2 n2 c2 W (k1 : Rd W (.slice a1 n1 c1) shS0.o.ak) (k2 : Rd W (.slice a2 n2 c2) shS0.o.td) => write_any shS0.o a1 n1 c1 a2 n2 c2 abc 9 W ss00 (by decide) (by decide) (by have := rd_len k1; have e : shS0.o.ak.length = 0 := rfl; omega) (by have := rd_len k2; have e : shS0.o.td.length = 0 := rfl; omega) k1 k2)
  have hw : wrN shS0.o abc 9 = 3 := shw
  have hw2 : wrS shS0.o abc 9 = shS1.o := rfl
  rw [hw, hw2] at CW
  unfold GvN at CW
  have CX1 := Lib.hid (fun a1 n1 c1 a2 n2 c2 a3 n3 c3 W (ht : Vm.Tab W) (hr : TR W (.slice a1 n1 c1) (.slice a2 n2 c2) (.slice a3 n3 c3) ⟨#[]⟩ shS1) => next16_any shS1 ⟨#[]⟩ a1 n1 c1 a2 n2 c2 a3 n3 c3 4 100 50 W ht shok1 shk1.1 shk1.2.1 (by decide) (by decide) (by decide) (by decide) (by decide) (by decide) (by have := shk1.2.2; omega) (by decide) (by have := rd_len hr.ra; have := shk1.1; omega) (by have := rd_len hr.rt; have := shk1.2.1; omega) (by have := rowg_len hr.rx; have e : shS1.i.l.length = 0 := rfl; omega) hr)
  rw [shx1] at CX1
  unfold NextQ at CX1
  simp only at CX1
  rw [show sentT shS1 shF = shS2 from rfl, shtp] at CX1
  have CX2 := Lib.hid (fun a1 n1 c1 a2 n2 c2 a3 n3 c3 W (ht : Vm.Tab W) (hr : TR W (.slice a1 n1 c1) (.slice a2 n2 c2) (.slice a3 n3 c3) ⟨#[]⟩ shS2) => next16_any shS2 ⟨#[]⟩ a1 n1 c1 a2 n2 c2 a3 n3 c3 4 100 50 W ht shok2 shk2.1 shk2.2.1 (by decide) (by decide +kernel) (by decide +kernel) (by decide +kernel) (by decide +kernel) (by decide) (by have := shk2.2.2; omega) (by decide) (by have := rd_len hr.ra; have := shk2.1; omega) (by have := rd_len hr.rt; have := shk2.2.1; omega) (by have := rowg_len hr.rx; have := shil2; omega) hr)
  rw [shx2] at CX2
  unfold NextQ at CX2
  simp only at CX2
  have CD1 : Hid (∀ a1 n1 c1 a2 n2 c2 a3 n3 c3 W, TR W (.slice a1 n1 c1) (.slice a2 n2 c2) (.slice a3 n3 c3) ⟨#[]⟩ shS2 → Calls Tryz.prog 14 #[.agg #[.int .u64 shS2.o.ba, .int .u64 shS2.o.tp, .string shS2.o.d, .slice a1 n1 c1, .slice a2 n2 c2, .bool shS2.o.fin, .bool shS2.o.ft, .bool shS2.o.fa, .int .u64 shS2.cr, .int .u64 shS2.cd, .int .u64 shS2.wy, .bool shS2.rs, .bool shS2.td, .bool shS2.gn, .int .u64 shS2.i.rd, .slice a3 n3 c3, .int .u64 shS2.i.fin, .bool shS2.i.kn, .int .u64 shS2.wn, .int .u64 shS2.lm, .bool shS2.rz, .bool shS2.bk, .bool shS2.sp, .int .u64 shS2.sc, .bool shS2.st], .agg #[.int .u64 8, .int .u64 4, .int .u64 0, .int .u64 0, .int .u64 0, .int .u64 0, .int .u64 0, .int .u64 0, .bool true, .string ⟨#[120, 121, 122]⟩, .string ⟨#[]⟩, .string ⟨#[]⟩, .slice none 0 0]] W fun e w' => DataQ W ⟨#[]⟩ shS2 (strF 4 ⟨0, xyz, true, true⟩) (shS3, 3, 0) e w') := Lib.hid (fun a1 n1 c1 a2 n2 c2 a3 n3 c3 W hr => by
      have h := data16_any shS2 ⟨#[]⟩ a1 n1 c1 a2 n2 c2 a3 n3 c3 (strF 4 ⟨0, xyz, true, true⟩) 3 W (by rw [shi2]; exact Gt.gsG_zero) (by rw [shi2]; decide) (by rw [shl2]; decide) (by decide) (by decide) (by decide) (by have := rd_len hr.ra; have := shk2.1; omega) (by have := rd_len hr.rt; have := shk2.2.1; omega) (by have := rowg_len hr.rx; have := shil2; omega) hr
      rw [show ((strF 4 ⟨0, xyz, true, true⟩) : Fm.Frm).off = 0 from rfl, show ((strF 4 ⟨0, xyz, true, true⟩) : Fm.Frm).fin = true from rfl, shd1] at h
      exact h)
  have CD2 : Hid (∀ T' (hg : Gt.GsG T' shS3.i) a1 n1 c1 a2 n2 c2 a3 n3 c3 W, TR W (.slice a1 n1 c1) (.slice a2 n2 c2) (.slice a3 n3 c3) T' shS3 → Calls Tryz.prog 14 #[.agg #[.int .u64 shS3.o.ba, .int .u64 shS3.o.tp, .string shS3.o.d, .slice a1 n1 c1, .slice a2 n2 c2, .bool shS3.o.fin, .bool shS3.o.ft, .bool shS3.o.fa, .int .u64 shS3.cr, .int .u64 shS3.cd, .int .u64 shS3.wy, .bool shS3.rs, .bool shS3.td, .bool shS3.gn, .int .u64 shS3.i.rd, .slice a3 n3 c3, .int .u64 shS3.i.fin, .bool shS3.i.kn, .int .u64 shS3.wn, .int .u64 shS3.lm, .bool shS3.rz, .bool shS3.bk, .bool shS3.sp, .int .u64 shS3.sc, .bool shS3.st], .agg #[.int .u64 8, .int .u64 4, .int .u64 9, .int .u64 0, .int .u64 0, .int .u64 0, .int .u64 0, .int .u64 0, .bool false, .string ⟨#[120]⟩, .string ⟨#[]⟩, .string ⟨#[]⟩, .slice none 0 0]] W fun e w' => DataQ W T' shS3 (strF 4 ⟨9, ⟨#[120]⟩, false, true⟩) (shS3, 0, 170) e w') := Lib.hid (fun T' hg a1 n1 c1 a2 n2 c2 a3 n3 c3 W hr => by
      have h := data16_any shS3 T' a1 n1 c1 a2 n2 c2 a3 n3 c3 (strF 4 ⟨9, ⟨#[120]⟩, false, true⟩) 10 W hg (by rw [shi3]; decide) (by rw [shl3.1]; decide) (by decide) (by decide) (by decide) (by have := rd_len hr.ra; have := shk3.1; omega) (by have := rd_len hr.rt; have := shk3.2; omega) (by have := rowg_len hr.rx; have := shil3; omega) hr
      rw [show ((strF 4 ⟨9, ⟨#[120]⟩, false, true⟩) : Fm.Frm).off = 9 from rfl, show ((strF 4 ⟨9, ⟨#[120]⟩, false, true⟩) : Fm.Frm).fin = false from rfl, shd2] at h
      exact h)
  have CR : Hid (∀ T' (hg : Gt.GsG T' shS3.i) (hx : T'.extract 0 3 = xyz) a1 n1 c1 a2 n2 c2 a3 n3 c3 W, TR W (.slice a1 n1 c1) (.slice a2 n2 c2) (.slice a3 n3 c3) T' shS3 → Calls Tryz.prog 26 #[.agg #[.int .u64 shS3.o.ba, .int .u64 shS3.o.tp, .string shS3.o.d, .slice a1 n1 c1, .slice a2 n2 c2, .bool shS3.o.fin, .bool shS3.o.ft, .bool shS3.o.fa, .int .u64 shS3.cr, .int .u64 shS3.cd, .int .u64 shS3.wy, .bool shS3.rs, .bool shS3.td, .bool shS3.gn, .int .u64 shS3.i.rd, .slice a3 n3 c3, .int .u64 shS3.i.fin, .bool shS3.i.kn, .int .u64 shS3.wn, .int .u64 shS3.lm, .bool shS3.rz, .bool shS3.bk, .bool shS3.sp, .int .u64 shS3.sc, .bool shS3.st], .int .i64 5] W (GvR W.heap.size W T' (readT shS3 5) ⟨#[120, 121, 122]⟩ true 0)) := Lib.hid (fun T' hg hx a1 n1 c1 a2 n2 c2 a3 n3 c3 W hr => by
      have h := read16_any shS3 T' a1 n1 c1 a2 n2 c2 a3 n3 c3 5 W hg (by rw [shi3]; decide) (by rw [shhi, shl3.1]; decide) (by rw [shl3.1]; decide) (by rw [shl3.2]; decide) (by rw [shl3.2]; decide) (by have := rd_len hr.ra; have := shk3.1; omega) (by have := rd_len hr.rt; have := shk3.2; omega) (by have := rowg_len hr.rx; have := shil3; omega) hr
      rw [shb3, shtk, shi3] at h
      simp only [Bool.false_eq_true, if_false] at h
      rw [show (0 : Int).toNat = 0 from rfl, show ((0 : Int) + 3).toNat = 3 from rfl, hx] at h
      exact h)
  have HT := Lib.hid ht
  clear ht hw hw2
  go_enter Tryz.func9, Tryz.ntmps9
  go_wp2_with fail
  refine (CNW.out _).mono ?_
  rintro e w1 ⟨b1, b4, b7, b2, b5, b8, b3, b6, b9, rfl, hn⟩
  have HN := Lib.hid hn
  clear hn CNW
  have HL := Lib.hid (LT.new (Below.refl w.heap.size w) HN.out)
  go_upto_region 2 with (refine st35 rfl (zb_made w1) rfl rfl rfl (by rfl) ?_)
  obtain ⟨g, hg⟩ : ∃ x, w1.heap.size = x := ⟨_, rfl⟩
  rw [hg] at HL ⊢
  generalize (w1.alloc (.cells #[.int .u64 0, .int .u64 0, .string ⟨#[]⟩, .slice none 0 0, .slice none 0 0, .bool false, .bool false, .bool false, .int .u64 0, .int .u64 0, .int .u64 0, .bool false, .bool false, .bool false, .int .u64 0, .slice none 0 0, .int .u64 0, .bool false, .int .u64 0, .int .u64 0, .bool false, .bool false, .bool false, .int .u64 0, .bool false] 35)).setRow g _ = W1 at HL ⊢
  clear hg HN
  replace HL : Hid (LT w W1 g (.slice b1 b4 b7) (.slice b2 b5 b8) (.slice b3 b6 b9) ⟨#[]⟩ shS0) := HL
  have z0 := HL.out.q.c0
  have z1 := HL.out.q.c1
  have z2 := HL.out.q.c2
  have z3 := HL.out.q.c3
  have z4 := HL.out.q.c4
  have z5 := HL.out.q.c5
  have z6 := HL.out.q.c6
  have z7 := HL.out.q.c7
  go_wp2_with fail
  refine (CW.out _ _ _ _ _ _ _ HL.out.r.ra HL.out.r.rt).mono ?_
  rintro e w2 ⟨p1, p2, p3, q1, q2, q3, rfl, ra, rt, fu, fv, hb⟩
  have HL2 := Lib.hid (HL.out.go hb)
  have HRA := Lib.hid ra
  have HRT := Lib.hid rt
  have HFU : Hid (¬ Blk (.slice p1 p2 p3) g ∧ ¬ Blk (.slice q1 q2 q3) g) := Lib.hid ⟨fun hk => by have := fu _ hk; have := HL.out.q.lt; omega, fun hk => by have := fv _ hk; have := HL.out.q.lt; omega⟩
  clear ra rt fu fv hb CW HL z0 z1 z2 z3 z4 z5 z6 z7
  go_upto_region 3 with (fail)
  have HA : Hid (Below w2.heap.size w2 (w2.alloc (.cells #[.int .u64 shS1.o.ba, .int .u64 shS1.o.tp, .string shS1.o.d, .slice p1 p2 p3, .slice q1 q2 q3, .bool shS1.o.fin, .bool shS1.o.ft, .bool shS1.o.fa] 30))) := Lib.hid ((Below.refl _ _).alloc (Nat.le_refl _) _)
  have HB8 : Hid ((w2.alloc (.cells #[.int .u64 shS1.o.ba, .int .u64 shS1.o.tp, .string shS1.o.d, .slice p1 p2 p3, .slice q1 q2 q3, .bool shS1.o.fin, .bool shS1.o.ft, .bool shS1.o.fa] 30)).heap[w2.heap.size]? = some (.cells #[.int .u64 shS1.o.ba, .int .u64 shS1.o.tp, .string shS1.o.d, .slice p1 p2 p3, .slice q1 q2 q3, .bool shS1.o.fin, .bool shS1.o.ft, .bool shS1.o.fa] 30 (0, 0))) := Lib.hid (heap_alloc_new w2 _)
  have HL3 := Lib.hid (HL2.out.go HA.out)
  replace HRA := Lib.hid (HRA.out.go HA.out)
  replace HRT := Lib.hid (HRT.out.go HA.out)
  generalize w2.alloc (.cells #[.int .u64 shS1.o.ba, .int .u64 shS1.o.tp, .string shS1.o.d, .slice p1 p2 p3, .slice q1 q2 q3, .bool shS1.o.fin, .bool shS1.o.ft, .bool shS1.o.fa] 30) = W3 at HA HB8 HL3 HRA HRT ⊢
  have y0 : W3.cell? ⟨w2.heap.size, 0, none⟩ = _ := Lib.cell_of_heap HB8.out 0
  have y1 : W3.cell? ⟨w2.heap.size, 1, none⟩ = _ := Lib.cell_of_heap HB8.out 1
  have y2 : W3.cell? ⟨w2.heap.size, 2, none⟩ = _ := Lib.cell_of_heap HB8.out 2
  have y3 : W3.cell? ⟨w2.heap.size, 3, none⟩ = _ := Lib.cell_of_heap HB8.out 3
  have y4 : W3.cell? ⟨w2.heap.size, 4, none⟩ = _ := Lib.cell_of_heap HB8.out 4
  have y5 : W3.cell? ⟨w2.heap.size, 5, none⟩ = _ := Lib.cell_of_heap HB8.out 5
  have y6 : W3.cell? ⟨w2.heap.size, 6, none⟩ = _ := Lib.cell_of_heap HB8.out 6
  have y7 : W3.cell? ⟨w2.heap.size, 7, none⟩ = _ := Lib.cell_of_heap HB8.out 7
  have z0 := HL3.out.q.c0
  have z1 := HL3.out.q.c1
  have z2 := HL3.out.q.c2
  have z3 := HL3.out.q.c3
  have z4 := HL3.out.q.c4
  have z5 := HL3.out.q.c5
  have z6 := HL3.out.q.c6
  have z7 := HL3.out.q.c7
  have zf := HL3.out.q.fz
  have HL4 := Lib.hid (HL3.out.out8 (o := shS1.o) HRA.out HRT.out HFU.out.1 HFU.out.2)
  go_upto_region 4 with (fail)
  generalize World.setCell _ _ _ = W4 at HL4 ⊢
  clear y0 z0 y1 z1 y2 z2 y3 z3 y4 z4 y5 z5 y6 z6 y7 z7 zf HRA HRT HFU HA HB8 HL2 HL3
  replace HL4 : Hid (LT w W4 g (.slice p1 p2 p3) (.slice q1 q2 q3) (.slice b3 b6 b9) ⟨#[]⟩ shS1) := HL4
  have HTW := Lib.hid (HT.out.below HL4.out.bl HT.out.lt)
  go_wp2_with (refine ld35 rfl HL4.out.q rfl (by rfl) ?_)
  refine (CX1.out _ _ _ _ _ _ _ _ _ _ HTW.out HL4.out.r).mono ?_
  rintro e w5 ⟨c1, c4, c7, c2, c5, c8, c3, c6, c9, rfl, hn⟩
  have HN := Lib.hid hn
  clear hn HTW
  have HNA := Lib.hid (HN.out.go ((Below.refl w5.heap.size w5).alloc (Nat.le_refl _) (.cells #[.int .u64 0, .int .u64 0, .int .u64 0, .int .u64 0, .int .u64 0, .int .u64 0, .int .u64 0, .int .u64 0, .bool false, .string ⟨#[]⟩, .string ⟨#[]⟩, .string ⟨#[]⟩, .slice none 0 0] 48)))
  have HL5 := Lib.hid (HL4.out.next HNA.out)
  have H35 := Lib.hid (HL4.out.q.go HNA.out.bl)
  have HG5 : Hid (g < w5.heap.size) := Lib.hid (by have := HL4.out.q.lt; have := HN.out.bl.size; omega)
  have H48 : Hid (((w5.alloc (.cells #[.int .u64 0, .int .u64 0, .int .u64 0, .int .u64 0, .int .u64 0, .int .u64 0, .int .u64 0, .int .u64 0, .bool false, .string ⟨#[]⟩, .string ⟨#[]⟩, .string ⟨#[]⟩, .slice none 0 0] 48)).setRow g #[.int .u64 shS2.o.ba, .int .u64 shS2.o.tp, .string shS2.o.d, .slice c1 c4 c7, .slice c2 c5 c8, .bool shS2.o.fin, .bool shS2.o.ft, .bool shS2.o.fa, .int .u64 shS2.cr, .int .u64 shS2.cd, .int .u64 shS2.wy, .bool shS2.rs, .bool shS2.td, .bool shS2.gn, .int .u64 shS2.i.rd, .slice c3 c6 c9, .int .u64 shS2.i.fin, .bool shS2.i.kn, .int .u64 shS2.wn, .int .u64 shS2.lm, .bool shS2.rz, .bool shS2.bk, .bool shS2.sp, .int .u64 shS2.sc, .bool shS2.st]).heap[w5.heap.size]? = some (.cells #[.int .u64 0, .int .u64 0, .int .u64 0, .int .u64 0, .int .u64 0, .int .u64 0, .int .u64 0, .int .u64 0, .bool false, .string ⟨#[]⟩, .string ⟨#[]⟩, .string ⟨#[]⟩, .slice none 0 0] 48 (0, 0))) := Lib.hid ((setRow_other (w5.alloc (.cells #[.int .u64 0, .int .u64 0, .int .u64 0, .int .u64 0, .int .u64 0, .int .u64 0, .int .u64 0, .int .u64 0, .bool false, .string ⟨#[]⟩, .string ⟨#[]⟩, .string ⟨#[]⟩, .slice none 0 0] 48)) _ _ _ (by have := HG5.out; omega)).trans (heap_alloc_new w5 _))
  have HL6 := Lib.hid (HL5.out.row (k := w5.heap.size) (.inr ⟨by have := HG5.out; omega, by have := HL4.out.bl.size; have := HN.out.bl.size; omega, fun hk => Nat.lt_irrefl _ (HN.out.r.ra.blk hk), fun hk => Nat.lt_irrefl _ (HN.out.r.rt.blk hk), fun hk => Nat.lt_irrefl _ (HN.out.r.rx.blk hk)⟩) #[.int .u64 shF.kind, .int .u64 shF.id, .int .u64 shF.off, .int .u64 shF.max, .int .u64 shF.code, .int .u64 shF.seq, .int .u64 shF.prior, .int .u64 shF.delay, .bool shF.fin, .string ⟨shF.data.toArray⟩, .string ⟨shF.cid.toArray⟩, .string ⟨shF.token.toArray⟩, .slice shF.set.a shF.set.n shF.set.c])
  have HF6 : Hid (FB (((w5.alloc (.cells #[.int .u64 0, .int .u64 0, .int .u64 0, .int .u64 0, .int .u64 0, .int .u64 0, .int .u64 0, .int .u64 0, .bool false, .string ⟨#[]⟩, .string ⟨#[]⟩, .string ⟨#[]⟩, .slice none 0 0] 48)).setRow g #[.int .u64 shS2.o.ba, .int .u64 shS2.o.tp, .string shS2.o.d, .slice c1 c4 c7, .slice c2 c5 c8, .bool shS2.o.fin, .bool shS2.o.ft, .bool shS2.o.fa, .int .u64 shS2.cr, .int .u64 shS2.cd, .int .u64 shS2.wy, .bool shS2.rs, .bool shS2.td, .bool shS2.gn, .int .u64 shS2.i.rd, .slice c3 c6 c9, .int .u64 shS2.i.fin, .bool shS2.i.kn, .int .u64 shS2.wn, .int .u64 shS2.lm, .bool shS2.rz, .bool shS2.bk, .bool shS2.sp, .int .u64 shS2.sc, .bool shS2.st]).setRow w5.heap.size #[.int .u64 shF.kind, .int .u64 shF.id, .int .u64 shF.off, .int .u64 shF.max, .int .u64 shF.code, .int .u64 shF.seq, .int .u64 shF.prior, .int .u64 shF.delay, .bool shF.fin, .string ⟨shF.data.toArray⟩, .string ⟨shF.cid.toArray⟩, .string ⟨shF.token.toArray⟩, .slice shF.set.a shF.set.n shF.set.c]) w5.heap.size shF) := Lib.hid (setRow_heap _ _ _ _ _ _ H48.out)
  go_upto_region 5 with (first | refine st35 rfl H35.out rfl rfl rfl (by rfl) ?_ | refine st48 rfl H48.out rfl rfl (by simp [Value.oneCell']) rfl rfl (by rfl) ?_)
  generalize World.setRow _ _ _ = W6 at HL6 HF6 ⊢
  clear HL5 H35 H48 HN HNA CX1 HL4
  have HTW := Lib.hid (HT.out.below HL6.out.bl HT.out.lt)
  go_wp2_with (refine ld35 rfl HL6.out.q rfl (by rfl) ?_)
  refine (CX2.out _ _ _ _ _ _ _ _ _ _ HTW.out HL6.out.r).mono ?_
  rintro e w7 ⟨d1, d4, d7, d2, d5, d8, d3, d6, d9, rfl, hn⟩
  have HN := Lib.hid hn
  clear hn HTW
  have HL7 := Lib.hid (HL6.out.go HN.out.bl)
  have HF7 := Lib.hid (HF6.out.go HN.out.bl)
  have HA2 : Hid (Below w7.heap.size w7 ((w7.alloc (.cells #[.int .u64 0, .int .u64 0, .string ⟨#[]⟩, .slice none 0 0, .slice none 0 0, .bool false, .bool false, .bool false, .int .u64 0, .int .u64 0, .int .u64 0, .bool false, .bool false, .bool false, .int .u64 0, .slice none 0 0, .int .u64 0, .bool false, .int .u64 0, .int .u64 0, .bool false, .bool false, .bool false, .int .u64 0, .bool false] 35)).alloc (.cells #[.int .u64 0, .int .u64 0, .int .u64 0, .int .u64 0, .int .u64 0, .int .u64 0, .int .u64 0, .int .u64 0, .bool false, .string ⟨#[]⟩, .string ⟨#[]⟩, .string ⟨#[]⟩, .slice none 0 0] 48))) := Lib.hid (((Below.refl w7.heap.size w7).alloc (Nat.le_refl _) _).alloc (by simp) _)
  have HL8 := Lib.hid (HL7.out.go HA2.out)
  have HF8 := Lib.hid (HF7.out.go HA2.out)
  have H35 : Hid (((w7.alloc (.cells #[.int .u64 0, .int .u64 0, .string ⟨#[]⟩, .slice none 0 0, .slice none 0 0, .bool false, .bool false, .bool false, .int .u64 0, .int .u64 0, .int .u64 0, .bool false, .bool false, .bool false, .int .u64 0, .slice none 0 0, .int .u64 0, .bool false, .int .u64 0, .int .u64 0, .bool false, .bool false, .bool false, .int .u64 0, .bool false] 35)).alloc (.cells #[.int .u64 0, .int .u64 0, .int .u64 0, .int .u64 0, .int .u64 0, .int .u64 0, .int .u64 0, .int .u64 0, .bool false, .string ⟨#[]⟩, .string ⟨#[]⟩, .string ⟨#[]⟩, .slice none 0 0] 48)).heap[w7.heap.size]? = some (.cells #[.int .u64 0, .int .u64 0, .string ⟨#[]⟩, .slice none 0 0, .slice none 0 0, .bool false, .bool false, .bool false, .int .u64 0, .int .u64 0, .int .u64 0, .bool false, .bool false, .bool false, .int .u64 0, .slice none 0 0, .int .u64 0, .bool false, .int .u64 0, .int .u64 0, .bool false, .bool false, .bool false, .int .u64 0, .bool false] 35 (0, 0))) := Lib.hid ((Lib.alloc_old _ _ _ (by simp)).trans (zb_made w7))
  have H48 : Hid ((((w7.alloc (.cells #[.int .u64 0, .int .u64 0, .string ⟨#[]⟩, .slice none 0 0, .slice none 0 0, .bool false, .bool false, .bool false, .int .u64 0, .int .u64 0, .int .u64 0, .bool false, .bool false, .bool false, .int .u64 0, .slice none 0 0, .int .u64 0, .bool false, .int .u64 0, .int .u64 0, .bool false, .bool false, .bool false, .int .u64 0, .bool false] 35)).alloc (.cells #[.int .u64 0, .int .u64 0, .int .u64 0, .int .u64 0, .int .u64 0, .int .u64 0, .int .u64 0, .int .u64 0, .bool false, .string ⟨#[]⟩, .string ⟨#[]⟩, .string ⟨#[]⟩, .slice none 0 0] 48)).setRow w7.heap.size #[.int .u64 shS2.o.ba, .int .u64 shS2.o.tp, .string shS2.o.d, .slice d1 d4 d7, .slice d2 d5 d8, .bool shS2.o.fin, .bool shS2.o.ft, .bool shS2.o.fa, .int .u64 shS2.cr, .int .u64 shS2.cd, .int .u64 shS2.wy, .bool shS2.rs, .bool shS2.td, .bool shS2.gn, .int .u64 shS2.i.rd, .slice d3 d6 d9, .int .u64 shS2.i.fin, .bool shS2.i.kn, .int .u64 shS2.wn, .int .u64 shS2.lm, .bool shS2.rz, .bool shS2.bk, .bool shS2.sp, .int .u64 shS2.sc, .bool shS2.st]).heap[w7.heap.size + 1]? = some (.cells #[.int .u64 0, .int .u64 0, .int .u64 0, .int .u64 0, .int .u64 0, .int .u64 0, .int .u64 0, .int .u64 0, .bool false, .string ⟨#[]⟩, .string ⟨#[]⟩, .string ⟨#[]⟩, .slice none 0 0] 48 (0, 0))) := Lib.hid ((setRow_other ((w7.alloc (.cells #[.int .u64 0, .int .u64 0, .string ⟨#[]⟩, .slice none 0 0, .slice none 0 0, .bool false, .bool false, .bool false, .int .u64 0, .int .u64 0, .int .u64 0, .bool false, .bool false, .bool false, .int .u64 0, .slice none 0 0, .int .u64 0, .bool false, .int .u64 0, .int .u64 0, .bool false, .bool false, .bool false, .int .u64 0, .bool false] 35)).alloc (.cells #[.int .u64 0, .int .u64 0, .int .u64 0, .int .u64 0, .int .u64 0, .int .u64 0, .int .u64 0, .int .u64 0, .bool false, .string ⟨#[]⟩, .string ⟨#[]⟩, .string ⟨#[]⟩, .slice none 0 0] 48)) _ _ _ (by omega)).trans (by have h := heap_alloc_new (w7.alloc (.cells #[.int .u64 0, .int .u64 0, .string ⟨#[]⟩, .slice none 0 0, .slice none 0 0, .bool false, .bool false, .bool false, .int .u64 0, .int .u64 0, .int .u64 0, .bool false, .bool false, .bool false, .int .u64 0, .slice none 0 0, .int .u64 0, .bool false, .int .u64 0, .int .u64 0, .bool false, .bool false, .bool false, .int .u64 0, .bool false] 35)) (.cells #[.int .u64 0, .int .u64 0, .int .u64 0, .int .u64 0, .int .u64 0, .int .u64 0, .int .u64 0, .int .u64 0, .bool false, .string ⟨#[]⟩, .string ⟨#[]⟩, .string ⟨#[]⟩, .slice none 0 0] 48); rw [World.size_alloc] at h; exact h))
  have HGL := Lib.hid HL7.out.q.lt
  have HFL := Lib.hid HF7.out.lt
  have HL9 := Lib.hid (((HL8.out.row (k := w7.heap.size) (.inr ⟨by have := HGL.out; omega, HL7.out.bl.size, fun hk => Nat.lt_irrefl _ (HL7.out.r.ra.blk hk), fun hk => Nat.lt_irrefl _ (HL7.out.r.rt.blk hk), fun hk => Nat.lt_irrefl _ (HL7.out.r.rx.blk hk)⟩) #[.int .u64 shS2.o.ba, .int .u64 shS2.o.tp, .string shS2.o.d, .slice d1 d4 d7, .slice d2 d5 d8, .bool shS2.o.fin, .bool shS2.o.ft, .bool shS2.o.fa, .int .u64 shS2.cr, .int .u64 shS2.cd, .int .u64 shS2.wy, .bool shS2.rs, .bool shS2.td, .bool shS2.gn, .int .u64 shS2.i.rd, .slice d3 d6 d9, .int .u64 shS2.i.fin, .bool shS2.i.kn, .int .u64 shS2.wn, .int .u64 shS2.lm, .bool shS2.rz, .bool shS2.bk, .bool shS2.sp, .int .u64 shS2.sc, .bool shS2.st]).row (k := w7.heap.size + 1) (.inr ⟨by have := HGL.out; omega, by have := HL7.out.bl.size; omega, fun hk => by have := HL7.out.r.ra.blk hk; omega, fun hk => by have := HL7.out.r.rt.blk hk; omega, fun hk => by have := HL7.out.r.rx.blk hk; omega⟩) #[.int .u64 0, .int .u64 0, .int .u64 0, .int .u64 0, .int .u64 0, .int .u64 0, .int .u64 0, .int .u64 0, .bool false, .string ⟨#[]⟩, .string ⟨#[]⟩, .string ⟨#[]⟩, .slice none 0 0]))
  have HF9 := Lib.hid ((HF8.out.row (k := w7.heap.size) (by have := HFL.out; omega) #[.int .u64 shS2.o.ba, .int .u64 shS2.o.tp, .string shS2.o.d, .slice d1 d4 d7, .slice d2 d5 d8, .bool shS2.o.fin, .bool shS2.o.ft, .bool shS2.o.fa, .int .u64 shS2.cr, .int .u64 shS2.cd, .int .u64 shS2.wy, .bool shS2.rs, .bool shS2.td, .bool shS2.gn, .int .u64 shS2.i.rd, .slice d3 d6 d9, .int .u64 shS2.i.fin, .bool shS2.i.kn, .int .u64 shS2.wn, .int .u64 shS2.lm, .bool shS2.rz, .bool shS2.bk, .bool shS2.sp, .int .u64 shS2.sc, .bool shS2.st]).row (k := w7.heap.size + 1) (by have := HFL.out; omega) #[.int .u64 0, .int .u64 0, .int .u64 0, .int .u64 0, .int .u64 0, .int .u64 0, .int .u64 0, .int .u64 0, .bool false, .string ⟨#[]⟩, .string ⟨#[]⟩, .string ⟨#[]⟩, .slice none 0 0])
  go_upto_region 6 with (first | refine st35 rfl H35.out rfl rfl rfl (by rfl) ?_ | refine st48 rfl H48.out rfl rfl (fr_one 0 0 0 0 0 ⟨#[]⟩ false) rfl rfl (by rfl) ?_)
  generalize World.setRow _ _ _ = W9 at HL9 HF9 ⊢
  clear H35 H48 HN HA2 HL6 HL7 HL8 HF6 HF7 HF8 HGL HFL CX2
  go_wp2_with (refine ld35 rfl HL9.out.q rfl (by rfl) ?_)
  refine (CD1.out _ _ _ _ _ _ _ _ _ _ HL9.out.r).mono ?_
  rintro e wa ⟨T', ⟨e1, e4, e7, e2, e5, e8, e3, e6, e9, rfl, hn⟩, hg, _, hd⟩
  have HN := Lib.hid hn
  have HGT : Hid (Gt.GsG T' shS3.i) := Lib.hid hg
  have HX : Hid (T'.extract 0 3 = xyz) := Lib.hid (by
      have h := hd rfl shb2 (0, 2) (by decide) (by decide) (by decide) (fun k hk => ⟨by rw [shi2]; exact hk.1, by rw [shi2]; exact mem_nil k⟩)
      exact h.symm.trans (by rfl))
  clear hn hg hd
  have HLa := Lib.hid (HL9.out.next HN.out)
  have HFa : Hid (FB (wa.setRow g #[.int .u64 shS3.o.ba, .int .u64 shS3.o.tp, .string shS3.o.d, .slice e1 e4 e7, .slice e2 e5 e8, .bool shS3.o.fin, .bool shS3.o.ft, .bool shS3.o.fa, .int .u64 shS3.cr, .int .u64 shS3.cd, .int .u64 shS3.wy, .bool shS3.rs, .bool shS3.td, .bool shS3.gn, .int .u64 shS3.i.rd, .slice e3 e6 e9, .int .u64 shS3.i.fin, .bool shS3.i.kn, .int .u64 shS3.wn, .int .u64 shS3.lm, .bool shS3.rz, .bool shS3.bk, .bool shS3.sp, .int .u64 shS3.sc, .bool shS3.st]) w5.heap.size shF) := Lib.hid ((HF9.out.go HN.out.bl).row (by have := HG5.out; omega) _)
  have H35 := Lib.hid (HL9.out.q.go HN.out.bl)
  go_upto_region 7 with (refine st35 rfl H35.out rfl rfl rfl (by rfl) ?_)
  generalize World.setRow _ _ _ = Wa at HLa HFa ⊢
  clear H35 HN HL9 HF9 CD1
  have CD2T := Lib.hid (CD2.out T' HGT.out)
  have CRT := Lib.hid (CR.out T' HGT.out HX.out)
  clear CD2 CR HGT HX
  go_wp2_with (refine ld35 rfl HLa.out.q rfl (by rfl) ?_)
  refine (CD2T.out _ _ _ _ _ _ _ _ _ _ HLa.out.r).mono ?_
  rintro e wb ⟨T2, ⟨f1, f4, f7, f2, f5, f8, f3, f6, f9, rfl, hn⟩, _, _, _⟩
  have HN := Lib.hid hn
  clear hn
  have HLb := Lib.hid (HLa.out.go HN.out.bl)
  have HFb := Lib.hid (HFa.out.go HN.out.bl)
  have HA2 : Hid (Below wb.heap.size wb (wb.alloc (.cells #[.int .u64 0, .int .u64 0, .string ⟨#[]⟩, .slice none 0 0, .slice none 0 0, .bool false, .bool false, .bool false, .int .u64 0, .int .u64 0, .int .u64 0, .bool false, .bool false, .bool false, .int .u64 0, .slice none 0 0, .int .u64 0, .bool false, .int .u64 0, .int .u64 0, .bool false, .bool false, .bool false, .int .u64 0, .bool false] 35))) := Lib.hid ((Below.refl wb.heap.size wb).alloc (Nat.le_refl _) _)
  have HLc := Lib.hid ((HLb.out.go HA2.out).row (k := wb.heap.size) (.inr ⟨by have := HLb.out.q.lt; omega, HLb.out.bl.size, fun hk => Nat.lt_irrefl _ (HLb.out.r.ra.blk hk), fun hk => Nat.lt_irrefl _ (HLb.out.r.rt.blk hk), fun hk => Nat.lt_irrefl _ (HLb.out.r.rx.blk hk)⟩) #[.int .u64 shS3.o.ba, .int .u64 shS3.o.tp, .string shS3.o.d, .slice f1 f4 f7, .slice f2 f5 f8, .bool shS3.o.fin, .bool shS3.o.ft, .bool shS3.o.fa, .int .u64 shS3.cr, .int .u64 shS3.cd, .int .u64 shS3.wy, .bool shS3.rs, .bool shS3.td, .bool shS3.gn, .int .u64 shS3.i.rd, .slice f3 f6 f9, .int .u64 shS3.i.fin, .bool shS3.i.kn, .int .u64 shS3.wn, .int .u64 shS3.lm, .bool shS3.rz, .bool shS3.bk, .bool shS3.sp, .int .u64 shS3.sc, .bool shS3.st])
  have HFc := Lib.hid ((HFb.out.go HA2.out).row (k := wb.heap.size) (by have := HFb.out.lt; omega) #[.int .u64 shS3.o.ba, .int .u64 shS3.o.tp, .string shS3.o.d, .slice f1 f4 f7, .slice f2 f5 f8, .bool shS3.o.fin, .bool shS3.o.ft, .bool shS3.o.fa, .int .u64 shS3.cr, .int .u64 shS3.cd, .int .u64 shS3.wy, .bool shS3.rs, .bool shS3.td, .bool shS3.gn, .int .u64 shS3.i.rd, .slice f3 f6 f9, .int .u64 shS3.i.fin, .bool shS3.i.kn, .int .u64 shS3.wn, .int .u64 shS3.lm, .bool shS3.rz, .bool shS3.bk, .bool shS3.sp, .int .u64 shS3.sc, .bool shS3.st])
  go_upto_region 8 with (refine st35 rfl (zb_made wb) rfl rfl rfl (by rfl) ?_)
  generalize World.setRow _ _ _ = Wc at HLc HFc ⊢
  clear HA2 HN HLa HLb HFa HFb CD2T
  go_wp2_with (refine ld35 rfl HLc.out.q rfl (by rfl) ?_)
  refine (CRT.out _ _ _ _ _ _ _ _ _ _ HLc.out.r).mono ?_
  rintro e wd ⟨h1, h4, h7, h2, h5, h8, h3, h6, h9, rfl, hn⟩
  have HN := Lib.hid hn
  clear hn
  have HLb := Lib.hid (HLc.out.go HN.out.bl)
  have HFb := Lib.hid (HFc.out.go HN.out.bl)
  have HA2 : Hid (Below wd.heap.size wd (wd.alloc (.cells #[.int .u64 0, .int .u64 0, .string ⟨#[]⟩, .slice none 0 0, .slice none 0 0, .bool false, .bool false, .bool false, .int .u64 0, .int .u64 0, .int .u64 0, .bool false, .bool false, .bool false, .int .u64 0, .slice none 0 0, .int .u64 0, .bool false, .int .u64 0, .int .u64 0, .bool false, .bool false, .bool false, .int .u64 0, .bool false] 35))) := Lib.hid ((Below.refl wd.heap.size wd).alloc (Nat.le_refl _) _)
  have HLd := Lib.hid ((HLb.out.go HA2.out).row (k := wd.heap.size) (.inr ⟨by have := HLb.out.q.lt; omega, HLb.out.bl.size, fun hk => Nat.lt_irrefl _ (HLb.out.r.ra.blk hk), fun hk => Nat.lt_irrefl _ (HLb.out.r.rt.blk hk), fun hk => Nat.lt_irrefl _ (HLb.out.r.rx.blk hk)⟩) #[.int .u64 (readT shS3 5).o.ba, .int .u64 (readT shS3 5).o.tp, .string (readT shS3 5).o.d, .slice h1 h4 h7, .slice h2 h5 h8, .bool (readT shS3 5).o.fin, .bool (readT shS3 5).o.ft, .bool (readT shS3 5).o.fa, .int .u64 (readT shS3 5).cr, .int .u64 (readT shS3 5).cd, .int .u64 (readT shS3 5).wy, .bool (readT shS3 5).rs, .bool (readT shS3 5).td, .bool (readT shS3 5).gn, .int .u64 (readT shS3 5).i.rd, .slice h3 h6 h9, .int .u64 (readT shS3 5).i.fin, .bool (readT shS3 5).i.kn, .int .u64 (readT shS3 5).wn, .int .u64 (readT shS3 5).lm, .bool (readT shS3 5).rz, .bool (readT shS3 5).bk, .bool (readT shS3 5).sp, .int .u64 (readT shS3 5).sc, .bool (readT shS3 5).st])
  have HFd := Lib.hid ((HFb.out.go HA2.out).row (k := wd.heap.size) (by have := HFb.out.lt; omega) #[.int .u64 (readT shS3 5).o.ba, .int .u64 (readT shS3 5).o.tp, .string (readT shS3 5).o.d, .slice h1 h4 h7, .slice h2 h5 h8, .bool (readT shS3 5).o.fin, .bool (readT shS3 5).o.ft, .bool (readT shS3 5).o.fa, .int .u64 (readT shS3 5).cr, .int .u64 (readT shS3 5).cd, .int .u64 (readT shS3 5).wy, .bool (readT shS3 5).rs, .bool (readT shS3 5).td, .bool (readT shS3 5).gn, .int .u64 (readT shS3 5).i.rd, .slice h3 h6 h9, .int .u64 (readT shS3 5).i.fin, .bool (readT shS3 5).i.kn, .int .u64 (readT shS3 5).wn, .int .u64 (readT shS3 5).lm, .bool (readT shS3 5).rz, .bool (readT shS3 5).bk, .bool (readT shS3 5).sp, .int .u64 (readT shS3 5).sc, .bool (readT shS3 5).st])
  go_upto_region 9 with (refine st35 rfl (zb_made wd) rfl rfl rfl (by rfl) ?_)
  generalize World.setRow _ _ _ = Wd at HLd HFd ⊢
  clear HA2 HN HLb HFb HLc HFc CRT
  have g9 : Wd.cell? ⟨w5.heap.size, 9, none⟩ = some (.string ⟨#[97, 98]⟩) := HFd.out.c9
  have HBL := Lib.hid HLd.out.bl
  go_wp2_with fail
  go_ret
  exact ⟨rfl, HBL.out⟩
end Go.Proofs.YtoblmhpjendbfaaGreatDoor.Rg
namespace Go.Proofs.YtoblmhpjendbfaaGreatDoor.Rg
set_option maxRecDepth 20000
open Go.RowKit Go.Shelf
set_option linter.unusedVariables false
set_option linter.unusedSimpArgs false

/-- The places from 0 on. -/
def fr0 (n : Int) : List Ran := if n ≤ 0 then [] else [(0, n - 1)]
theorem unL_fr0 (n : Int) : unL [] (spn 0 n) = fr0 n := by
  unfold unL spn fr0
  by_cases h : n ≤ 0
  · rw [if_pos h, if_pos h, if_neg (by decide)]
  · rw [if_neg h, if_neg h, if_pos (by show (0 : Int) ≤ n - 1; omega)]
    rfl
def gz : Gt.GS := ⟨0, [], 0, false⟩
theorem gz_rf {n : Int} (h : 0 ≤ n) (f : Bool) : Gt.rfS gz f n = 0 := by
  unfold Gt.rfS
  rw [if_neg]
  rintro (⟨h1, _⟩ | ⟨_, h2⟩)
  · cases h1
  · have : Gt.hiS gz = 0 := rfl
    omega
theorem gz_put {n : Int} (h : 0 ≤ n) (f : Bool) : Gt.putS gz 0 n f = ⟨0, fr0 n, if f then n else 0, f⟩ := by
  rw [Gt.putS_yes (gz_rf h f)]
  show (⟨0, unL [] (spn (max 0 0) n), if f then n else 0, false || f⟩ : Gt.GS) = _
  rw [show max (0 : Int) 0 = 0 from rfl, unL_fr0, Bool.false_or]
theorem fr0_rdy {n F : Int} (h : 0 ≤ n) (kn : Bool) : Gt.rdy ⟨0, fr0 n, F, kn⟩ = n := by
  unfold Gt.rdy fr0
  by_cases h0 : n ≤ 0
  · rw [if_pos h0]; simp only; omega
  · rw [if_neg h0]; simp only [if_true]; omega
theorem fr0_take {n F k : Int} (kn : Bool) (h0 : 0 ≤ k) (h1 : k ≤ n) : Gt.rdy (Gt.takeS ⟨0, fr0 n, F, kn⟩ k) = n - k := by
  have hr := fr0_rdy (F := F) (by omega : 0 ≤ n) kn
  unfold Gt.takeS
  by_cases hn : n ≤ 0
  · have e : Gt.dropL ⟨0, fr0 n, F, kn⟩ k = [] := by unfold Gt.dropL fr0; rw [if_pos hn]
    rw [e]
    show (0 : Int) = n - k
    omega
  · have hl : (⟨0, fr0 n, F, kn⟩ : Gt.GS).l = (0, n - 1) :: [] := by show fr0 n = _; unfold fr0; rw [if_neg hn]
    by_cases hk : k = 0
    · subst hk
      rw [Gt.dropL_zero, hl]
      show (if (0 : Int) = 0 + 0 then n - 1 + 1 - 0 else 0) = n - 0
      rw [if_pos (by omega)]; omega
    · by_cases hq : k = n
      · rw [Gt.dropL_all hl hk (by rw [hr]; exact hq)]
        show (0 : Int) = n - k
        omega
      · rw [Gt.dropL_some hl hk (by rw [hr]; exact hq)]
        show (if (0 : Int) + k = 0 + k then n - 1 + 1 - (0 + k) else 0) = n - k
        rw [if_pos rfl]; omega
theorem fr0_hi {n : Int} (h : 0 ≤ n) (f : Bool) : Gt.hiS ⟨0, fr0 n, if f then n else 0, f⟩ = n := by
  cases f with
  | true => exact Gt.hiS_kn rfl
  | false =>
    unfold Gt.hiS
    rw [if_neg (by show ¬ (false = true); decide)]
    by_cases hn : n ≤ 0
    · have e : fr0 n = [] := by unfold fr0; rw [if_pos hn]
      simp only [e, if_true]; omega
    · have e : fr0 n = [(0, n - 1)] := by unfold fr0; rw [if_neg hn]
      simp only [e]
      show n - 1 + 1 = n
      omega
theorem fr0_len (n : Int) : (fr0 n).length ≤ 1 := by unfold fr0; split <;> simp
/-- The states of the law. -/
def brS1 (n : Int) (f : Bool) : TS := { newT 0 1000 with i := ⟨0, fr0 n, if f then n else 0, f⟩ }
def brS2 (n k : Int) (f : Bool) : TS := { newT 0 1000 with i := Gt.takeS ⟨0, fr0 n, if f then n else 0, f⟩ k }
theorem br_data {n : Int} (h : 0 ≤ n) (h1 : n ≤ 200) (f : Bool) : dataT (newT 0 1000) 0 n f = (brS1 n f, n, 0) := by
  unfold dataT
  rw [if_neg (by show ¬ (1000 : Int) < n; omega)]
  rw [show (newT 0 1000).i = gz from rfl, if_pos (gz_rf h f), if_neg (by show ¬ (false = true); decide), gz_put h f, fr0_hi h f, show Gt.hiS gz = 0 from rfl, Int.sub_zero]
  rfl
theorem br_tk {n k : Int} (h0 : 0 ≤ k) (h1 : k ≤ n) (f : Bool) : Gt.tk (brS1 n f).i k = k := by
  show min (max k 0) (Gt.rdy ⟨0, fr0 n, if f then n else 0, f⟩) = k
  rw [fr0_rdy (by omega)]
  omega
theorem br_read {n k : Int} (h0 : 0 ≤ k) (h1 : k ≤ n) (h2 : n ≤ 200) (f : Bool) : readT (brS1 n f) k = brS2 n k f := by
  unfold readT
  rw [if_neg (by show ¬ false = true; decide), br_tk h0 h1]
  unfold raiseT
  rw [if_neg]
  · rfl
  · rintro ⟨_, h3⟩
    have h4 : (1000 : Int) - (0 + k) < 1000 / 2 := h3
    omega
theorem br_whole {n k : Int} (h0 : 0 ≤ k) (h1 : k ≤ n) (f : Bool) : wholeB (brS2 n k f) = f := by
  unfold wholeB
  show (f && decide ((if f then n else 0) = 0 + k + Gt.rdy (Gt.takeS ⟨0, fr0 n, if f then n else 0, f⟩ k))) = f
  rw [fr0_take f h0 h1]
  cases f with
  | true => simp; omega
  | false => rfl
theorem br_g1 {n : Int} {f : Bool} (h0 : 0 ≤ n) {T : ByteArray} (h : Gt.GsG T (brS1 n f).i) {k : Int} (hk : 0 ≤ k) (h1 : k ≤ n) : Gt.GsG T (brS2 n k f).i := by
  have := Gt.take_gsg h k
  rw [br_tk hk h1] at this
  exact this
theorem br_hi {n k : Int} {T : ByteArray} {f : Bool} (h0 : 0 ≤ k) (h1 : k ≤ n) (h : Gt.GsG T (brS1 n f).i) : Gt.hiS (brS2 n k f).i = n := by
  have := Gt.hi_take h k
  rw [br_tk h0 h1] at this
  exact this.trans (fr0_hi (by omega) f)
theorem br_len (n k : Int) (f : Bool) : (brS2 n k f).i.l.length ≤ 1 := Nat.le_trans (Gt.take_len ⟨0, fr0 n, if f then n else 0, f⟩ k) (fr0_len n)
/-- What Break tells: the end was told ahead, and is not the Reset's. -/
theorem br_no {n k m : Int} {T : ByteArray} (h0 : 0 ≤ k) (h1 : k ≤ n) (hm : n < m) (hm2 : m ≤ 1000) : breakT (brS2 n k true) m 9 = (brS2 n k true, 0, 140) := by
  unfold breakT
  rw [if_neg (by show ¬ (1000 : Int) < m; omega), if_neg]
  intro h
  exact (Gt.rf_not h).1 ⟨rfl, by show (if true = true then n else 0) < m; rw [if_pos rfl]; exact hm⟩
theorem br_same {n k : Int} {T : ByteArray} (h : Gt.GsG T (brS1 n true).i) (h0 : 0 ≤ k) (h1 : k ≤ n) (hm2 : n ≤ 1000) : breakT (brS2 n k true) n 9 = (brS2 n k true, 0, 0) := by
  unfold breakT
  rw [if_neg (by show ¬ (1000 : Int) < n; omega), if_pos, if_pos ⟨rfl, br_whole h0 h1 true⟩]
  unfold Gt.rfS
  rw [if_neg]
  rintro (⟨_, h2⟩ | ⟨_, h2⟩)
  · have h3 : (if true = true then n else 0) < n := h2
    rw [if_pos rfl] at h3; omega
  · rw [br_hi h0 h1 h] at h2; omega
def brS3 (n k m : Int) : TS := offT { brS2 n k false with i := Gt.putS (brS2 n k false).i m m true } 9
theorem br_off {n k m : Int} {T : ByteArray} (h : Gt.GsG T (brS1 n false).i) (h0 : 0 ≤ k) (h1 : k ≤ n) (hm : n ≤ m) (hm2 : m ≤ 1000) : breakT (brS2 n k false) m 9 = (brS3 n k m, m - n, 0) := by
  have hr : Gt.rfS (brS2 n k false).i true m = 0 := by
    unfold Gt.rfS
    rw [if_neg]
    rintro (⟨h2, _⟩ | ⟨_, h2⟩)
    · cases h2
    · rw [br_hi h0 h1 h] at h2; omega
  have hp : Gt.hiS (Gt.putS (brS2 n k false).i m m true) = m := by
    rw [Gt.putS_yes hr]
    exact Gt.hiS_kn (by simp)
  unfold breakT
  rw [if_neg (by show ¬ (1000 : Int) < m; omega), if_pos hr, if_neg (by rw [br_whole h0 h1]; simp), hp, br_hi h0 h1 h]
  rfl
/-- The bytes that are read. -/
theorem br_text {X T : ByteArray} {k : Int} (h0 : 0 ≤ k) (h1 : k ≤ (X.size : Int)) (h : ∀ r : Ran, 0 ≤ r.1 → r.1 ≤ r.2 → r.2 < 0 + (X.size : Int) → X.extract (r.1 - 0).toNat (r.2 - 0 + 1).toNat = Gt.bt T r) : T.extract 0 k.toNat = X.extract 0 k.toNat := by
  by_cases hk : k = 0
  · subst hk
    apply ByteArray.ext
    rw [Gt.data_extract, Gt.data_extract]
    apply Array.ext
    · simp
    · intro i hi; simp at hi
  · have := h (0, k - 1) (Int.le_refl 0) (by show 0 ≤ k - 1; omega) (by show k - 1 < 0 + (X.size : Int); omega)
    have e : (k - 1 - 0 + 1).toNat = k.toNat := by omega
    have e2 : (k - 1 + 1).toNat = k.toNat := by omega
    unfold Gt.bt at this
    simp only at this
    rw [e, e2] at this
    exact this.symm
set_option maxHeartbeats 4000000 in
theorem held_none (rd fin : Int) (kn : Bool) (a : Option Addr) (c : Nat) (w : World) :
    Calls Tryz.prog 43 #[.agg #[.int .u64 rd, .slice a 0 c, .int .u64 fin, .bool kn]] w fun e w' => e = .returned (.int .i64 0) ∧ Below w.heap.size w w' := by
  go_enter Tryz.func43, Tryz.ntmps43
  go_wp2_with fail
  refine wp_loop_rounds 1 ?_
  rw [rounds_succ]
  go_wp2_with fail
  go_ret
  exact ⟨rfl, (Below.refl _ _).alloc (Nat.le_refl _) _⟩
end Go.Proofs.YtoblmhpjendbfaaGreatDoor.Rg
