/- Layer 16: a stream's small methods -/
import Derived.Test.YtoblmhpjendbfaaGreatDoorJb31
namespace Go.Proofs.YtoblmhpjendbfaaGreatDoor.Rg
set_option maxRecDepth 20000
open Go.RowKit Go.Shelf
set_option linter.unusedVariables false
set_option linter.unusedSimpArgs false

set_option maxHeartbeats 4000000 in
theorem whole_any (s : TS) (T : ByteArray) (a1 : Option Addr) (n1 c1 : Nat) (a2 : Option Addr) (n2 c2 : Nat) (a3 : Option Addr) (n3 c3 : Nat) (w : World) (hg : Gt.GsG T s.i) (hL : s.i.l.length ≤ 900) (h : TR w (.slice a1 n1 c1) (.slice a2 n2 c2) (.slice a3 n3 c3) T s) :
    Calls Tryz.prog 55 #[.agg #[.int .u64 s.o.ba, .int .u64 s.o.tp, .string s.o.d, .slice a1 n1 c1, .slice a2 n2 c2, .bool s.o.fin, .bool s.o.ft, .bool s.o.fa, .int .u64 s.cr, .int .u64 s.cd, .int .u64 s.wy, .bool s.rs, .bool s.td, .bool s.gn, .int .u64 s.i.rd, .slice a3 n3 c3, .int .u64 s.i.fin, .bool s.i.kn, .int .u64 s.wn, .int .u64 s.lm, .bool s.rz, .bool s.bk, .bool s.sp, .int .u64 s.sc, .bool s.st]] w fun e w' => e = .returned (.bool (wholeB s)) ∧ Below w.heap.size w w' := by
  have CR := Lib.hid (fun W (hr : Gt.RowG W (.slice a3 n3 c3) T s.i.l) => Gt.Ready_any T s.i a3 n3 c3 W hg.ok hg.t hL hr)
  have HB0 := Lib.hid ((Below.refl w.heap.size w).alloc (Nat.le_refl _) (.cells #[.int .u64 s.o.ba, .int .u64 s.o.tp, .string s.o.d, .slice a1 n1 c1, .slice a2 n2 c2, .bool s.o.fin, .bool s.o.ft, .bool s.o.fa, .int .u64 s.cr, .int .u64 s.cd, .int .u64 s.wy, .bool s.rs, .bool s.td, .bool s.gn, .int .u64 s.i.rd, .slice a3 n3 c3, .int .u64 s.i.fin, .bool s.i.kn, .int .u64 s.wn, .int .u64 s.lm, .bool s.rz, .bool s.bk, .bool s.sp, .int .u64 s.sc, .bool s.st] 35))
  have HX0 := Lib.hid (h.rx.go HB0.out)
  have HW : Hid (wholeB s = (s.i.kn && decide (s.i.fin = s.i.rd + Gt.rdy s.i))) := Lib.hid rfl
  clear h hg hL
  rw [HW.out]
  go_enter Tryz.func55, Tryz.ntmps55
  go_wp2_with fail
  refine (CR.out _ HX0.out).mono ?_
  rintro e w1 ⟨rfl, hb⟩
  have HB1 := Lib.hid (nextG HB0.out hb)
  clear hb
  go_wp2_with fail
  go_ret
  exact ⟨rfl, HB1.out⟩
set_option maxHeartbeats 4000000 in
theorem raise_any {m : Nat} (s : TS) (T : ByteArray) (a1 : Option Addr) (n1 c1 : Nat) (a2 : Option Addr) (n2 c2 : Nat) (a3 : Option Addr) (n3 c3 : Nat) (w : World) (h1 : s.i.rd ≤ s.lm) (h2 : 0 ≤ s.i.rd) (h3 : s.lm < 4611686018427387904) (h4 : 0 ≤ s.wn) (h5 : s.wn < 4611686018427387904) (h : TR w (.slice a1 n1 c1) (.slice a2 n2 c2) (.slice a3 n3 c3) T s) (fu : ∀ k, Blk (.slice a1 n1 c1) k → m ≤ k) (fv : ∀ k, Blk (.slice a2 n2 c2) k → m ≤ k) (fx : ∀ k, Blk (.slice a3 n3 c3) k → m ≤ k) :
    Calls Tryz.prog 63 #[.agg #[.int .u64 s.o.ba, .int .u64 s.o.tp, .string s.o.d, .slice a1 n1 c1, .slice a2 n2 c2, .bool s.o.fin, .bool s.o.ft, .bool s.o.fa, .int .u64 s.cr, .int .u64 s.cd, .int .u64 s.wy, .bool s.rs, .bool s.td, .bool s.gn, .int .u64 s.i.rd, .slice a3 n3 c3, .int .u64 s.i.fin, .bool s.i.kn, .int .u64 s.wn, .int .u64 s.lm, .bool s.rz, .bool s.bk, .bool s.sp, .int .u64 s.sc, .bool s.st]] w (GvT m w T (raiseT s)) := by
  have v1 : IntKind.u64.wrap (s.lm - s.i.rd) = s.lm - s.i.rd := IntWalk.u64_in _ (by omega)
  have v2 : IntKind.u64.wrap (s.i.rd + s.wn) = s.i.rd + s.wn := IntWalk.u64_in _ (by omega)
  have v3 : s.wn.tdiv 2 = s.wn / 2 := Int.tdiv_eq_ediv_of_nonneg h4
  have v4 : IntKind.u64.wrap (s.wn / 2) = s.wn / 2 := IntWalk.u64_in _ (by omega)
  clear h1 h2 h3 h4 h5
  obtain ⟨R, hR⟩ : ∃ R, raiseT s = R := ⟨_, rfl⟩
  rw [hR]
  have HR := Lib.hid hR
  clear hR
  have HF0 : Hid (FT m w ((w.alloc (.cells #[.int .u64 s.o.ba, .int .u64 s.o.tp, .string s.o.d, .slice a1 n1 c1, .slice a2 n2 c2, .bool s.o.fin, .bool s.o.ft, .bool s.o.fa, .int .u64 s.cr, .int .u64 s.cd, .int .u64 s.wy, .bool s.rs, .bool s.td, .bool s.gn, .int .u64 s.i.rd, .slice a3 n3 c3, .int .u64 s.i.fin, .bool s.i.kn, .int .u64 s.wn, .int .u64 s.lm, .bool s.rz, .bool s.bk, .bool s.sp, .int .u64 s.sc, .bool s.st] 35)).alloc (.cells #[.int .u64 0, .int .u64 0, .string ⟨#[]⟩, .slice none 0 0, .slice none 0 0, .bool false, .bool false, .bool false, .int .u64 0, .int .u64 0, .int .u64 0, .bool false, .bool false, .bool false, .int .u64 0, .slice none 0 0, .int .u64 0, .bool false, .int .u64 0, .int .u64 0, .bool false, .bool false, .bool false, .int .u64 0, .bool false] 35)) w.heap.size (w.heap.size + 1) (.slice a1 n1 c1) (.slice a2 n2 c2) (.slice a3 n3 c3) T s) := Lib.hid (ft_made1 w a1 n1 c1 a2 n2 c2 a3 n3 c3 T s h fu fv fx)
  clear h fu fv fx
  go_enter Tryz.func63, Tryz.ntmps63
  go_upto_region 1 with (fail)
  generalize ((w.alloc (.cells #[.int .u64 s.o.ba, .int .u64 s.o.tp, .string s.o.d, .slice a1 n1 c1, .slice a2 n2 c2, .bool s.o.fin, .bool s.o.ft, .bool s.o.fa, .int .u64 s.cr, .int .u64 s.cd, .int .u64 s.wy, .bool s.rs, .bool s.td, .bool s.gn, .int .u64 s.i.rd, .slice a3 n3 c3, .int .u64 s.i.fin, .bool s.i.kn, .int .u64 s.wn, .int .u64 s.lm, .bool s.rz, .bool s.bk, .bool s.sp, .int .u64 s.sc, .bool s.st] 35)).alloc (.cells #[.int .u64 0, .int .u64 0, .string ⟨#[]⟩, .slice none 0 0, .slice none 0 0, .bool false, .bool false, .bool false, .int .u64 0, .int .u64 0, .int .u64 0, .bool false, .bool false, .bool false, .int .u64 0, .slice none 0 0, .int .u64 0, .bool false, .int .u64 0, .int .u64 0, .bool false, .bool false, .bool false, .int .u64 0, .bool false] 35)) = W0 at HF0 ⊢
  have z14 := HF0.out.q.c14
  have z17 := HF0.out.q.c17
  have z18 := HF0.out.q.c18
  have z19 := HF0.out.q.c19
  by_cases hk : s.i.kn = true
  · obtain rfl : s = R := by rw [← HR.out]; unfold raiseT; rw [if_neg (fun hc => by rw [hk] at hc; cases hc.1)]
    clear HR
    rw [hk] at z17
    replace hk := Lib.hid hk
    go_upto_region 3 with (fail)
    refine wp_region_lit ?_
    refine wpList_load_row rfl _ _ rfl w.heap.size rfl _ _ _ _ HF0.out.q Tryz.underlying35 rfl infT ?_
    refine wpList_store_row rfl _ _ _ rfl (w.heap.size + 1) _ rfl rfl _ _ HF0.out.z infT rfl (one_ts _ _ _ _ _ _ _ _ _ _) ?_
    have HE := Lib.hid HF0.out.end
    generalize World.setRow _ _ _ = WW at HE ⊢
    go_wp2
    exact bodyPost_ret (results_ts Tryz.results63 _ (w.heap.size + 1) (.slice a1 n1 c1) (.slice a2 n2 c2) (.slice a3 n3 c3) s _ rfl HE.out.1) rfl ⟨_, _, _, _, _, _, _, _, _, rfl, HE.out.2⟩
  · have hk' : s.i.kn = false := by simpa using hk
    rw [hk'] at z17
    by_cases hc : s.lm - s.i.rd < s.wn / 2
    · obtain rfl : { s with lm := s.i.rd + s.wn, rz := true } = R := by rw [← HR.out]; unfold raiseT; rw [if_pos ⟨hk', hc⟩]
      clear HR
      have d1 : decide (s.lm - s.i.rd < s.wn / 2) = true := decide_eq_true hc
      clear hk
      replace hk' := Lib.hid hk'
      replace hc := Lib.hid hc
      have z20 := HF0.out.q.c20
      have zf := HF0.out.q.fz
      have HF1 := Lib.hid ((HF0.out.s19 (s.i.rd + s.wn)).s20 true)
      go_upto_region 3 with (fail)
      generalize World.setCell _ _ _ = WX3 at HF1 ⊢
      refine wp_region_lit ?_
      refine wpList_load_row rfl _ _ rfl w.heap.size rfl _ _ _ _ HF1.out.q Tryz.underlying35 rfl infT ?_
      refine wpList_store_row rfl _ _ _ rfl (w.heap.size + 1) _ rfl rfl _ _ HF1.out.z infT rfl (one_ts _ _ _ _ _ _ _ _ _ _) ?_
      have HE := Lib.hid HF1.out.end
      generalize World.setRow _ _ _ = WW at HE ⊢
      go_wp2
      exact bodyPost_ret (results_ts Tryz.results63 _ (w.heap.size + 1) (.slice a1 n1 c1) (.slice a2 n2 c2) (.slice a3 n3 c3) { s with lm := s.i.rd + s.wn, rz := true } _ rfl HE.out.1) rfl ⟨_, _, _, _, _, _, _, _, _, rfl, HE.out.2⟩
    · obtain rfl : s = R := by rw [← HR.out]; unfold raiseT; rw [if_neg (fun h => hc h.2)]
      clear HR
      have d1 : decide (s.lm - s.i.rd < s.wn / 2) = false := decide_eq_false hc
      clear hk
      replace hk' := Lib.hid hk'
      replace hc := Lib.hid hc
      go_upto_region 3 with (fail)
      refine wp_region_lit ?_
      refine wpList_load_row rfl _ _ rfl w.heap.size rfl _ _ _ _ HF0.out.q Tryz.underlying35 rfl infT ?_
      refine wpList_store_row rfl _ _ _ rfl (w.heap.size + 1) _ rfl rfl _ _ HF0.out.z infT rfl (one_ts _ _ _ _ _ _ _ _ _ _) ?_
      have HE := Lib.hid HF0.out.end
      generalize World.setRow _ _ _ = WW at HE ⊢
      go_wp2
      exact bodyPost_ret (results_ts Tryz.results63 _ (w.heap.size + 1) (.slice a1 n1 c1) (.slice a2 n2 c2) (.slice a3 n3 c3) s _ rfl HE.out.1) rfl ⟨_, _, _, _, _, _, _, _, _, rfl, HE.out.2⟩
set_option maxHeartbeats 4000000 in
theorem off_any {m : Nat} (s : TS) (T : ByteArray) (a1 : Option Addr) (n1 c1 : Nat) (a2 : Option Addr) (n2 c2 : Nat) (a3 : Option Addr) (n3 c3 : Nat) (c : Int) (w : World) (h : TR w (.slice a1 n1 c1) (.slice a2 n2 c2) (.slice a3 n3 c3) T s) (fu : ∀ k, Blk (.slice a1 n1 c1) k → m ≤ k) (fv : ∀ k, Blk (.slice a2 n2 c2) k → m ≤ k) (fx : ∀ k, Blk (.slice a3 n3 c3) k → m ≤ k) :
    Calls Tryz.prog 56 #[.agg #[.int .u64 s.o.ba, .int .u64 s.o.tp, .string s.o.d, .slice a1 n1 c1, .slice a2 n2 c2, .bool s.o.fin, .bool s.o.ft, .bool s.o.fa, .int .u64 s.cr, .int .u64 s.cd, .int .u64 s.wy, .bool s.rs, .bool s.td, .bool s.gn, .int .u64 s.i.rd, .slice a3 n3 c3, .int .u64 s.i.fin, .bool s.i.kn, .int .u64 s.wn, .int .u64 s.lm, .bool s.rz, .bool s.bk, .bool s.sp, .int .u64 s.sc, .bool s.st], .int .u64 c] w (GvT m w T (offT s c)) := by
  obtain ⟨R, hR⟩ : ∃ R, offT s c = R := ⟨_, rfl⟩
  rw [hR]
  have HR := Lib.hid hR
  clear hR
  have HF0 : Hid (FT m w ((w.alloc (.cells #[.int .u64 s.o.ba, .int .u64 s.o.tp, .string s.o.d, .slice a1 n1 c1, .slice a2 n2 c2, .bool s.o.fin, .bool s.o.ft, .bool s.o.fa, .int .u64 s.cr, .int .u64 s.cd, .int .u64 s.wy, .bool s.rs, .bool s.td, .bool s.gn, .int .u64 s.i.rd, .slice a3 n3 c3, .int .u64 s.i.fin, .bool s.i.kn, .int .u64 s.wn, .int .u64 s.lm, .bool s.rz, .bool s.bk, .bool s.sp, .int .u64 s.sc, .bool s.st] 35)).alloc (.cells #[.int .u64 0, .int .u64 0, .string ⟨#[]⟩, .slice none 0 0, .slice none 0 0, .bool false, .bool false, .bool false, .int .u64 0, .int .u64 0, .int .u64 0, .bool false, .bool false, .bool false, .int .u64 0, .slice none 0 0, .int .u64 0, .bool false, .int .u64 0, .int .u64 0, .bool false, .bool false, .bool false, .int .u64 0, .bool false] 35)) w.heap.size (w.heap.size + 1) (.slice a1 n1 c1) (.slice a2 n2 c2) (.slice a3 n3 c3) T s) := Lib.hid (ft_made1 w a1 n1 c1 a2 n2 c2 a3 n3 c3 T s h fu fv fx)
  clear h fu fv fx
  go_enter Tryz.func56, Tryz.ntmps56
  go_upto_region 1 with (fail)
  generalize ((w.alloc (.cells #[.int .u64 s.o.ba, .int .u64 s.o.tp, .string s.o.d, .slice a1 n1 c1, .slice a2 n2 c2, .bool s.o.fin, .bool s.o.ft, .bool s.o.fa, .int .u64 s.cr, .int .u64 s.cd, .int .u64 s.wy, .bool s.rs, .bool s.td, .bool s.gn, .int .u64 s.i.rd, .slice a3 n3 c3, .int .u64 s.i.fin, .bool s.i.kn, .int .u64 s.wn, .int .u64 s.lm, .bool s.rz, .bool s.bk, .bool s.sp, .int .u64 s.sc, .bool s.st] 35)).alloc (.cells #[.int .u64 0, .int .u64 0, .string ⟨#[]⟩, .slice none 0 0, .slice none 0 0, .bool false, .bool false, .bool false, .int .u64 0, .int .u64 0, .int .u64 0, .bool false, .bool false, .bool false, .int .u64 0, .slice none 0 0, .int .u64 0, .bool false, .int .u64 0, .int .u64 0, .bool false, .bool false, .bool false, .int .u64 0, .bool false] 35)) = W0 at HF0 ⊢
  have z21 := HF0.out.q.c21
  have z10 := HF0.out.q.c10
  have z15 := HF0.out.q.c15
  have zf := HF0.out.q.fz
  by_cases hk : s.bk = true
  · obtain rfl : { s with i := { s.i with l := [] } } = R := by rw [← HR.out]; unfold offT; rw [if_pos hk]; cases s; simp only at hk ⊢; rw [hk]
    clear HR
    rw [hk] at z21
    replace hk := Lib.hid hk
    have HF1 := Lib.hid (HF0.out.nilx)
    go_upto_region 4 with (fail)
    generalize World.setCell _ _ _ = WX4 at HF1 ⊢
    refine wp_region_lit ?_
    refine wpList_load_row rfl _ _ rfl w.heap.size rfl _ _ _ _ HF1.out.q Tryz.underlying35 rfl infT ?_
    refine wpList_store_row rfl _ _ _ rfl (w.heap.size + 1) _ rfl rfl _ _ HF1.out.z infT rfl (one_ts _ _ _ _ _ _ _ _ _ _) ?_
    have HE := Lib.hid HF1.out.end
    generalize World.setRow _ _ _ = WW at HE ⊢
    go_wp2
    exact bodyPost_ret (results_ts Tryz.results56 _ (w.heap.size + 1) (.slice a1 n1 c1) (.slice a2 n2 c2) (.slice none 0 0) { s with i := { s.i with l := [] } } _ rfl HE.out.1) rfl ⟨_, _, _, _, _, _, _, _, _, rfl, HE.out.2⟩
  · have hk' : s.bk = false := by simpa using hk
    obtain rfl : { s with bk := true, wy := c, i := { s.i with l := [] } } = R := by rw [← HR.out]; unfold offT; rw [if_neg hk]
    clear HR
    rw [hk'] at z21
    clear hk
    replace hk' := Lib.hid hk'
    have HF1 := Lib.hid (((HF0.out.s21 true).s10 c).nilx)
    go_upto_region 4 with (fail)
    generalize World.setCell _ _ _ = WX4 at HF1 ⊢
    refine wp_region_lit ?_
    refine wpList_load_row rfl _ _ rfl w.heap.size rfl _ _ _ _ HF1.out.q Tryz.underlying35 rfl infT ?_
    refine wpList_store_row rfl _ _ _ rfl (w.heap.size + 1) _ rfl rfl _ _ HF1.out.z infT rfl (one_ts _ _ _ _ _ _ _ _ _ _) ?_
    have HE := Lib.hid HF1.out.end
    generalize World.setRow _ _ _ = WW at HE ⊢
    go_wp2
    exact bodyPost_ret (results_ts Tryz.results56 _ (w.heap.size + 1) (.slice a1 n1 c1) (.slice a2 n2 c2) (.slice none 0 0) { s with bk := true, wy := c, i := { s.i with l := [] } } _ rfl HE.out.1) rfl ⟨_, _, _, _, _, _, _, _, _, rfl, HE.out.2⟩
set_option maxHeartbeats 4000000 in
theorem sentR_any {m : Nat} (s : TS) (T : ByteArray) (a1 : Option Addr) (n1 c1 : Nat) (a2 : Option Addr) (n2 c2 : Nat) (a3 : Option Addr) (n3 c3 : Nat) (f : Fm.Frm) (w : World)  (h : TR w (.slice a1 n1 c1) (.slice a2 n2 c2) (.slice a3 n3 c3) T s) (fu : ∀ k, Blk (.slice a1 n1 c1) k → m ≤ k) (fv : ∀ k, Blk (.slice a2 n2 c2) k → m ≤ k) (fx : ∀ k, Blk (.slice a3 n3 c3) k → m ≤ k) :
    Calls Tryz.prog 118 #[.agg #[.int .u64 s.o.ba, .int .u64 s.o.tp, .string s.o.d, .slice a1 n1 c1, .slice a2 n2 c2, .bool s.o.fin, .bool s.o.ft, .bool s.o.fa, .int .u64 s.cr, .int .u64 s.cd, .int .u64 s.wy, .bool s.rs, .bool s.td, .bool s.gn, .int .u64 s.i.rd, .slice a3 n3 c3, .int .u64 s.i.fin, .bool s.i.kn, .int .u64 s.wn, .int .u64 s.lm, .bool s.rz, .bool s.bk, .bool s.sp, .int .u64 s.sc, .bool s.st], .agg #[.int .u64 f.kind, .int .u64 f.id, .int .u64 f.off, .int .u64 f.max, .int .u64 f.code, .int .u64 f.seq, .int .u64 f.prior, .int .u64 f.delay, .bool f.fin, .string ⟨f.data.toArray⟩, .string ⟨f.cid.toArray⟩, .string ⟨f.token.toArray⟩, .slice f.set.a f.set.n f.set.c]] w (GvT m w T ({ s with td := false })) := by
  have HG0 := Lib.hid (ft_made2 (m := m) w a1 n1 c1 a2 n2 c2 a3 n3 c3 T s f h fu fv fx).2
  have HF0 : Hid (FT m w (((w.alloc (.cells #[.int .u64 s.o.ba, .int .u64 s.o.tp, .string s.o.d, .slice a1 n1 c1, .slice a2 n2 c2, .bool s.o.fin, .bool s.o.ft, .bool s.o.fa, .int .u64 s.cr, .int .u64 s.cd, .int .u64 s.wy, .bool s.rs, .bool s.td, .bool s.gn, .int .u64 s.i.rd, .slice a3 n3 c3, .int .u64 s.i.fin, .bool s.i.kn, .int .u64 s.wn, .int .u64 s.lm, .bool s.rz, .bool s.bk, .bool s.sp, .int .u64 s.sc, .bool s.st] 35)).alloc (.cells #[.int .u64 f.kind, .int .u64 f.id, .int .u64 f.off, .int .u64 f.max, .int .u64 f.code, .int .u64 f.seq, .int .u64 f.prior, .int .u64 f.delay, .bool f.fin, .string ⟨f.data.toArray⟩, .string ⟨f.cid.toArray⟩, .string ⟨f.token.toArray⟩, .slice f.set.a f.set.n f.set.c] 48)).alloc (.cells #[.int .u64 0, .int .u64 0, .string ⟨#[]⟩, .slice none 0 0, .slice none 0 0, .bool false, .bool false, .bool false, .int .u64 0, .int .u64 0, .int .u64 0, .bool false, .bool false, .bool false, .int .u64 0, .slice none 0 0, .int .u64 0, .bool false, .int .u64 0, .int .u64 0, .bool false, .bool false, .bool false, .int .u64 0, .bool false] 35)) w.heap.size (w.heap.size + 2) (.slice a1 n1 c1) (.slice a2 n2 c2) (.slice a3 n3 c3) T s) := Lib.hid (ft_made2 w a1 n1 c1 a2 n2 c2 a3 n3 c3 T s f h fu fv fx).1
  clear h fu fv fx
  go_enter Tryz.func118, Tryz.ntmps118
  go_upto_region 1 with (fail)
  generalize (((w.alloc (.cells #[.int .u64 s.o.ba, .int .u64 s.o.tp, .string s.o.d, .slice a1 n1 c1, .slice a2 n2 c2, .bool s.o.fin, .bool s.o.ft, .bool s.o.fa, .int .u64 s.cr, .int .u64 s.cd, .int .u64 s.wy, .bool s.rs, .bool s.td, .bool s.gn, .int .u64 s.i.rd, .slice a3 n3 c3, .int .u64 s.i.fin, .bool s.i.kn, .int .u64 s.wn, .int .u64 s.lm, .bool s.rz, .bool s.bk, .bool s.sp, .int .u64 s.sc, .bool s.st] 35)).alloc (.cells #[.int .u64 f.kind, .int .u64 f.id, .int .u64 f.off, .int .u64 f.max, .int .u64 f.code, .int .u64 f.seq, .int .u64 f.prior, .int .u64 f.delay, .bool f.fin, .string ⟨f.data.toArray⟩, .string ⟨f.cid.toArray⟩, .string ⟨f.token.toArray⟩, .slice f.set.a f.set.n f.set.c] 48)).alloc (.cells #[.int .u64 0, .int .u64 0, .string ⟨#[]⟩, .slice none 0 0, .slice none 0 0, .bool false, .bool false, .bool false, .int .u64 0, .int .u64 0, .int .u64 0, .bool false, .bool false, .bool false, .int .u64 0, .slice none 0 0, .int .u64 0, .bool false, .int .u64 0, .int .u64 0, .bool false, .bool false, .bool false, .int .u64 0, .bool false] 35)) = W0 at HF0 HG0 ⊢
  have z12 := HF0.out.q.c12
  have zf := HF0.out.q.fz
  have HF1 := Lib.hid (HF0.out.s12 false)
  go_upto_region 2 with (fail)
  generalize World.setCell _ _ _ = WX2 at HF1 ⊢
  refine wp_region_lit ?_
  refine wpList_load_row rfl _ _ rfl w.heap.size rfl _ _ _ _ HF1.out.q Tryz.underlying35 rfl infT ?_
  refine wpList_store_row rfl _ _ _ rfl (w.heap.size + 2) _ rfl rfl _ _ HF1.out.z infT rfl (one_ts _ _ _ _ _ _ _ _ _ _) ?_
  have HE := Lib.hid HF1.out.end
  generalize World.setRow _ _ _ = WW at HE ⊢
  go_wp2
  exact bodyPost_ret (results_ts Tryz.results118 _ (w.heap.size + 2) (.slice a1 n1 c1) (.slice a2 n2 c2) (.slice a3 n3 c3) { s with td := false } _ rfl HE.out.1) rfl ⟨_, _, _, _, _, _, _, _, _, rfl, HE.out.2⟩
set_option maxHeartbeats 4000000 in
theorem sentS_any {m : Nat} (s : TS) (T : ByteArray) (a1 : Option Addr) (n1 c1 : Nat) (a2 : Option Addr) (n2 c2 : Nat) (a3 : Option Addr) (n3 c3 : Nat) (f : Fm.Frm) (w : World)  (h : TR w (.slice a1 n1 c1) (.slice a2 n2 c2) (.slice a3 n3 c3) T s) (fu : ∀ k, Blk (.slice a1 n1 c1) k → m ≤ k) (fv : ∀ k, Blk (.slice a2 n2 c2) k → m ≤ k) (fx : ∀ k, Blk (.slice a3 n3 c3) k → m ≤ k) :
    Calls Tryz.prog 119 #[.agg #[.int .u64 s.o.ba, .int .u64 s.o.tp, .string s.o.d, .slice a1 n1 c1, .slice a2 n2 c2, .bool s.o.fin, .bool s.o.ft, .bool s.o.fa, .int .u64 s.cr, .int .u64 s.cd, .int .u64 s.wy, .bool s.rs, .bool s.td, .bool s.gn, .int .u64 s.i.rd, .slice a3 n3 c3, .int .u64 s.i.fin, .bool s.i.kn, .int .u64 s.wn, .int .u64 s.lm, .bool s.rz, .bool s.bk, .bool s.sp, .int .u64 s.sc, .bool s.st], .agg #[.int .u64 f.kind, .int .u64 f.id, .int .u64 f.off, .int .u64 f.max, .int .u64 f.code, .int .u64 f.seq, .int .u64 f.prior, .int .u64 f.delay, .bool f.fin, .string ⟨f.data.toArray⟩, .string ⟨f.cid.toArray⟩, .string ⟨f.token.toArray⟩, .slice f.set.a f.set.n f.set.c]] w (GvT m w T ({ s with st := false })) := by
  have HG0 := Lib.hid (ft_made2 (m := m) w a1 n1 c1 a2 n2 c2 a3 n3 c3 T s f h fu fv fx).2
  have HF0 : Hid (FT m w (((w.alloc (.cells #[.int .u64 s.o.ba, .int .u64 s.o.tp, .string s.o.d, .slice a1 n1 c1, .slice a2 n2 c2, .bool s.o.fin, .bool s.o.ft, .bool s.o.fa, .int .u64 s.cr, .int .u64 s.cd, .int .u64 s.wy, .bool s.rs, .bool s.td, .bool s.gn, .int .u64 s.i.rd, .slice a3 n3 c3, .int .u64 s.i.fin, .bool s.i.kn, .int .u64 s.wn, .int .u64 s.lm, .bool s.rz, .bool s.bk, .bool s.sp, .int .u64 s.sc, .bool s.st] 35)).alloc (.cells #[.int .u64 f.kind, .int .u64 f.id, .int .u64 f.off, .int .u64 f.max, .int .u64 f.code, .int .u64 f.seq, .int .u64 f.prior, .int .u64 f.delay, .bool f.fin, .string ⟨f.data.toArray⟩, .string ⟨f.cid.toArray⟩, .string ⟨f.token.toArray⟩, .slice f.set.a f.set.n f.set.c] 48)).alloc (.cells #[.int .u64 0, .int .u64 0, .string ⟨#[]⟩, .slice none 0 0, .slice none 0 0, .bool false, .bool false, .bool false, .int .u64 0, .int .u64 0, .int .u64 0, .bool false, .bool false, .bool false, .int .u64 0, .slice none 0 0, .int .u64 0, .bool false, .int .u64 0, .int .u64 0, .bool false, .bool false, .bool false, .int .u64 0, .bool false] 35)) w.heap.size (w.heap.size + 2) (.slice a1 n1 c1) (.slice a2 n2 c2) (.slice a3 n3 c3) T s) := Lib.hid (ft_made2 w a1 n1 c1 a2 n2 c2 a3 n3 c3 T s f h fu fv fx).1
  clear h fu fv fx
  go_enter Tryz.func119, Tryz.ntmps119
  go_upto_region 1 with (fail)
  generalize (((w.alloc (.cells #[.int .u64 s.o.ba, .int .u64 s.o.tp, .string s.o.d, .slice a1 n1 c1, .slice a2 n2 c2, .bool s.o.fin, .bool s.o.ft, .bool s.o.fa, .int .u64 s.cr, .int .u64 s.cd, .int .u64 s.wy, .bool s.rs, .bool s.td, .bool s.gn, .int .u64 s.i.rd, .slice a3 n3 c3, .int .u64 s.i.fin, .bool s.i.kn, .int .u64 s.wn, .int .u64 s.lm, .bool s.rz, .bool s.bk, .bool s.sp, .int .u64 s.sc, .bool s.st] 35)).alloc (.cells #[.int .u64 f.kind, .int .u64 f.id, .int .u64 f.off, .int .u64 f.max, .int .u64 f.code, .int .u64 f.seq, .int .u64 f.prior, .int .u64 f.delay, .bool f.fin, .string ⟨f.data.toArray⟩, .string ⟨f.cid.toArray⟩, .string ⟨f.token.toArray⟩, .slice f.set.a f.set.n f.set.c] 48)).alloc (.cells #[.int .u64 0, .int .u64 0, .string ⟨#[]⟩, .slice none 0 0, .slice none 0 0, .bool false, .bool false, .bool false, .int .u64 0, .int .u64 0, .int .u64 0, .bool false, .bool false, .bool false, .int .u64 0, .slice none 0 0, .int .u64 0, .bool false, .int .u64 0, .int .u64 0, .bool false, .bool false, .bool false, .int .u64 0, .bool false] 35)) = W0 at HF0 HG0 ⊢
  have z24 := HF0.out.q.c24
  have zf := HF0.out.q.fz
  have HF1 := Lib.hid (HF0.out.s24 false)
  go_upto_region 2 with (fail)
  generalize World.setCell _ _ _ = WX2 at HF1 ⊢
  refine wp_region_lit ?_
  refine wpList_load_row rfl _ _ rfl w.heap.size rfl _ _ _ _ HF1.out.q Tryz.underlying35 rfl infT ?_
  refine wpList_store_row rfl _ _ _ rfl (w.heap.size + 2) _ rfl rfl _ _ HF1.out.z infT rfl (one_ts _ _ _ _ _ _ _ _ _ _) ?_
  have HE := Lib.hid HF1.out.end
  generalize World.setRow _ _ _ = WW at HE ⊢
  go_wp2
  exact bodyPost_ret (results_ts Tryz.results119 _ (w.heap.size + 2) (.slice a1 n1 c1) (.slice a2 n2 c2) (.slice a3 n3 c3) { s with st := false } _ rfl HE.out.1) rfl ⟨_, _, _, _, _, _, _, _, _, rfl, HE.out.2⟩
set_option maxHeartbeats 4000000 in
theorem sentL_any {m : Nat} (s : TS) (T : ByteArray) (a1 : Option Addr) (n1 c1 : Nat) (a2 : Option Addr) (n2 c2 : Nat) (a3 : Option Addr) (n3 c3 : Nat) (f : Fm.Frm) (w : World)  (h : TR w (.slice a1 n1 c1) (.slice a2 n2 c2) (.slice a3 n3 c3) T s) (fu : ∀ k, Blk (.slice a1 n1 c1) k → m ≤ k) (fv : ∀ k, Blk (.slice a2 n2 c2) k → m ≤ k) (fx : ∀ k, Blk (.slice a3 n3 c3) k → m ≤ k) :
    Calls Tryz.prog 120 #[.agg #[.int .u64 s.o.ba, .int .u64 s.o.tp, .string s.o.d, .slice a1 n1 c1, .slice a2 n2 c2, .bool s.o.fin, .bool s.o.ft, .bool s.o.fa, .int .u64 s.cr, .int .u64 s.cd, .int .u64 s.wy, .bool s.rs, .bool s.td, .bool s.gn, .int .u64 s.i.rd, .slice a3 n3 c3, .int .u64 s.i.fin, .bool s.i.kn, .int .u64 s.wn, .int .u64 s.lm, .bool s.rz, .bool s.bk, .bool s.sp, .int .u64 s.sc, .bool s.st], .agg #[.int .u64 f.kind, .int .u64 f.id, .int .u64 f.off, .int .u64 f.max, .int .u64 f.code, .int .u64 f.seq, .int .u64 f.prior, .int .u64 f.delay, .bool f.fin, .string ⟨f.data.toArray⟩, .string ⟨f.cid.toArray⟩, .string ⟨f.token.toArray⟩, .slice f.set.a f.set.n f.set.c]] w (GvT m w T ({ s with rz := false })) := by
  have HG0 := Lib.hid (ft_made2 (m := m) w a1 n1 c1 a2 n2 c2 a3 n3 c3 T s f h fu fv fx).2
  have HF0 : Hid (FT m w (((w.alloc (.cells #[.int .u64 s.o.ba, .int .u64 s.o.tp, .string s.o.d, .slice a1 n1 c1, .slice a2 n2 c2, .bool s.o.fin, .bool s.o.ft, .bool s.o.fa, .int .u64 s.cr, .int .u64 s.cd, .int .u64 s.wy, .bool s.rs, .bool s.td, .bool s.gn, .int .u64 s.i.rd, .slice a3 n3 c3, .int .u64 s.i.fin, .bool s.i.kn, .int .u64 s.wn, .int .u64 s.lm, .bool s.rz, .bool s.bk, .bool s.sp, .int .u64 s.sc, .bool s.st] 35)).alloc (.cells #[.int .u64 f.kind, .int .u64 f.id, .int .u64 f.off, .int .u64 f.max, .int .u64 f.code, .int .u64 f.seq, .int .u64 f.prior, .int .u64 f.delay, .bool f.fin, .string ⟨f.data.toArray⟩, .string ⟨f.cid.toArray⟩, .string ⟨f.token.toArray⟩, .slice f.set.a f.set.n f.set.c] 48)).alloc (.cells #[.int .u64 0, .int .u64 0, .string ⟨#[]⟩, .slice none 0 0, .slice none 0 0, .bool false, .bool false, .bool false, .int .u64 0, .int .u64 0, .int .u64 0, .bool false, .bool false, .bool false, .int .u64 0, .slice none 0 0, .int .u64 0, .bool false, .int .u64 0, .int .u64 0, .bool false, .bool false, .bool false, .int .u64 0, .bool false] 35)) w.heap.size (w.heap.size + 2) (.slice a1 n1 c1) (.slice a2 n2 c2) (.slice a3 n3 c3) T s) := Lib.hid (ft_made2 w a1 n1 c1 a2 n2 c2 a3 n3 c3 T s f h fu fv fx).1
  clear h fu fv fx
  go_enter Tryz.func120, Tryz.ntmps120
  go_upto_region 1 with (fail)
  generalize (((w.alloc (.cells #[.int .u64 s.o.ba, .int .u64 s.o.tp, .string s.o.d, .slice a1 n1 c1, .slice a2 n2 c2, .bool s.o.fin, .bool s.o.ft, .bool s.o.fa, .int .u64 s.cr, .int .u64 s.cd, .int .u64 s.wy, .bool s.rs, .bool s.td, .bool s.gn, .int .u64 s.i.rd, .slice a3 n3 c3, .int .u64 s.i.fin, .bool s.i.kn, .int .u64 s.wn, .int .u64 s.lm, .bool s.rz, .bool s.bk, .bool s.sp, .int .u64 s.sc, .bool s.st] 35)).alloc (.cells #[.int .u64 f.kind, .int .u64 f.id, .int .u64 f.off, .int .u64 f.max, .int .u64 f.code, .int .u64 f.seq, .int .u64 f.prior, .int .u64 f.delay, .bool f.fin, .string ⟨f.data.toArray⟩, .string ⟨f.cid.toArray⟩, .string ⟨f.token.toArray⟩, .slice f.set.a f.set.n f.set.c] 48)).alloc (.cells #[.int .u64 0, .int .u64 0, .string ⟨#[]⟩, .slice none 0 0, .slice none 0 0, .bool false, .bool false, .bool false, .int .u64 0, .int .u64 0, .int .u64 0, .bool false, .bool false, .bool false, .int .u64 0, .slice none 0 0, .int .u64 0, .bool false, .int .u64 0, .int .u64 0, .bool false, .bool false, .bool false, .int .u64 0, .bool false] 35)) = W0 at HF0 HG0 ⊢
  have z20 := HF0.out.q.c20
  have zf := HF0.out.q.fz
  have HF1 := Lib.hid (HF0.out.s20 false)
  go_upto_region 2 with (fail)
  generalize World.setCell _ _ _ = WX2 at HF1 ⊢
  refine wp_region_lit ?_
  refine wpList_load_row rfl _ _ rfl w.heap.size rfl _ _ _ _ HF1.out.q Tryz.underlying35 rfl infT ?_
  refine wpList_store_row rfl _ _ _ rfl (w.heap.size + 2) _ rfl rfl _ _ HF1.out.z infT rfl (one_ts _ _ _ _ _ _ _ _ _ _) ?_
  have HE := Lib.hid HF1.out.end
  generalize World.setRow _ _ _ = WW at HE ⊢
  go_wp2
  exact bodyPost_ret (results_ts Tryz.results120 _ (w.heap.size + 2) (.slice a1 n1 c1) (.slice a2 n2 c2) (.slice a3 n3 c3) { s with rz := false } _ rfl HE.out.1) rfl ⟨_, _, _, _, _, _, _, _, _, rfl, HE.out.2⟩
end Go.Proofs.YtoblmhpjendbfaaGreatDoor.Rg
