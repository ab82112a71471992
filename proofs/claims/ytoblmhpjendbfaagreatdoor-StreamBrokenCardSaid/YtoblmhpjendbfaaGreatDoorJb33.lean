/- Layer 16: maps of deeds; told; the deeds of bytes · Layer 16: New, Grant, Give, Ask, Read, Data, Break -/
import Derived.Test.YtoblmhpjendbfaaGreatDoorJb32
import Derived.Maps.OwnSet
import Derived.Maps.OwnOps
import Derived.Carry
import Derived.MapKept
namespace Go.Proofs.YtoblmhpjendbfaaGreatDoor.Rg
set_option maxRecDepth 20000
open Go.RowKit Go.Shelf
set_option linter.unusedVariables false
set_option linter.unusedSimpArgs false

theorem set_last (W : World) (o o' : Obj) : { W.alloc o with heap := (W.alloc o).heap.setIfInBounds W.heap.size o' } = W.alloc o' := by
  simp only [World.alloc]
  congr 1
  apply Array.ext_getElem?
  intro i
  rw [Array.getElem?_setIfInBounds]
  by_cases h : W.heap.size = i
  · subst h
    simp
  · have h' : ¬ i = W.heap.size := fun e => h e.symm
    simp [h, Array.getElem?_push, h']
/-- A key more, in a map that was made last. -/
theorem put_new (W : World) (es : Array MapEntry) (c : Nat) (k : Int) (v : Value) (hf : Instr.findNow (.int .u64) (.int .u64 k) es.toList 0 = some none) :
    (Instr.mapUpdate 115 (.map (some W.heap.size)) (.int .u64 k) v).run Tryz.prog (W.alloc (.map es c)) = .ok () (W.alloc (.map (es.push ⟨.int .u64 k, v, c⟩) (c + 1))) := by
  have hb : (W.alloc (.map es c)).heap[W.heap.size]? = some (.map es c) := heap_alloc_new W _
  have hk : Tryz.prog.underlying 23 = some (.int .u64) := Tryz.underlying23
  have hc : (Instr.checkKey false 10000 23 (.int .u64 k)).run Tryz.prog (W.alloc (.map es c)) = .ok () (W.alloc (.map es c)) := MapKept.run_checkKey (k := .int .u64 k) hk (by simp [MapKept.IsKey]) false 9999
  have hs := set_last W (.map es c) (.map (es.push ⟨.int .u64 k, v, c⟩) (c + 1))
  simp [Instr.mapUpdate, run_underlying Tryz.underlying115, MapKept.run_getObj_map hb, hc, MapKept.run_findKey hk hf, MapKept.run_setObj_map _ hb, Result.andThen]
  exact hs
set_option maxHeartbeats 4000000 in
theorem whenSent_any (w : World) : Calls Tryz.prog 77 #[] w fun e w' => e = .returned (.map (some w.heap.size)) ∧ w' = w.alloc (.map #[⟨.int .u64 4, .func (.func 118) #[] #[], 0⟩, ⟨.int .u64 5, .func (.func 119) #[] #[], 1⟩, ⟨.int .u64 17, .func (.func 120) #[] #[], 2⟩, ⟨.int .u64 8, .func (.func 121) #[] #[], 3⟩] 4) := by
  have hmm := @run_makeMap Tryz.prog
  have p0 := put_new w #[] 0 4 (.func (.func 118) #[] #[]) rfl
  have p1 := put_new w #[⟨.int .u64 4, .func (.func 118) #[] #[], 0⟩] 1 5 (.func (.func 119) #[] #[]) rfl
  have p2 := put_new w #[⟨.int .u64 4, .func (.func 118) #[] #[], 0⟩, ⟨.int .u64 5, .func (.func 119) #[] #[], 1⟩] 2 17 (.func (.func 120) #[] #[]) rfl
  have p3 := put_new w #[⟨.int .u64 4, .func (.func 118) #[] #[], 0⟩, ⟨.int .u64 5, .func (.func 119) #[] #[], 1⟩, ⟨.int .u64 17, .func (.func 120) #[] #[], 2⟩] 3 8 (.func (.func 121) #[] #[]) rfl
  simp only [List.push_toArray, List.cons_append, List.nil_append, Nat.zero_add, Nat.reduceAdd] at p0 p1 p2 p3
  go_enter Tryz.func77, Tryz.ntmps77
  go_wp2
  go_ret
  exact ⟨rfl, rfl⟩
theorem look_yes (W : World) (r : Nat) (es : Array MapEntry) (c : Nat) (k : Int) (i : Nat) (v : Value) (hb : W.heap[r]? = some (.map es c)) (hf : Instr.findNow (.int .u64) (.int .u64 k) es.toList 0 = some (some (i, v))) :
    (Instr.lookup 115 (.map (some r)) (.int .u64 k) true).run Tryz.prog W = .ok (.tuple #[v, .bool true]) W := by
  have hk : Tryz.prog.underlying 23 = some (.int .u64) := Tryz.underlying23
  have hc := fun e => MapKept.run_checkKey (w := W) (k := .int .u64 k) hk (by simp [MapKept.IsKey]) e 9999
  simp [Instr.lookup, run_underlying Tryz.underlying115, MapKept.run_getObj_map hb, hc, MapKept.run_findKey hk hf, Result.andThen]
theorem look_no (W : World) (r : Nat) (es : Array MapEntry) (c : Nat) (k : Int) (hb : W.heap[r]? = some (.map es c)) (hf : Instr.findNow (.int .u64) (.int .u64 k) es.toList 0 = some none) :
    (Instr.lookup 115 (.map (some r)) (.int .u64 k) true).run Tryz.prog W = .ok (.tuple #[.nilFunc, .bool false]) W := by
  have hk : Tryz.prog.underlying 23 = some (.int .u64) := Tryz.underlying23
  have hc := fun e => MapKept.run_checkKey (w := W) (k := .int .u64 k) hk (by simp [MapKept.IsKey]) e 9999
  have hz : ∀ w, (zeroValue 171).run Tryz.prog w = .ok .nilFunc w := (zero_of_info (v := .nilFunc) (n := 1) (by kernel_rfl)).1
  simp [Instr.lookup, run_underlying Tryz.underlying115, MapKept.run_getObj_map hb, hc, MapKept.run_findKey hk hf, hz, Result.andThen]
/-- The answer's block is written, by rows that lie behind it. -/
theorem back_row {m m' : Nat} {w W : World} {Z : Nat} {u v x : Value} {T : ByteArray} {s : TS} (hz : ZB W Z) (hbl : Below w.heap.size w W) (hZ : w.heap.size ≤ Z) (hr : TR W u v x T s) (fu : ∀ k, Blk u k → m' ≤ k) (fv : ∀ k, Blk v k → m' ≤ k) (fx : ∀ k, Blk x k → m' ≤ k) (hm : m ≤ m') (hZm : Z < m') :
    TB (W.setRow Z #[.int .u64 s.o.ba, .int .u64 s.o.tp, .string s.o.d, u, v, .bool s.o.fin, .bool s.o.ft, .bool s.o.fa, .int .u64 s.cr, .int .u64 s.cd, .int .u64 s.wy, .bool s.rs, .bool s.td, .bool s.gn, .int .u64 s.i.rd, x, .int .u64 s.i.fin, .bool s.i.kn, .int .u64 s.wn, .int .u64 s.lm, .bool s.rz, .bool s.bk, .bool s.sp, .int .u64 s.sc, .bool s.st]) Z u v x s ∧ N3 m w (W.setRow Z #[.int .u64 s.o.ba, .int .u64 s.o.tp, .string s.o.d, u, v, .bool s.o.fin, .bool s.o.ft, .bool s.o.fa, .int .u64 s.cr, .int .u64 s.cd, .int .u64 s.wy, .bool s.rs, .bool s.td, .bool s.gn, .int .u64 s.i.rd, x, .int .u64 s.i.fin, .bool s.i.kn, .int .u64 s.wn, .int .u64 s.lm, .bool s.rz, .bool s.bk, .bool s.sp, .int .u64 s.sc, .bool s.st]) u v x T s :=
  ⟨setRow_heap W Z _ _ _ _ hz, ⟨rd_row hr.ra (fun hk => by have := fu _ hk; omega) _, rd_row hr.rt (fun hk => by have := fv _ hk; omega) _, rowg_row hr.rx (fun hk => by have := fx _ hk; omega) _⟩, fun k hk => Nat.le_trans hm (fu k hk), fun k hk => Nat.le_trans hm (fv k hk), fun k hk => Nat.le_trans hm (fx k hk), below_setRow hbl hZ _⟩
set_option maxHeartbeats 4000000 in
theorem told_no (s : TS) (T : ByteArray) (a1 : Option Addr) (n1 c1 : Nat) (a2 : Option Addr) (n2 c2 : Nat) (a3 : Option Addr) (n3 c3 : Nat) (f : Fm.Frm) (r : Nat) (es : Array MapEntry) (c : Nat) (w : World) (hl1 : n1 ≤ 1000) (hl2 : n2 ≤ 1000) (hl3 : n3 ≤ 1000) (h : TR w (.slice a1 n1 c1) (.slice a2 n2 c2) (.slice a3 n3 c3) T s) (hb : w.heap[r]? = some (.map es c)) (hf : Instr.findNow (.int .u64) (.int .u64 f.kind) es.toList 0 = some none) :
    Calls Tryz.prog 65 #[.agg #[.int .u64 s.o.ba, .int .u64 s.o.tp, .string s.o.d, .slice a1 n1 c1, .slice a2 n2 c2, .bool s.o.fin, .bool s.o.ft, .bool s.o.fa, .int .u64 s.cr, .int .u64 s.cd, .int .u64 s.wy, .bool s.rs, .bool s.td, .bool s.gn, .int .u64 s.i.rd, .slice a3 n3 c3, .int .u64 s.i.fin, .bool s.i.kn, .int .u64 s.wn, .int .u64 s.lm, .bool s.rz, .bool s.bk, .bool s.sp, .int .u64 s.sc, .bool s.st], .map (some r), .agg #[.int .u64 f.kind, .int .u64 f.id, .int .u64 f.off, .int .u64 f.max, .int .u64 f.code, .int .u64 f.seq, .int .u64 f.prior, .int .u64 f.delay, .bool f.fin, .string ⟨f.data.toArray⟩, .string ⟨f.cid.toArray⟩, .string ⟨f.token.toArray⟩, .slice f.set.a f.set.n f.set.c]] w (GvT w.heap.size w T s) := by
  have CO := Lib.hid (fun W (hr : TR W (.slice a1 n1 c1) (.slice a2 n2 c2) (.slice a3 n3 c3) T s) => own_any s T a1 n1 c1 a2 n2 c2 a3 n3 c3 W hl1 hl2 hl3 hr)
  have hrl : r < w.heap.size := (Array.getElem?_eq_some_iff.1 hb).1
  have HMB := Lib.hid hb
  have HFN := Lib.hid hf
  have HRL := Lib.hid hrl
  clear hl1 hl2 hl3 hb hf hrl
  have HG0 := Lib.hid (ft_made2 (m := 0) w a1 n1 c1 a2 n2 c2 a3 n3 c3 T s f h (fun _ _ => Nat.zero_le _) (fun _ _ => Nat.zero_le _) (fun _ _ => Nat.zero_le _)).2
  have HF0 : Hid (FT 0 w (((w.alloc (.cells #[.int .u64 s.o.ba, .int .u64 s.o.tp, .string s.o.d, .slice a1 n1 c1, .slice a2 n2 c2, .bool s.o.fin, .bool s.o.ft, .bool s.o.fa, .int .u64 s.cr, .int .u64 s.cd, .int .u64 s.wy, .bool s.rs, .bool s.td, .bool s.gn, .int .u64 s.i.rd, .slice a3 n3 c3, .int .u64 s.i.fin, .bool s.i.kn, .int .u64 s.wn, .int .u64 s.lm, .bool s.rz, .bool s.bk, .bool s.sp, .int .u64 s.sc, .bool s.st] 35)).alloc (.cells #[.int .u64 f.kind, .int .u64 f.id, .int .u64 f.off, .int .u64 f.max, .int .u64 f.code, .int .u64 f.seq, .int .u64 f.prior, .int .u64 f.delay, .bool f.fin, .string ⟨f.data.toArray⟩, .string ⟨f.cid.toArray⟩, .string ⟨f.token.toArray⟩, .slice f.set.a f.set.n f.set.c] 48)).alloc (.cells #[.int .u64 0, .int .u64 0, .string ⟨#[]⟩, .slice none 0 0, .slice none 0 0, .bool false, .bool false, .bool false, .int .u64 0, .int .u64 0, .int .u64 0, .bool false, .bool false, .bool false, .int .u64 0, .slice none 0 0, .int .u64 0, .bool false, .int .u64 0, .int .u64 0, .bool false, .bool false, .bool false, .int .u64 0, .bool false] 35)) w.heap.size (w.heap.size + 2) (.slice a1 n1 c1) (.slice a2 n2 c2) (.slice a3 n3 c3) T s) := Lib.hid (ft_made2 w a1 n1 c1 a2 n2 c2 a3 n3 c3 T s f h (fun _ _ => Nat.zero_le _) (fun _ _ => Nat.zero_le _) (fun _ _ => Nat.zero_le _)).1
  clear h
  go_enter Tryz.func65, Tryz.ntmps65
  go_upto_region 1 with (fail)
  generalize (((w.alloc (.cells #[.int .u64 s.o.ba, .int .u64 s.o.tp, .string s.o.d, .slice a1 n1 c1, .slice a2 n2 c2, .bool s.o.fin, .bool s.o.ft, .bool s.o.fa, .int .u64 s.cr, .int .u64 s.cd, .int .u64 s.wy, .bool s.rs, .bool s.td, .bool s.gn, .int .u64 s.i.rd, .slice a3 n3 c3, .int .u64 s.i.fin, .bool s.i.kn, .int .u64 s.wn, .int .u64 s.lm, .bool s.rz, .bool s.bk, .bool s.sp, .int .u64 s.sc, .bool s.st] 35)).alloc (.cells #[.int .u64 f.kind, .int .u64 f.id, .int .u64 f.off, .int .u64 f.max, .int .u64 f.code, .int .u64 f.seq, .int .u64 f.prior, .int .u64 f.delay, .bool f.fin, .string ⟨f.data.toArray⟩, .string ⟨f.cid.toArray⟩, .string ⟨f.token.toArray⟩, .slice f.set.a f.set.n f.set.c] 48)).alloc (.cells #[.int .u64 0, .int .u64 0, .string ⟨#[]⟩, .slice none 0 0, .slice none 0 0, .bool false, .bool false, .bool false, .int .u64 0, .int .u64 0, .int .u64 0, .bool false, .bool false, .bool false, .int .u64 0, .slice none 0 0, .int .u64 0, .bool false, .int .u64 0, .int .u64 0, .bool false, .bool false, .bool false, .int .u64 0, .bool false] 35)) = W0 at HF0 HG0 ⊢
  go_wp2_with (refine ld35 rfl HF0.out.q rfl (by rfl) ?_)
  refine (CO.out _ HF0.out.r).mono ?_
  rintro e w1 ⟨b1, k1, d1, b2, k2, d2, b3, k3, d3, rfl, hn⟩
  have HN := Lib.hid hn
  have HZ0 := Lib.hid HF0.out.z.lt
  have HW0 : Hid (w.heap.size + 3 ≤ W0.heap.size) := Lib.hid (by have := HF0.out.z.lt; omega)
  have HF1 := Lib.hid (HF0.out.new (m' := w.heap.size) HN.out (Nat.le_refl _))
  have HG1 : Hid (FB (w1.setRow w.heap.size #[.int .u64 s.o.ba, .int .u64 s.o.tp, .string s.o.d, .slice b1 k1 d1, .slice b2 k2 d2, .bool s.o.fin, .bool s.o.ft, .bool s.o.fa, .int .u64 s.cr, .int .u64 s.cd, .int .u64 s.wy, .bool s.rs, .bool s.td, .bool s.gn, .int .u64 s.i.rd, .slice b3 k3 d3, .int .u64 s.i.fin, .bool s.i.kn, .int .u64 s.wn, .int .u64 s.lm, .bool s.rz, .bool s.bk, .bool s.sp, .int .u64 s.sc, .bool s.st]) (w.heap.size + 1) f) := Lib.hid ((setRow_other _ _ _ _ (by omega)).trans (HG0.out.go HN.out.bl))
  have HM1 : Hid ((w1.setRow w.heap.size #[.int .u64 s.o.ba, .int .u64 s.o.tp, .string s.o.d, .slice b1 k1 d1, .slice b2 k2 d2, .bool s.o.fin, .bool s.o.ft, .bool s.o.fa, .int .u64 s.cr, .int .u64 s.cd, .int .u64 s.wy, .bool s.rs, .bool s.td, .bool s.gn, .int .u64 s.i.rd, .slice b3 k3 d3, .int .u64 s.i.fin, .bool s.i.kn, .int .u64 s.wn, .int .u64 s.lm, .bool s.rz, .bool s.bk, .bool s.sp, .int .u64 s.sc, .bool s.st]).heap[r]? = some (.map es c)) := Lib.hid ((setRow_other _ _ _ _ (by have := HRL.out; omega)).trans ((HN.out.bl.block r (by have := HRL.out; have := HW0.out; omega)).trans ((HF0.out.bl.block r (by have := HRL.out; omega)).trans HMB.out)))
  have HW1 : Hid (W0.heap.size ≤ (w1.setRow w.heap.size #[.int .u64 s.o.ba, .int .u64 s.o.tp, .string s.o.d, .slice b1 k1 d1, .slice b2 k2 d2, .bool s.o.fin, .bool s.o.ft, .bool s.o.fa, .int .u64 s.cr, .int .u64 s.cd, .int .u64 s.wy, .bool s.rs, .bool s.td, .bool s.gn, .int .u64 s.i.rd, .slice b3 k3 d3, .int .u64 s.i.fin, .bool s.i.kn, .int .u64 s.wn, .int .u64 s.lm, .bool s.rz, .bool s.bk, .bool s.sp, .int .u64 s.sc, .bool s.st]).heap.size) := Lib.hid (by rw [setRow_size]; exact HN.out.bl.size)
  clear hn
  go_upto_region 2 with (refine st35 rfl (HF0.out.q.go HN.out.bl) rfl rfl rfl (by rfl) ?_)
  generalize World.setRow _ _ _ = W1 at HF1 HG1 HM1 HW1 ⊢
  have g0 := HG1.out.c0
  have g1 := HG1.out.c1
  have g2 := HG1.out.c2
  have g3 := HG1.out.c3
  have g4 := HG1.out.c4
  have g5 := HG1.out.c5
  have g6 := HG1.out.c6
  have g7 := HG1.out.c7
  have g8 := HG1.out.c8
  have g9 := HG1.out.c9
  have g10 := HG1.out.c10
  have g11 := HG1.out.c11
  have g12 := HG1.out.c12
  have hlk := look_no W1 r es c f.kind HM1.out HFN.out
  go_upto_region 5 with (fail)
  refine wp_region_lit ?_
  refine wpList_load_row rfl _ _ rfl w.heap.size rfl _ _ _ _ HF1.out.q Tryz.underlying35 rfl infT ?_
  refine wpList_store_row rfl _ _ _ rfl (w.heap.size + 2) _ rfl rfl _ _ HF1.out.z infT rfl (one_ts _ _ _ _ _ _ _ _ _ _) ?_
  have HE := Lib.hid HF1.out.end
  generalize World.setRow _ _ _ = WW at HE ⊢
  go_wp2
  exact bodyPost_ret (results_ts Tryz.results65 _ (w.heap.size + 2) (.slice b1 k1 d1) (.slice b2 k2 d2) (.slice b3 k3 d3) s _ rfl HE.out.1) rfl ⟨_, _, _, _, _, _, _, _, _, rfl, HE.out.2⟩
set_option maxHeartbeats 4000000 in
theorem told_yes (s : TS) (T : ByteArray) (a1 : Option Addr) (n1 c1 : Nat) (a2 : Option Addr) (n2 c2 : Nat) (a3 : Option Addr) (n3 c3 : Nat) (f : Fm.Frm) (r : Nat) (es : Array MapEntry) (c : Nat) (i n : Nat) (s' : TS) (w : World) (hl1 : n1 ≤ 1000) (hl2 : n2 ≤ 1000) (hl3 : n3 ≤ 1000) (h : TR w (.slice a1 n1 c1) (.slice a2 n2 c2) (.slice a3 n3 c3) T s) (hb : w.heap[r]? = some (.map es c)) (hf : Instr.findNow (.int .u64) (.int .u64 f.kind) es.toList 0 = some (some (i, .func (.func n) #[] #[])))
    (hce : ∀ args W, (callFunc n args).run Tryz.prog W = .ok (.enter n args) W) (CD : ∀ (m : Nat) (a1 : Option Addr) (n1 c1 : Nat) (a2 : Option Addr) (n2 c2 : Nat) (a3 : Option Addr) (n3 c3 : Nat) W, TR W (.slice a1 n1 c1) (.slice a2 n2 c2) (.slice a3 n3 c3) T s → (∀ k, Blk (.slice a1 n1 c1) k → m ≤ k) → (∀ k, Blk (.slice a2 n2 c2) k → m ≤ k) → (∀ k, Blk (.slice a3 n3 c3) k → m ≤ k) → m ≤ W.heap.size → Calls Tryz.prog n #[.agg #[.int .u64 s.o.ba, .int .u64 s.o.tp, .string s.o.d, .slice a1 n1 c1, .slice a2 n2 c2, .bool s.o.fin, .bool s.o.ft, .bool s.o.fa, .int .u64 s.cr, .int .u64 s.cd, .int .u64 s.wy, .bool s.rs, .bool s.td, .bool s.gn, .int .u64 s.i.rd, .slice a3 n3 c3, .int .u64 s.i.fin, .bool s.i.kn, .int .u64 s.wn, .int .u64 s.lm, .bool s.rz, .bool s.bk, .bool s.sp, .int .u64 s.sc, .bool s.st], .agg #[.int .u64 f.kind, .int .u64 f.id, .int .u64 f.off, .int .u64 f.max, .int .u64 f.code, .int .u64 f.seq, .int .u64 f.prior, .int .u64 f.delay, .bool f.fin, .string ⟨f.data.toArray⟩, .string ⟨f.cid.toArray⟩, .string ⟨f.token.toArray⟩, .slice f.set.a f.set.n f.set.c]] W (GvT m W T s')) :
    Calls Tryz.prog 65 #[.agg #[.int .u64 s.o.ba, .int .u64 s.o.tp, .string s.o.d, .slice a1 n1 c1, .slice a2 n2 c2, .bool s.o.fin, .bool s.o.ft, .bool s.o.fa, .int .u64 s.cr, .int .u64 s.cd, .int .u64 s.wy, .bool s.rs, .bool s.td, .bool s.gn, .int .u64 s.i.rd, .slice a3 n3 c3, .int .u64 s.i.fin, .bool s.i.kn, .int .u64 s.wn, .int .u64 s.lm, .bool s.rz, .bool s.bk, .bool s.sp, .int .u64 s.sc, .bool s.st], .map (some r), .agg #[.int .u64 f.kind, .int .u64 f.id, .int .u64 f.off, .int .u64 f.max, .int .u64 f.code, .int .u64 f.seq, .int .u64 f.prior, .int .u64 f.delay, .bool f.fin, .string ⟨f.data.toArray⟩, .string ⟨f.cid.toArray⟩, .string ⟨f.token.toArray⟩, .slice f.set.a f.set.n f.set.c]] w (GvT w.heap.size w T s') := by
  have CO := Lib.hid (fun W (hr : TR W (.slice a1 n1 c1) (.slice a2 n2 c2) (.slice a3 n3 c3) T s) => own_any s T a1 n1 c1 a2 n2 c2 a3 n3 c3 W hl1 hl2 hl3 hr)
  have hrl : r < w.heap.size := (Array.getElem?_eq_some_iff.1 hb).1
  have HMB := Lib.hid hb
  have HCD := Lib.hid CD
  have HFN := Lib.hid hf
  have HRL := Lib.hid hrl
  clear hl1 hl2 hl3 hb hf hrl CD
  have HG0 := Lib.hid (ft_made2 (m := 0) w a1 n1 c1 a2 n2 c2 a3 n3 c3 T s f h (fun _ _ => Nat.zero_le _) (fun _ _ => Nat.zero_le _) (fun _ _ => Nat.zero_le _)).2
  have HF0 : Hid (FT 0 w (((w.alloc (.cells #[.int .u64 s.o.ba, .int .u64 s.o.tp, .string s.o.d, .slice a1 n1 c1, .slice a2 n2 c2, .bool s.o.fin, .bool s.o.ft, .bool s.o.fa, .int .u64 s.cr, .int .u64 s.cd, .int .u64 s.wy, .bool s.rs, .bool s.td, .bool s.gn, .int .u64 s.i.rd, .slice a3 n3 c3, .int .u64 s.i.fin, .bool s.i.kn, .int .u64 s.wn, .int .u64 s.lm, .bool s.rz, .bool s.bk, .bool s.sp, .int .u64 s.sc, .bool s.st] 35)).alloc (.cells #[.int .u64 f.kind, .int .u64 f.id, .int .u64 f.off, .int .u64 f.max, .int .u64 f.code, .int .u64 f.seq, .int .u64 f.prior, .int .u64 f.delay, .bool f.fin, .string ⟨f.data.toArray⟩, .string ⟨f.cid.toArray⟩, .string ⟨f.token.toArray⟩, .slice f.set.a f.set.n f.set.c] 48)).alloc (.cells #[.int .u64 0, .int .u64 0, .string ⟨#[]⟩, .slice none 0 0, .slice none 0 0, .bool false, .bool false, .bool false, .int .u64 0, .int .u64 0, .int .u64 0, .bool false, .bool false, .bool false, .int .u64 0, .slice none 0 0, .int .u64 0, .bool false, .int .u64 0, .int .u64 0, .bool false, .bool false, .bool false, .int .u64 0, .bool false] 35)) w.heap.size (w.heap.size + 2) (.slice a1 n1 c1) (.slice a2 n2 c2) (.slice a3 n3 c3) T s) := Lib.hid (ft_made2 w a1 n1 c1 a2 n2 c2 a3 n3 c3 T s f h (fun _ _ => Nat.zero_le _) (fun _ _ => Nat.zero_le _) (fun _ _ => Nat.zero_le _)).1
  clear h
  go_enter Tryz.func65, Tryz.ntmps65
  go_upto_region 1 with (fail)
  generalize (((w.alloc (.cells #[.int .u64 s.o.ba, .int .u64 s.o.tp, .string s.o.d, .slice a1 n1 c1, .slice a2 n2 c2, .bool s.o.fin, .bool s.o.ft, .bool s.o.fa, .int .u64 s.cr, .int .u64 s.cd, .int .u64 s.wy, .bool s.rs, .bool s.td, .bool s.gn, .int .u64 s.i.rd, .slice a3 n3 c3, .int .u64 s.i.fin, .bool s.i.kn, .int .u64 s.wn, .int .u64 s.lm, .bool s.rz, .bool s.bk, .bool s.sp, .int .u64 s.sc, .bool s.st] 35)).alloc (.cells #[.int .u64 f.kind, .int .u64 f.id, .int .u64 f.off, .int .u64 f.max, .int .u64 f.code, .int .u64 f.seq, .int .u64 f.prior, .int .u64 f.delay, .bool f.fin, .string ⟨f.data.toArray⟩, .string ⟨f.cid.toArray⟩, .string ⟨f.token.toArray⟩, .slice f.set.a f.set.n f.set.c] 48)).alloc (.cells #[.int .u64 0, .int .u64 0, .string ⟨#[]⟩, .slice none 0 0, .slice none 0 0, .bool false, .bool false, .bool false, .int .u64 0, .int .u64 0, .int .u64 0, .bool false, .bool false, .bool false, .int .u64 0, .slice none 0 0, .int .u64 0, .bool false, .int .u64 0, .int .u64 0, .bool false, .bool false, .bool false, .int .u64 0, .bool false] 35)) = W0 at HF0 HG0 ⊢
  go_wp2_with (refine ld35 rfl HF0.out.q rfl (by rfl) ?_)
  refine (CO.out _ HF0.out.r).mono ?_
  rintro e w1 ⟨b1, k1, d1, b2, k2, d2, b3, k3, d3, rfl, hn⟩
  have HN := Lib.hid hn
  have HZ0 := Lib.hid HF0.out.z.lt
  have HW0 : Hid (w.heap.size + 3 ≤ W0.heap.size) := Lib.hid (by have := HF0.out.z.lt; omega)
  have HF1 := Lib.hid (HF0.out.new (m' := w.heap.size) HN.out (Nat.le_refl _))
  have HG1 : Hid (FB (w1.setRow w.heap.size #[.int .u64 s.o.ba, .int .u64 s.o.tp, .string s.o.d, .slice b1 k1 d1, .slice b2 k2 d2, .bool s.o.fin, .bool s.o.ft, .bool s.o.fa, .int .u64 s.cr, .int .u64 s.cd, .int .u64 s.wy, .bool s.rs, .bool s.td, .bool s.gn, .int .u64 s.i.rd, .slice b3 k3 d3, .int .u64 s.i.fin, .bool s.i.kn, .int .u64 s.wn, .int .u64 s.lm, .bool s.rz, .bool s.bk, .bool s.sp, .int .u64 s.sc, .bool s.st]) (w.heap.size + 1) f) := Lib.hid ((setRow_other _ _ _ _ (by omega)).trans (HG0.out.go HN.out.bl))
  have HM1 : Hid ((w1.setRow w.heap.size #[.int .u64 s.o.ba, .int .u64 s.o.tp, .string s.o.d, .slice b1 k1 d1, .slice b2 k2 d2, .bool s.o.fin, .bool s.o.ft, .bool s.o.fa, .int .u64 s.cr, .int .u64 s.cd, .int .u64 s.wy, .bool s.rs, .bool s.td, .bool s.gn, .int .u64 s.i.rd, .slice b3 k3 d3, .int .u64 s.i.fin, .bool s.i.kn, .int .u64 s.wn, .int .u64 s.lm, .bool s.rz, .bool s.bk, .bool s.sp, .int .u64 s.sc, .bool s.st]).heap[r]? = some (.map es c)) := Lib.hid ((setRow_other _ _ _ _ (by have := HRL.out; omega)).trans ((HN.out.bl.block r (by have := HRL.out; have := HW0.out; omega)).trans ((HF0.out.bl.block r (by have := HRL.out; omega)).trans HMB.out)))
  have HW1 : Hid (W0.heap.size ≤ (w1.setRow w.heap.size #[.int .u64 s.o.ba, .int .u64 s.o.tp, .string s.o.d, .slice b1 k1 d1, .slice b2 k2 d2, .bool s.o.fin, .bool s.o.ft, .bool s.o.fa, .int .u64 s.cr, .int .u64 s.cd, .int .u64 s.wy, .bool s.rs, .bool s.td, .bool s.gn, .int .u64 s.i.rd, .slice b3 k3 d3, .int .u64 s.i.fin, .bool s.i.kn, .int .u64 s.wn, .int .u64 s.lm, .bool s.rz, .bool s.bk, .bool s.sp, .int .u64 s.sc, .bool s.st]).heap.size) := Lib.hid (by rw [setRow_size]; exact HN.out.bl.size)
  clear hn
  go_upto_region 2 with (refine st35 rfl (HF0.out.q.go HN.out.bl) rfl rfl rfl (by rfl) ?_)
  generalize World.setRow _ _ _ = W1 at HF1 HG1 HM1 HW1 ⊢
  have g0 := HG1.out.c0
  have g1 := HG1.out.c1
  have g2 := HG1.out.c2
  have g3 := HG1.out.c3
  have g4 := HG1.out.c4
  have g5 := HG1.out.c5
  have g6 := HG1.out.c6
  have g7 := HG1.out.c7
  have g8 := HG1.out.c8
  have g9 := HG1.out.c9
  have g10 := HG1.out.c10
  have g11 := HG1.out.c11
  have g12 := HG1.out.c12
  have hlk := look_yes W1 r es c f.kind i _ HM1.out HFN.out
  go_wp2_with (refine ld35 rfl HF1.out.q rfl (by rfl) ?_)
  refine (HCD.out W0.heap.size _ _ _ _ _ _ _ _ _ _ HF1.out.r HN.out.nu HN.out.nv HN.out.nx HW1.out).mono ?_
  rintro e w2 ⟨b4, k4, d4, b5, k5, d5, b6, k6, d6, rfl, hq⟩
  have HQ := Lib.hid hq
  clear hq
  have HE := Lib.hid (back_row (m := w.heap.size) (HF1.out.z.go HQ.out.bl) (nextG HF1.out.bl HQ.out.bl) (by omega) HQ.out.r HQ.out.nu HQ.out.nv HQ.out.nx (by have := HW0.out; omega) (by have := HW0.out; omega))
  go_wp2_with (refine st35 rfl (HF1.out.z.go HQ.out.bl) rfl rfl rfl (by rfl) ?_)
  generalize World.setRow _ _ _ = WW at HE ⊢
  go_wp2
  exact bodyPost_ret (results_ts Tryz.results65 _ (w.heap.size + 2) (.slice b4 k4 d4) (.slice b5 k5 d5) (.slice b6 k6 d6) s' _ rfl HE.out.1) rfl ⟨_, _, _, _, _, _, _, _, _, rfl, HE.out.2⟩
set_option maxHeartbeats 4000000 in
theorem sentB_any {m : Nat} (s : TS) (T : ByteArray) (a1 : Option Addr) (n1 c1 : Nat) (a2 : Option Addr) (n2 c2 : Nat) (a3 : Option Addr) (n3 c3 : Nat) (f : Fm.Frm) (w : World) (hs : SsOk s.o) (hk1 : s.o.ak.length ≤ 100) (hk2 : s.o.td.length ≤ 100) (h0 : 0 ≤ f.off) (h1 : f.off + (f.data.length : Int) < 9223372036854775808) (hm : m ≤ w.heap.size) (h : TR w (.slice a1 n1 c1) (.slice a2 n2 c2) (.slice a3 n3 c3) T s) (fu : ∀ k, Blk (.slice a1 n1 c1) k → m ≤ k) (fv : ∀ k, Blk (.slice a2 n2 c2) k → m ≤ k) (fx : ∀ k, Blk (.slice a3 n3 c3) k → m ≤ k) :
    Calls Tryz.prog 121 #[.agg #[.int .u64 s.o.ba, .int .u64 s.o.tp, .string s.o.d, .slice a1 n1 c1, .slice a2 n2 c2, .bool s.o.fin, .bool s.o.ft, .bool s.o.fa, .int .u64 s.cr, .int .u64 s.cd, .int .u64 s.wy, .bool s.rs, .bool s.td, .bool s.gn, .int .u64 s.i.rd, .slice a3 n3 c3, .int .u64 s.i.fin, .bool s.i.kn, .int .u64 s.wn, .int .u64 s.lm, .bool s.rz, .bool s.bk, .bool s.sp, .int .u64 s.sc, .bool s.st], .agg #[.int .u64 f.kind, .int .u64 f.id, .int .u64 f.off, .int .u64 f.max, .int .u64 f.code, .int .u64 f.seq, .int .u64 f.prior, .int .u64 f.delay, .bool f.fin, .string ⟨f.data.toArray⟩, .string ⟨f.cid.toArray⟩, .string ⟨f.token.toArray⟩, .slice f.set.a f.set.n f.set.c]] w (GvT m w T ({ s with o := sentS s.o f.off (f.data.length : Int) f.fin })) := by
  have hn1 := rd_len h.ra
  have hn2 := rd_len h.rt
  have CS := Lib.hid (fun W (k1 : Rd W (.slice a1 n1 c1) s.o.ak) (k2 : Rd W (.slice a2 n2 c2) s.o.td) => sent_any s.o a1 n1 c1 a2 n2 c2 f.off (f.data.length : Int) f.fin W hs (by omega) (by omega) k1 k2 h0 (by omega))
  have HM0 := Lib.hid hm
  obtain ⟨O, hO⟩ : ∃ O, sentS s.o f.off (f.data.length : Int) f.fin = O := ⟨_, rfl⟩
  rw [hO] at CS ⊢
  clear hs hk1 hk2 h0 h1 hm hO hn1 hn2
  have HG0 := Lib.hid (ft_made2 (m := m) w a1 n1 c1 a2 n2 c2 a3 n3 c3 T s f h fu fv fx).2
  have HF0 : Hid (FT m w (((w.alloc (.cells #[.int .u64 s.o.ba, .int .u64 s.o.tp, .string s.o.d, .slice a1 n1 c1, .slice a2 n2 c2, .bool s.o.fin, .bool s.o.ft, .bool s.o.fa, .int .u64 s.cr, .int .u64 s.cd, .int .u64 s.wy, .bool s.rs, .bool s.td, .bool s.gn, .int .u64 s.i.rd, .slice a3 n3 c3, .int .u64 s.i.fin, .bool s.i.kn, .int .u64 s.wn, .int .u64 s.lm, .bool s.rz, .bool s.bk, .bool s.sp, .int .u64 s.sc, .bool s.st] 35)).alloc (.cells #[.int .u64 f.kind, .int .u64 f.id, .int .u64 f.off, .int .u64 f.max, .int .u64 f.code, .int .u64 f.seq, .int .u64 f.prior, .int .u64 f.delay, .bool f.fin, .string ⟨f.data.toArray⟩, .string ⟨f.cid.toArray⟩, .string ⟨f.token.toArray⟩, .slice f.set.a f.set.n f.set.c] 48)).alloc (.cells #[.int .u64 0, .int .u64 0, .string ⟨#[]⟩, .slice none 0 0, .slice none 0 0, .bool false, .bool false, .bool false, .int .u64 0, .int .u64 0, .int .u64 0, .bool false, .bool false, .bool false, .int .u64 0, .slice none 0 0, .int .u64 0, .bool false, .int .u64 0, .int .u64 0, .bool false, .bool false, .bool false, .int .u64 0, .bool false] 35)) w.heap.size (w.heap.size + 2) (.slice a1 n1 c1) (.slice a2 n2 c2) (.slice a3 n3 c3) T s) := Lib.hid (ft_made2 w a1 n1 c1 a2 n2 c2 a3 n3 c3 T s f h fu fv fx).1
  clear h fu fv fx
  go_enter Tryz.func121, Tryz.ntmps121
  go_upto_region 1 with (fail)
  generalize (((w.alloc (.cells #[.int .u64 s.o.ba, .int .u64 s.o.tp, .string s.o.d, .slice a1 n1 c1, .slice a2 n2 c2, .bool s.o.fin, .bool s.o.ft, .bool s.o.fa, .int .u64 s.cr, .int .u64 s.cd, .int .u64 s.wy, .bool s.rs, .bool s.td, .bool s.gn, .int .u64 s.i.rd, .slice a3 n3 c3, .int .u64 s.i.fin, .bool s.i.kn, .int .u64 s.wn, .int .u64 s.lm, .bool s.rz, .bool s.bk, .bool s.sp, .int .u64 s.sc, .bool s.st] 35)).alloc (.cells #[.int .u64 f.kind, .int .u64 f.id, .int .u64 f.off, .int .u64 f.max, .int .u64 f.code, .int .u64 f.seq, .int .u64 f.prior, .int .u64 f.delay, .bool f.fin, .string ⟨f.data.toArray⟩, .string ⟨f.cid.toArray⟩, .string ⟨f.token.toArray⟩, .slice f.set.a f.set.n f.set.c] 48)).alloc (.cells #[.int .u64 0, .int .u64 0, .string ⟨#[]⟩, .slice none 0 0, .slice none 0 0, .bool false, .bool false, .bool false, .int .u64 0, .int .u64 0, .int .u64 0, .bool false, .bool false, .bool false, .int .u64 0, .slice none 0 0, .int .u64 0, .bool false, .int .u64 0, .int .u64 0, .bool false, .bool false, .bool false, .int .u64 0, .bool false] 35)) = W0 at HF0 HG0 ⊢
  have z0 := HF0.out.q.c0
  have z1 := HF0.out.q.c1
  have z2 := HF0.out.q.c2
  have z3 := HF0.out.q.c3
  have z4 := HF0.out.q.c4
  have z5 := HF0.out.q.c5
  have z6 := HF0.out.q.c6
  have z7 := HF0.out.q.c7
  have g2 := HG0.out.c2
  have g8 := HG0.out.c8
  have g9 := HG0.out.c9
  have zf := HF0.out.q.fz
  have HZ0 := Lib.hid HF0.out.z.lt
  go_wp2_with fail
  refine (CS.out _ HF0.out.r.ra HF0.out.r.rt).mono ?_
  rintro e w1 ⟨b1, k1, d1, b2, k2, d2, rfl, ra, rt, fu, fv, hb⟩
  have HF1 := Lib.hid (HF0.out.go hb)
  have HF2 := Lib.hid (HF1.out.out8 ra rt (fun k hk => by have := fu k hk; have := HZ0.out; have := HM0.out; have := HF0.out.bl.size; omega) (fun k hk => by have := fv k hk; have := HZ0.out; have := HM0.out; have := HF0.out.bl.size; omega))
  clear ra rt fu fv z0 z1 z2 z3 z4 z5 z6 z7 zf
  have z0 := HF1.out.q.c0
  have z1 := HF1.out.q.c1
  have z2 := HF1.out.q.c2
  have z3 := HF1.out.q.c3
  have z4 := HF1.out.q.c4
  have z5 := HF1.out.q.c5
  have z6 := HF1.out.q.c6
  have z7 := HF1.out.q.c7
  have zf := HF1.out.q.fz
  go_upto_region 2 with (fail)
  generalize World.setCell _ _ _ = WX at HF2 ⊢
  refine wp_region_lit ?_
  refine wpList_load_row rfl _ _ rfl w.heap.size rfl _ _ _ _ HF2.out.q Tryz.underlying35 rfl infT ?_
  refine wpList_store_row rfl _ _ _ rfl (w.heap.size + 2) _ rfl rfl _ _ HF2.out.z infT rfl (one_ts _ _ _ _ _ _ _ _ _ _) ?_
  have HE := Lib.hid HF2.out.end
  generalize World.setRow _ _ _ = WW at HE ⊢
  go_wp2
  exact bodyPost_ret (results_ts Tryz.results121 _ (w.heap.size + 2) (.slice b1 k1 d1) (.slice b2 k2 d2) (.slice a3 n3 c3) { s with o := O } _ rfl HE.out.1) rfl ⟨_, _, _, _, _, _, _, _, _, rfl, HE.out.2⟩
end Go.Proofs.YtoblmhpjendbfaaGreatDoor.Rg
namespace Go.Proofs.YtoblmhpjendbfaaGreatDoor.Rg
set_option maxRecDepth 20000
open Go.RowKit Go.Shelf
set_option linter.unusedVariables false
set_option linter.unusedSimpArgs false

theorem tr_zero (W : World) (s : TS) (h1 : s.o.ak = []) (h2 : s.o.td = []) (h3 : s.i.l = []) (T : ByteArray) : TR W (.slice none 0 0) (.slice none 0 0) (.slice none 0 0) T s :=
  ⟨by rw [h1]; exact ⟨none, 0, rfl, Nat.le_refl _, fun h => absurd rfl h⟩, by rw [h2]; exact ⟨none, 0, rfl, Nat.le_refl _, fun h => absurd rfl h⟩, by rw [h3]; exact Gt.RowG.nil W T⟩
set_option maxHeartbeats 4000000 in
theorem new16_any (c wn : Int) (w : World) : Calls Tryz.prog 10 #[.int .u64 c, .int .u64 wn] w (GvT w.heap.size w ⟨#[]⟩ (newT c wn)) := by
  have hz := zb_made w
  have hbl := (Below.refl w.heap.size w).alloc (Nat.le_refl _) (.cells #[.int .u64 0, .int .u64 0, .string ⟨#[]⟩, .slice none 0 0, .slice none 0 0, .bool false, .bool false, .bool false, .int .u64 0, .int .u64 0, .int .u64 0, .bool false, .bool false, .bool false, .int .u64 0, .slice none 0 0, .int .u64 0, .bool false, .int .u64 0, .int .u64 0, .bool false, .bool false, .bool false, .int .u64 0, .bool false] 35)
  have HE := Lib.hid (back_row (m := w.heap.size) (m' := w.heap.size + 1) (s := newT c wn) hz hbl (Nat.le_refl _) (tr_zero _ (newT c wn) rfl rfl rfl ⟨#[]⟩) (fun k h => h.elim) (fun k h => h.elim) (fun k h => h.elim) (Nat.le_succ _) (Nat.lt_succ_self _))
  have HZ := Lib.hid hz
  clear hz hbl
  go_enter Tryz.func10, Tryz.ntmps10
  go_upto_region 1 with (fail)
  generalize w.alloc (.cells #[.int .u64 0, .int .u64 0, .string ⟨#[]⟩, .slice none 0 0, .slice none 0 0, .bool false, .bool false, .bool false, .int .u64 0, .int .u64 0, .int .u64 0, .bool false, .bool false, .bool false, .int .u64 0, .slice none 0 0, .int .u64 0, .bool false, .int .u64 0, .int .u64 0, .bool false, .bool false, .bool false, .int .u64 0, .bool false] 35) = W0 at HE HZ ⊢
  go_wp2_with (refine st35 (s := newT c wn) rfl HZ.out rfl rfl rfl (by rfl) ?_)
  generalize World.setRow _ _ _ = WW at HE ⊢
  go_wp2
  exact bodyPost_ret (results_ts Tryz.results10 _ w.heap.size (.slice none 0 0) (.slice none 0 0) (.slice none 0 0) (newT c wn) _ rfl HE.out.1) rfl ⟨_, _, _, _, _, _, _, _, _, rfl, HE.out.2⟩
/-- The boxes of further. -/
structure FU (w W : World) (u v x y : Value) (T T' : ByteArray) (s : TS) (t : Gt.GS) : Prop where
  q : TB W w.heap.size u v x s
  g : Gt.Gb W (w.heap.size + 1) 33 t y
  rx : Gt.RowG W x T s.i.l
  ry : Gt.RowG W y T' t.l
  bl : Below w.heap.size w W
theorem FU.go {w W W' : World} {u v x y : Value} {T T' : ByteArray} {s : TS} {t : Gt.GS} (h : FU w W u v x y T T' s t) (hb : Below W.heap.size W W') : FU w W' u v x y T T' s t := ⟨h.q.go hb, h.g.go hb, h.rx.go hb, h.ry.go hb, nextG h.bl hb⟩
set_option maxHeartbeats 4000000 in
theorem further_any (s : TS) (T : ByteArray) (a1 : Option Addr) (n1 c1 : Nat) (a2 : Option Addr) (n2 c2 : Nat) (a3 : Option Addr) (n3 c3 : Nat) (T' : ByteArray) (t : Gt.GS) (a4 : Option Addr) (n4 c4 : Nat) (w : World) (hg : Gt.GsG T s.i) (hL : s.i.l.length ≤ 900) (hg' : Gt.GsG T' t) (hL' : t.l.length ≤ 900) (hle : Gt.hiS s.i ≤ Gt.hiS t) (hr4 : Gt.RowG w (.slice a4 n4 c4) T' t.l) (h : Gt.RowG w (.slice a3 n3 c3) T s.i.l) :
    Calls Tryz.prog 51 #[.agg #[.int .u64 s.o.ba, .int .u64 s.o.tp, .string s.o.d, .slice a1 n1 c1, .slice a2 n2 c2, .bool s.o.fin, .bool s.o.ft, .bool s.o.fa, .int .u64 s.cr, .int .u64 s.cd, .int .u64 s.wy, .bool s.rs, .bool s.td, .bool s.gn, .int .u64 s.i.rd, .slice a3 n3 c3, .int .u64 s.i.fin, .bool s.i.kn, .int .u64 s.wn, .int .u64 s.lm, .bool s.rz, .bool s.bk, .bool s.sp, .int .u64 s.sc, .bool s.st], .agg #[.int .u64 t.rd, .slice a4 n4 c4, .int .u64 t.fin, .bool t.kn]] w fun e w' => e = .returned (.int .u64 (Gt.hiS t - Gt.hiS s.i)) ∧ Below w.heap.size w w' := by
  have CS := Lib.hid (fun W (hr : Gt.RowG W (.slice a3 n3 c3) T s.i.l) => Gt.Highest_any T s.i a3 n3 c3 W hg.ok hg.t hL hr)
  have CT := Lib.hid (fun W (hr : Gt.RowG W (.slice a4 n4 c4) T' t.l) => Gt.Highest_any T' t a4 n4 c4 W hg'.ok hg'.t hL' hr)
  have hi1 := Gt.hiS_le hg.ok
  have hi2 := Gt.hiS_le hg'.ok
  have hr0 := hg.ok.r0
  have ht := hg'.t
  have v1 : IntKind.u64.wrap (Gt.hiS t - Gt.hiS s.i) = Gt.hiS t - Gt.hiS s.i := IntWalk.u64_in _ (by omega)
  have HU0 : Hid (FU w ((w.alloc (.cells #[.int .u64 s.o.ba, .int .u64 s.o.tp, .string s.o.d, .slice a1 n1 c1, .slice a2 n2 c2, .bool s.o.fin, .bool s.o.ft, .bool s.o.fa, .int .u64 s.cr, .int .u64 s.cd, .int .u64 s.wy, .bool s.rs, .bool s.td, .bool s.gn, .int .u64 s.i.rd, .slice a3 n3 c3, .int .u64 s.i.fin, .bool s.i.kn, .int .u64 s.wn, .int .u64 s.lm, .bool s.rz, .bool s.bk, .bool s.sp, .int .u64 s.sc, .bool s.st] 35)).alloc (.cells #[.int .u64 t.rd, .slice a4 n4 c4, .int .u64 t.fin, .bool t.kn] 33)).drew (.slice a1 n1 c1) (.slice a2 n2 c2) (.slice a3 n3 c3) (.slice a4 n4 c4) T T' s t) := Lib.hid (by
    have hb2 := ((Below.refl (w.alloc (.cells #[.int .u64 s.o.ba, .int .u64 s.o.tp, .string s.o.d, .slice a1 n1 c1, .slice a2 n2 c2, .bool s.o.fin, .bool s.o.ft, .bool s.o.fa, .int .u64 s.cr, .int .u64 s.cd, .int .u64 s.wy, .bool s.rs, .bool s.td, .bool s.gn, .int .u64 s.i.rd, .slice a3 n3 c3, .int .u64 s.i.fin, .bool s.i.kn, .int .u64 s.wn, .int .u64 s.lm, .bool s.rz, .bool s.bk, .bool s.sp, .int .u64 s.sc, .bool s.st] 35)).heap.size _).alloc (Nat.le_refl _) (.cells #[.int .u64 t.rd, .slice a4 n4 c4, .int .u64 t.fin, .bool t.kn] 33)).drew
    have hb1 := (((Below.refl w.heap.size w).alloc (Nat.le_refl _) (.cells #[.int .u64 s.o.ba, .int .u64 s.o.tp, .string s.o.d, .slice a1 n1 c1, .slice a2 n2 c2, .bool s.o.fin, .bool s.o.ft, .bool s.o.fa, .int .u64 s.cr, .int .u64 s.cd, .int .u64 s.wy, .bool s.rs, .bool s.td, .bool s.gn, .int .u64 s.i.rd, .slice a3 n3 c3, .int .u64 s.i.fin, .bool s.i.kn, .int .u64 s.wn, .int .u64 s.lm, .bool s.rz, .bool s.bk, .bool s.sp, .int .u64 s.sc, .bool s.st] 35)).alloc (by simp) (.cells #[.int .u64 t.rd, .slice a4 n4 c4, .int .u64 t.fin, .bool t.kn] 33)).drew
    have hgb := Gt.gb_made (w.alloc (.cells #[.int .u64 s.o.ba, .int .u64 s.o.tp, .string s.o.d, .slice a1 n1 c1, .slice a2 n2 c2, .bool s.o.fin, .bool s.o.ft, .bool s.o.fa, .int .u64 s.cr, .int .u64 s.cd, .int .u64 s.wy, .bool s.rs, .bool s.td, .bool s.gn, .int .u64 s.i.rd, .slice a3 n3 c3, .int .u64 s.i.fin, .bool s.i.kn, .int .u64 s.wn, .int .u64 s.lm, .bool s.rz, .bool s.bk, .bool s.sp, .int .u64 s.sc, .bool s.st] 35)) 33 t (.slice a4 n4 c4)
    rw [World.size_alloc] at hgb
    exact ⟨(tb_made w (.slice a1 n1 c1) (.slice a2 n2 c2) (.slice a3 n3 c3) s).go hb2, hgb.go (Below.refl _ _).drew, h.go hb1, hr4.go hb1, hb1⟩)
  clear hg hL hg' hL' hle hr4 h hi1 hi2 hr0 ht
  obtain ⟨H1, hH1⟩ : ∃ x, Gt.hiS t = x := ⟨_, rfl⟩
  obtain ⟨H2, hH2⟩ : ∃ x, Gt.hiS s.i = x := ⟨_, rfl⟩
  rw [hH1] at CT v1 ⊢
  rw [hH2] at CS v1 ⊢
  clear hH1 hH2
  go_enter Tryz.func51, Tryz.ntmps51
  go_wp2_with fail
  refine wp_region_noPanic ?_
  refine wp_region_held_drew (S := fun W : World => FU w W (.slice a1 n1 c1) (.slice a2 n2 c2) (.slice a3 n3 c3) (.slice a4 n4 c4) T T' s t) (by kernel_rfl) ?_ (fun hHeld => ?_)
  · exact HU0.out
  refine wpAnyH_take (i := 0) (v := ?_) rfl (by kernel_rfl) (by kernel_rfl) (by kernel_rfl) (fun _ _ _ h => h) (Or.inl ⟨by rfl, ?_⟩) (by assumption) ?_
  rotate_left
  · (intro w hSw; (have k14 := hSw.q.c14; have k15 := hSw.q.c15; have k16 := hSw.q.c16; have k17 := hSw.q.c17; have g0 := hSw.g.c0; have g1 := hSw.g.c1; have g2 := hSw.g.c2; have g3 := hSw.g.c3); go_simp; (try with_reducible rfl))
  try simp only [Act.put, List.getElem_toArray, List.getElem_cons_zero, List.getElem_cons_succ, List.setIfInBounds_toArray, List.set_cons_zero, List.set_cons_succ]
  refine wpAnyH_take (i := 2) (v := ?_) rfl (by kernel_rfl) (by kernel_rfl) (by kernel_rfl) (fun _ _ _ h => h) (Or.inl ⟨by rfl, ?_⟩) (by assumption) ?_
  rotate_left
  · (intro w hSw; (have k14 := hSw.q.c14; have k15 := hSw.q.c15; have k16 := hSw.q.c16; have k17 := hSw.q.c17; have g0 := hSw.g.c0; have g1 := hSw.g.c1; have g2 := hSw.g.c2; have g3 := hSw.g.c3); go_simp; (try with_reducible rfl))
  try simp only [Act.put, List.getElem_toArray, List.getElem_cons_zero, List.getElem_cons_succ, List.setIfInBounds_toArray, List.set_cons_zero, List.set_cons_succ]
  refine wpAnyH_take (i := 3) (v := ?_) rfl (by kernel_rfl) (by kernel_rfl) (by kernel_rfl) (fun _ _ _ h => h) (Or.inl ⟨by rfl, ?_⟩) (by assumption) ?_
  rotate_left
  · (intro w hSw; (have k14 := hSw.q.c14; have k15 := hSw.q.c15; have k16 := hSw.q.c16; have k17 := hSw.q.c17; have g0 := hSw.g.c0; have g1 := hSw.g.c1; have g2 := hSw.g.c2; have g3 := hSw.g.c3); go_simp; (try with_reducible rfl))
  try simp only [Act.put, List.getElem_toArray, List.getElem_cons_zero, List.getElem_cons_succ, List.setIfInBounds_toArray, List.set_cons_zero, List.set_cons_succ]
  refine wpAnyH_ready (rs := [1]) (by kernel_rfl) (by simp) ?_
  refine AllReadyH.cons rfl (fun K hK => ?_) AllReadyH.nil
  rw [if_pos (by rfl)]
  go_simp
  refine (CT.out _ HU0.out.ry).mono ?_
  rintro e wx1 ⟨rfl, hb⟩
  have HU1 := Lib.hid (HU0.out.go hb)
  clear hb
  refine hK.out _ _ ?_ (fun hHeld => ?_)
  · exact HU1.out
  clear hK K
  try simp only [Act.put, List.getElem_toArray, List.getElem_cons_zero, List.getElem_cons_succ, List.setIfInBounds_toArray, List.set_cons_zero, List.set_cons_succ]
  refine wpAnyH_ready (rs := [4]) (by kernel_rfl) (by simp) ?_
  refine AllReadyH.cons rfl (fun K hK => ?_) AllReadyH.nil
  rw [if_pos (by rfl)]
  go_simp
  refine (CS.out _ HU1.out.rx).mono ?_
  rintro e wx2 ⟨rfl, hb⟩
  have HU2 := Lib.hid (HU1.out.go hb)
  clear hb
  refine hK.out _ _ ?_ (fun hHeld => ?_)
  · exact HU2.out
  clear hK K
  try simp only [Act.put, List.getElem_toArray, List.getElem_cons_zero, List.getElem_cons_succ, List.setIfInBounds_toArray, List.set_cons_zero, List.set_cons_succ]
  refine wpAnyH_take (i := 5) (v := ?_) rfl (by kernel_rfl) (by kernel_rfl) (by kernel_rfl) (fun _ _ _ h => h) (Or.inl ⟨by rfl, ?_⟩) (by assumption) ?_
  rotate_left
  · (intro w hSw; (have k14 := hSw.q.c14; have k15 := hSw.q.c15; have k16 := hSw.q.c16; have k17 := hSw.q.c17; have g0 := hSw.g.c0; have g1 := hSw.g.c1; have g2 := hSw.g.c2; have g3 := hSw.g.c3); go_simp; (try with_reducible rfl))
  try simp only [Act.put, List.getElem_toArray, List.getElem_cons_zero, List.getElem_cons_succ, List.setIfInBounds_toArray, List.set_cons_zero, List.set_cons_succ]
  refine wpAnyH_take (i := 6) (v := ?_) rfl (by kernel_rfl) (by kernel_rfl) (by kernel_rfl) (fun _ _ _ h => h) (Or.inl ⟨by rfl, ?_⟩) (by assumption) ?_
  rotate_left
  · (intro w hSw; (have k14 := hSw.q.c14; have k15 := hSw.q.c15; have k16 := hSw.q.c16; have k17 := hSw.q.c17; have g0 := hSw.g.c0; have g1 := hSw.g.c1; have g2 := hSw.g.c2; have g3 := hSw.g.c3); go_simp; (try with_reducible rfl))
  try simp only [Act.put, List.getElem_toArray, List.getElem_cons_zero, List.getElem_cons_succ, List.setIfInBounds_toArray, List.set_cons_zero, List.set_cons_succ]
  refine wpAnyH_done (by kernel_rfl) (NoPanic.normal ?_) _
  go_wp2_with fail
  go_ret
  exact ⟨rfl, HU2.out.bl⟩
end Go.Proofs.YtoblmhpjendbfaaGreatDoor.Rg
