/- Layer 16: told by each map; Lost, Acked -/
import Derived.Test.YtoblmhpjendbfaaGreatDoorJb35
namespace Go.Proofs.YtoblmhpjendbfaaGreatDoor.Rg
set_option maxRecDepth 20000
open Go.RowKit Go.Shelf
set_option linter.unusedVariables false
set_option linter.unusedSimpArgs false

theorem ex35 {eval : Operand → Value} {o : Oper} {y : Operand} (ho : o.op = .load 35 y) {w : World} {g : Nat} {u v x : Value} {s : TS} (hx : eval y = .pointer (some ⟨g, 0, none⟩)) (hc : TB w g u v x s) : (execOp eval o).run Tryz.prog w = .ok (.value (.agg #[.int .u64 s.o.ba, .int .u64 s.o.tp, .string s.o.d, u, v, .bool s.o.fin, .bool s.o.ft, .bool s.o.fa, .int .u64 s.cr, .int .u64 s.cd, .int .u64 s.wy, .bool s.rs, .bool s.td, .bool s.gn, .int .u64 s.i.rd, x, .int .u64 s.i.fin, .bool s.i.kn, .int .u64 s.wn, .int .u64 s.lm, .bool s.rz, .bool s.bk, .bool s.sp, .int .u64 s.sc, .bool s.st])) w := by
  unfold execOp
  simp only [ho, hx, Instr.loadAt, Instr.sureAddr, Sem.run_bind, Sem.run_pure, Result.andThen_ok, run_loadVar_row w g _ _ _ _ _ hc Tryz.underlying35 rfl infT]
theorem ex48 {eval : Operand → Value} {o : Oper} {y : Operand} (ho : o.op = .load 48 y) {w : World} {g : Nat} {A : Array Value} (hx : eval y = .pointer (some ⟨g, 0, none⟩)) (hc : w.heap[g]? = some (.cells A 48 (0, 0))) (hA : A.size = 13) : (execOp eval o).run Tryz.prog w = .ok (.value (.agg A)) w := by
  unfold execOp
  simp only [ho, hx, Instr.loadAt, Instr.sureAddr, Sem.run_bind, Sem.run_pure, Result.andThen_ok, run_loadVar_row w g _ _ _ _ _ hc Tryz.underlying48 rfl (by rw [hA]; exact infF)]
set_option maxHeartbeats 1000000 in
theorem toldSent_any (s : TS) (T : ByteArray) (a1 : Option Addr) (n1 c1 : Nat) (a2 : Option Addr) (n2 c2 : Nat) (a3 : Option Addr) (n3 c3 : Nat) (f : Fm.Frm) (r : Nat) (w : World) (hb : w.heap[r]? = some (.map #[⟨.int .u64 4, .func (.func 118) #[] #[], 0⟩, ⟨.int .u64 5, .func (.func 119) #[] #[], 1⟩, ⟨.int .u64 17, .func (.func 120) #[] #[], 2⟩, ⟨.int .u64 8, .func (.func 121) #[] #[], 3⟩] 4)) (hs : SsOk s.o) (hk1 : s.o.ak.length ≤ 100) (hk2 : s.o.td.length ≤ 100) (h0 : 0 ≤ f.off) (h1 : f.off + (f.data.length : Int) < 9223372036854775808) (hl1 : n1 ≤ 1000) (hl2 : n2 ≤ 1000) (hl3 : n3 ≤ 1000) (h : TR w (.slice a1 n1 c1) (.slice a2 n2 c2) (.slice a3 n3 c3) T s) :
    Calls Tryz.prog 65 #[.agg #[.int .u64 s.o.ba, .int .u64 s.o.tp, .string s.o.d, .slice a1 n1 c1, .slice a2 n2 c2, .bool s.o.fin, .bool s.o.ft, .bool s.o.fa, .int .u64 s.cr, .int .u64 s.cd, .int .u64 s.wy, .bool s.rs, .bool s.td, .bool s.gn, .int .u64 s.i.rd, .slice a3 n3 c3, .int .u64 s.i.fin, .bool s.i.kn, .int .u64 s.wn, .int .u64 s.lm, .bool s.rz, .bool s.bk, .bool s.sp, .int .u64 s.sc, .bool s.st], .map (some r), .agg #[.int .u64 f.kind, .int .u64 f.id, .int .u64 f.off, .int .u64 f.max, .int .u64 f.code, .int .u64 f.seq, .int .u64 f.prior, .int .u64 f.delay, .bool f.fin, .string ⟨f.data.toArray⟩, .string ⟨f.cid.toArray⟩, .string ⟨f.token.toArray⟩, .slice f.set.a f.set.n f.set.c]] w (GvT w.heap.size w T (sentT s f)) := by
  by_cases e4 : f.kind = 4
  · have hf : Instr.findNow (.int .u64) (.int .u64 f.kind) (#[⟨.int .u64 4, .func (.func 118) #[] #[], 0⟩, ⟨.int .u64 5, .func (.func 119) #[] #[], 1⟩, ⟨.int .u64 17, .func (.func 120) #[] #[], 2⟩, ⟨.int .u64 8, .func (.func 121) #[] #[], 3⟩] : Array MapEntry).toList 0 = some (some (0, .func (.func 118) #[] #[])) := by rw [e4]; rfl
    have hR := told_yes s T a1 n1 c1 a2 n2 c2 a3 n3 c3 f r #[⟨.int .u64 4, .func (.func 118) #[] #[], 0⟩, ⟨.int .u64 5, .func (.func 119) #[] #[], 1⟩, ⟨.int .u64 17, .func (.func 120) #[] #[], 2⟩, ⟨.int .u64 8, .func (.func 121) #[] #[], 3⟩] 4 0 118 _ w hl1 hl2 hl3 h hb hf (fun args W => by simp [callFunc, go_sem, Tryz.func118]; rfl) (fun m b1 k1 d1 b2 k2 d2 b3 k3 d3 W hr fu fv fx hm => sentR_any s T b1 k1 d1 b2 k2 d2 b3 k3 d3 f W hr fu fv fx)
    unfold sentT
    rw [if_pos e4]
    exact hR
  · skip
    by_cases e5 : f.kind = 5
    · have hf : Instr.findNow (.int .u64) (.int .u64 f.kind) (#[⟨.int .u64 4, .func (.func 118) #[] #[], 0⟩, ⟨.int .u64 5, .func (.func 119) #[] #[], 1⟩, ⟨.int .u64 17, .func (.func 120) #[] #[], 2⟩, ⟨.int .u64 8, .func (.func 121) #[] #[], 3⟩] : Array MapEntry).toList 0 = some (some (1, .func (.func 119) #[] #[])) := by rw [e5]; rfl
      have hR := told_yes s T a1 n1 c1 a2 n2 c2 a3 n3 c3 f r #[⟨.int .u64 4, .func (.func 118) #[] #[], 0⟩, ⟨.int .u64 5, .func (.func 119) #[] #[], 1⟩, ⟨.int .u64 17, .func (.func 120) #[] #[], 2⟩, ⟨.int .u64 8, .func (.func 121) #[] #[], 3⟩] 4 1 119 _ w hl1 hl2 hl3 h hb hf (fun args W => by simp [callFunc, go_sem, Tryz.func119]; rfl) (fun m b1 k1 d1 b2 k2 d2 b3 k3 d3 W hr fu fv fx hm => sentS_any s T b1 k1 d1 b2 k2 d2 b3 k3 d3 f W hr fu fv fx)
      unfold sentT
      rw [if_neg e4, if_pos e5]
      exact hR
    · skip
      by_cases e17 : f.kind = 17
      · have hf : Instr.findNow (.int .u64) (.int .u64 f.kind) (#[⟨.int .u64 4, .func (.func 118) #[] #[], 0⟩, ⟨.int .u64 5, .func (.func 119) #[] #[], 1⟩, ⟨.int .u64 17, .func (.func 120) #[] #[], 2⟩, ⟨.int .u64 8, .func (.func 121) #[] #[], 3⟩] : Array MapEntry).toList 0 = some (some (2, .func (.func 120) #[] #[])) := by rw [e17]; rfl
        have hR := told_yes s T a1 n1 c1 a2 n2 c2 a3 n3 c3 f r #[⟨.int .u64 4, .func (.func 118) #[] #[], 0⟩, ⟨.int .u64 5, .func (.func 119) #[] #[], 1⟩, ⟨.int .u64 17, .func (.func 120) #[] #[], 2⟩, ⟨.int .u64 8, .func (.func 121) #[] #[], 3⟩] 4 2 120 _ w hl1 hl2 hl3 h hb hf (fun args W => by simp [callFunc, go_sem, Tryz.func120]; rfl) (fun m b1 k1 d1 b2 k2 d2 b3 k3 d3 W hr fu fv fx hm => sentL_any s T b1 k1 d1 b2 k2 d2 b3 k3 d3 f W hr fu fv fx)
        unfold sentT
        rw [if_neg e4, if_neg e5, if_pos e17]
        exact hR
      · skip
        by_cases e8 : f.kind = 8
        · have hf : Instr.findNow (.int .u64) (.int .u64 f.kind) (#[⟨.int .u64 4, .func (.func 118) #[] #[], 0⟩, ⟨.int .u64 5, .func (.func 119) #[] #[], 1⟩, ⟨.int .u64 17, .func (.func 120) #[] #[], 2⟩, ⟨.int .u64 8, .func (.func 121) #[] #[], 3⟩] : Array MapEntry).toList 0 = some (some (3, .func (.func 121) #[] #[])) := by rw [e8]; rfl
          have hR := told_yes s T a1 n1 c1 a2 n2 c2 a3 n3 c3 f r #[⟨.int .u64 4, .func (.func 118) #[] #[], 0⟩, ⟨.int .u64 5, .func (.func 119) #[] #[], 1⟩, ⟨.int .u64 17, .func (.func 120) #[] #[], 2⟩, ⟨.int .u64 8, .func (.func 121) #[] #[], 3⟩] 4 3 121 _ w hl1 hl2 hl3 h hb hf (fun args W => by simp [callFunc, go_sem, Tryz.func121]; rfl) (fun m b1 k1 d1 b2 k2 d2 b3 k3 d3 W hr fu fv fx hm => sentB_any s T b1 k1 d1 b2 k2 d2 b3 k3 d3 f W hs hk1 hk2 h0 h1 hm hr fu fv fx)
          unfold sentT
          rw [if_neg e4, if_neg e5, if_neg e17, if_pos e8]
          exact hR
        · skip
          have hf : Instr.findNow (.int .u64) (.int .u64 f.kind) (#[⟨.int .u64 4, .func (.func 118) #[] #[], 0⟩, ⟨.int .u64 5, .func (.func 119) #[] #[], 1⟩, ⟨.int .u64 17, .func (.func 120) #[] #[], 2⟩, ⟨.int .u64 8, .func (.func 121) #[] #[], 3⟩] : Array MapEntry).toList 0 = some none := by
            simp [Instr.findNow, Instr.sameNow, (beq_eq_false_iff_ne.2 e4 : (f.kind == 4) = false), (beq_eq_false_iff_ne.2 e5 : (f.kind == 5) = false), (beq_eq_false_iff_ne.2 e17 : (f.kind == 17) = false), (beq_eq_false_iff_ne.2 e8 : (f.kind == 8) = false)]
          have hR := told_no s T a1 n1 c1 a2 n2 c2 a3 n3 c3 f r #[⟨.int .u64 4, .func (.func 118) #[] #[], 0⟩, ⟨.int .u64 5, .func (.func 119) #[] #[], 1⟩, ⟨.int .u64 17, .func (.func 120) #[] #[], 2⟩, ⟨.int .u64 8, .func (.func 121) #[] #[], 3⟩] 4 w hl1 hl2 hl3 h hb hf
          unfold sentT
          rw [if_neg e4, if_neg e5, if_neg e17, if_neg e8]
          exact hR
/-- The boxes of Lost and Acked. -/
structure LB (w W : World) (T : ByteArray) (u v x : Value) (s : TS) (f : Fm.Frm) : Prop where
  t : FT 0 w W w.heap.size (w.heap.size + 2) u v x T s
  g : FB W (w.heap.size + 1) f
theorem LB.go {w W W' : World} {T : ByteArray} {u v x : Value} {s : TS} {f : Fm.Frm} (h : LB w W T u v x s f) (hb : Below W.heap.size W W') : LB w W' T u v x s f := ⟨h.t.go hb, h.g.go hb⟩
theorem LB.dr {w W : World} {T : ByteArray} {u v x : Value} {s : TS} {f : Fm.Frm} (h : LB w W T u v x s f) : LB w W.drew T u v x s f := h.go (Below.refl _ _).drew
end Go.Proofs.YtoblmhpjendbfaaGreatDoor.Rg
