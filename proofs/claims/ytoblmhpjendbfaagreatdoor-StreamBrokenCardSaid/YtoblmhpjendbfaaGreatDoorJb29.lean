/- Layer 15: a call's frame: its queue, and the block of its answer; Finish, Sent -/
import Derived.Test.YtoblmhpjendbfaaGreatDoorJb28
namespace Go.Proofs.YtoblmhpjendbfaaGreatDoor.Rg
set_option maxRecDepth 20000
open Go.RowKit Go.Shelf
set_option linter.unusedVariables false
set_option linter.unusedSimpArgs false

theorem results_cell1 {fn : Func} {p : Tmp} {ty : TypeId} (h : fn.results = #[.cell p ty]) (tmps : Array Value) (P : Program) (w : World) :
    (results fn tmps).run P w = ((asAddr (tmps.getD p undef)).run P w).andThen fun a w₁ => (loadVar ty a).run P w₁ := by
  simp only [results, h]
  simp [Sem.run_bind, Result.andThen]
theorem eight_put {w : World} {b : Nat} {T : TypeId} {v0 v1 v2 v3 v4 v5 v6 v7 : Value} (h : w.heap[b]? = some (.cells #[v0, v1, v2, v3, v4, v5, v6, v7] T (0, 0))) (x0 x1 x2 x3 x4 x5 x6 x7 : Value) : ((((((((w.setCell ⟨b, 0, none⟩ x0).setCell ⟨b, 1, none⟩ x1).setCell ⟨b, 2, none⟩ x2).setCell ⟨b, 3, none⟩ x3).setCell ⟨b, 4, none⟩ x4).setCell ⟨b, 5, none⟩ x5).setCell ⟨b, 6, none⟩ x6).setCell ⟨b, 7, none⟩ x7).heap[b]? = some (.cells #[x0, x1, x2, x3, x4, x5, x6, x7] T (0, 0)) := by
  have h0 := Joins.block_setCell (i := 0) h x0
  have h1 := Joins.block_setCell (i := 1) h0 x1
  have h2 := Joins.block_setCell (i := 2) h1 x2
  have h3 := Joins.block_setCell (i := 3) h2 x3
  have h4 := Joins.block_setCell (i := 4) h3 x4
  have h5 := Joins.block_setCell (i := 5) h4 x5
  have h6 := Joins.block_setCell (i := 6) h5 x6
  have h7 := Joins.block_setCell (i := 7) h6 x7
  rw [h7]
  simp
theorem rd_eight {w : World} {v : Value} {l : List Ran} (h : Rd w v l) {b : Nat} (hb : ¬ Blk v b) (x0 x1 x2 x3 x4 x5 x6 x7 : Value) : Rd ((((((((w.setCell ⟨b, 0, none⟩ x0).setCell ⟨b, 1, none⟩ x1).setCell ⟨b, 2, none⟩ x2).setCell ⟨b, 3, none⟩ x3).setCell ⟨b, 4, none⟩ x4).setCell ⟨b, 5, none⟩ x5).setCell ⟨b, 6, none⟩ x6).setCell ⟨b, 7, none⟩ x7) v l :=
  rd_set (rd_set (rd_set (rd_set (rd_set (rd_set (rd_set (rd_set h hb _) hb _) hb _) hb _) hb _) hb _) hb _) hb _
theorem below_eight {n : Nat} {w0 w : World} (h : Below n w0 w) {b : Nat} (hb : n ≤ b) (x0 x1 x2 x3 x4 x5 x6 x7 : Value) : Below n w0 ((((((((w.setCell ⟨b, 0, none⟩ x0).setCell ⟨b, 1, none⟩ x1).setCell ⟨b, 2, none⟩ x2).setCell ⟨b, 3, none⟩ x3).setCell ⟨b, 4, none⟩ x4).setCell ⟨b, 5, none⟩ x5).setCell ⟨b, 6, none⟩ x6).setCell ⟨b, 7, none⟩ x7) :=
  Below.setCell (Below.setCell (Below.setCell (Below.setCell (Below.setCell (Below.setCell (Below.setCell (Below.setCell h (p := ⟨b, 0, none⟩) hb _) (p := ⟨b, 1, none⟩) hb _) (p := ⟨b, 2, none⟩) hb _) (p := ⟨b, 3, none⟩) hb _) (p := ⟨b, 4, none⟩) hb _) (p := ⟨b, 5, none⟩) hb _) (p := ⟨b, 6, none⟩) hb _) (p := ⟨b, 7, none⟩) hb _
/-- The block of an answer, not yet written. -/
def Z8 (W : World) (g : Nat) : Prop := W.heap[g]? = some (.cells #[.int .u64 0, .int .u64 0, .string ⟨#[]⟩, .slice none 0 0, .slice none 0 0, .bool false, .bool false, .bool false] 30 (0, 0))
theorem Z8.lt {W : World} {g : Nat} (h : Z8 W g) : g < W.heap.size := (Array.getElem?_eq_some_iff.1 h).1
theorem Z8.go {W W' : World} {g : Nat} (h : Z8 W g) (hb : Below W.heap.size W W') : Z8 W' g := (hb.block g h.lt).trans h
/-- What a call has: its queue, the block of its answer. -/
structure FR (w W : World) (B : Nat) (u v : Value) (s : SS) : Prop where
  q : Qb 121 W B u v s
  z : Z8 W (w.heap.size + 1)
  bl : Below w.heap.size w W
  hB : w.heap.size + 2 ≤ B
  fu : ∀ k, Blk u k → w.heap.size + 2 ≤ k
  fv : ∀ k, Blk v k → w.heap.size + 2 ≤ k
theorem FR.go {w W : World} {B : Nat} {u v : Value} {s : SS} (h : FR w W B u v s) {W' : World} (hb : Below W.heap.size W W') : FR w W' B u v s := ⟨h.q.go hb, h.z.go hb, nextG h.bl hb, h.hB, h.fu, h.fv⟩
theorem FR.dr {w W : World} {B : Nat} {u v : Value} {s : SS} (h : FR w W B u v s) : FR w W.drew B u v s := h.go (Below.refl _ _).drew
theorem FR.only {w W : World} {B : Nat} {u v : Value} {s : SS} (h : FR w W B u v s) {W' : World} {u' v' : Value} {s' : SS} (hq : QQ W B W' u' v' s') (fu : ∀ k, Blk u' k → w.heap.size + 2 ≤ k) (fv : ∀ k, Blk v' k → w.heap.size + 2 ≤ k) : FR w W' B u' v' s' :=
  ⟨hq.q, (hq.on.block _ h.z.lt (fun e => by have := h.hB; omega)).trans h.z, h.bl.trans (below_only hq.on h.bl.size (fun k hk => by have := h.hB; omega)), h.hB, fu, fv⟩
theorem FR.qq {w W : World} {B : Nat} {u v : Value} {s : SS} (h : FR w W B u v s) : QQ W B W u v s := ⟨h.q, Only.refl _ _⟩
theorem FR.s1 {w W : World} {B : Nat} {u v : Value} {s : SS} (h : FR w W B u v s) (x : Int) : FR w (W.setCell ⟨B, 1, none⟩ (.int .u64 x)) B u v { s with tp := x } := h.only (h.qq.s1 x) h.fu h.fv
theorem FR.s5 {w W : World} {B : Nat} {u v : Value} {s : SS} (h : FR w W B u v s) (x : Bool) : FR w (W.setCell ⟨B, 5, none⟩ (.bool x)) B u v { s with fin := x } := h.only (h.qq.s5 x) h.fu h.fv
theorem FR.s6 {w W : World} {B : Nat} {u v : Value} {s : SS} (h : FR w W B u v s) (x : Bool) : FR w (W.setCell ⟨B, 6, none⟩ (.bool x)) B u v { s with ft := x } := h.only (h.qq.s6 x) h.fu h.fv
theorem FR.s7 {w W : World} {B : Nat} {u v : Value} {s : SS} (h : FR w W B u v s) (x : Bool) : FR w (W.setCell ⟨B, 7, none⟩ (.bool x)) B u v { s with fa := x } := h.only (h.qq.s7 x) h.fu h.fv
theorem FR.s3 {w W : World} {B : Nat} {u v : Value} {s : SS} (h : FR w W B u v s) {x : Value} {l : List Ran} (hr : Rd W x l) (hf : ∀ k, Blk x k → w.heap.size + 2 ≤ k) (ho : ¬ Blk x B) : FR w (W.setCell ⟨B, 3, none⟩ x) B x v { s with ak := l } := h.only (h.qq.s3 hr ho) hf h.fv
theorem FR.s4 {w W : World} {B : Nat} {u v : Value} {s : SS} (h : FR w W B u v s) {x : Value} {l : List Ran} (hr : Rd W x l) (hf : ∀ k, Blk x k → w.heap.size + 2 ≤ k) (ho : ¬ Blk x B) : FR w (W.setCell ⟨B, 4, none⟩ x) B u x { s with td := l } := h.only (h.qq.s4 hr ho) h.fu hf
theorem FR.nu {w W : World} {B : Nat} {u v : Value} {s : SS} (h : FR w W B u v s) : ¬ Blk u (w.heap.size + 1) := fun hk => by have := h.fu _ hk; omega
theorem FR.nv {w W : World} {B : Nat} {u v : Value} {s : SS} (h : FR w W B u v s) : ¬ Blk v (w.heap.size + 1) := fun hk => by have := h.fv _ hk; omega
/-- What a call of the program gives: a state, whose sets are new. -/
def Gv (w : World) (s : SS) (e : Ending) (w' : World) : Prop := ∃ a1 n1 d1 a2 n2 d2, e = .returned (.agg #[.int .u64 s.ba, .int .u64 s.tp, .string s.d, .slice a1 n1 d1, .slice a2 n2 d2, .bool s.fin, .bool s.ft, .bool s.fa]) ∧
  Rd w' (.slice a1 n1 d1) s.ak ∧ Rd w' (.slice a2 n2 d2) s.td ∧ (∀ k, Blk (.slice a1 n1 d1) k → w.heap.size ≤ k) ∧ (∀ k, Blk (.slice a2 n2 d2) k → w.heap.size ≤ k) ∧ Below w.heap.size w w'
theorem FR.laid {w W : World} {B : Nat} {u v : Value} {s : SS} (h : FR w W B u v s) : ((((((((W.setCell ⟨w.heap.size + 1, 0, none⟩ (.int .u64 s.ba)).setCell ⟨w.heap.size + 1, 1, none⟩ (.int .u64 s.tp)).setCell ⟨w.heap.size + 1, 2, none⟩ (.string s.d)).setCell ⟨w.heap.size + 1, 3, none⟩ u).setCell ⟨w.heap.size + 1, 4, none⟩ v).setCell ⟨w.heap.size + 1, 5, none⟩ (.bool s.fin)).setCell ⟨w.heap.size + 1, 6, none⟩ (.bool s.ft)).setCell ⟨w.heap.size + 1, 7, none⟩ (.bool s.fa)).heap[w.heap.size + 1]? = some (.cells #[.int .u64 s.ba, .int .u64 s.tp, .string s.d, u, v, .bool s.fin, .bool s.ft, .bool s.fa] 30 (0, 0)) ∧ Rd ((((((((W.setCell ⟨w.heap.size + 1, 0, none⟩ (.int .u64 s.ba)).setCell ⟨w.heap.size + 1, 1, none⟩ (.int .u64 s.tp)).setCell ⟨w.heap.size + 1, 2, none⟩ (.string s.d)).setCell ⟨w.heap.size + 1, 3, none⟩ u).setCell ⟨w.heap.size + 1, 4, none⟩ v).setCell ⟨w.heap.size + 1, 5, none⟩ (.bool s.fin)).setCell ⟨w.heap.size + 1, 6, none⟩ (.bool s.ft)).setCell ⟨w.heap.size + 1, 7, none⟩ (.bool s.fa)) u s.ak ∧ Rd ((((((((W.setCell ⟨w.heap.size + 1, 0, none⟩ (.int .u64 s.ba)).setCell ⟨w.heap.size + 1, 1, none⟩ (.int .u64 s.tp)).setCell ⟨w.heap.size + 1, 2, none⟩ (.string s.d)).setCell ⟨w.heap.size + 1, 3, none⟩ u).setCell ⟨w.heap.size + 1, 4, none⟩ v).setCell ⟨w.heap.size + 1, 5, none⟩ (.bool s.fin)).setCell ⟨w.heap.size + 1, 6, none⟩ (.bool s.ft)).setCell ⟨w.heap.size + 1, 7, none⟩ (.bool s.fa)) v s.td ∧ Below w.heap.size w ((((((((W.setCell ⟨w.heap.size + 1, 0, none⟩ (.int .u64 s.ba)).setCell ⟨w.heap.size + 1, 1, none⟩ (.int .u64 s.tp)).setCell ⟨w.heap.size + 1, 2, none⟩ (.string s.d)).setCell ⟨w.heap.size + 1, 3, none⟩ u).setCell ⟨w.heap.size + 1, 4, none⟩ v).setCell ⟨w.heap.size + 1, 5, none⟩ (.bool s.fin)).setCell ⟨w.heap.size + 1, 6, none⟩ (.bool s.ft)).setCell ⟨w.heap.size + 1, 7, none⟩ (.bool s.fa)) :=
  ⟨eight_put h.z _ _ _ _ _ _ _ _, rd_eight h.q.ra h.nu _ _ _ _ _ _ _ _, rd_eight h.q.rt h.nv _ _ _ _ _ _ _ _, below_eight h.bl (by omega) _ _ _ _ _ _ _ _⟩
theorem results_st {fn : Func} {p : Tmp} (h : fn.results = #[.cell p 30]) (tmps : Array Value) (g : Nat) (x0 x1 : Int) (x2 : ByteArray) (u v : Value) (x5 x6 x7 : Bool) (w : World) (hp : tmps.getD p undef = .pointer (some ⟨g, 0, none⟩)) (hc : w.heap[g]? = some (.cells #[.int .u64 x0, .int .u64 x1, .string x2, u, v, .bool x5, .bool x6, .bool x7] 30 (0, 0))) :
    (results fn tmps).run Tryz.prog w = .ok (.agg #[.int .u64 x0, .int .u64 x1, .string x2, u, v, .bool x5, .bool x6, .bool x7]) w := by
  have c0 : w.cell? ⟨g, 0, none⟩ = some (.int .u64 x0) := Lib.cell_of_heap hc 0
  have c1 : w.cell? ⟨g, 1, none⟩ = some (.int .u64 x1) := Lib.cell_of_heap hc 1
  have c2 : w.cell? ⟨g, 2, none⟩ = some (.string x2) := Lib.cell_of_heap hc 2
  have c3 : w.cell? ⟨g, 3, none⟩ = some (u) := Lib.cell_of_heap hc 3
  have c4 : w.cell? ⟨g, 4, none⟩ = some (v) := Lib.cell_of_heap hc 4
  have c5 : w.cell? ⟨g, 5, none⟩ = some (.bool x5) := Lib.cell_of_heap hc 5
  have c6 : w.cell? ⟨g, 6, none⟩ = some (.bool x6) := Lib.cell_of_heap hc 6
  have c7 : w.cell? ⟨g, 7, none⟩ = some (.bool x7) := Lib.cell_of_heap hc 7
  rw [results_cell1 h]
  simp only [hp]
  go_simp
set_option maxHeartbeats 4000000 in
theorem finish_any (s : SS) (a1 : Option Addr) (n1 c1 : Nat) (a2 : Option Addr) (n2 c2 : Nat) (w : World) (hl1 : n1 ≤ 1000) (hl2 : n2 ≤ 1000) (ha : Rd w (.slice a1 n1 c1) s.ak) (ht : Rd w (.slice a2 n2 c2) s.td) :
    Calls Tryz.prog 34 #[.agg #[.int .u64 s.ba, .int .u64 s.tp, .string s.d, .slice a1 n1 c1, .slice a2 n2 c2, .bool s.fin, .bool s.ft, .bool s.fa]] w (Gv w (finS s)) := by
  have hm1 := rd_len ha
  have hm2 := rd_len ht
  have CO := Lib.hid (fun W (k1 : Rd W (.slice a1 n1 c1) s.ak) (k2 : Rd W (.slice a2 n2 c2) s.td) => ofq_any s a1 n1 c1 a2 n2 c2 W (by omega) (by omega) k1 k2)
  rw [← hm1, ← hm2] at CO
  have HB0 : Hid (Below w.heap.size w ((w.alloc (.cells #[.int .u64 s.ba, .int .u64 s.tp, .string s.d, .slice a1 n1 c1, .slice a2 n2 c2, .bool s.fin, .bool s.ft, .bool s.fa] 30)).alloc (.cells #[.int .u64 0, .int .u64 0, .string ⟨#[]⟩, .slice none 0 0, .slice none 0 0, .bool false, .bool false, .bool false] 30))) := Lib.hid (((Below.refl _ w).alloc (Nat.le_refl _) _).alloc (by simp) _)
  have HZ : Hid (Z8 ((w.alloc (.cells #[.int .u64 s.ba, .int .u64 s.tp, .string s.d, .slice a1 n1 c1, .slice a2 n2 c2, .bool s.fin, .bool s.ft, .bool s.fa] 30)).alloc (.cells #[.int .u64 0, .int .u64 0, .string ⟨#[]⟩, .slice none 0 0, .slice none 0 0, .bool false, .bool false, .bool false] 30)) (w.heap.size + 1)) := Lib.hid (by
    have h := heap_alloc_new (w.alloc (.cells #[.int .u64 s.ba, .int .u64 s.tp, .string s.d, .slice a1 n1 c1, .slice a2 n2 c2, .bool s.fin, .bool s.ft, .bool s.fa] 30)) (.cells #[.int .u64 0, .int .u64 0, .string ⟨#[]⟩, .slice none 0 0, .slice none 0 0, .bool false, .bool false, .bool false] 30)
    rw [World.size_alloc] at h
    exact h)
  have HA0 := Lib.hid (ha.go HB0.out)
  have HT0 := Lib.hid (ht.go HB0.out)
  clear hl1 hl2 ha ht hm1 hm2
  obtain ⟨ba, tp, d, ak, td, fin, ft, fa⟩ := s
  simp only at CO HB0 HZ HA0 HT0 ⊢
  cases fin with
  | true =>
    show Calls _ _ _ _ (Gv w ⟨ba, tp, d, ak, td, true, ft, fa⟩)
    go_enter Tryz.func34, Tryz.ntmps34
    go_wp2_with fail
    refine (CO.out _ HA0.out HT0.out).mono ?_
    rintro e w1 ⟨b1, d1, b2, d2, B, rfl, hB, hq, k1, k2, hb⟩
    have HF1 : Hid (FR w w1 B (.slice b1 n1 d1) (.slice b2 n2 d2) ⟨ba, tp, d, ak, td, true, ft, fa⟩) := Lib.hid ⟨hq, HZ.out.go hb, nextG HB0.out hb, by simp at hB; omega, fun k hk => by have := k1 k hk; simp at this; omega, fun k hk => by have := k2 k hk; simp at this; omega⟩
    clear hB hq k1 k2 hb HB0 HZ HA0 HT0 CO
    have z0 := HF1.out.q.c0
    have z1 := HF1.out.q.c1
    have z2 := HF1.out.q.c2
    have z3 := HF1.out.q.c3
    have z4 := HF1.out.q.c4
    have z5 := HF1.out.q.c5
    have z6 := HF1.out.q.c6
    have z7 := HF1.out.q.c7
    simp only at z0 z1 z2 z5 z6 z7
    have zf := HF1.out.q.fz
    have q0 : w1.cell? ⟨w.heap.size + 1, 0, none⟩ = _ := Lib.cell_of_heap HF1.out.z 0
    have q1 : w1.cell? ⟨w.heap.size + 1, 1, none⟩ = _ := Lib.cell_of_heap HF1.out.z 1
    have q2 : w1.cell? ⟨w.heap.size + 1, 2, none⟩ = _ := Lib.cell_of_heap HF1.out.z 2
    have q3 : w1.cell? ⟨w.heap.size + 1, 3, none⟩ = _ := Lib.cell_of_heap HF1.out.z 3
    have q4 : w1.cell? ⟨w.heap.size + 1, 4, none⟩ = _ := Lib.cell_of_heap HF1.out.z 4
    have q5 : w1.cell? ⟨w.heap.size + 1, 5, none⟩ = _ := Lib.cell_of_heap HF1.out.z 5
    have q6 : w1.cell? ⟨w.heap.size + 1, 6, none⟩ = _ := Lib.cell_of_heap HF1.out.z 6
    have q7 : w1.cell? ⟨w.heap.size + 1, 7, none⟩ = _ := Lib.cell_of_heap HF1.out.z 7
    have qf : ∀ k, w1.frozen? ⟨w.heap.size + 1, k, none⟩ = false := fun k => Lib.frozen_of_heap HF1.out.z k
    have hne : ¬ B = w.heap.size + 1 := by have := HF1.out.hB; omega
    have hne' : ¬ w.heap.size + 1 = B := by omega
    have HL := Lib.hid HF1.out.laid
    go_wp2_with fail
    exact bodyPost_ret (results_st Tryz.results34 _ (w.heap.size + 1) (ba) (tp) d (.slice b1 n1 d1) (.slice b2 n2 d2) true ft fa _ rfl HL.out.1) rfl ⟨_, _, _, _, _, _, rfl, HL.out.2.1, HL.out.2.2.1, fun k hk => by have := HF1.out.fu k hk; omega, fun k hk => by have := HF1.out.fv k hk; omega, HL.out.2.2.2⟩
  | false =>
    show Calls _ _ _ _ (Gv w ⟨ba, tp, d, ak, td, true, true, fa⟩)
    go_enter Tryz.func34, Tryz.ntmps34
    go_wp2_with fail
    refine (CO.out _ HA0.out HT0.out).mono ?_
    rintro e w1 ⟨b1, d1, b2, d2, B, rfl, hB, hq, k1, k2, hb⟩
    have HF1 : Hid (FR w w1 B (.slice b1 n1 d1) (.slice b2 n2 d2) ⟨ba, tp, d, ak, td, false, ft, fa⟩) := Lib.hid ⟨hq, HZ.out.go hb, nextG HB0.out hb, by simp at hB; omega, fun k hk => by have := k1 k hk; simp at this; omega, fun k hk => by have := k2 k hk; simp at this; omega⟩
    clear hB hq k1 k2 hb HB0 HZ HA0 HT0 CO
    have y0 := HF1.out.q.c0
    have y1 := HF1.out.q.c1
    have y2 := HF1.out.q.c2
    have y3 := HF1.out.q.c3
    have y4 := HF1.out.q.c4
    have y5 := HF1.out.q.c5
    have y6 := HF1.out.q.c6
    have y7 := HF1.out.q.c7
    simp only at y0 y1 y2 y5 y6 y7
    have yf := HF1.out.q.fz
    have HF2 := Lib.hid ((HF1.out.s5 true).s6 true)
    simp only at HF2
    have q0 : w1.cell? ⟨w.heap.size + 1, 0, none⟩ = _ := Lib.cell_of_heap HF1.out.z 0
    have q1 : w1.cell? ⟨w.heap.size + 1, 1, none⟩ = _ := Lib.cell_of_heap HF1.out.z 1
    have q2 : w1.cell? ⟨w.heap.size + 1, 2, none⟩ = _ := Lib.cell_of_heap HF1.out.z 2
    have q3 : w1.cell? ⟨w.heap.size + 1, 3, none⟩ = _ := Lib.cell_of_heap HF1.out.z 3
    have q4 : w1.cell? ⟨w.heap.size + 1, 4, none⟩ = _ := Lib.cell_of_heap HF1.out.z 4
    have q5 : w1.cell? ⟨w.heap.size + 1, 5, none⟩ = _ := Lib.cell_of_heap HF1.out.z 5
    have q6 : w1.cell? ⟨w.heap.size + 1, 6, none⟩ = _ := Lib.cell_of_heap HF1.out.z 6
    have q7 : w1.cell? ⟨w.heap.size + 1, 7, none⟩ = _ := Lib.cell_of_heap HF1.out.z 7
    have qf : ∀ k, w1.frozen? ⟨w.heap.size + 1, k, none⟩ = false := fun k => Lib.frozen_of_heap HF1.out.z k
    have hne : ¬ B = w.heap.size + 1 := by have := HF1.out.hB; omega
    have hne' : ¬ w.heap.size + 1 = B := by omega
    have HL := Lib.hid HF2.out.laid
    go_wp2_with fail
    exact bodyPost_ret (results_st Tryz.results34 _ (w.heap.size + 1) (ba) (tp) d (.slice b1 n1 d1) (.slice b2 n2 d2) true true fa _ rfl HL.out.1) rfl ⟨_, _, _, _, _, _, rfl, HL.out.2.1, HL.out.2.2.1, fun k hk => by have := HF2.out.fu k hk; omega, fun k hk => by have := HF2.out.fv k hk; omega, HL.out.2.2.2⟩
set_option maxHeartbeats 8000000 in
theorem sent_any (s : SS) (a1 : Option Addr) (n1 c1 : Nat) (a2 : Option Addr) (n2 c2 : Nat) (off n : Int) (f : Bool) (w : World) (hs : SsOk s) (hl1 : n1 ≤ 100) (hl2 : n2 ≤ 100) (ha : Rd w (.slice a1 n1 c1) s.ak) (ht : Rd w (.slice a2 n2 c2) s.td) (h2 : 0 ≤ off) (h3 : off + max n 0 < 18446744073709551616) :
    Calls Tryz.prog 153 #[.agg #[.int .u64 s.ba, .int .u64 s.tp, .string s.d, .slice a1 n1 c1, .slice a2 n2 c2, .bool s.fin, .bool s.ft, .bool s.fa], .int .u64 off, .int .i64 n, .bool f] w (Gv w (sentS s off n f)) := by
  have hm1 := rd_len ha
  have hm2 := rd_len ht
  have CO := Lib.hid (fun W (k1 : Rd W (.slice a1 n1 c1) s.ak) (k2 : Rd W (.slice a2 n2 c2) s.td) => ofq_any s a1 n1 c1 a2 n2 c2 W (by omega) (by omega) k1 k2)
  rw [← hm1, ← hm2] at CO
  have HB0 : Hid (Below w.heap.size w ((w.alloc (.cells #[.int .u64 s.ba, .int .u64 s.tp, .string s.d, .slice a1 n1 c1, .slice a2 n2 c2, .bool s.fin, .bool s.ft, .bool s.fa] 30)).alloc (.cells #[.int .u64 0, .int .u64 0, .string ⟨#[]⟩, .slice none 0 0, .slice none 0 0, .bool false, .bool false, .bool false] 30))) := Lib.hid (((Below.refl _ w).alloc (Nat.le_refl _) _).alloc (by simp) _)
  have HZ : Hid (Z8 ((w.alloc (.cells #[.int .u64 s.ba, .int .u64 s.tp, .string s.d, .slice a1 n1 c1, .slice a2 n2 c2, .bool s.fin, .bool s.ft, .bool s.fa] 30)).alloc (.cells #[.int .u64 0, .int .u64 0, .string ⟨#[]⟩, .slice none 0 0, .slice none 0 0, .bool false, .bool false, .bool false] 30)) (w.heap.size + 1)) := Lib.hid (by
    have h := heap_alloc_new (w.alloc (.cells #[.int .u64 s.ba, .int .u64 s.tp, .string s.d, .slice a1 n1 c1, .slice a2 n2 c2, .bool s.fin, .bool s.ft, .bool s.fa] 30)) (.cells #[.int .u64 0, .int .u64 0, .string ⟨#[]⟩, .slice none 0 0, .slice none 0 0, .bool false, .bool false, .bool false] 30)
    rw [World.size_alloc] at h
    exact h)
  have HA0 := Lib.hid (ha.go HB0.out)
  have HT0 := Lib.hid (ht.go HB0.out)
  obtain ⟨P1, P2, hP⟩ : ∃ P1 P2, plS s off n = (P1, P2) := ⟨_, _, rfl⟩
  have hgd := pl_good hs off n
  rw [hP] at hgd
  have CP := Lib.hid (fun (b1 : Option Addr) (d1 : Nat) (b2 : Option Addr) (d2 : Nat) W (k1 : Rd W (.slice b1 n1 d1) s.ak) (k2 : Rd W (.slice b2 n2 d2) s.td) => places_any s (.slice b1 n1 d1) (.slice b2 n2 d2) off n P1 P2 W hs.b0 hs.b1 k1 k2 h2 h3 hP)
  have CC := Lib.hid (fun (b2 : Option Addr) (d2 : Nat) W (k : Rd W (.slice b2 n2 d2) s.td) => cut_sets b2 n2 d2 s.td P1 P2 W hl2 hs.ct hgd.1 hgd.2 k)
  unfold Sets at CC
  obtain ⟨L, hL⟩ : ∃ x, min (off + max n 0) (en s) = x := ⟨_, rfl⟩
  obtain ⟨TT, hTT⟩ : ∃ x, max s.tp L = x := ⟨_, rfl⟩
  have hmx := max_run s.tp L TT hTT
  have hok := sent_td hs off n f
  have CR := Lib.hid (fun (b1 : Option Addr) (d1 : Nat) (b2 : Option Addr) (m2 d2 : Nat) W (k1 : Rd W (.slice b1 n1 d1) s.ak) (k2 : Rd W (.slice b2 m2 d2) (cuL s.td (P1, P2))) => reached_any ⟨s.ba, s.tp, s.d, s.ak, cuL s.td (P1, P2), s.fin, s.ft, s.fa⟩ (.slice b1 n1 d1) (.slice b2 m2 d2) off n W hs.b0 hs.b1 k1 k2 h2 h3)
  have CR : Hid (∀ (b1 : Option Addr) (d1 : Nat) (b2 : Option Addr) (d2 : Nat) W (k1 : Rd W (.slice b1 n1 d1) s.ak) (k2 : Rd W (.slice b2 (cuL s.td (P1, P2)).length d2) (cuL s.td (P1, P2))), Calls Tryz.prog 151 #[.agg #[.int .u64 s.ba, .int .u64 s.tp, .string s.d, .slice b1 n1 d1, .slice b2 (cuL s.td (P1, P2)).length d2, .bool s.fin, .bool s.ft, .bool s.fa], .int .u64 off, .int .i64 n] W fun e w' => e = .returned (.int .u64 L) ∧ Below W.heap.size W w') := Lib.hid (fun b1 d1 b2 d2 W k1 k2 => by
    have h := CR.out b1 d1 b2 _ d2 W k1 k2
    rw [show en ⟨s.ba, s.tp, s.d, s.ak, cuL s.td (P1, P2), s.fin, s.ft, s.fa⟩ = en s from rfl, hL] at h
    exact h)
  unfold sentS
  rw [hP, hL, hTT]
  clear hl1 hl2 ha ht hm1 hm2 hs h2 h3 hgd hP hL hTT hok
  obtain ⟨ba, tp, d, ak, td, fin, ft, fa⟩ := s
  obtain ⟨R, hR⟩ : ∃ l, cuL td (P1, P2) = l := ⟨_, rfl⟩
  simp only at CO HB0 HZ HA0 HT0 CP CC CR hmx ⊢
  rw [hR] at CC CR ⊢
  obtain ⟨rn, hrn⟩ : ∃ n, R.length = n := ⟨_, rfl⟩
  rw [hrn] at CC CR
  clear hR hrn
  cases f with
  | true =>
    rw [if_pos rfl]
    go_enter Tryz.func153, Tryz.ntmps153
    go_wp2_with fail
    refine (CO.out _ HA0.out HT0.out).mono ?_
    rintro e w1 ⟨b1, d1, b2, d2, B, rfl, hB, hq, k1, k2, hb⟩
    have HF1 : Hid (FR w w1 B (.slice b1 n1 d1) (.slice b2 n2 d2) ⟨ba, tp, d, ak, td, fin, ft, fa⟩) := Lib.hid ⟨hq, HZ.out.go hb, nextG HB0.out hb, by simp at hB; omega, fun k hk => by have := k1 k hk; simp at this; omega, fun k hk => by have := k2 k hk; simp at this; omega⟩
    clear hB hq k1 k2 hb HB0 HZ HA0 HT0 CO
    go_wp2_with fail
    refine wp_region_noPanic ?_
    refine wp_region_E (fun W : World => FR w W B (.slice b1 n1 d1) (.slice b2 n2 d2) ⟨ba, tp, d, ak, td, fin, ft, fa⟩) (fun j => Nat.ble 14 j) (by kernel_rfl) ?_ (fun hHeld => ?_)
    · exact HF1.out.dr
    refine wpAnyE_take (i := 0) (v := ?_) rfl (by kernel_rfl) (by kernel_rfl) (by kernel_rfl) (fun _ _ _ h => h) (Or.inl ⟨by rfl, ?_⟩) ?_
    rotate_left
    · (intro w hSw; go_simp; (try with_reducible rfl))
    try simp only [Act.put, List.getElem_toArray, List.getElem_cons_zero, List.getElem_cons_succ, List.setIfInBounds_toArray, List.set_cons_zero, List.set_cons_succ]
    refine wpAnyE_take (i := 1) (v := ?_) rfl (by kernel_rfl) (by kernel_rfl) (by kernel_rfl) (fun _ _ _ h => h) (Or.inl ⟨by rfl, ?_⟩) ?_
    rotate_left
    · (intro w hSw; go_simp; (try with_reducible rfl))
    try simp only [Act.put, List.getElem_toArray, List.getElem_cons_zero, List.getElem_cons_succ, List.setIfInBounds_toArray, List.set_cons_zero, List.set_cons_succ]
    refine wpAnyE_take (i := 2) (v := ?_) rfl (by kernel_rfl) (by kernel_rfl) (by kernel_rfl) (fun _ _ _ h => h) (Or.inl ⟨by rfl, ?_⟩) ?_
    rotate_left
    · (intro w hSw; go_simp; (try with_reducible rfl))
    try simp only [Act.put, List.getElem_toArray, List.getElem_cons_zero, List.getElem_cons_succ, List.setIfInBounds_toArray, List.set_cons_zero, List.set_cons_succ]
    refine wpAnyE_take (i := 3) (v := ?_) rfl (by kernel_rfl) (by kernel_rfl) (by kernel_rfl) (fun _ _ _ h => h) (Or.inl ⟨by rfl, ?_⟩) ?_
    rotate_left
    · (intro w hSw; go_simp; (try with_reducible rfl))
    try simp only [Act.put, List.getElem_toArray, List.getElem_cons_zero, List.getElem_cons_succ, List.setIfInBounds_toArray, List.set_cons_zero, List.set_cons_succ]
    refine wpAnyE_take (i := 4) (v := ?_) rfl (by kernel_rfl) (by kernel_rfl) (by kernel_rfl) (fun _ _ _ h => h) (Or.inl ⟨by rfl, ?_⟩) ?_
    rotate_left
    · (intro w hSw; go_simp; (try with_reducible rfl))
    try simp only [Act.put, List.getElem_toArray, List.getElem_cons_zero, List.getElem_cons_succ, List.setIfInBounds_toArray, List.set_cons_zero, List.set_cons_succ]
    refine wpAnyE_load (i := 5) (v := ?_) rfl (by kernel_rfl) (by kernel_rfl) (by kernel_rfl) (by kernel_rfl) (fun _ _ _ h => h) (Or.inl ⟨by rfl, ?_⟩) (by assumption) ?_
    rotate_left
    · (intro w hSw; (have k0 := hSw.q.c0; have k1 := hSw.q.c1; have k2 := hSw.q.c2; have k3 := hSw.q.c3; have k4 := hSw.q.c4; have k5 := hSw.q.c5; have k6 := hSw.q.c6; have k7 := hSw.q.c7; simp only at k0 k1 k2 k5 k6 k7); go_simp; (try with_reducible rfl))
    try simp only [Act.put, List.getElem_toArray, List.getElem_cons_zero, List.getElem_cons_succ, List.setIfInBounds_toArray, List.set_cons_zero, List.set_cons_succ]
    refine wpAnyE_take (i := 6) (v := ?_) rfl (by kernel_rfl) (by kernel_rfl) (by kernel_rfl) (fun _ _ _ h => h) (Or.inl ⟨by rfl, ?_⟩) ?_
    rotate_left
    · (intro w hSw; go_simp; (try with_reducible rfl))
    try simp only [Act.put, List.getElem_toArray, List.getElem_cons_zero, List.getElem_cons_succ, List.setIfInBounds_toArray, List.set_cons_zero, List.set_cons_succ]
    refine wpAnyE_take (i := 7) (v := ?_) rfl (by kernel_rfl) (by kernel_rfl) (by kernel_rfl) (fun _ _ _ h => h) (Or.inl ⟨by rfl, ?_⟩) ?_
    rotate_left
    · (intro w hSw; go_simp; (try with_reducible rfl))
    try simp only [Act.put, List.getElem_toArray, List.getElem_cons_zero, List.getElem_cons_succ, List.setIfInBounds_toArray, List.set_cons_zero, List.set_cons_succ]
    refine wpAnyE_take (i := 8) (v := ?_) rfl (by kernel_rfl) (by kernel_rfl) (by kernel_rfl) (fun _ _ _ h => h) (Or.inl ⟨by rfl, ?_⟩) ?_
    rotate_left
    · (intro w hSw; go_simp; (try with_reducible rfl))
    try simp only [Act.put, List.getElem_toArray, List.getElem_cons_zero, List.getElem_cons_succ, List.setIfInBounds_toArray, List.set_cons_zero, List.set_cons_succ]
    refine wpAnyE_load (i := 9) (v := ?_) rfl (by kernel_rfl) (by kernel_rfl) (by kernel_rfl) (by kernel_rfl) (fun _ _ _ h => h) (Or.inl ⟨by rfl, ?_⟩) (by assumption) ?_
    rotate_left
    · (intro w hSw; (have k0 := hSw.q.c0; have k1 := hSw.q.c1; have k2 := hSw.q.c2; have k3 := hSw.q.c3; have k4 := hSw.q.c4; have k5 := hSw.q.c5; have k6 := hSw.q.c6; have k7 := hSw.q.c7; simp only at k0 k1 k2 k5 k6 k7); go_simp; (try with_reducible rfl))
    try simp only [Act.put, List.getElem_toArray, List.getElem_cons_zero, List.getElem_cons_succ, List.setIfInBounds_toArray, List.set_cons_zero, List.set_cons_succ]
    refine wpAnyE_take (i := 10) (v := ?_) rfl (by kernel_rfl) (by kernel_rfl) (by kernel_rfl) (fun _ _ _ h => h) (Or.inl ⟨by rfl, ?_⟩) ?_
    rotate_left
    · (intro w hSw; go_simp; (try with_reducible rfl))
    try simp only [Act.put, List.getElem_toArray, List.getElem_cons_zero, List.getElem_cons_succ, List.setIfInBounds_toArray, List.set_cons_zero, List.set_cons_succ]
    refine wpAnyE_take (i := 11) (v := ?_) rfl (by kernel_rfl) (by kernel_rfl) (by kernel_rfl) (fun _ _ _ h => h) (Or.inl ⟨by rfl, ?_⟩) ?_
    rotate_left
    · (intro w hSw; go_simp; (try with_reducible rfl))
    try simp only [Act.put, List.getElem_toArray, List.getElem_cons_zero, List.getElem_cons_succ, List.setIfInBounds_toArray, List.set_cons_zero, List.set_cons_succ]
    refine wpAnyE_call (i := 12) (by kernel_rfl) rfl (by rfl) (fun K hK => ?_)
    go_simp
    refine (CP.out _ _ _ _ _ HF1.out.dr.q.ra HF1.out.dr.q.rt).mono ?_
    rintro e w2 ⟨rfl, hb⟩
    have HF2 := Lib.hid (HF1.out.dr.go hb)
    clear hb
    refine hK.out _ _ ?_ (fun hHeld => ?_)
    · exact HF2.out
    clear hK K
    try simp only [Act.put, List.getElem_toArray, List.getElem_cons_zero, List.getElem_cons_succ, List.setIfInBounds_toArray, List.set_cons_zero, List.set_cons_succ]
    refine wpAnyE_call (i := 13) (by kernel_rfl) rfl (by rfl) (fun K hK => ?_)
    go_simp
    refine (CC.out _ _ _ HF2.out.q.rt).mono ?_
    rintro e w3 ⟨b3, d3, rfl, hr, hk, hb⟩
    have HV := Lib.hid hr
    have KV := Lib.hid hk
    have HF3 := Lib.hid (HF2.out.go hb)
    clear hr hk hb
    have z0 := HF3.out.q.c0
    have z1 := HF3.out.q.c1
    have z2 := HF3.out.q.c2
    have z3 := HF3.out.q.c3
    have z4 := HF3.out.q.c4
    have z5 := HF3.out.q.c5
    have z6 := HF3.out.q.c6
    have z7 := HF3.out.q.c7
    simp only at z0 z1 z2 z5 z6 z7
    have zf := HF3.out.q.fz
    refine hK.out _ _ ?_ (fun hHeld => ?_)
    · exact HF3.out
    clear hK K
    try simp only [Act.put, List.getElem_toArray, List.getElem_cons_zero, List.getElem_cons_succ, List.setIfInBounds_toArray, List.set_cons_zero, List.set_cons_succ]
    refine wpAnyE_take (i := 14) (v := ?_) rfl (by kernel_rfl) (by kernel_rfl) (by kernel_rfl) (fun _ _ _ h => h) (Or.inl ⟨by rfl, ?_⟩) ?_
    rotate_left
    · (intro w hSw; go_simp; (try with_reducible rfl))
    try simp only [Act.put, List.getElem_toArray, List.getElem_cons_zero, List.getElem_cons_succ, List.setIfInBounds_toArray, List.set_cons_zero, List.set_cons_succ]
    refine wpAnyE_take (i := 15) (v := ?_) rfl (by kernel_rfl) (by kernel_rfl) (by kernel_rfl) (fun _ _ _ h => h) (Or.inl ⟨by rfl, ?_⟩) ?_
    rotate_left
    · (intro w hSw; go_simp; (try with_reducible rfl))
    try simp only [Act.put, List.getElem_toArray, List.getElem_cons_zero, List.getElem_cons_succ, List.setIfInBounds_toArray, List.set_cons_zero, List.set_cons_succ]
    refine wpAnyE_take (i := 16) (v := ?_) rfl (by kernel_rfl) (by kernel_rfl) (by kernel_rfl) (fun _ _ _ h => h) (Or.inl ⟨by rfl, ?_⟩) ?_
    rotate_left
    · (intro w hSw; go_simp; (try with_reducible rfl))
    try simp only [Act.put, List.getElem_toArray, List.getElem_cons_zero, List.getElem_cons_succ, List.setIfInBounds_toArray, List.set_cons_zero, List.set_cons_succ]
    refine wpAnyE_store (i := 17) (by kernel_rfl) rfl (by rfl) (by rfl) (fun K hK => ?_)
    go_simp
    refine hK.out _ _ ?_
    clear hK K
    try simp only [Act.put, List.getElem_toArray, List.getElem_cons_zero, List.getElem_cons_succ, List.setIfInBounds_toArray, List.set_cons_zero, List.set_cons_succ]
    refine wpAnyE_done (by kernel_rfl) (NoPanic.normal ?_) _
    have N2 : ¬ Blk (.slice b3 rn d3) B := fun hk => by have := KV.out _ hk; have := HF2.out.q.lt; omega
    have HF4 := Lib.hid (HF3.out.s4 HV.out (fun k hk => by have := KV.out k hk; have := HF2.out.hB; have := HF2.out.q.lt; omega) N2)
    simp only at HF4
    clear N2 z0 z1 z2 z3 z4 z5 z6 z7 zf
    go_wp2_with fail
    generalize w3.setCell _ _ = W3 at *
    refine wp_region_noPanic ?_
    refine wp_region_E (fun W : World => FR w W B (.slice b1 n1 d1) (.slice b3 rn d3) ⟨ba, tp, d, ak, R, fin, ft, fa⟩) (fun j => Nat.ble 14 j) (by kernel_rfl) ?_ (fun hHeld => ?_)
    · exact HF4.out.dr
    refine wpAnyE_take (i := 0) (v := ?_) rfl (by kernel_rfl) (by kernel_rfl) (by kernel_rfl) (fun _ _ _ h => h) (Or.inl ⟨by rfl, ?_⟩) ?_
    rotate_left
    · (intro w hSw; go_simp; (try with_reducible rfl))
    try simp only [Act.put, List.getElem_toArray, List.getElem_cons_zero, List.getElem_cons_succ, List.setIfInBounds_toArray, List.set_cons_zero, List.set_cons_succ]
    refine wpAnyE_take (i := 1) (v := ?_) rfl (by kernel_rfl) (by kernel_rfl) (by kernel_rfl) (fun _ _ _ h => h) (Or.inl ⟨by rfl, ?_⟩) ?_
    rotate_left
    · (intro w hSw; go_simp; (try with_reducible rfl))
    try simp only [Act.put, List.getElem_toArray, List.getElem_cons_zero, List.getElem_cons_succ, List.setIfInBounds_toArray, List.set_cons_zero, List.set_cons_succ]
    refine wpAnyE_take (i := 2) (v := ?_) rfl (by kernel_rfl) (by kernel_rfl) (by kernel_rfl) (fun _ _ _ h => h) (Or.inl ⟨by rfl, ?_⟩) ?_
    rotate_left
    · (intro w hSw; go_simp; (try with_reducible rfl))
    try simp only [Act.put, List.getElem_toArray, List.getElem_cons_zero, List.getElem_cons_succ, List.setIfInBounds_toArray, List.set_cons_zero, List.set_cons_succ]
    refine wpAnyE_take (i := 3) (v := ?_) rfl (by kernel_rfl) (by kernel_rfl) (by kernel_rfl) (fun _ _ _ h => h) (Or.inl ⟨by rfl, ?_⟩) ?_
    rotate_left
    · (intro w hSw; go_simp; (try with_reducible rfl))
    try simp only [Act.put, List.getElem_toArray, List.getElem_cons_zero, List.getElem_cons_succ, List.setIfInBounds_toArray, List.set_cons_zero, List.set_cons_succ]
    refine wpAnyE_take (i := 4) (v := ?_) rfl (by kernel_rfl) (by kernel_rfl) (by kernel_rfl) (fun _ _ _ h => h) (Or.inl ⟨by rfl, ?_⟩) ?_
    rotate_left
    · (intro w hSw; go_simp; (try with_reducible rfl))
    try simp only [Act.put, List.getElem_toArray, List.getElem_cons_zero, List.getElem_cons_succ, List.setIfInBounds_toArray, List.set_cons_zero, List.set_cons_succ]
    refine wpAnyE_load (i := 5) (v := ?_) rfl (by kernel_rfl) (by kernel_rfl) (by kernel_rfl) (by kernel_rfl) (fun _ _ _ h => h) (Or.inl ⟨by rfl, ?_⟩) (by assumption) ?_
    rotate_left
    · (intro w hSw; (have k0 := hSw.q.c0; have k1 := hSw.q.c1; have k2 := hSw.q.c2; have k3 := hSw.q.c3; have k4 := hSw.q.c4; have k5 := hSw.q.c5; have k6 := hSw.q.c6; have k7 := hSw.q.c7; simp only at k0 k1 k2 k5 k6 k7); go_simp; (try with_reducible rfl))
    try simp only [Act.put, List.getElem_toArray, List.getElem_cons_zero, List.getElem_cons_succ, List.setIfInBounds_toArray, List.set_cons_zero, List.set_cons_succ]
    refine wpAnyE_take (i := 6) (v := ?_) rfl (by kernel_rfl) (by kernel_rfl) (by kernel_rfl) (fun _ _ _ h => h) (Or.inl ⟨by rfl, ?_⟩) ?_
    rotate_left
    · (intro w hSw; go_simp; (try with_reducible rfl))
    try simp only [Act.put, List.getElem_toArray, List.getElem_cons_zero, List.getElem_cons_succ, List.setIfInBounds_toArray, List.set_cons_zero, List.set_cons_succ]
    refine wpAnyE_take (i := 7) (v := ?_) rfl (by kernel_rfl) (by kernel_rfl) (by kernel_rfl) (fun _ _ _ h => h) (Or.inl ⟨by rfl, ?_⟩) ?_
    rotate_left
    · (intro w hSw; go_simp; (try with_reducible rfl))
    try simp only [Act.put, List.getElem_toArray, List.getElem_cons_zero, List.getElem_cons_succ, List.setIfInBounds_toArray, List.set_cons_zero, List.set_cons_succ]
    refine wpAnyE_take (i := 8) (v := ?_) rfl (by kernel_rfl) (by kernel_rfl) (by kernel_rfl) (fun _ _ _ h => h) (Or.inl ⟨by rfl, ?_⟩) ?_
    rotate_left
    · (intro w hSw; go_simp; (try with_reducible rfl))
    try simp only [Act.put, List.getElem_toArray, List.getElem_cons_zero, List.getElem_cons_succ, List.setIfInBounds_toArray, List.set_cons_zero, List.set_cons_succ]
    refine wpAnyE_load (i := 9) (v := ?_) rfl (by kernel_rfl) (by kernel_rfl) (by kernel_rfl) (by kernel_rfl) (fun _ _ _ h => h) (Or.inl ⟨by rfl, ?_⟩) (by assumption) ?_
    rotate_left
    · (intro w hSw; (have k0 := hSw.q.c0; have k1 := hSw.q.c1; have k2 := hSw.q.c2; have k3 := hSw.q.c3; have k4 := hSw.q.c4; have k5 := hSw.q.c5; have k6 := hSw.q.c6; have k7 := hSw.q.c7; simp only at k0 k1 k2 k5 k6 k7); go_simp; (try with_reducible rfl))
    try simp only [Act.put, List.getElem_toArray, List.getElem_cons_zero, List.getElem_cons_succ, List.setIfInBounds_toArray, List.set_cons_zero, List.set_cons_succ]
    refine wpAnyE_take (i := 10) (v := ?_) rfl (by kernel_rfl) (by kernel_rfl) (by kernel_rfl) (fun _ _ _ h => h) (Or.inl ⟨by rfl, ?_⟩) ?_
    rotate_left
    · (intro w hSw; go_simp; (try with_reducible rfl))
    try simp only [Act.put, List.getElem_toArray, List.getElem_cons_zero, List.getElem_cons_succ, List.setIfInBounds_toArray, List.set_cons_zero, List.set_cons_succ]
    refine wpAnyE_take (i := 11) (v := ?_) rfl (by kernel_rfl) (by kernel_rfl) (by kernel_rfl) (fun _ _ _ h => h) (Or.inl ⟨by rfl, ?_⟩) ?_
    rotate_left
    · (intro w hSw; go_simp; (try with_reducible rfl))
    try simp only [Act.put, List.getElem_toArray, List.getElem_cons_zero, List.getElem_cons_succ, List.setIfInBounds_toArray, List.set_cons_zero, List.set_cons_succ]
    refine wpAnyE_call (i := 12) (by kernel_rfl) rfl (by rfl) (fun K hK => ?_)
    go_simp
    refine (CR.out _ _ _ _ _ HF4.out.dr.q.ra HF4.out.dr.q.rt).mono ?_
    rintro e w5 ⟨rfl, hb⟩
    have HF5 := Lib.hid (HF4.out.dr.go hb)
    clear hb
    have z0 := HF5.out.q.c0
    have z1 := HF5.out.q.c1
    have z2 := HF5.out.q.c2
    have z3 := HF5.out.q.c3
    have z4 := HF5.out.q.c4
    have z5 := HF5.out.q.c5
    have z6 := HF5.out.q.c6
    have z7 := HF5.out.q.c7
    simp only at z0 z1 z2 z5 z6 z7
    have zf := HF5.out.q.fz
    refine hK.out _ _ ?_ (fun hHeld => ?_)
    · exact HF5.out
    clear hK K
    try simp only [Act.put, List.getElem_toArray, List.getElem_cons_zero, List.getElem_cons_succ, List.setIfInBounds_toArray, List.set_cons_zero, List.set_cons_succ]
    refine wpAnyE_take (i := 13) (v := ?_) rfl (by kernel_rfl) (by kernel_rfl) (by kernel_rfl) (fun _ _ _ h => h) (Or.inl ⟨by rfl, ?_⟩) ?_
    rotate_left
    · (intro w hSw; go_simp; (try with_reducible rfl))
    try simp only [Act.put, List.getElem_toArray, List.getElem_cons_zero, List.getElem_cons_succ, List.setIfInBounds_toArray, List.set_cons_zero, List.set_cons_succ]
    refine wpAnyE_take (i := 14) (v := ?_) rfl (by kernel_rfl) (by kernel_rfl) (by kernel_rfl) (fun _ _ _ h => h) (Or.inl ⟨by rfl, ?_⟩) ?_
    rotate_left
    · (intro w hSw; go_simp; (try with_reducible rfl))
    try simp only [Act.put, List.getElem_toArray, List.getElem_cons_zero, List.getElem_cons_succ, List.setIfInBounds_toArray, List.set_cons_zero, List.set_cons_succ]
    refine wpAnyE_take (i := 15) (v := ?_) rfl (by kernel_rfl) (by kernel_rfl) (by kernel_rfl) (fun _ _ _ h => h) (Or.inl ⟨by rfl, ?_⟩) ?_
    rotate_left
    · (intro w hSw; go_simp; (try with_reducible rfl))
    try simp only [Act.put, List.getElem_toArray, List.getElem_cons_zero, List.getElem_cons_succ, List.setIfInBounds_toArray, List.set_cons_zero, List.set_cons_succ]
    refine wpAnyE_take (i := 16) (v := ?_) rfl (by kernel_rfl) (by kernel_rfl) (by kernel_rfl) (fun _ _ _ h => h) (Or.inl ⟨by rfl, ?_⟩) ?_
    rotate_left
    · (intro w hSw; go_simp; (try with_reducible rfl))
    try simp only [Act.put, List.getElem_toArray, List.getElem_cons_zero, List.getElem_cons_succ, List.setIfInBounds_toArray, List.set_cons_zero, List.set_cons_succ]
    refine wpAnyE_store (i := 17) (by kernel_rfl) rfl (by rfl) (by rfl) (fun K hK => ?_)
    go_simp
    refine hK.out _ _ ?_
    clear hK K
    try simp only [Act.put, List.getElem_toArray, List.getElem_cons_zero, List.getElem_cons_succ, List.setIfInBounds_toArray, List.set_cons_zero, List.set_cons_succ]
    refine wpAnyE_done (by kernel_rfl) (NoPanic.normal ?_) _
    have HF6 := Lib.hid (HF5.out.s1 TT)
    simp only at HF6
    clear z0 z1 z2 z3 z4 z5 z6 z7 zf
    generalize w5.setCell _ _ = W5 at *
    have y0 := HF6.out.q.c0
    have y1 := HF6.out.q.c1
    have y2 := HF6.out.q.c2
    have y3 := HF6.out.q.c3
    have y4 := HF6.out.q.c4
    have y5 := HF6.out.q.c5
    have y6 := HF6.out.q.c6
    have y7 := HF6.out.q.c7
    simp only at y0 y1 y2 y5 y6 y7
    have yf := HF6.out.q.fz
    have HF7 := Lib.hid (HF6.out.s6 false)
    simp only at HF7
    have q0 : W5.cell? ⟨w.heap.size + 1, 0, none⟩ = _ := Lib.cell_of_heap HF6.out.z 0
    have q1 : W5.cell? ⟨w.heap.size + 1, 1, none⟩ = _ := Lib.cell_of_heap HF6.out.z 1
    have q2 : W5.cell? ⟨w.heap.size + 1, 2, none⟩ = _ := Lib.cell_of_heap HF6.out.z 2
    have q3 : W5.cell? ⟨w.heap.size + 1, 3, none⟩ = _ := Lib.cell_of_heap HF6.out.z 3
    have q4 : W5.cell? ⟨w.heap.size + 1, 4, none⟩ = _ := Lib.cell_of_heap HF6.out.z 4
    have q5 : W5.cell? ⟨w.heap.size + 1, 5, none⟩ = _ := Lib.cell_of_heap HF6.out.z 5
    have q6 : W5.cell? ⟨w.heap.size + 1, 6, none⟩ = _ := Lib.cell_of_heap HF6.out.z 6
    have q7 : W5.cell? ⟨w.heap.size + 1, 7, none⟩ = _ := Lib.cell_of_heap HF6.out.z 7
    have qf : ∀ k, W5.frozen? ⟨w.heap.size + 1, k, none⟩ = false := fun k => Lib.frozen_of_heap HF6.out.z k
    have hne : ¬ B = w.heap.size + 1 := by have := HF6.out.hB; omega
    have hne' : ¬ w.heap.size + 1 = B := by omega
    have HL := Lib.hid HF7.out.laid
    go_wp2_with fail
    exact bodyPost_ret (results_st Tryz.results153 _ (w.heap.size + 1) (ba) (TT) d (.slice b1 n1 d1) (.slice b3 rn d3) fin false fa _ rfl HL.out.1) rfl ⟨_, _, _, _, _, _, rfl, HL.out.2.1, HL.out.2.2.1, fun k hk => by have := HF7.out.fu k hk; omega, fun k hk => by have := HF7.out.fv k hk; omega, HL.out.2.2.2⟩
  | false =>
    rw [if_neg (by simp)]
    go_enter Tryz.func153, Tryz.ntmps153
    go_wp2_with fail
    refine (CO.out _ HA0.out HT0.out).mono ?_
    rintro e w1 ⟨b1, d1, b2, d2, B, rfl, hB, hq, k1, k2, hb⟩
    have HF1 : Hid (FR w w1 B (.slice b1 n1 d1) (.slice b2 n2 d2) ⟨ba, tp, d, ak, td, fin, ft, fa⟩) := Lib.hid ⟨hq, HZ.out.go hb, nextG HB0.out hb, by simp at hB; omega, fun k hk => by have := k1 k hk; simp at this; omega, fun k hk => by have := k2 k hk; simp at this; omega⟩
    clear hB hq k1 k2 hb HB0 HZ HA0 HT0 CO
    go_wp2_with fail
    refine wp_region_noPanic ?_
    refine wp_region_E (fun W : World => FR w W B (.slice b1 n1 d1) (.slice b2 n2 d2) ⟨ba, tp, d, ak, td, fin, ft, fa⟩) (fun j => Nat.ble 14 j) (by kernel_rfl) ?_ (fun hHeld => ?_)
    · exact HF1.out.dr
    refine wpAnyE_take (i := 0) (v := ?_) rfl (by kernel_rfl) (by kernel_rfl) (by kernel_rfl) (fun _ _ _ h => h) (Or.inl ⟨by rfl, ?_⟩) ?_
    rotate_left
    · (intro w hSw; go_simp; (try with_reducible rfl))
    try simp only [Act.put, List.getElem_toArray, List.getElem_cons_zero, List.getElem_cons_succ, List.setIfInBounds_toArray, List.set_cons_zero, List.set_cons_succ]
    refine wpAnyE_take (i := 1) (v := ?_) rfl (by kernel_rfl) (by kernel_rfl) (by kernel_rfl) (fun _ _ _ h => h) (Or.inl ⟨by rfl, ?_⟩) ?_
    rotate_left
    · (intro w hSw; go_simp; (try with_reducible rfl))
    try simp only [Act.put, List.getElem_toArray, List.getElem_cons_zero, List.getElem_cons_succ, List.setIfInBounds_toArray, List.set_cons_zero, List.set_cons_succ]
    refine wpAnyE_take (i := 2) (v := ?_) rfl (by kernel_rfl) (by kernel_rfl) (by kernel_rfl) (fun _ _ _ h => h) (Or.inl ⟨by rfl, ?_⟩) ?_
    rotate_left
    · (intro w hSw; go_simp; (try with_reducible rfl))
    try simp only [Act.put, List.getElem_toArray, List.getElem_cons_zero, List.getElem_cons_succ, List.setIfInBounds_toArray, List.set_cons_zero, List.set_cons_succ]
    refine wpAnyE_take (i := 3) (v := ?_) rfl (by kernel_rfl) (by kernel_rfl) (by kernel_rfl) (fun _ _ _ h => h) (Or.inl ⟨by rfl, ?_⟩) ?_
    rotate_left
    · (intro w hSw; go_simp; (try with_reducible rfl))
    try simp only [Act.put, List.getElem_toArray, List.getElem_cons_zero, List.getElem_cons_succ, List.setIfInBounds_toArray, List.set_cons_zero, List.set_cons_succ]
    refine wpAnyE_take (i := 4) (v := ?_) rfl (by kernel_rfl) (by kernel_rfl) (by kernel_rfl) (fun _ _ _ h => h) (Or.inl ⟨by rfl, ?_⟩) ?_
    rotate_left
    · (intro w hSw; go_simp; (try with_reducible rfl))
    try simp only [Act.put, List.getElem_toArray, List.getElem_cons_zero, List.getElem_cons_succ, List.setIfInBounds_toArray, List.set_cons_zero, List.set_cons_succ]
    refine wpAnyE_load (i := 5) (v := ?_) rfl (by kernel_rfl) (by kernel_rfl) (by kernel_rfl) (by kernel_rfl) (fun _ _ _ h => h) (Or.inl ⟨by rfl, ?_⟩) (by assumption) ?_
    rotate_left
    · (intro w hSw; (have k0 := hSw.q.c0; have k1 := hSw.q.c1; have k2 := hSw.q.c2; have k3 := hSw.q.c3; have k4 := hSw.q.c4; have k5 := hSw.q.c5; have k6 := hSw.q.c6; have k7 := hSw.q.c7; simp only at k0 k1 k2 k5 k6 k7); go_simp; (try with_reducible rfl))
    try simp only [Act.put, List.getElem_toArray, List.getElem_cons_zero, List.getElem_cons_succ, List.setIfInBounds_toArray, List.set_cons_zero, List.set_cons_succ]
    refine wpAnyE_take (i := 6) (v := ?_) rfl (by kernel_rfl) (by kernel_rfl) (by kernel_rfl) (fun _ _ _ h => h) (Or.inl ⟨by rfl, ?_⟩) ?_
    rotate_left
    · (intro w hSw; go_simp; (try with_reducible rfl))
    try simp only [Act.put, List.getElem_toArray, List.getElem_cons_zero, List.getElem_cons_succ, List.setIfInBounds_toArray, List.set_cons_zero, List.set_cons_succ]
    refine wpAnyE_take (i := 7) (v := ?_) rfl (by kernel_rfl) (by kernel_rfl) (by kernel_rfl) (fun _ _ _ h => h) (Or.inl ⟨by rfl, ?_⟩) ?_
    rotate_left
    · (intro w hSw; go_simp; (try with_reducible rfl))
    try simp only [Act.put, List.getElem_toArray, List.getElem_cons_zero, List.getElem_cons_succ, List.setIfInBounds_toArray, List.set_cons_zero, List.set_cons_succ]
    refine wpAnyE_take (i := 8) (v := ?_) rfl (by kernel_rfl) (by kernel_rfl) (by kernel_rfl) (fun _ _ _ h => h) (Or.inl ⟨by rfl, ?_⟩) ?_
    rotate_left
    · (intro w hSw; go_simp; (try with_reducible rfl))
    try simp only [Act.put, List.getElem_toArray, List.getElem_cons_zero, List.getElem_cons_succ, List.setIfInBounds_toArray, List.set_cons_zero, List.set_cons_succ]
    refine wpAnyE_load (i := 9) (v := ?_) rfl (by kernel_rfl) (by kernel_rfl) (by kernel_rfl) (by kernel_rfl) (fun _ _ _ h => h) (Or.inl ⟨by rfl, ?_⟩) (by assumption) ?_
    rotate_left
    · (intro w hSw; (have k0 := hSw.q.c0; have k1 := hSw.q.c1; have k2 := hSw.q.c2; have k3 := hSw.q.c3; have k4 := hSw.q.c4; have k5 := hSw.q.c5; have k6 := hSw.q.c6; have k7 := hSw.q.c7; simp only at k0 k1 k2 k5 k6 k7); go_simp; (try with_reducible rfl))
    try simp only [Act.put, List.getElem_toArray, List.getElem_cons_zero, List.getElem_cons_succ, List.setIfInBounds_toArray, List.set_cons_zero, List.set_cons_succ]
    refine wpAnyE_take (i := 10) (v := ?_) rfl (by kernel_rfl) (by kernel_rfl) (by kernel_rfl) (fun _ _ _ h => h) (Or.inl ⟨by rfl, ?_⟩) ?_
    rotate_left
    · (intro w hSw; go_simp; (try with_reducible rfl))
    try simp only [Act.put, List.getElem_toArray, List.getElem_cons_zero, List.getElem_cons_succ, List.setIfInBounds_toArray, List.set_cons_zero, List.set_cons_succ]
    refine wpAnyE_take (i := 11) (v := ?_) rfl (by kernel_rfl) (by kernel_rfl) (by kernel_rfl) (fun _ _ _ h => h) (Or.inl ⟨by rfl, ?_⟩) ?_
    rotate_left
    · (intro w hSw; go_simp; (try with_reducible rfl))
    try simp only [Act.put, List.getElem_toArray, List.getElem_cons_zero, List.getElem_cons_succ, List.setIfInBounds_toArray, List.set_cons_zero, List.set_cons_succ]
    refine wpAnyE_call (i := 12) (by kernel_rfl) rfl (by rfl) (fun K hK => ?_)
    go_simp
    refine (CP.out _ _ _ _ _ HF1.out.dr.q.ra HF1.out.dr.q.rt).mono ?_
    rintro e w2 ⟨rfl, hb⟩
    have HF2 := Lib.hid (HF1.out.dr.go hb)
    clear hb
    refine hK.out _ _ ?_ (fun hHeld => ?_)
    · exact HF2.out
    clear hK K
    try simp only [Act.put, List.getElem_toArray, List.getElem_cons_zero, List.getElem_cons_succ, List.setIfInBounds_toArray, List.set_cons_zero, List.set_cons_succ]
    refine wpAnyE_call (i := 13) (by kernel_rfl) rfl (by rfl) (fun K hK => ?_)
    go_simp
    refine (CC.out _ _ _ HF2.out.q.rt).mono ?_
    rintro e w3 ⟨b3, d3, rfl, hr, hk, hb⟩
    have HV := Lib.hid hr
    have KV := Lib.hid hk
    have HF3 := Lib.hid (HF2.out.go hb)
    clear hr hk hb
    have z0 := HF3.out.q.c0
    have z1 := HF3.out.q.c1
    have z2 := HF3.out.q.c2
    have z3 := HF3.out.q.c3
    have z4 := HF3.out.q.c4
    have z5 := HF3.out.q.c5
    have z6 := HF3.out.q.c6
    have z7 := HF3.out.q.c7
    simp only at z0 z1 z2 z5 z6 z7
    have zf := HF3.out.q.fz
    refine hK.out _ _ ?_ (fun hHeld => ?_)
    · exact HF3.out
    clear hK K
    try simp only [Act.put, List.getElem_toArray, List.getElem_cons_zero, List.getElem_cons_succ, List.setIfInBounds_toArray, List.set_cons_zero, List.set_cons_succ]
    refine wpAnyE_take (i := 14) (v := ?_) rfl (by kernel_rfl) (by kernel_rfl) (by kernel_rfl) (fun _ _ _ h => h) (Or.inl ⟨by rfl, ?_⟩) ?_
    rotate_left
    · (intro w hSw; go_simp; (try with_reducible rfl))
    try simp only [Act.put, List.getElem_toArray, List.getElem_cons_zero, List.getElem_cons_succ, List.setIfInBounds_toArray, List.set_cons_zero, List.set_cons_succ]
    refine wpAnyE_take (i := 15) (v := ?_) rfl (by kernel_rfl) (by kernel_rfl) (by kernel_rfl) (fun _ _ _ h => h) (Or.inl ⟨by rfl, ?_⟩) ?_
    rotate_left
    · (intro w hSw; go_simp; (try with_reducible rfl))
    try simp only [Act.put, List.getElem_toArray, List.getElem_cons_zero, List.getElem_cons_succ, List.setIfInBounds_toArray, List.set_cons_zero, List.set_cons_succ]
    refine wpAnyE_take (i := 16) (v := ?_) rfl (by kernel_rfl) (by kernel_rfl) (by kernel_rfl) (fun _ _ _ h => h) (Or.inl ⟨by rfl, ?_⟩) ?_
    rotate_left
    · (intro w hSw; go_simp; (try with_reducible rfl))
    try simp only [Act.put, List.getElem_toArray, List.getElem_cons_zero, List.getElem_cons_succ, List.setIfInBounds_toArray, List.set_cons_zero, List.set_cons_succ]
    refine wpAnyE_store (i := 17) (by kernel_rfl) rfl (by rfl) (by rfl) (fun K hK => ?_)
    go_simp
    refine hK.out _ _ ?_
    clear hK K
    try simp only [Act.put, List.getElem_toArray, List.getElem_cons_zero, List.getElem_cons_succ, List.setIfInBounds_toArray, List.set_cons_zero, List.set_cons_succ]
    refine wpAnyE_done (by kernel_rfl) (NoPanic.normal ?_) _
    have N2 : ¬ Blk (.slice b3 rn d3) B := fun hk => by have := KV.out _ hk; have := HF2.out.q.lt; omega
    have HF4 := Lib.hid (HF3.out.s4 HV.out (fun k hk => by have := KV.out k hk; have := HF2.out.hB; have := HF2.out.q.lt; omega) N2)
    simp only at HF4
    clear N2 z0 z1 z2 z3 z4 z5 z6 z7 zf
    go_wp2_with fail
    generalize w3.setCell _ _ = W3 at *
    refine wp_region_noPanic ?_
    refine wp_region_E (fun W : World => FR w W B (.slice b1 n1 d1) (.slice b3 rn d3) ⟨ba, tp, d, ak, R, fin, ft, fa⟩) (fun j => Nat.ble 14 j) (by kernel_rfl) ?_ (fun hHeld => ?_)
    · exact HF4.out.dr
    refine wpAnyE_take (i := 0) (v := ?_) rfl (by kernel_rfl) (by kernel_rfl) (by kernel_rfl) (fun _ _ _ h => h) (Or.inl ⟨by rfl, ?_⟩) ?_
    rotate_left
    · (intro w hSw; go_simp; (try with_reducible rfl))
    try simp only [Act.put, List.getElem_toArray, List.getElem_cons_zero, List.getElem_cons_succ, List.setIfInBounds_toArray, List.set_cons_zero, List.set_cons_succ]
    refine wpAnyE_take (i := 1) (v := ?_) rfl (by kernel_rfl) (by kernel_rfl) (by kernel_rfl) (fun _ _ _ h => h) (Or.inl ⟨by rfl, ?_⟩) ?_
    rotate_left
    · (intro w hSw; go_simp; (try with_reducible rfl))
    try simp only [Act.put, List.getElem_toArray, List.getElem_cons_zero, List.getElem_cons_succ, List.setIfInBounds_toArray, List.set_cons_zero, List.set_cons_succ]
    refine wpAnyE_take (i := 2) (v := ?_) rfl (by kernel_rfl) (by kernel_rfl) (by kernel_rfl) (fun _ _ _ h => h) (Or.inl ⟨by rfl, ?_⟩) ?_
    rotate_left
    · (intro w hSw; go_simp; (try with_reducible rfl))
    try simp only [Act.put, List.getElem_toArray, List.getElem_cons_zero, List.getElem_cons_succ, List.setIfInBounds_toArray, List.set_cons_zero, List.set_cons_succ]
    refine wpAnyE_take (i := 3) (v := ?_) rfl (by kernel_rfl) (by kernel_rfl) (by kernel_rfl) (fun _ _ _ h => h) (Or.inl ⟨by rfl, ?_⟩) ?_
    rotate_left
    · (intro w hSw; go_simp; (try with_reducible rfl))
    try simp only [Act.put, List.getElem_toArray, List.getElem_cons_zero, List.getElem_cons_succ, List.setIfInBounds_toArray, List.set_cons_zero, List.set_cons_succ]
    refine wpAnyE_take (i := 4) (v := ?_) rfl (by kernel_rfl) (by kernel_rfl) (by kernel_rfl) (fun _ _ _ h => h) (Or.inl ⟨by rfl, ?_⟩) ?_
    rotate_left
    · (intro w hSw; go_simp; (try with_reducible rfl))
    try simp only [Act.put, List.getElem_toArray, List.getElem_cons_zero, List.getElem_cons_succ, List.setIfInBounds_toArray, List.set_cons_zero, List.set_cons_succ]
    refine wpAnyE_load (i := 5) (v := ?_) rfl (by kernel_rfl) (by kernel_rfl) (by kernel_rfl) (by kernel_rfl) (fun _ _ _ h => h) (Or.inl ⟨by rfl, ?_⟩) (by assumption) ?_
    rotate_left
    · (intro w hSw; (have k0 := hSw.q.c0; have k1 := hSw.q.c1; have k2 := hSw.q.c2; have k3 := hSw.q.c3; have k4 := hSw.q.c4; have k5 := hSw.q.c5; have k6 := hSw.q.c6; have k7 := hSw.q.c7; simp only at k0 k1 k2 k5 k6 k7); go_simp; (try with_reducible rfl))
    try simp only [Act.put, List.getElem_toArray, List.getElem_cons_zero, List.getElem_cons_succ, List.setIfInBounds_toArray, List.set_cons_zero, List.set_cons_succ]
    refine wpAnyE_take (i := 6) (v := ?_) rfl (by kernel_rfl) (by kernel_rfl) (by kernel_rfl) (fun _ _ _ h => h) (Or.inl ⟨by rfl, ?_⟩) ?_
    rotate_left
    · (intro w hSw; go_simp; (try with_reducible rfl))
    try simp only [Act.put, List.getElem_toArray, List.getElem_cons_zero, List.getElem_cons_succ, List.setIfInBounds_toArray, List.set_cons_zero, List.set_cons_succ]
    refine wpAnyE_take (i := 7) (v := ?_) rfl (by kernel_rfl) (by kernel_rfl) (by kernel_rfl) (fun _ _ _ h => h) (Or.inl ⟨by rfl, ?_⟩) ?_
    rotate_left
    · (intro w hSw; go_simp; (try with_reducible rfl))
    try simp only [Act.put, List.getElem_toArray, List.getElem_cons_zero, List.getElem_cons_succ, List.setIfInBounds_toArray, List.set_cons_zero, List.set_cons_succ]
    refine wpAnyE_take (i := 8) (v := ?_) rfl (by kernel_rfl) (by kernel_rfl) (by kernel_rfl) (fun _ _ _ h => h) (Or.inl ⟨by rfl, ?_⟩) ?_
    rotate_left
    · (intro w hSw; go_simp; (try with_reducible rfl))
    try simp only [Act.put, List.getElem_toArray, List.getElem_cons_zero, List.getElem_cons_succ, List.setIfInBounds_toArray, List.set_cons_zero, List.set_cons_succ]
    refine wpAnyE_load (i := 9) (v := ?_) rfl (by kernel_rfl) (by kernel_rfl) (by kernel_rfl) (by kernel_rfl) (fun _ _ _ h => h) (Or.inl ⟨by rfl, ?_⟩) (by assumption) ?_
    rotate_left
    · (intro w hSw; (have k0 := hSw.q.c0; have k1 := hSw.q.c1; have k2 := hSw.q.c2; have k3 := hSw.q.c3; have k4 := hSw.q.c4; have k5 := hSw.q.c5; have k6 := hSw.q.c6; have k7 := hSw.q.c7; simp only at k0 k1 k2 k5 k6 k7); go_simp; (try with_reducible rfl))
    try simp only [Act.put, List.getElem_toArray, List.getElem_cons_zero, List.getElem_cons_succ, List.setIfInBounds_toArray, List.set_cons_zero, List.set_cons_succ]
    refine wpAnyE_take (i := 10) (v := ?_) rfl (by kernel_rfl) (by kernel_rfl) (by kernel_rfl) (fun _ _ _ h => h) (Or.inl ⟨by rfl, ?_⟩) ?_
    rotate_left
    · (intro w hSw; go_simp; (try with_reducible rfl))
    try simp only [Act.put, List.getElem_toArray, List.getElem_cons_zero, List.getElem_cons_succ, List.setIfInBounds_toArray, List.set_cons_zero, List.set_cons_succ]
    refine wpAnyE_take (i := 11) (v := ?_) rfl (by kernel_rfl) (by kernel_rfl) (by kernel_rfl) (fun _ _ _ h => h) (Or.inl ⟨by rfl, ?_⟩) ?_
    rotate_left
    · (intro w hSw; go_simp; (try with_reducible rfl))
    try simp only [Act.put, List.getElem_toArray, List.getElem_cons_zero, List.getElem_cons_succ, List.setIfInBounds_toArray, List.set_cons_zero, List.set_cons_succ]
    refine wpAnyE_call (i := 12) (by kernel_rfl) rfl (by rfl) (fun K hK => ?_)
    go_simp
    refine (CR.out _ _ _ _ _ HF4.out.dr.q.ra HF4.out.dr.q.rt).mono ?_
    rintro e w5 ⟨rfl, hb⟩
    have HF5 := Lib.hid (HF4.out.dr.go hb)
    clear hb
    have z0 := HF5.out.q.c0
    have z1 := HF5.out.q.c1
    have z2 := HF5.out.q.c2
    have z3 := HF5.out.q.c3
    have z4 := HF5.out.q.c4
    have z5 := HF5.out.q.c5
    have z6 := HF5.out.q.c6
    have z7 := HF5.out.q.c7
    simp only at z0 z1 z2 z5 z6 z7
    have zf := HF5.out.q.fz
    refine hK.out _ _ ?_ (fun hHeld => ?_)
    · exact HF5.out
    clear hK K
    try simp only [Act.put, List.getElem_toArray, List.getElem_cons_zero, List.getElem_cons_succ, List.setIfInBounds_toArray, List.set_cons_zero, List.set_cons_succ]
    refine wpAnyE_take (i := 13) (v := ?_) rfl (by kernel_rfl) (by kernel_rfl) (by kernel_rfl) (fun _ _ _ h => h) (Or.inl ⟨by rfl, ?_⟩) ?_
    rotate_left
    · (intro w hSw; go_simp; (try with_reducible rfl))
    try simp only [Act.put, List.getElem_toArray, List.getElem_cons_zero, List.getElem_cons_succ, List.setIfInBounds_toArray, List.set_cons_zero, List.set_cons_succ]
    refine wpAnyE_take (i := 14) (v := ?_) rfl (by kernel_rfl) (by kernel_rfl) (by kernel_rfl) (fun _ _ _ h => h) (Or.inl ⟨by rfl, ?_⟩) ?_
    rotate_left
    · (intro w hSw; go_simp; (try with_reducible rfl))
    try simp only [Act.put, List.getElem_toArray, List.getElem_cons_zero, List.getElem_cons_succ, List.setIfInBounds_toArray, List.set_cons_zero, List.set_cons_succ]
    refine wpAnyE_take (i := 15) (v := ?_) rfl (by kernel_rfl) (by kernel_rfl) (by kernel_rfl) (fun _ _ _ h => h) (Or.inl ⟨by rfl, ?_⟩) ?_
    rotate_left
    · (intro w hSw; go_simp; (try with_reducible rfl))
    try simp only [Act.put, List.getElem_toArray, List.getElem_cons_zero, List.getElem_cons_succ, List.setIfInBounds_toArray, List.set_cons_zero, List.set_cons_succ]
    refine wpAnyE_take (i := 16) (v := ?_) rfl (by kernel_rfl) (by kernel_rfl) (by kernel_rfl) (fun _ _ _ h => h) (Or.inl ⟨by rfl, ?_⟩) ?_
    rotate_left
    · (intro w hSw; go_simp; (try with_reducible rfl))
    try simp only [Act.put, List.getElem_toArray, List.getElem_cons_zero, List.getElem_cons_succ, List.setIfInBounds_toArray, List.set_cons_zero, List.set_cons_succ]
    refine wpAnyE_store (i := 17) (by kernel_rfl) rfl (by rfl) (by rfl) (fun K hK => ?_)
    go_simp
    refine hK.out _ _ ?_
    clear hK K
    try simp only [Act.put, List.getElem_toArray, List.getElem_cons_zero, List.getElem_cons_succ, List.setIfInBounds_toArray, List.set_cons_zero, List.set_cons_succ]
    refine wpAnyE_done (by kernel_rfl) (NoPanic.normal ?_) _
    have HF6 := Lib.hid (HF5.out.s1 TT)
    simp only at HF6
    clear z0 z1 z2 z3 z4 z5 z6 z7 zf
    generalize w5.setCell _ _ = W5 at *
    have z0 := HF6.out.q.c0
    have z1 := HF6.out.q.c1
    have z2 := HF6.out.q.c2
    have z3 := HF6.out.q.c3
    have z4 := HF6.out.q.c4
    have z5 := HF6.out.q.c5
    have z6 := HF6.out.q.c6
    have z7 := HF6.out.q.c7
    simp only at z0 z1 z2 z5 z6 z7
    have zf := HF6.out.q.fz
    have q0 : W5.cell? ⟨w.heap.size + 1, 0, none⟩ = _ := Lib.cell_of_heap HF6.out.z 0
    have q1 : W5.cell? ⟨w.heap.size + 1, 1, none⟩ = _ := Lib.cell_of_heap HF6.out.z 1
    have q2 : W5.cell? ⟨w.heap.size + 1, 2, none⟩ = _ := Lib.cell_of_heap HF6.out.z 2
    have q3 : W5.cell? ⟨w.heap.size + 1, 3, none⟩ = _ := Lib.cell_of_heap HF6.out.z 3
    have q4 : W5.cell? ⟨w.heap.size + 1, 4, none⟩ = _ := Lib.cell_of_heap HF6.out.z 4
    have q5 : W5.cell? ⟨w.heap.size + 1, 5, none⟩ = _ := Lib.cell_of_heap HF6.out.z 5
    have q6 : W5.cell? ⟨w.heap.size + 1, 6, none⟩ = _ := Lib.cell_of_heap HF6.out.z 6
    have q7 : W5.cell? ⟨w.heap.size + 1, 7, none⟩ = _ := Lib.cell_of_heap HF6.out.z 7
    have qf : ∀ k, W5.frozen? ⟨w.heap.size + 1, k, none⟩ = false := fun k => Lib.frozen_of_heap HF6.out.z k
    have hne : ¬ B = w.heap.size + 1 := by have := HF6.out.hB; omega
    have hne' : ¬ w.heap.size + 1 = B := by omega
    have HL := Lib.hid HF6.out.laid
    go_wp2_with fail
    exact bodyPost_ret (results_st Tryz.results153 _ (w.heap.size + 1) (ba) (TT) d (.slice b1 n1 d1) (.slice b3 rn d3) fin ft fa _ rfl HL.out.1) rfl ⟨_, _, _, _, _, _, rfl, HL.out.2.1, HL.out.2.2.1, fun k hk => by have := HF6.out.fu k hk; omega, fun k hk => by have := HF6.out.fv k hk; omega, HL.out.2.2.2⟩
end Go.Proofs.YtoblmhpjendbfaaGreatDoor.Rg
