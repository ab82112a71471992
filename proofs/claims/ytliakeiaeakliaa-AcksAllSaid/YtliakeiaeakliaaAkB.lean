/- Layer 13: the walks of a tally; of Got, Sent, Frame, Due. By hand. -/
import Derived.Test.YtliakeiaeakliaaAkA
import Derived.Laws.ResultCell
import Derived.Lib.Hide
import Derived.Lib.SmallJoins
namespace Go.Proofs.Ytliakeiaeakliaa.Rg
set_option maxRecDepth 20000
open Go.RowKit Go.Shelf
set_option linter.unusedVariables false
set_option linter.unusedSimpArgs false

theorem below_only {O : Nat → Prop} {A B : World} {n : Nat} (h : Only O A B) (hn : n ≤ A.heap.size) (ho : ∀ k, O k → n ≤ k) : Below n A B :=
  ⟨h.os, h.tape, h.output, h.size, fun k hk => h.block k (by omega) (fun hO => by have := ho k hO; omega)⟩
theorem rd_set {w : World} {v : Value} {l : List Ran} (h : Rd w v l) {b k : Nat} (hb : ¬ Blk v b) (u : Value) : Rd (w.setCell ⟨b, k, none⟩ u) v l :=
  h.keep (fun q hq => Below.heap_setCell w ⟨b, k, none⟩ u q (fun e => hb (by have e : q = b := e; subst e; exact hq)))
/-- A state in a block; its set lies elsewhere. -/
structure Tl (T : TypeId) (w : World) (b : Nat) (v : Value) (s : St) : Prop where
  hb : w.heap[b]? = some (.cells #[v, .int .u64 s.fl, .int .i64 s.tp, .int .i64 s.ow, .int .i64 s.si] T (0, 0))
  rd : Rd w v s.l
  off : ¬ Blk v b
theorem Tl.lt {T : TypeId} {w : World} {b : Nat} {v : Value} {s : St} (h : Tl T w b v s) : b < w.heap.size := (Array.getElem?_eq_some_iff.1 h.hb).1
theorem Tl.c0 {T : TypeId} {w : World} {b : Nat} {v : Value} {s : St} (h : Tl T w b v s) : w.cell? ⟨b, 0, none⟩ = some (v) := Lib.cell_of_heap h.hb 0
theorem Tl.c1 {T : TypeId} {w : World} {b : Nat} {v : Value} {s : St} (h : Tl T w b v s) : w.cell? ⟨b, 1, none⟩ = some (.int .u64 s.fl) := Lib.cell_of_heap h.hb 1
theorem Tl.c2 {T : TypeId} {w : World} {b : Nat} {v : Value} {s : St} (h : Tl T w b v s) : w.cell? ⟨b, 2, none⟩ = some (.int .i64 s.tp) := Lib.cell_of_heap h.hb 2
theorem Tl.c3 {T : TypeId} {w : World} {b : Nat} {v : Value} {s : St} (h : Tl T w b v s) : w.cell? ⟨b, 3, none⟩ = some (.int .i64 s.ow) := Lib.cell_of_heap h.hb 3
theorem Tl.c4 {T : TypeId} {w : World} {b : Nat} {v : Value} {s : St} (h : Tl T w b v s) : w.cell? ⟨b, 4, none⟩ = some (.int .i64 s.si) := Lib.cell_of_heap h.hb 4
theorem Tl.fz {T : TypeId} {w : World} {b : Nat} {v : Value} {s : St} (h : Tl T w b v s) (j : Nat) : w.frozen? ⟨b, j, none⟩ = false := Lib.frozen_of_heap h.hb j
theorem Tl.go {T : TypeId} {w w' : World} {b : Nat} {v : Value} {s : St} (h : Tl T w b v s) (hb : Below w.heap.size w w') : Tl T w' b v s :=
  ⟨(hb.block b h.lt).trans h.hb, h.rd.go hb, h.off⟩
theorem Tl.s0 {T : TypeId} {w : World} {b : Nat} {v : Value} {s : St} (h : Tl T w b v s) {u : Value} {l : List Ran} (hr : Rd w u l) (ho : ¬ Blk u b) : Tl T (w.setCell ⟨b, 0, none⟩ u) b u { s with l := l } :=
  ⟨Joins.block_setCell (i := 0) h.hb u, rd_set hr ho u, ho⟩
theorem Tl.s1 {T : TypeId} {w : World} {b : Nat} {v : Value} {s : St} (h : Tl T w b v s) (x : Int) : Tl T (w.setCell ⟨b, 1, none⟩ (.int .u64 x)) b v { s with fl := x } :=
  ⟨Joins.block_setCell (i := 1) h.hb _, rd_set h.rd h.off _, h.off⟩
theorem Tl.s2 {T : TypeId} {w : World} {b : Nat} {v : Value} {s : St} (h : Tl T w b v s) (x : Int) : Tl T (w.setCell ⟨b, 2, none⟩ (.int .i64 x)) b v { s with tp := x } :=
  ⟨Joins.block_setCell (i := 2) h.hb _, rd_set h.rd h.off _, h.off⟩
theorem Tl.s3 {T : TypeId} {w : World} {b : Nat} {v : Value} {s : St} (h : Tl T w b v s) (x : Int) : Tl T (w.setCell ⟨b, 3, none⟩ (.int .i64 x)) b v { s with ow := x } :=
  ⟨Joins.block_setCell (i := 3) h.hb _, rd_set h.rd h.off _, h.off⟩
theorem Tl.s4 {T : TypeId} {w : World} {b : Nat} {v : Value} {s : St} (h : Tl T w b v s) (x : Int) : Tl T (w.setCell ⟨b, 4, none⟩ (.int .i64 x)) b v { s with si := x } :=
  ⟨Joins.block_setCell (i := 4) h.hb _, rd_set h.rd h.off _, h.off⟩
theorem only_at (b k : Nat) (w : World) (u : Value) : Only (· = b) w (w.setCell ⟨b, k, none⟩ u) := Only.setCell (O := (· = b)) (p := ⟨b, k, none⟩) rfl w u
theorem only_below {b : Nat} {A B : World} (h : Below A.heap.size A B) : Only (· = b) A B := Only.of_all h _
theorem tl_made (T : TypeId) (w : World) (v : Value) (s : St) (hr : Rd w v s.l) : Tl T (w.alloc (.cells #[v, .int .u64 s.fl, .int .i64 s.tp, .int .i64 s.ow, .int .i64 s.si] T)) w.heap.size v s :=
  ⟨heap_alloc_new w _, hr.go ((Below.refl _ _).alloc (Nat.le_refl _) _), fun h => by have := hr.blk h; omega⟩
theorem greatest_ne (v : Value) (l : List Ran) (fl tp ow si : Int) (w : World) (hl : l.length ≤ 1000) (hrd : Rd w v l) (hn : l ≠ []) :
    Calls Try.prog 21 #[.agg #[v, .int .u64 fl, .int .i64 tp, .int .i64 ow, .int .i64 si]] w fun e w' => e = .returned (.tuple #[.int .u64 (lastHi l), .bool true]) ∧ Below w.heap.size w w' := by
  have h := greatest_any v l fl tp ow si w hl hrd
  rw [if_neg hn, show (!l.isEmpty) = true by cases l with | nil => exact absurd rfl hn | cons => rfl] at h
  exact h

set_option maxHeartbeats 1000000 in
theorem of_any (a : Option Addr) (n c : Nat) (s : St) (w : World) (hn : s.l.length = n) (hl : n ≤ 1000) (hrd : Rd w (.slice a n c) s.l) :
    Calls Try.prog 16 #[.agg #[.slice a n c, .int .u64 s.fl, .int .i64 s.tp, .int .i64 s.ow, .int .i64 s.si]] w fun e w' => ∃ u B, e = .returned (.pointer (some ⟨B, 0, none⟩)) ∧ w.heap.size ≤ B ∧ Tl 62 w' B u s ∧ (∀ k, Blk u k → w.heap.size ≤ k) ∧ Below w.heap.size w w' := by
  obtain ⟨l, fl, tp, ow, si⟩ := s
  simp only at hn hrd ⊢
  have HB0 := Lib.hid ((Below.refl w.heap.size w).alloc (Nat.le_refl _) (.cells #[.slice a n c, .int .u64 fl, .int .i64 tp, .int .i64 ow, .int .i64 si] 28))
  have HT0 := Lib.hid (tl_made 28 w (.slice a n c) ⟨l, fl, tp, ow, si⟩ hrd)
  have CC := Lib.hid (fun W (h : Rd W (.slice a n c) l) => clone_any a n c l W hn hl h)
  clear hrd
  go_enter Try.func16, Try.ntmps16
  go_wp2_with fail
  refine (CC.out _ HT0.out.rd).mono ?_
  rintro e w1 ⟨u, rfl, q1, q2, q3⟩
  obtain ⟨a1, c1, rfl, _⟩ := id q1
  rw [hn] at q1 q2
  have HT1 := Lib.hid (HT0.out.go q3)
  have HB1 := Lib.hid (next HB0.out q3)
  have HT2 := Lib.hid (HT1.out.s0 q1 (fun h => by have := q2 _ h; rw [World.size_alloc] at this; omega))
  have QF : Hid (∀ k, Blk (.slice a1 n c1) k → w.heap.size ≤ k) := Lib.hid (fun k hk => by have := q2 k hk; rw [World.size_alloc] at this; omega)
  have f0 := HT1.out.fz 0
  have z0 := HT1.out.c0
  have z1 := HT1.out.c1
  have z2 := HT1.out.c2
  have z3 := HT1.out.c3
  have z4 := HT1.out.c4
  simp only at z0 z1 z2 z3 z4
  clear q1 q2 q3
  go_wp2_with fail
  go_ret
  exact ⟨_, (w1.setCell ⟨w.heap.size, 0, none⟩ (.slice a1 n c1)).heap.size, by simp, by have := HB1.out.size; simpa using this, tl_made 62 _ (.slice a1 n c1) ⟨l, fl, tp, ow, si⟩ HT2.out.rd, QF.out, (Below.setCell HB1.out (p := ⟨w.heap.size, 0, none⟩) (Nat.le_refl _) _).alloc (by have := HB1.out.size; simpa using this) _⟩

set_option maxHeartbeats 2000000 in
theorem take_any (b : Nat) (v : Value) (s : St) (n t : Int) (w : World) (h : Tl 62 w b v s) (hl : s.l.length ≤ 100) (hcan : Can s.l) (h0 : 0 ≤ n) (h1 : n < 9223372036854775808) :
    Calls Try.prog 18 #[.pointer (some ⟨b, 0, none⟩), .int .u64 n, .int .i64 t] w fun e w' => ∃ u l1, e = .returned (.tuple #[]) ∧ Can l1 ∧ (∀ x, mem l1 x ↔ mem s.l x ∨ x = n) ∧ l1.length ≤ s.l.length + 1 ∧
      Tl 62 w' b u ⟨l1, s.fl, if n = lastHi l1 then t else s.tp, s.ow, s.si⟩ ∧ (∀ k, Blk u k → w.heap.size ≤ k) ∧ Only (· = b) w w' := by
  obtain ⟨a, c, rfl, _⟩ := id h.rd
  obtain ⟨l, fl, tp, ow, si⟩ := s
  simp only at h hl hcan ⊢
  obtain ⟨m, hm⟩ : ∃ m, l.length = m := ⟨_, rfl⟩
  rw [hm] at h hl ⊢
  have CA := Lib.hid (fun W (hr : Rd W (.slice a m c) l) => add_fresh a m c l n n W (by omega) hcan h0 h1 hr)
  have HT := Lib.hid h
  have hlt := h.lt
  have z0 := h.c0
  have z1 := h.c1
  have z2 := h.c2
  have z3 := h.c3
  have z4 := h.c4
  simp only at z0 z1 z2 z3 z4
  clear h hcan
  go_enter Try.func18, Try.ntmps18
  go_wp2_with fail
  refine (CA.out _ HT.out.rd).mono ?_
  rintro e w1 ⟨u, l1, rfl, q1, q2, q3, q4, qf, q5⟩
  obtain ⟨a1, c1, rfl, _⟩ := id q4
  have Q1 := Lib.hid q1
  have Q2 : Hid (∀ x, mem l1 x ↔ mem l x ∨ x = n) := Lib.hid (fun x => by rw [q2]; exact or_congr Iff.rfl (by unfold inn; simp only; omega))
  have Q3 := Lib.hid q3
  have hne : l1 ≠ [] := by
    rintro rfl
    exact mem_nil n ((Q2.out n).2 (.inr rfl))
  have NE := Lib.hid hne
  have QF := Lib.hid qf
  have HT1 := Lib.hid (HT.out.go q5)
  have HO1 := Lib.hid (only_below (b := b) q5)
  have HT2 := Lib.hid (HT1.out.s0 q4 (fun h => by have := qf _ h; omega))
  have f0 := HT1.out.fz 0
  have y0 := HT1.out.c0
  have y1 := HT1.out.c1
  have y2 := HT1.out.c2
  have y3 := HT1.out.c3
  have y4 := HT1.out.c4
  simp only at y0 y1 y2 y3 y4
  obtain ⟨m1, hm1⟩ : ∃ m, l1.length = m := ⟨_, rfl⟩
  have HO2 := Lib.hid (HO1.out.trans (only_at b 0 w1 (.slice a1 l1.length c1)))
  rw [hm1] at HT2 HO2 Q3 QF ⊢
  have CG : Hid (∀ W, Rd W (.slice a1 m1 c1) l1 → Calls Try.prog 21 #[.agg #[.slice a1 m1 c1, .int .u64 fl, .int .i64 tp, .int .i64 ow, .int .i64 si]] W fun e w' => e = .returned (.tuple #[.int .u64 (lastHi l1), .bool true]) ∧ Below W.heap.size W w') := Lib.hid (fun W h => greatest_ne (.slice a1 m1 c1) l1 fl tp ow si W (by have := Q3.out; omega) h hne)
  clear q1 q2 q3 q4 qf q5 hne z0 z1 z2 z3 z4
  go_wp2_with fail
  have k0 := HT2.out.c0
  have k1 := HT2.out.c1
  have k2 := HT2.out.c2
  have k3 := HT2.out.c3
  have k4 := HT2.out.c4
  simp only at k0 k1 k2 k3 k4
  clear y0 y1 y2 y3 y4 f0 HT1 HO1
  generalize w1.setCell _ _ = w2 at *
  refine (CG.out _ HT2.out.rd).mono ?_
  rintro e w3 ⟨rfl, hb⟩
  have HT3 := Lib.hid (HT2.out.go hb)
  have HO3 := Lib.hid (HO2.out.trans (only_below hb))
  have f2 := HT3.out.fz 2
  clear hb k0 k1 k2 k3 k4 CG CA
  obtain ⟨TP, hTP⟩ : ∃ x, (if n = lastHi l1 then t else tp) = x := ⟨_, rfl⟩
  by_cases hd : n = lastHi l1
  · have d1 : (n == lastHi l1) = true := by rw [hd]; exact beq_self_eq_true _
    rw [if_pos hd] at hTP
    replace hd := Lib.hid (And.intro hd hTP)
    clear hTP
    have HF := Lib.hid (HT3.out.s2 t)
    have HOF := Lib.hid (HO3.out.trans (only_at b 2 w3 (.int .i64 t)))
    have y2 := HT3.out.c2
    simp only at y2
    go_wp2_with fail
    go_end0
    exact ⟨_, l1, rfl, Q1.out, Q2.out, by have := Q3.out; omega, by rw [if_pos hd.out.1]; exact HF.out, QF.out, HOF.out⟩
  · have d1 : (n == lastHi l1) = false := beq_eq_false_iff_ne.2 hd
    rw [if_neg hd] at hTP
    replace hd := Lib.hid (And.intro hd hTP)
    clear hTP
    go_wp2_with fail
    go_end0
    exact ⟨_, l1, rfl, Q1.out, Q2.out, by have := Q3.out; omega, by rw [if_neg hd.out.1]; exact HT3.out, QF.out, HO3.out⟩

set_option maxHeartbeats 2000000 in
theorem owe_any (b : Nat) (v : Value) (s : St) (t : Int) (w : World) (h : Tl 62 w b v s) (h0 : 0 ≤ s.ow) (h1 : s.ow ≤ 1000000) :
    Calls Try.prog 19 #[.pointer (some ⟨b, 0, none⟩), .int .i64 t] w fun e w' => e = .returned (.tuple #[]) ∧
      Tl 62 w' b v ⟨s.l, s.fl, s.tp, s.ow + 1, if s.ow = 0 then t else s.si⟩ ∧ Only (· = b) w w' := by
  obtain ⟨l, fl, tp, ow, si⟩ := s
  simp only at h h0 h1 ⊢
  have HT := Lib.hid h
  have f4 := h.fz 4
  have f3 := h.fz 3
  have z3 := h.c3
  have z4 := h.c4
  simp only at z3 z4
  have v1 : IntKind.i64.wrap (ow + 1) = ow + 1 := IntWalk.i64_in _ (by omega)
  clear h
  by_cases hd : ow = 0
  · have d1 : (ow == 0) = true := by rw [hd]; rfl
    replace hd := Lib.hid hd
    have HT1 := Lib.hid (HT.out.s4 t)
    have HO1 := Lib.hid (only_at b 4 w (.int .i64 t))
    have k3 := HT1.out.c3
    have g3 := HT1.out.fz 3
    simp only at k3
    have HT2 := Lib.hid (HT1.out.s3 (ow + 1))
    have HO2 := Lib.hid (HO1.out.trans (only_at b 3 _ (.int .i64 (ow + 1))))
    go_enter Try.func19, Try.ntmps19
    go_wp2_with fail
    go_end0
    have h2 := HT2.out
    have h3 := HO2.out
    rw [hd.out] at h2 h3
    exact ⟨rfl, h2, h3⟩
  · have d1 : (ow == 0) = false := beq_eq_false_iff_ne.2 hd
    replace hd := Lib.hid hd
    have HT2 := Lib.hid (HT.out.s3 (ow + 1))
    have HO2 := Lib.hid (only_at b 3 w (.int .i64 (ow + 1)))
    go_enter Try.func19, Try.ntmps19
    go_wp2_with fail
    go_end0
    exact ⟨rfl, HT2.out, HO2.out⟩

set_option maxHeartbeats 2000000 in
theorem trim_no (b : Nat) (a : Option Addr) (n c : Nat) (s : St) (w : World) (h : Tl 62 w b (.slice a n c) s) (hn : n ≤ 32) :
    Calls Try.prog 20 #[.pointer (some ⟨b, 0, none⟩)] w fun e w' => e = .returned (.tuple #[]) ∧ w' = w := by
  have z0 := h.c0
  have hn1 : (n : Int) ≤ 32 := by omega
  clear h
  go_enter Try.func20, Try.ntmps20
  go_wp2_with fail
  exact bodyPost_ret (v := .tuple #[]) (results_none Try.results20 _ _ _) rfl ⟨rfl, rfl⟩
set_option maxHeartbeats 2000000 in
theorem trim_yes (b q off n c : Nat) (x : Int) (s : St) (w : World) (h : Tl 62 w b (.slice (some ⟨q, off, none⟩) n c) s) (hn : 32 < n) (hm : n ≤ 1000) (hc : n ≤ c) (hx : w.cell? ⟨q, off + 1, none⟩ = some (.int .u64 x)) (x0 : 0 ≤ x) (x1 : x < 9223372036854775808) :
    Calls Try.prog 20 #[.pointer (some ⟨b, 0, none⟩)] w fun e w' => e = .returned (.tuple #[]) ∧ 
      Tl 62 w' b (.slice (some ⟨q, off + 2, none⟩) (n - 1) (c - 1)) ⟨s.l.tail, x + 1, s.tp, s.ow, s.si⟩ ∧ Only (· = b) w w' := by
  have HT := Lib.hid h
  have hq : q ≠ b := fun e => h.off ⟨by omega, e⟩
  have z0 := h.c0
  have z1 := h.c1
  have f1 := h.fz 1
  have f0 := h.fz 0
  have hn1 : ¬ (n : Int) ≤ 32 := by omega
  have v1 : IntKind.u64.wrap (x + 1) = x + 1 := IntWalk.u64_in _ (by omega)
  have HT1 := Lib.hid (HT.out.s1 (x + 1))
  have HO1 := Lib.hid (only_at b 1 w (.int .u64 (x + 1)))
  have k0 := HT1.out.c0
  have g0 := HT1.out.fz 0
  have hr := HT1.out.rd.drop (k := 1) (by omega)
  have HT2 := Lib.hid (HT1.out.s0 hr (fun hb => HT1.out.off hb.drop))
  have HO2 := Lib.hid (HO1.out.trans (only_at b 0 _ (.slice (some ⟨q, off + 2, none⟩) (n - 1) (c - 1))))
  rw [if_neg (by omega), Option.map_some, Addr.add_lit] at HT2
  clear h hr
  go_enter Try.func20, Try.ntmps20
  go_wp2_with fail
  go_end0
  exact ⟨rfl, by rw [List.drop_one] at HT2; exact HT2.out, HO2.out⟩

theorem trim_any (b : Nat) (v : Value) (s : St) (w : World) (h : Tl 62 w b v s) (hl : s.l.length ≤ 1000) (hcan : Can s.l) :
    Calls Try.prog 20 #[.pointer (some ⟨b, 0, none⟩)] w fun e w' => e = .returned (.tuple #[]) ∧ ∃ u l2 f2, Tl 62 w' b u ⟨l2, f2, s.tp, s.ow, s.si⟩ ∧ (∀ k, Blk u k → Blk v k) ∧ Only (· = b) w w' ∧
      ((s.l.length ≤ 32 ∧ l2 = s.l ∧ f2 = s.fl) ∨ (32 < s.l.length ∧ l2 = s.l.tail ∧ f2 = (s.l.getD 0 (0, 0)).2 + 1)) := by
  obtain ⟨a, c, rfl, hc, hrow⟩ := id h.rd
  by_cases hn : s.l.length ≤ 32
  · refine (trim_no b a _ c s w h hn).mono ?_
    rintro e w1 ⟨rfl, rfl⟩
    exact ⟨rfl, _, s.l, s.fl, h, fun k hk => hk, Only.refl _ _, .inl ⟨hn, rfl, rfl⟩⟩
  · obtain ⟨q, off, rfl, hcell⟩ := hrow (fun e => by rw [e] at hn; simp at hn)
    have h0 := (hcell 0 (by omega)).2
    have hg := hcan.good (s.l.getD 0 (0, 0)) (by rw [getD_get (by omega)]; exact List.getElem_mem _)
    refine (trim_yes b q off _ c _ s w h (by omega) hl hc (by simpa using h0) (by omega) hg.2.2).mono ?_
    rintro e w1 ⟨rfl, h1, h2⟩
    exact ⟨rfl, _, _, _, h1, fun k hk => ⟨by have := hk.1; omega, hk.2⟩, h2, .inr ⟨by omega, rfl, rfl⟩⟩

end Go.Proofs.Ytliakeiaeakliaa.Rg
