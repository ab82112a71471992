/- Layer 13: Got. -/
import Derived.Test.YtliakeiaeakliaaAkB
namespace Go.Proofs.Ytliakeiaeakliaa.Rg
set_option maxRecDepth 20000
open Go.RowKit Go.Shelf
set_option linter.unusedVariables false
set_option linter.unusedSimpArgs false

/-- What Got answers. -/
theorem results_got (tmps : Array Value) (g : Nat) (v : Value) (s : St) (r : Bool) (w : World) (hp : tmps.getD 8 undef = .pointer (some ⟨g, 0, none⟩)) (hu : tmps.getD 9 undef = .bool r) (hc : w.heap[g]? = some (.cells #[v, .int .u64 s.fl, .int .i64 s.tp, .int .i64 s.ow, .int .i64 s.si] 28 (0, 0))) :
    (results Try.f8 tmps).run Try.prog w = .ok (.tuple #[.agg #[v, .int .u64 s.fl, .int .i64 s.tp, .int .i64 s.ow, .int .i64 s.si], .bool r]) w := by
  have c0 : w.cell? ⟨g, 0, none⟩ = some v := Lib.cell_of_heap hc 0
  have c1 : w.cell? ⟨g, 1, none⟩ = some (.int .u64 s.fl) := Lib.cell_of_heap hc 1
  have c2 : w.cell? ⟨g, 2, none⟩ = some (.int .i64 s.tp) := Lib.cell_of_heap hc 2
  have c3 : w.cell? ⟨g, 3, none⟩ = some (.int .i64 s.ow) := Lib.cell_of_heap hc 3
  have c4 : w.cell? ⟨g, 4, none⟩ = some (.int .i64 s.si) := Lib.cell_of_heap hc 4
  rw [results_cell_tmp Try.results8]
  simp only [hp, hu]
  go_simp
theorem five_put {w : World} {b : Nat} {T : TypeId} {v0 v1 v2 v3 v4 : Value} (h : w.heap[b]? = some (.cells #[v0, v1, v2, v3, v4] T (0, 0))) (x0 x1 x2 x3 x4 : Value) : (((((w.setCell ⟨b, 0, none⟩ x0).setCell ⟨b, 1, none⟩ x1).setCell ⟨b, 2, none⟩ x2).setCell ⟨b, 3, none⟩ x3).setCell ⟨b, 4, none⟩ x4).heap[b]? = some (.cells #[x0, x1, x2, x3, x4] T (0, 0)) := by
  have h0 := Joins.block_setCell (i := 0) h x0
  have h1 := Joins.block_setCell (i := 1) h0 x1
  have h2 := Joins.block_setCell (i := 2) h1 x2
  have h3 := Joins.block_setCell (i := 3) h2 x3
  have h4 := Joins.block_setCell (i := 4) h3 x4
  rw [h4]
  simp
theorem rd_five {w : World} {v : Value} {l : List Ran} (h : Rd w v l) {b : Nat} (hb : ¬ Blk v b) (x0 x1 x2 x3 x4 : Value) : Rd (((((w.setCell ⟨b, 0, none⟩ x0).setCell ⟨b, 1, none⟩ x1).setCell ⟨b, 2, none⟩ x2).setCell ⟨b, 3, none⟩ x3).setCell ⟨b, 4, none⟩ x4) v l :=
  rd_set (rd_set (rd_set (rd_set (rd_set h hb _) hb _) hb _) hb _) hb _
theorem below_five {n : Nat} {w0 w : World} (h : Below n w0 w) {b : Nat} (hb : n ≤ b) (x0 x1 x2 x3 x4 : Value) : Below n w0 (((((w.setCell ⟨b, 0, none⟩ x0).setCell ⟨b, 1, none⟩ x1).setCell ⟨b, 2, none⟩ x2).setCell ⟨b, 3, none⟩ x3).setCell ⟨b, 4, none⟩ x4) :=
  Below.setCell (Below.setCell (Below.setCell (Below.setCell (Below.setCell h (p := ⟨b, 0, none⟩) hb _) (p := ⟨b, 1, none⟩) hb _) (p := ⟨b, 2, none⟩) hb _) (p := ⟨b, 3, none⟩) hb _) (p := ⟨b, 4, none⟩) hb _
/-- The block of an answer, not yet written. -/
def Zb (W : World) (g : Nat) (T : TypeId) : Prop := W.heap[g]? = some (.cells #[.slice none 0 0, .int .u64 0, .int .i64 0, .int .i64 0, .int .i64 0] T (0, 0))
theorem Zb.lt {W : World} {g : Nat} {T : TypeId} (h : Zb W g T) : g < W.heap.size := (Array.getElem?_eq_some_iff.1 h).1
theorem Zb.go {W W' : World} {g : Nat} {T : TypeId} (h : Zb W g T) (hb : Below W.heap.size W W') : Zb W' g T := (hb.block g h.lt).trans h
theorem Zb.only {W W' : World} {g : Nat} {T : TypeId} {O : Nat → Prop} (h : Zb W g T) (hb : Only O W W') (hn : ¬ O g) : Zb W' g T := (hb.block g h.lt hn).trans h
def zS : Array Value := #[.slice none 0 0, .int .u64 0, .int .i64 0, .int .i64 0, .int .i64 0]
set_option maxHeartbeats 4000000 in
theorem got_no (a : Option Addr) (m c : Nat) (s : St) (n : Int) (el : Bool) (t : Int) (w : World) (hm : s.l.length = m) (hl : m ≤ 100) (hcan : Can s.l) (hrd : Rd w (.slice a m c) s.l) (hs : shut s n = true) :
    Calls Try.prog 8 #[.agg #[.slice a m c, .int .u64 s.fl, .int .i64 s.tp, .int .i64 s.ow, .int .i64 s.si], .int .u64 n, .bool el, .int .i64 t] w fun e w' => ∃ u, e = .returned (.tuple #[.agg #[u, .int .u64 s.fl, .int .i64 s.tp, .int .i64 s.ow, .int .i64 s.si], .bool false]) ∧ Rd w' u s.l ∧ (∀ k, Blk u k → w.heap.size ≤ k) ∧ Below w.heap.size w w' := by
  have CO := Lib.hid (fun W h => of_any a m c s W hm (by omega) h)
  have CC := Lib.hid (fun (v : Value) W h => closed_any v s n W (by omega) hcan h)
  rw [hs] at CC
  have HR := Lib.hid hrd
  clear hrd hcan hs hm
  obtain ⟨l, fl, tp, ow, si⟩ := s
  simp only at CO CC HR ⊢
  have HB0 : Hid (Below w.heap.size w ((w.alloc (.cells #[.slice a m c, .int .u64 fl, .int .i64 tp, .int .i64 ow, .int .i64 si] 28)).alloc (.cells #[.slice none 0 0, .int .u64 0, .int .i64 0, .int .i64 0, .int .i64 0] 28))) := Lib.hid (((Below.refl _ w).alloc (Nat.le_refl _) _).alloc (by simp) _)
  have HZ : Hid (Zb ((w.alloc (.cells #[.slice a m c, .int .u64 fl, .int .i64 tp, .int .i64 ow, .int .i64 si] 28)).alloc (.cells #[.slice none 0 0, .int .u64 0, .int .i64 0, .int .i64 0, .int .i64 0] 28)) (w.heap.size + 1) 28) := Lib.hid (by
    have h := heap_alloc_new (w.alloc (.cells #[.slice a m c, .int .u64 fl, .int .i64 tp, .int .i64 ow, .int .i64 si] 28)) (.cells #[.slice none 0 0, .int .u64 0, .int .i64 0, .int .i64 0, .int .i64 0] 28)
    rw [World.size_alloc] at h
    exact h)
  replace HR := Lib.hid (HR.out.go HB0.out)
  go_enter Try.func8, Try.ntmps8
  go_wp2_with fail
  refine (CO.out _ HR.out).mono ?_
  rintro e w1 ⟨u, B, rfl, hB, hT, hf, hb⟩
  obtain ⟨a1, c1, rfl, _⟩ := id hT.rd
  simp only at hT hf
  obtain ⟨m1, hm1⟩ : ∃ m, l.length = m := ⟨_, rfl⟩
  rw [hm1] at hT hf
  have HT := Lib.hid hT
  have HF : Hid (¬ Blk (.slice a1 m1 c1) (w.heap.size + 1)) := Lib.hid (fun h => by have := hf _ h; simp at this; omega)
  have HQ : Hid (∀ k, Blk (.slice a1 m1 c1) k → w.heap.size ≤ k) := Lib.hid (fun k hk => by have := hf k hk; simp at this; omega)
  have HB1 := Lib.hid (next HB0.out hb)
  have HZ1 := Lib.hid (HZ.out.go hb)
  have y0 := HT.out.c0
  have y1 := HT.out.c1
  have y2 := HT.out.c2
  have y3 := HT.out.c3
  have y4 := HT.out.c4
  simp only at y0 y1 y2 y3 y4
  clear hB hT hf hb HB0 HZ HR CO
  go_wp2_with fail
  refine (CC.out _ _ HT.out.rd).mono ?_
  rintro e w2 ⟨rfl, hb⟩
  replace HT := Lib.hid (HT.out.go hb)
  replace HB1 := Lib.hid (next HB1.out hb)
  replace HZ1 := Lib.hid (HZ1.out.go hb)
  clear y0 y1 y2 y3 y4 hb CC
  have y0 := HT.out.c0
  have y1 := HT.out.c1
  have y2 := HT.out.c2
  have y3 := HT.out.c3
  have y4 := HT.out.c4
  simp only at y0 y1 y2 y3 y4
  have q0 : w2.cell? ⟨w.heap.size + 1, 0, none⟩ = _ := Lib.cell_of_heap HZ1.out 0
  have q1 : w2.cell? ⟨w.heap.size + 1, 1, none⟩ = _ := Lib.cell_of_heap HZ1.out 1
  have q2 : w2.cell? ⟨w.heap.size + 1, 2, none⟩ = _ := Lib.cell_of_heap HZ1.out 2
  have q3 : w2.cell? ⟨w.heap.size + 1, 3, none⟩ = _ := Lib.cell_of_heap HZ1.out 3
  have q4 : w2.cell? ⟨w.heap.size + 1, 4, none⟩ = _ := Lib.cell_of_heap HZ1.out 4
  have qf : ∀ k, w2.frozen? ⟨w.heap.size + 1, k, none⟩ = false := fun k => Lib.frozen_of_heap HZ1.out k
  have HP := Lib.hid (five_put HZ1.out (.slice a1 m1 c1) (.int .u64 fl) (.int .i64 tp) (.int .i64 ow) (.int .i64 si))
  have HRF := Lib.hid (rd_five HT.out.rd HF.out (.slice a1 m1 c1) (.int .u64 fl) (.int .i64 tp) (.int .i64 ow) (.int .i64 si))
  have HBF := Lib.hid (below_five HB1.out (b := w.heap.size + 1) (by omega) (.slice a1 m1 c1) (.int .u64 fl) (.int .i64 tp) (.int .i64 ow) (.int .i64 si))
  go_wp2_with fail
  exact bodyPost_ret (results_got _ (w.heap.size + 1) _ ⟨l, fl, tp, ow, si⟩ false _ rfl rfl HP.out) rfl ⟨_, rfl, HRF.out, HQ.out, HBF.out⟩
set_option maxHeartbeats 8000000 in
theorem got_yes (a : Option Addr) (m c : Nat) (s : St) (n : Int) (el : Bool) (t : Int) (w : World) (hm : s.l.length = m) (hl : m ≤ 100) (hcan : Can s.l) (hrd : Rd w (.slice a m c) s.l) (hs : shut s n = false) (h0 : 0 ≤ n) (h1 : n < 9223372036854775808) (ho0 : 0 ≤ s.ow) (ho1 : s.ow ≤ 1000000) :
    Calls Try.prog 8 #[.agg #[.slice a m c, .int .u64 s.fl, .int .i64 s.tp, .int .i64 s.ow, .int .i64 s.si], .int .u64 n, .bool el, .int .i64 t] w fun e w' => ∃ u s' l1, e = .returned (.tuple #[.agg #[u, .int .u64 s'.fl, .int .i64 s'.tp, .int .i64 s'.ow, .int .i64 s'.si], .bool true]) ∧ GotR s n el t s' l1 ∧ Rd w' u s'.l ∧ (∀ k, Blk u k → w.heap.size ≤ k) ∧ Below w.heap.size w w' := by
  have CO := Lib.hid (fun W h => of_any a m c s W hm (by omega) h)
  have CC := Lib.hid (fun (v : Value) W h => closed_any v s n W (by omega) hcan h)
  rw [hs] at CC
  have HR := Lib.hid hrd
  have HC := Lib.hid hcan
  clear hrd hcan hs
  obtain ⟨l, fl, tp, ow, si⟩ := s
  simp only at CO CC HR HC hm ho0 ho1 ⊢
  have HB0 : Hid (Below w.heap.size w ((w.alloc (.cells #[.slice a m c, .int .u64 fl, .int .i64 tp, .int .i64 ow, .int .i64 si] 28)).alloc (.cells #[.slice none 0 0, .int .u64 0, .int .i64 0, .int .i64 0, .int .i64 0] 28))) := Lib.hid (((Below.refl _ w).alloc (Nat.le_refl _) _).alloc (by simp) _)
  have HZ : Hid (Zb ((w.alloc (.cells #[.slice a m c, .int .u64 fl, .int .i64 tp, .int .i64 ow, .int .i64 si] 28)).alloc (.cells #[.slice none 0 0, .int .u64 0, .int .i64 0, .int .i64 0, .int .i64 0] 28)) (w.heap.size + 1) 28) := Lib.hid (by
    have h := heap_alloc_new (w.alloc (.cells #[.slice a m c, .int .u64 fl, .int .i64 tp, .int .i64 ow, .int .i64 si] 28)) (.cells #[.slice none 0 0, .int .u64 0, .int .i64 0, .int .i64 0, .int .i64 0] 28)
    rw [World.size_alloc] at h
    exact h)
  replace HR := Lib.hid (HR.out.go HB0.out)
  go_enter Try.func8, Try.ntmps8
  go_wp2_with fail
  refine (CO.out _ HR.out).mono ?_
  rintro e w1 ⟨u, B, rfl, hB, hT, hf, hb⟩
  obtain ⟨a1, c1, rfl, _⟩ := id hT.rd
  simp only at hT hf
  obtain ⟨m1, hm1⟩ : ∃ m, l.length = m := ⟨_, rfl⟩
  rw [hm1] at hT hf
  have hmm : m1 ≤ 100 := by omega
  clear hm
  have HT := Lib.hid hT
  have HF : Hid (¬ Blk (.slice a1 m1 c1) (w.heap.size + 1)) := Lib.hid (fun h => by have := hf _ h; simp at this; omega)
  have HQ : Hid (∀ k, Blk (.slice a1 m1 c1) k → w.heap.size ≤ k) := Lib.hid (fun k hk => by have := hf k hk; simp at this; omega)
  have HB1 := Lib.hid (next HB0.out hb)
  have HZ1 := Lib.hid (HZ.out.go hb)
  have y0 := HT.out.c0
  have y1 := HT.out.c1
  have y2 := HT.out.c2
  have y3 := HT.out.c3
  have y4 := HT.out.c4
  simp only at y0 y1 y2 y3 y4
  have HBB : Hid (w.heap.size + 2 ≤ B) := Lib.hid (by simp at hB; omega)
  clear hB hT hf hb HB0 HZ HR CO
  go_wp2_with fail
  refine (CC.out _ _ HT.out.rd).mono ?_
  rintro e w2 ⟨rfl, hb⟩
  replace HT := Lib.hid (HT.out.go hb)
  replace HB1 := Lib.hid (next HB1.out hb)
  replace HZ1 := Lib.hid (HZ1.out.go hb)
  clear y0 y1 y2 y3 y4 hb CC
  have y0 := HT.out.c0
  have y1 := HT.out.c1
  have y2 := HT.out.c2
  have y3 := HT.out.c3
  have y4 := HT.out.c4
  simp only at y0 y1 y2 y3 y4
  have CT := Lib.hid (take_any B (.slice a1 m1 c1) ⟨l, fl, tp, ow, si⟩ n t w2 HT.out (by show l.length ≤ 100; omega) HC.out h0 h1)
  go_wp2_with fail
  refine CT.out.mono ?_
  rintro e w3 ⟨u1, l1, rfl, hc1, hm1', hl1, hT, hf, hO⟩
  try simp only at hm1'
  try simp only at hl1
  try simp only at hT
  obtain ⟨TP, hTP⟩ : ∃ x, (if n = lastHi l1 then t else tp) = x := ⟨_, rfl⟩
  rw [hTP] at hT
  have HTP := Lib.hid hTP
  have HC1 := Lib.hid hc1
  have HM1 := Lib.hid hm1'
  have HL1 := Lib.hid hl1
  have HS2 : Hid (w.heap.size + 2 ≤ w2.heap.size) := Lib.hid (by have := HBB.out; have := HT.out.lt; omega)
  have HF1 : Hid (∀ k, Blk u1 k → w.heap.size + 2 ≤ k) := Lib.hid (fun k hk => by have := hf k hk; have := HS2.out; omega)
  replace HZ1 := Lib.hid (HZ1.out.only hO (by have := HBB.out; omega))
  replace HB1 := Lib.hid (HB1.out.trans (below_only hO HB1.out.size (fun k hk => by have := HBB.out; omega)))
  replace HT := Lib.hid hT
  clear y0 y1 y2 y3 y4 hTP hc1 hm1' hl1 hT hf hO CT HF HC
  cases el with
  | true =>
    have CW := Lib.hid (owe_any B u1 ⟨l1, fl, TP, ow, si⟩ t w3 HT.out ho0 ho1)
    go_wp2_with fail
    refine CW.out.mono ?_
    rintro e w4 ⟨rfl, hT, hO⟩
    try simp only at hT
    obtain ⟨SI, hSI⟩ : ∃ x, (if ow = 0 then t else si) = x := ⟨_, rfl⟩
    rw [hSI] at hT
    have HSI := Lib.hid hSI
    replace HZ1 := Lib.hid (HZ1.out.only hO (by have := HBB.out; omega))
    replace HB1 := Lib.hid (HB1.out.trans (below_only hO HB1.out.size (fun k hk => by have := HBB.out; omega)))
    replace HT := Lib.hid hT
    clear hT hO hSI CW
    have CR := Lib.hid (trim_any B u1 ⟨l1, fl, TP, ow + 1, SI⟩ _ HT.out (by show l1.length ≤ 1000; have := HL1.out; omega) HC1.out)
    go_wp2_with fail
    refine CR.out.mono ?_
    rintro e w5 ⟨rfl, u2, l2, f2, hT, hf, hO, hset⟩
    try simp only at hT
    try simp only at hset
    have HSET := Lib.hid hset
    obtain ⟨a2, c2, rfl, _⟩ := id hT.rd
    try simp only at hT
    try simp only at hf
    obtain ⟨m2, hm2⟩ : ∃ m, l2.length = m := ⟨_, rfl⟩
    rw [hm2] at hT hf
    have HF : Hid (¬ Blk (.slice a2 m2 c2) (w.heap.size + 1)) := Lib.hid (fun h => by have := HF1.out _ (hf _ h); omega)
    have HQ : Hid (∀ k, Blk (.slice a2 m2 c2) k → w.heap.size ≤ k) := Lib.hid (fun k hk => by have := HF1.out _ (hf _ hk); omega)
    replace HZ1 := Lib.hid (HZ1.out.only hO (by have := HBB.out; omega))
    replace HB1 := Lib.hid (HB1.out.trans (below_only hO HB1.out.size (fun k hk => by have := HBB.out; omega)))
    replace HT := Lib.hid hT
    clear hT hf hO hset CR
    have y0 := HT.out.c0
    have y1 := HT.out.c1
    have y2 := HT.out.c2
    have y3 := HT.out.c3
    have y4 := HT.out.c4
    simp only at y0 y1 y2 y3 y4
    have q0 : w5.cell? ⟨w.heap.size + 1, 0, none⟩ = _ := Lib.cell_of_heap HZ1.out 0
    have q1 : w5.cell? ⟨w.heap.size + 1, 1, none⟩ = _ := Lib.cell_of_heap HZ1.out 1
    have q2 : w5.cell? ⟨w.heap.size + 1, 2, none⟩ = _ := Lib.cell_of_heap HZ1.out 2
    have q3 : w5.cell? ⟨w.heap.size + 1, 3, none⟩ = _ := Lib.cell_of_heap HZ1.out 3
    have q4 : w5.cell? ⟨w.heap.size + 1, 4, none⟩ = _ := Lib.cell_of_heap HZ1.out 4
    have qf : ∀ k, w5.frozen? ⟨w.heap.size + 1, k, none⟩ = false := fun k => Lib.frozen_of_heap HZ1.out k
    have HP := Lib.hid (five_put HZ1.out (.slice a2 m2 c2) (.int .u64 f2) (.int .i64 TP) (.int .i64 (ow + 1)) (.int .i64 SI))
    have HRF := Lib.hid (rd_five HT.out.rd HF.out (.slice a2 m2 c2) (.int .u64 f2) (.int .i64 TP) (.int .i64 (ow + 1)) (.int .i64 SI))
    have HBF := Lib.hid (below_five HB1.out (b := w.heap.size + 1) (by omega) (.slice a2 m2 c2) (.int .u64 f2) (.int .i64 TP) (.int .i64 (ow + 1)) (.int .i64 SI))
    go_wp2_with fail
    exact bodyPost_ret (results_got _ (w.heap.size + 1) _ ⟨l2, f2, TP, ow + 1, SI⟩ true _ rfl rfl HP.out) rfl ⟨_, ⟨l2, f2, TP, ow + 1, SI⟩, l1, rfl, ⟨HC1.out, HM1.out, by show l1.length ≤ l.length + 1; exact HL1.out, HTP.out.symm, by rw [if_pos rfl], by rw [← HSI.out]; simp, HSET.out⟩, HRF.out, HQ.out, HBF.out⟩
  | false =>
    have CR := Lib.hid (trim_any B u1 ⟨l1, fl, TP, ow, si⟩ _ HT.out (by show l1.length ≤ 1000; have := HL1.out; omega) HC1.out)
    go_wp2_with fail
    refine CR.out.mono ?_
    rintro e w5 ⟨rfl, u2, l2, f2, hT, hf, hO, hset⟩
    try simp only at hT
    try simp only at hset
    have HSET := Lib.hid hset
    obtain ⟨a2, c2, rfl, _⟩ := id hT.rd
    try simp only at hT
    try simp only at hf
    obtain ⟨m2, hm2⟩ : ∃ m, l2.length = m := ⟨_, rfl⟩
    rw [hm2] at hT hf
    have HF : Hid (¬ Blk (.slice a2 m2 c2) (w.heap.size + 1)) := Lib.hid (fun h => by have := HF1.out _ (hf _ h); omega)
    have HQ : Hid (∀ k, Blk (.slice a2 m2 c2) k → w.heap.size ≤ k) := Lib.hid (fun k hk => by have := HF1.out _ (hf _ hk); omega)
    replace HZ1 := Lib.hid (HZ1.out.only hO (by have := HBB.out; omega))
    replace HB1 := Lib.hid (HB1.out.trans (below_only hO HB1.out.size (fun k hk => by have := HBB.out; omega)))
    replace HT := Lib.hid hT
    clear hT hf hO hset CR
    have y0 := HT.out.c0
    have y1 := HT.out.c1
    have y2 := HT.out.c2
    have y3 := HT.out.c3
    have y4 := HT.out.c4
    simp only at y0 y1 y2 y3 y4
    have q0 : w5.cell? ⟨w.heap.size + 1, 0, none⟩ = _ := Lib.cell_of_heap HZ1.out 0
    have q1 : w5.cell? ⟨w.heap.size + 1, 1, none⟩ = _ := Lib.cell_of_heap HZ1.out 1
    have q2 : w5.cell? ⟨w.heap.size + 1, 2, none⟩ = _ := Lib.cell_of_heap HZ1.out 2
    have q3 : w5.cell? ⟨w.heap.size + 1, 3, none⟩ = _ := Lib.cell_of_heap HZ1.out 3
    have q4 : w5.cell? ⟨w.heap.size + 1, 4, none⟩ = _ := Lib.cell_of_heap HZ1.out 4
    have qf : ∀ k, w5.frozen? ⟨w.heap.size + 1, k, none⟩ = false := fun k => Lib.frozen_of_heap HZ1.out k
    have HP := Lib.hid (five_put HZ1.out (.slice a2 m2 c2) (.int .u64 f2) (.int .i64 TP) (.int .i64 ow) (.int .i64 si))
    have HRF := Lib.hid (rd_five HT.out.rd HF.out (.slice a2 m2 c2) (.int .u64 f2) (.int .i64 TP) (.int .i64 ow) (.int .i64 si))
    have HBF := Lib.hid (below_five HB1.out (b := w.heap.size + 1) (by omega) (.slice a2 m2 c2) (.int .u64 f2) (.int .i64 TP) (.int .i64 ow) (.int .i64 si))
    go_wp2_with fail
    exact bodyPost_ret (results_got _ (w.heap.size + 1) _ ⟨l2, f2, TP, ow, si⟩ true _ rfl rfl HP.out) rfl ⟨_, ⟨l2, f2, TP, ow, si⟩, l1, rfl, ⟨HC1.out, HM1.out, by show l1.length ≤ l.length + 1; exact HL1.out, HTP.out.symm, by rw [if_neg (by decide)], by rw [if_neg (by simp)], HSET.out⟩, HRF.out, HQ.out, HBF.out⟩
end Go.Proofs.Ytliakeiaeakliaa.Rg
