/- Layer 13: Due, Largest, Sent, Frame; the law's set. By hand. -/
import Derived.Test.YtliakeiaeakliaaAkC
import Derived.Deep.RegionHeld3
namespace Go.Proofs.Ytliakeiaeakliaa.Rg
set_option maxRecDepth 20000
open Go.RowKit Go.Shelf
set_option linter.unusedVariables false
set_option linter.unusedSimpArgs false

def dueB (ow si t m : Int) : Bool := decide (2 ≤ ow) || (decide (0 < ow) && decide (si + max m 0 ≤ t))
set_option maxHeartbeats 2000000 in
theorem due_any (v : Value) (fl tp ow si t m : Int) (w : World) (h0 : 0 ≤ si) (h1 : si ≤ 1099511627776) (h2 : m ≤ 1099511627776) :
    Calls Try.prog 14 #[.agg #[v, .int .u64 fl, .int .i64 tp, .int .i64 ow, .int .i64 si], .int .i64 t, .int .i64 m] w fun e w' => e = .returned (.bool (dueB ow si t m)) ∧ Below w.heap.size w w' := by
  obtain ⟨x, hx⟩ : ∃ x, max m 0 = x := ⟨_, rfl⟩
  have hx0 : 0 ≤ x := by omega
  have hx1 : x ≤ 1099511627776 := by omega
  have v1 : IntKind.i64.wrap (si + x) = si + x := IntWalk.i64_in _ (by omega)
  unfold dueB
  rw [hx]
  have HX := Lib.hid hx
  have H01 := Lib.hid (And.intro h0 (And.intro h1 (And.intro h2 (And.intro hx0 hx1))))
  have HB := Lib.hid ((Below.refl w.heap.size w).alloc (Nat.le_refl _) (.cells #[v, .int .u64 fl, .int .i64 tp, .int .i64 ow, .int .i64 si] 28))
  by_cases a1 : 2 ≤ ow
  · have d1 : decide (2 ≤ ow) = true := decide_eq_true a1
    go_enter Try.func14, Try.ntmps14
    go_wp2_with fail
    go_ret
    exact ⟨ret_bool (by simp [a1]), HB.out⟩
  · have d1 : decide (2 ≤ ow) = false := decide_eq_false a1
    by_cases a2 : 0 < ow
    · have d2 : decide (0 < ow) = true := decide_eq_true a2
      by_cases a3 : m < 0
      · obtain rfl : x = 0 := by omega
        have v0 : IntKind.i64.wrap si = si := IntWalk.i64_in _ (by omega)
        go_enter Try.func14, Try.ntmps14
        go_wp2
        go_ret
        exact ⟨rfl, HB.out⟩
      · obtain rfl : x = m := by omega
        go_enter Try.func14, Try.ntmps14
        go_wp2
        go_ret
        exact ⟨rfl, HB.out⟩
    · have d2 : decide (0 < ow) = false := decide_eq_false a2
      go_enter Try.func14, Try.ntmps14
      go_wp2_with fail
      go_ret
      exact ⟨rfl, HB.out⟩

set_option maxHeartbeats 1000000 in
theorem largest_any (v : Value) (l : List Ran) (fl tp ow si : Int) (w : World) (hl : l.length ≤ 1000) (hrd : Rd w v l) (hn : l ≠ []) :
    Calls Try.prog 9 #[.agg #[v, .int .u64 fl, .int .i64 tp, .int .i64 ow, .int .i64 si]] w fun e w' => e = .returned (.tuple #[.int .u64 (lastHi l), .bool true]) ∧ Below w.heap.size w w' := by
  have C := Lib.hid (fun W h => greatest_ne v l fl tp ow si W hl h hn)
  have HB0 := Lib.hid ((Below.refl w.heap.size w).alloc (Nat.le_refl _) (.cells #[v, .int .u64 fl, .int .i64 tp, .int .i64 ow, .int .i64 si] 28))
  have HR := Lib.hid (hrd.go HB0.out)
  clear hrd hl hn
  go_enter Try.func9, Try.ntmps9
  go_wp2_with fail
  refine (C.out _ HR.out).mono ?_
  rintro e w1 ⟨rfl, hb⟩
  have HB := Lib.hid (next HB0.out hb)
  clear hb
  go_wp2_with fail
  go_ret2
  exact ⟨rfl, HB.out⟩

theorem results_cell1 {fn : Func} {p : Tmp} {ty : TypeId} (h : fn.results = #[.cell p ty]) (tmps : Array Value) (P : Program) (w : World) :
    (results fn tmps).run P w = ((asAddr (tmps.getD p undef)).run P w).andThen fun a w₁ => (loadVar ty a).run P w₁ := by
  simp only [results, h]
  simp [Sem.run_bind, Result.andThen]
theorem results_sent (tmps : Array Value) (g : Nat) (v : Value) (s : St) (w : World) (hp : tmps.getD 2 undef = .pointer (some ⟨g, 0, none⟩)) (hc : w.heap[g]? = some (.cells #[v, .int .u64 s.fl, .int .i64 s.tp, .int .i64 s.ow, .int .i64 s.si] 28 (0, 0))) :
    (results Try.f15 tmps).run Try.prog w = .ok (.agg #[v, .int .u64 s.fl, .int .i64 s.tp, .int .i64 s.ow, .int .i64 s.si]) w := by
  have c0 : w.cell? ⟨g, 0, none⟩ = some v := Lib.cell_of_heap hc 0
  have c1 : w.cell? ⟨g, 1, none⟩ = some (.int .u64 s.fl) := Lib.cell_of_heap hc 1
  have c2 : w.cell? ⟨g, 2, none⟩ = some (.int .i64 s.tp) := Lib.cell_of_heap hc 2
  have c3 : w.cell? ⟨g, 3, none⟩ = some (.int .i64 s.ow) := Lib.cell_of_heap hc 3
  have c4 : w.cell? ⟨g, 4, none⟩ = some (.int .i64 s.si) := Lib.cell_of_heap hc 4
  rw [results_cell1 Try.results15]
  simp only [hp]
  go_simp
set_option maxHeartbeats 4000000 in
theorem sent_any (a : Option Addr) (m c : Nat) (s : St) (w : World) (hm : s.l.length = m) (hl : m ≤ 100) (hrd : Rd w (.slice a m c) s.l) :
    Calls Try.prog 15 #[.agg #[.slice a m c, .int .u64 s.fl, .int .i64 s.tp, .int .i64 s.ow, .int .i64 s.si]] w fun e w' => ∃ u, e = .returned (.agg #[u, .int .u64 s.fl, .int .i64 s.tp, .int .i64 0, .int .i64 0]) ∧ Rd w' u s.l ∧ Below w.heap.size w w' := by
  have CO := Lib.hid (fun W h => of_any a m c s W hm (by omega) h)
  have HR := Lib.hid hrd
  clear hrd hm
  obtain ⟨l, fl, tp, ow, si⟩ := s
  simp only at CO HR ⊢
  have HB0 : Hid (Below w.heap.size w ((w.alloc (.cells #[.slice a m c, .int .u64 fl, .int .i64 tp, .int .i64 ow, .int .i64 si] 28)).alloc (.cells #[.slice none 0 0, .int .u64 0, .int .i64 0, .int .i64 0, .int .i64 0] 28))) := Lib.hid (((Below.refl _ w).alloc (Nat.le_refl _) _).alloc (by simp) _)
  have HZ : Hid (Zb ((w.alloc (.cells #[.slice a m c, .int .u64 fl, .int .i64 tp, .int .i64 ow, .int .i64 si] 28)).alloc (.cells #[.slice none 0 0, .int .u64 0, .int .i64 0, .int .i64 0, .int .i64 0] 28)) (w.heap.size + 1) 28) := Lib.hid (by
    have h := heap_alloc_new (w.alloc (.cells #[.slice a m c, .int .u64 fl, .int .i64 tp, .int .i64 ow, .int .i64 si] 28)) (.cells #[.slice none 0 0, .int .u64 0, .int .i64 0, .int .i64 0, .int .i64 0] 28)
    rw [World.size_alloc] at h
    exact h)
  replace HR := Lib.hid (HR.out.go HB0.out)
  go_enter Try.func15, Try.ntmps15
  go_wp2_with fail
  refine (CO.out _ HR.out).mono ?_
  rintro e w1 ⟨u, B, rfl, hB, hT, hf, hb⟩
  obtain ⟨a1, c1, rfl, _⟩ := id hT.rd
  try simp only at hT
  try simp only at hf
  obtain ⟨m1, hm1⟩ : ∃ m, l.length = m := ⟨_, rfl⟩
  rw [hm1] at hT hf
  have HT := Lib.hid hT
  have HF : Hid (¬ Blk (.slice a1 m1 c1) (w.heap.size + 1)) := Lib.hid (fun h => by have := hf _ h; simp at this; omega)
  have HBB : Hid (w.heap.size + 2 ≤ B) := Lib.hid (by simp at hB; omega)
  have hne : ¬ B = w.heap.size + 1 := by have := HBB.out; omega
  have HB1 := Lib.hid (next HB0.out hb)
  have HZ1 := Lib.hid (HZ.out.go hb)
  have HT2 := Lib.hid ((HT.out.s3 0).s4 0)
  have HO2 := Lib.hid ((only_at B 3 w1 (.int .i64 0)).trans (only_at B 4 _ (.int .i64 0)))
  have HZ2 := Lib.hid (HZ1.out.only HO2.out (by have := HBB.out; omega))
  have HB2 := Lib.hid (HB1.out.trans (below_only HO2.out HB1.out.size (fun k hk => by have := HBB.out; omega)))
  have y0 := HT.out.c0
  have y1 := HT.out.c1
  have y2 := HT.out.c2
  have y3 := HT.out.c3
  have y4 := HT.out.c4
  have f3 := HT.out.fz 3
  have f4 := HT.out.fz 4
  simp only at y0 y1 y2 y3 y4
  have q0 : w1.cell? ⟨w.heap.size + 1, 0, none⟩ = _ := Lib.cell_of_heap HZ1.out 0
  have q1 : w1.cell? ⟨w.heap.size + 1, 1, none⟩ = _ := Lib.cell_of_heap HZ1.out 1
  have q2 : w1.cell? ⟨w.heap.size + 1, 2, none⟩ = _ := Lib.cell_of_heap HZ1.out 2
  have q3 : w1.cell? ⟨w.heap.size + 1, 3, none⟩ = _ := Lib.cell_of_heap HZ1.out 3
  have q4 : w1.cell? ⟨w.heap.size + 1, 4, none⟩ = _ := Lib.cell_of_heap HZ1.out 4
  have qf : ∀ k, w1.frozen? ⟨w.heap.size + 1, k, none⟩ = false := fun k => Lib.frozen_of_heap HZ1.out k
  have hne' : ¬ w.heap.size + 1 = B := by omega
  have HP := Lib.hid (five_put HZ2.out (.slice a1 m1 c1) (.int .u64 fl) (.int .i64 tp) (.int .i64 0) (.int .i64 0))
  have HRF := Lib.hid (rd_five HT2.out.rd HF.out (.slice a1 m1 c1) (.int .u64 fl) (.int .i64 tp) (.int .i64 0) (.int .i64 0))
  have HBF := Lib.hid (below_five HB2.out (b := w.heap.size + 1) (by omega) (.slice a1 m1 c1) (.int .u64 fl) (.int .i64 tp) (.int .i64 0) (.int .i64 0))
  clear hB hT hf hb HB0 HZ HR CO
  go_wp2_with fail
  exact bodyPost_ret (results_sent _ (w.heap.size + 1) _ ⟨l, fl, tp, 0, 0⟩ _ rfl HP.out) rfl ⟨_, rfl, HRF.out, HBF.out⟩
end Go.Proofs.Ytliakeiaeakliaa.Rg
