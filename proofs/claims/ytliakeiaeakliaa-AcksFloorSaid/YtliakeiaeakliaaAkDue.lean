/- Layer 13: the law AcksDue. By tools/gen-acks-7.py. -/
import Derived.Test.YtliakeiaeakliaaAkG
namespace Go.Proofs.Ytliakeiaeakliaa.Rg
set_option maxRecDepth 20000
open Go.RowKit Go.Shelf
set_option linter.unusedVariables false
set_option linter.unusedSimpArgs false

theorem gotr_next {n o i : Int} {s' : St} {l1 : List Ran} (h : GotR ⟨[(n, n)], 0, 10, o, i⟩ (n + 1) true 11 s' l1) (h0 : 0 ≤ n) (h1 : n < 4611686018427387904) : s' = ⟨[(n, n + 1)], 0, 11, o + 1, if o = 0 then 11 else i⟩ := by
  have e : l1 = [(n, n + 1)] := h.is (Can.single ⟨by simp only; omega, by simp only; omega, by simp only; omega⟩) (fun x => by
    rw [mem_single, mem_single]
    unfold inn
    simp only
    omega)
  subst e
  obtain ⟨l, fl, tp, ow, si⟩ := s'
  have h2 := h.tp
  have h3 := h.ow
  have h4 := h.si
  rcases h.set with ⟨_, h5, h6⟩ | ⟨h5, _⟩
  · simp only at h2 h3 h4 h5 h6
    rw [h5, h6, h2, h3, h4, show lastHi [(n, n + 1)] = n + 1 from rfl]
    simp
  · simp at h5
theorem open_next {n o i : Int} (h0 : 0 ≤ n) : shut ⟨[(n, n)], 0, 10, o, i⟩ (n + 1) = false :=
  shut_of (by show 0 ≤ n + 1; omega) (fun h => by
    have h : mem [(n, n)] (n + 1) := h
    rw [mem_single] at h
    have := h.2
    simp only at this
    omega)
theorem open_none (n : Int) (h0 : 0 ≤ n) : shut ⟨[], 0, 0, 0, 0⟩ n = false := shut_of h0 (fun h => mem_nil n h)
theorem due_no {o i t m : Int} (h : o = 0 ∨ (o = 1 ∧ t < i + max m 0)) : dueB o i t m = false := by
  unfold dueB
  rcases h with rfl | ⟨rfl, h⟩
  · simp
  · rw [decide_eq_false (by omega), decide_eq_false (p := i + max m 0 ≤ t) (by omega)]
    simp
theorem due_yes {o i t m : Int} (h : 2 ≤ o ∨ (0 < o ∧ i + max m 0 ≤ t)) : dueB o i t m = true := by
  unfold dueB
  rcases h with h | ⟨h, h1⟩
  · rw [decide_eq_true h]
    simp
  · rw [decide_eq_true h, decide_eq_true h1]
    simp
set_option maxHeartbeats 8000000 in
theorem due_true (n q : Int) (w : World) (h0 : 0 ≤ n) (h1 : n ≤ 255) (h2 : 0 ≤ q) (h3 : q ≤ 255) :
    Calls Try.prog 5 #[.int .u8 n, .int .u8 q, .bool true] w fun e w' => e = .returned (.bool true) ∧ Below w.heap.size w w' := by
  have K1 := Lib.hid (fun W => got_is none 0 0 ⟨[], 0, 0, 0, 0⟩ ⟨[(n, n)], 0, 10, 1, 10⟩ n true 10 W rfl (by decide) Can.nil ⟨none, 0, rfl, Nat.le_refl _, fun h => absurd rfl h⟩ (open_none n h0) h0 (by omega) (by decide) (by decide) (fun s' l1 h => gotr_first h h0 (by omega)))
  have K2 := Lib.hid (fun a c W h => got_is a 1 c ⟨[(n, n)], 0, 10, 1, 10⟩ ⟨[(n, n + 1)], 0, 11, 2, 10⟩ (n + 1) true 11 W rfl (by decide) (Can.single ⟨h0, Int.le_refl _, by simp only; omega⟩) h (open_next h0) (by omega) (by omega) (by show (0 : Int) ≤ 1; decide) (by show (1 : Int) ≤ 1000000; decide) (fun s' l1 h => gotr_next h h0 (by omega)))
  obtain ⟨m, hm⟩ : ∃ m, q.tmod 20 = m := ⟨_, rfl⟩
  have hm0 : 0 ≤ m := by rw [← hm]; exact Int.tmod_nonneg _ h2
  have hm1 : m < 20 := by rw [← hm]; exact Int.tmod_lt_of_pos _ (by decide)
  have K3 := Lib.hid (fun v W => due_any v 0 10 1 10 (10 + m) m W (by decide) (by decide) (by omega))
  have K4 := Lib.hid (fun v W => due_any v 0 10 1 10 (9 + m) m W (by decide) (by decide) (by omega))
  have K5 := Lib.hid (fun v W => due_any v 0 11 2 10 11 1000 W (by decide) (by decide) (by decide))
  have K6 := Lib.hid (fun a c W h => sent_any a 1 c ⟨[(n, n + 1)], 0, 11, 2, 10⟩ W rfl (by decide) h)
  have K7 := Lib.hid (fun v W => due_any v 0 11 0 0 5000 0 W (by decide) (by decide) (by decide))
  rw [due_yes (o := 1) (i := 10) (t := 10 + m) (m := m) (.inr ⟨by decide, by omega⟩)] at K3
  rw [due_no (o := 1) (i := 10) (t := 9 + m) (m := m) (.inr ⟨rfl, by omega⟩)] at K4
  rw [due_yes (o := 2) (i := 10) (t := 11) (m := 1000) (.inl (by decide))] at K5
  rw [due_no (o := 0) (i := 0) (t := 5000) (m := 0) (.inl rfl)] at K7
  simp only at K1 K2 K6
  have v1 : IntKind.u64.wrap n = n := IntWalk.u64_in _ (by omega)
  have v2 : IntKind.i64.wrap q = q := IntWalk.i64_in _ (by omega)
  have v3 : IntKind.u64.wrap (n + 1) = n + 1 := IntWalk.u64_in _ (by omega)
  have v4 : IntKind.i64.wrap (10 + m) = 10 + m := IntWalk.i64_in _ (by omega)
  have v5 : IntKind.i64.wrap (9 + m) = 9 + m := IntWalk.i64_in _ (by omega)
  have v6 : IntKind.i64.wrap m = m := IntWalk.i64_in _ (by omega)
  have CS := Lib.hid shown13
  clear h0 h1 h2 h3
  go_enter Try.func5, Try.ntmps5
  go_wp2_with fail
  refine (K1.out _).mono ?_
  rintro e w1 ⟨u, rfl, hr, hq, hb⟩
  obtain ⟨ua, uc, rfl, _⟩ := id hr
  have hr : Rd w1 (.slice ua 1 uc) [(n, n)] := hr
  have HS1 : Hid (Sb (w1.alloc (.cells #[.slice ua 1 uc, .int .u64 0, .int .i64 10, .int .i64 1, .int .i64 10] 28)) w1.heap.size (.slice ua 1 uc) ⟨[(n, n)], 0, 10, 1, 10⟩) := Lib.hid (tl_made _ w1 (.slice ua 1 uc) ⟨[(n, n)], 0, 10, 1, 10⟩ hr)
  have HB1 : Hid (Below w.heap.size w (w1.alloc (.cells #[.slice ua 1 uc, .int .u64 0, .int .i64 10, .int .i64 1, .int .i64 10] 28))) := Lib.hid (hb.alloc hb.size _)
  clear hr hq hb
  have y0 := HS1.out.c0
  have y1 := HS1.out.c1
  have y2 := HS1.out.c2
  have y3 := HS1.out.c3
  have y4 := HS1.out.c4
  simp only at y0 y1 y2 y3 y4
  go_wp2_with fail
  generalize w1.alloc (.cells #[.slice ua 1 uc, .int .u64 0, .int .i64 10, .int .i64 1, .int .i64 10] 28) = W1 at *
  generalize w1.heap.size = g at *
  refine (K3.out _ _).mono ?_
  rintro e w2 ⟨rfl, hb⟩
  replace HS1 := Lib.hid (HS1.out.go hb)
  replace HB1 := Lib.hid (next HB1.out hb)
  clear y0 y1 y2 y3 y4 hb K1 K3
  have y0 := HS1.out.c0
  have y1 := HS1.out.c1
  have y2 := HS1.out.c2
  have y3 := HS1.out.c3
  have y4 := HS1.out.c4
  simp only at y0 y1 y2 y3 y4
  by_cases hm2 : 0 < m
  · go_wp2_with fail
    refine (K4.out _ _).mono ?_
    rintro e w3 ⟨rfl, hb⟩
    replace HS1 := Lib.hid (HS1.out.go hb)
    replace HB1 := Lib.hid (next HB1.out hb)
    clear y0 y1 y2 y3 y4 hb K4
    have y0 := HS1.out.c0
    have y1 := HS1.out.c1
    have y2 := HS1.out.c2
    have y3 := HS1.out.c3
    have y4 := HS1.out.c4
    simp only at y0 y1 y2 y3 y4
    go_wp2_with fail
    refine (K2.out _ _ _ HS1.out.rd).mono ?_
    rintro e w4 ⟨x, rfl, hr, hq, hb⟩
    obtain ⟨xa, xc, rfl, _⟩ := id hr
    have hr : Rd w4 (.slice xa 1 xc) [(n, n + 1)] := hr
    have HS2 : Hid (Sb (w4.alloc (.cells #[.slice xa 1 xc, .int .u64 0, .int .i64 11, .int .i64 2, .int .i64 10] 28)) w4.heap.size (.slice xa 1 xc) ⟨[(n, n + 1)], 0, 11, 2, 10⟩) := Lib.hid (tl_made _ w4 (.slice xa 1 xc) ⟨[(n, n + 1)], 0, 11, 2, 10⟩ hr)
    have HB2 : Hid (Below w.heap.size w (w4.alloc (.cells #[.slice xa 1 xc, .int .u64 0, .int .i64 11, .int .i64 2, .int .i64 10] 28))) := Lib.hid ((next HB1.out hb).alloc (next HB1.out hb).size _)
    clear y0 y1 y2 y3 y4 hr hq hb HS1 HB1 K2
    have y0 := HS2.out.c0
    have y1 := HS2.out.c1
    have y2 := HS2.out.c2
    have y3 := HS2.out.c3
    have y4 := HS2.out.c4
    simp only at y0 y1 y2 y3 y4
    go_wp2_with fail
    generalize w4.alloc (.cells #[.slice xa 1 xc, .int .u64 0, .int .i64 11, .int .i64 2, .int .i64 10] 28) = W2 at *
    refine (K5.out _ _).mono ?_
    rintro e w5 ⟨rfl, hb⟩
    replace HS2 := Lib.hid (HS2.out.go hb)
    replace HB2 := Lib.hid (next HB2.out hb)
    clear y0 y1 y2 y3 y4 hb K5
    have y0 := HS2.out.c0
    have y1 := HS2.out.c1
    have y2 := HS2.out.c2
    have y3 := HS2.out.c3
    have y4 := HS2.out.c4
    simp only at y0 y1 y2 y3 y4
    go_wp2_with fail
    refine (K6.out _ _ _ HS2.out.rd).mono ?_
    rintro e w6 ⟨z, rfl, hr, hb⟩
    replace HB2 := Lib.hid (next HB2.out hb)
    clear y0 y1 y2 y3 y4 hb hr HS2 K6
    go_wp2_with fail
    refine (K7.out _ _).mono ?_
    rintro e w7 ⟨rfl, hb⟩
    replace HB2 := Lib.hid (next HB2.out hb)
    clear hb
    go_wp2_with fail
    refine (CS.out _).mono ?_
    rintro e w8 ⟨rfl, hb⟩
    replace HB2 := Lib.hid (next HB2.out hb)
    clear hb
    go_wp2_with fail
    go_ret
    exact ⟨rfl, HB2.out⟩
  · have hm3 : ¬ (0 < m) := hm2
    go_wp2_with fail
    refine (K2.out _ _ _ HS1.out.rd).mono ?_
    rintro e w4 ⟨x, rfl, hr, hq, hb⟩
    obtain ⟨xa, xc, rfl, _⟩ := id hr
    have hr : Rd w4 (.slice xa 1 xc) [(n, n + 1)] := hr
    have HS2 : Hid (Sb (w4.alloc (.cells #[.slice xa 1 xc, .int .u64 0, .int .i64 11, .int .i64 2, .int .i64 10] 28)) w4.heap.size (.slice xa 1 xc) ⟨[(n, n + 1)], 0, 11, 2, 10⟩) := Lib.hid (tl_made _ w4 (.slice xa 1 xc) ⟨[(n, n + 1)], 0, 11, 2, 10⟩ hr)
    have HB2 : Hid (Below w.heap.size w (w4.alloc (.cells #[.slice xa 1 xc, .int .u64 0, .int .i64 11, .int .i64 2, .int .i64 10] 28))) := Lib.hid ((next HB1.out hb).alloc (next HB1.out hb).size _)
    clear y0 y1 y2 y3 y4 hr hq hb HS1 HB1 K2
    have y0 := HS2.out.c0
    have y1 := HS2.out.c1
    have y2 := HS2.out.c2
    have y3 := HS2.out.c3
    have y4 := HS2.out.c4
    simp only at y0 y1 y2 y3 y4
    go_wp2_with fail
    generalize w4.alloc (.cells #[.slice xa 1 xc, .int .u64 0, .int .i64 11, .int .i64 2, .int .i64 10] 28) = W2 at *
    refine (K5.out _ _).mono ?_
    rintro e w5 ⟨rfl, hb⟩
    replace HS2 := Lib.hid (HS2.out.go hb)
    replace HB2 := Lib.hid (next HB2.out hb)
    clear y0 y1 y2 y3 y4 hb K5
    have y0 := HS2.out.c0
    have y1 := HS2.out.c1
    have y2 := HS2.out.c2
    have y3 := HS2.out.c3
    have y4 := HS2.out.c4
    simp only at y0 y1 y2 y3 y4
    go_wp2_with fail
    refine (K6.out _ _ _ HS2.out.rd).mono ?_
    rintro e w6 ⟨z, rfl, hr, hb⟩
    replace HB2 := Lib.hid (next HB2.out hb)
    clear y0 y1 y2 y3 y4 hb hr HS2 K6
    go_wp2_with fail
    refine (K7.out _ _).mono ?_
    rintro e w7 ⟨rfl, hb⟩
    replace HB2 := Lib.hid (next HB2.out hb)
    clear hb
    go_wp2_with fail
    refine (CS.out _).mono ?_
    rintro e w8 ⟨rfl, hb⟩
    replace HB2 := Lib.hid (next HB2.out hb)
    clear hb
    go_wp2_with fail
    go_ret
    exact ⟨rfl, HB2.out⟩

set_option maxHeartbeats 8000000 in
theorem due_false (n q : Int) (w : World) (h0 : 0 ≤ n) (h1 : n ≤ 255) (h2 : 0 ≤ q) (h3 : q ≤ 255) :
    Calls Try.prog 5 #[.int .u8 n, .int .u8 q, .bool false] w fun e w' => e = .returned (.bool true) ∧ Below w.heap.size w w' := by
  have K1 := Lib.hid (fun W => got_is none 0 0 ⟨[], 0, 0, 0, 0⟩ ⟨[(n, n)], 0, 10, 0, 0⟩ n false 10 W rfl (by decide) Can.nil ⟨none, 0, rfl, Nat.le_refl _, fun h => absurd rfl h⟩ (open_none n h0) h0 (by omega) (by decide) (by decide) (fun s' l1 h => gotr_first h h0 (by omega)))
  have K2 := Lib.hid (fun a c W h => got_is a 1 c ⟨[(n, n)], 0, 10, 0, 0⟩ ⟨[(n, n + 1)], 0, 11, 1, 11⟩ (n + 1) true 11 W rfl (by decide) (Can.single ⟨h0, Int.le_refl _, by simp only; omega⟩) h (open_next h0) (by omega) (by omega) (by show (0 : Int) ≤ 0; decide) (by show (0 : Int) ≤ 1000000; decide) (fun s' l1 h => gotr_next h h0 (by omega)))
  obtain ⟨m, hm⟩ : ∃ m, q.tmod 20 = m := ⟨_, rfl⟩
  have hm0 : 0 ≤ m := by rw [← hm]; exact Int.tmod_nonneg _ h2
  have hm1 : m < 20 := by rw [← hm]; exact Int.tmod_lt_of_pos _ (by decide)
  have K3 := Lib.hid (fun v W => due_any v 0 10 0 0 (10 + m) m W (by decide) (by decide) (by omega))
  have K4 := Lib.hid (fun v W => due_any v 0 10 0 0 (9 + m) m W (by decide) (by decide) (by omega))
  have K5 := Lib.hid (fun v W => due_any v 0 11 1 11 11 1000 W (by decide) (by decide) (by decide))
  have K6 := Lib.hid (fun a c W h => sent_any a 1 c ⟨[(n, n + 1)], 0, 11, 1, 11⟩ W rfl (by decide) h)
  have K7 := Lib.hid (fun v W => due_any v 0 11 0 0 5000 0 W (by decide) (by decide) (by decide))
  rw [due_no (o := 0) (i := 0) (t := 10 + m) (m := m) (.inl rfl)] at K3
  rw [due_no (o := 0) (i := 0) (t := 9 + m) (m := m) (.inl rfl)] at K4
  rw [due_no (o := 1) (i := 11) (t := 11) (m := 1000) (.inr ⟨rfl, by decide⟩)] at K5
  rw [due_no (o := 0) (i := 0) (t := 5000) (m := 0) (.inl rfl)] at K7
  simp only at K1 K2 K6
  have v1 : IntKind.u64.wrap n = n := IntWalk.u64_in _ (by omega)
  have v2 : IntKind.i64.wrap q = q := IntWalk.i64_in _ (by omega)
  have v3 : IntKind.u64.wrap (n + 1) = n + 1 := IntWalk.u64_in _ (by omega)
  have v4 : IntKind.i64.wrap (10 + m) = 10 + m := IntWalk.i64_in _ (by omega)
  have v5 : IntKind.i64.wrap (9 + m) = 9 + m := IntWalk.i64_in _ (by omega)
  have v6 : IntKind.i64.wrap m = m := IntWalk.i64_in _ (by omega)
  have CS := Lib.hid shown13
  clear h0 h1 h2 h3
  go_enter Try.func5, Try.ntmps5
  go_wp2_with fail
  refine (K1.out _).mono ?_
  rintro e w1 ⟨u, rfl, hr, hq, hb⟩
  obtain ⟨ua, uc, rfl, _⟩ := id hr
  have hr : Rd w1 (.slice ua 1 uc) [(n, n)] := hr
  have HS1 : Hid (Sb (w1.alloc (.cells #[.slice ua 1 uc, .int .u64 0, .int .i64 10, .int .i64 0, .int .i64 0] 28)) w1.heap.size (.slice ua 1 uc) ⟨[(n, n)], 0, 10, 0, 0⟩) := Lib.hid (tl_made _ w1 (.slice ua 1 uc) ⟨[(n, n)], 0, 10, 0, 0⟩ hr)
  have HB1 : Hid (Below w.heap.size w (w1.alloc (.cells #[.slice ua 1 uc, .int .u64 0, .int .i64 10, .int .i64 0, .int .i64 0] 28))) := Lib.hid (hb.alloc hb.size _)
  clear hr hq hb
  have y0 := HS1.out.c0
  have y1 := HS1.out.c1
  have y2 := HS1.out.c2
  have y3 := HS1.out.c3
  have y4 := HS1.out.c4
  simp only at y0 y1 y2 y3 y4
  go_wp2_with fail
  generalize w1.alloc (.cells #[.slice ua 1 uc, .int .u64 0, .int .i64 10, .int .i64 0, .int .i64 0] 28) = W1 at *
  generalize w1.heap.size = g at *
  refine (K3.out _ _).mono ?_
  rintro e w2 ⟨rfl, hb⟩
  replace HS1 := Lib.hid (HS1.out.go hb)
  replace HB1 := Lib.hid (next HB1.out hb)
  clear y0 y1 y2 y3 y4 hb K1 K3
  have y0 := HS1.out.c0
  have y1 := HS1.out.c1
  have y2 := HS1.out.c2
  have y3 := HS1.out.c3
  have y4 := HS1.out.c4
  simp only at y0 y1 y2 y3 y4
  by_cases hm2 : 0 < m
  · go_wp2_with fail
    refine (K4.out _ _).mono ?_
    rintro e w3 ⟨rfl, hb⟩
    replace HS1 := Lib.hid (HS1.out.go hb)
    replace HB1 := Lib.hid (next HB1.out hb)
    clear y0 y1 y2 y3 y4 hb K4
    have y0 := HS1.out.c0
    have y1 := HS1.out.c1
    have y2 := HS1.out.c2
    have y3 := HS1.out.c3
    have y4 := HS1.out.c4
    simp only at y0 y1 y2 y3 y4
    go_wp2_with fail
    refine (K2.out _ _ _ HS1.out.rd).mono ?_
    rintro e w4 ⟨x, rfl, hr, hq, hb⟩
    obtain ⟨xa, xc, rfl, _⟩ := id hr
    have hr : Rd w4 (.slice xa 1 xc) [(n, n + 1)] := hr
    have HS2 : Hid (Sb (w4.alloc (.cells #[.slice xa 1 xc, .int .u64 0, .int .i64 11, .int .i64 1, .int .i64 11] 28)) w4.heap.size (.slice xa 1 xc) ⟨[(n, n + 1)], 0, 11, 1, 11⟩) := Lib.hid (tl_made _ w4 (.slice xa 1 xc) ⟨[(n, n + 1)], 0, 11, 1, 11⟩ hr)
    have HB2 : Hid (Below w.heap.size w (w4.alloc (.cells #[.slice xa 1 xc, .int .u64 0, .int .i64 11, .int .i64 1, .int .i64 11] 28))) := Lib.hid ((next HB1.out hb).alloc (next HB1.out hb).size _)
    clear y0 y1 y2 y3 y4 hr hq hb HS1 HB1 K2
    have y0 := HS2.out.c0
    have y1 := HS2.out.c1
    have y2 := HS2.out.c2
    have y3 := HS2.out.c3
    have y4 := HS2.out.c4
    simp only at y0 y1 y2 y3 y4
    go_wp2_with fail
    generalize w4.alloc (.cells #[.slice xa 1 xc, .int .u64 0, .int .i64 11, .int .i64 1, .int .i64 11] 28) = W2 at *
    refine (K5.out _ _).mono ?_
    rintro e w5 ⟨rfl, hb⟩
    replace HS2 := Lib.hid (HS2.out.go hb)
    replace HB2 := Lib.hid (next HB2.out hb)
    clear y0 y1 y2 y3 y4 hb K5
    have y0 := HS2.out.c0
    have y1 := HS2.out.c1
    have y2 := HS2.out.c2
    have y3 := HS2.out.c3
    have y4 := HS2.out.c4
    simp only at y0 y1 y2 y3 y4
    go_wp2_with fail
    refine (K6.out _ _ _ HS2.out.rd).mono ?_
    rintro e w6 ⟨z, rfl, hr, hb⟩
    replace HB2 := Lib.hid (next HB2.out hb)
    clear y0 y1 y2 y3 y4 hb hr HS2 K6
    go_wp2_with fail
    refine (K7.out _ _).mono ?_
    rintro e w7 ⟨rfl, hb⟩
    replace HB2 := Lib.hid (next HB2.out hb)
    clear hb
    go_wp2_with fail
    refine (CS.out _).mono ?_
    rintro e w8 ⟨rfl, hb⟩
    replace HB2 := Lib.hid (next HB2.out hb)
    clear hb
    go_wp2_with fail
    go_ret
    exact ⟨rfl, HB2.out⟩
  · have hm3 : ¬ (0 < m) := hm2
    go_wp2_with fail
    refine (K2.out _ _ _ HS1.out.rd).mono ?_
    rintro e w4 ⟨x, rfl, hr, hq, hb⟩
    obtain ⟨xa, xc, rfl, _⟩ := id hr
    have hr : Rd w4 (.slice xa 1 xc) [(n, n + 1)] := hr
    have HS2 : Hid (Sb (w4.alloc (.cells #[.slice xa 1 xc, .int .u64 0, .int .i64 11, .int .i64 1, .int .i64 11] 28)) w4.heap.size (.slice xa 1 xc) ⟨[(n, n + 1)], 0, 11, 1, 11⟩) := Lib.hid (tl_made _ w4 (.slice xa 1 xc) ⟨[(n, n + 1)], 0, 11, 1, 11⟩ hr)
    have HB2 : Hid (Below w.heap.size w (w4.alloc (.cells #[.slice xa 1 xc, .int .u64 0, .int .i64 11, .int .i64 1, .int .i64 11] 28))) := Lib.hid ((next HB1.out hb).alloc (next HB1.out hb).size _)
    clear y0 y1 y2 y3 y4 hr hq hb HS1 HB1 K2
    have y0 := HS2.out.c0
    have y1 := HS2.out.c1
    have y2 := HS2.out.c2
    have y3 := HS2.out.c3
    have y4 := HS2.out.c4
    simp only at y0 y1 y2 y3 y4
    go_wp2_with fail
    generalize w4.alloc (.cells #[.slice xa 1 xc, .int .u64 0, .int .i64 11, .int .i64 1, .int .i64 11] 28) = W2 at *
    refine (K5.out _ _).mono ?_
    rintro e w5 ⟨rfl, hb⟩
    replace HS2 := Lib.hid (HS2.out.go hb)
    replace HB2 := Lib.hid (next HB2.out hb)
    clear y0 y1 y2 y3 y4 hb K5
    have y0 := HS2.out.c0
    have y1 := HS2.out.c1
    have y2 := HS2.out.c2
    have y3 := HS2.out.c3
    have y4 := HS2.out.c4
    simp only at y0 y1 y2 y3 y4
    go_wp2_with fail
    refine (K6.out _ _ _ HS2.out.rd).mono ?_
    rintro e w6 ⟨z, rfl, hr, hb⟩
    replace HB2 := Lib.hid (next HB2.out hb)
    clear y0 y1 y2 y3 y4 hb hr HS2 K6
    go_wp2_with fail
    refine (K7.out _ _).mono ?_
    rintro e w7 ⟨rfl, hb⟩
    replace HB2 := Lib.hid (next HB2.out hb)
    clear hb
    go_wp2_with fail
    refine (CS.out _).mono ?_
    rintro e w8 ⟨rfl, hb⟩
    replace HB2 := Lib.hid (next HB2.out hb)
    clear hb
    go_wp2_with fail
    go_ret
    exact ⟨rfl, HB2.out⟩

theorem law_due (n q : Int) (el : Bool) (w : World) (w0 : (Lit.int .u8 n).wf = true) (w1 : (Lit.int .u8 q).wf = true) :
    Calls Try.prog 5 #[.int .u8 n, .int .u8 q, .bool el] w fun e w' => e = .returned (.bool true) ∧ Below w.heap.size w w' := by
  simp only [Lit.wf, Bool.and_eq_true, decide_eq_true_eq] at w0 w1
  cases el
  · exact due_false n q w w0.1 w0.2 w1.1 w1.2
  · exact due_true n q w w0.1 w0.2 w1.1 w1.2
end Go.Proofs.Ytliakeiaeakliaa.Rg
