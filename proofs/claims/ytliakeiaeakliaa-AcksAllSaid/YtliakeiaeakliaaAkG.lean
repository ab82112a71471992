/- Layer 13: shown. By tools/gen-acks-6.py. -/
import Derived.Test.YtliakeiaeakliaaAkF
import Derived.Deep.CutRange
namespace Go.Proofs.Ytliakeiaeakliaa.Rg
set_option maxRecDepth 20000
open Go.RowKit Go.Shelf
set_option linter.unusedVariables false
set_option linter.unusedSimpArgs false

/-- A state in a block of the law's own. -/
abbrev Sb (W : World) (b : Nat) (v : Value) (s : St) : Prop := Tl 28 W b v s
/-- An answer's frame in its block. -/
structure Fb (W : World) (b : Nat) (d : Int) (v : Value) (l : List Ran) : Prop where
  hb : W.heap[b]? = some (.cells #[.int .u64 2, .int .u64 0, .int .u64 0, .int .u64 0, .int .u64 0, .int .u64 0, .int .u64 0, .int .u64 d, .bool false, .string ⟨#[]⟩, .string ⟨#[]⟩, .string ⟨#[]⟩, v] 40 (0, 0))
  rd : Rd W v l
  off : ¬ Blk v b
set_option maxHeartbeats 16000000 in
theorem shown13 (w : World) : Calls Try.prog 7 #[] w fun e w' => e = .returned (.bool true) ∧ Below w.heap.size w w' := by
  have K1 := Lib.hid (fun W => got_is none 0 0 ⟨[], 0, 0, 0, 0⟩ ⟨[(3, 3)], 0, 5, 1, 5⟩ 3 true 5 W rfl (by decide) Can.nil ⟨none, 0, rfl, Nat.le_refl _, fun h => absurd rfl h⟩ (by decide) (by decide) (by decide) (by decide) (by decide) (fun s' l1 h => gotr_first h (by decide) (by decide)))
  have K2 := Lib.hid (fun a c W h => got_is a 1 c ⟨[(3, 3)], 0, 5, 1, 5⟩ ⟨[(2, 3)], 0, 5, 2, 5⟩ 2 true 6 W rfl (by decide) (Can.single ⟨by decide, by decide, by decide⟩) h (by decide) (by decide) (by decide) (by decide) (by decide) (fun s' l1 h => gotr_shown h))
  have K3 := Lib.hid (fun a c W h => got_no a 1 c ⟨[(2, 3)], 0, 5, 2, 5⟩ 3 true 7 W rfl (by decide) (Can.single ⟨by decide, by decide, by decide⟩) h (by decide))
  have K4 := Lib.hid (fun a c W h => frame_any a 1 c ⟨[(2, 3)], 0, 5, 2, 5⟩ 9 W rfl (by decide) h (by simp) (by decide) (by decide) (by decide) (by decide))
  have K5 := Lib.hid (fun v W => due_any v 0 5 2 5 6 9 W (by decide) (by decide) (by decide))
  have K6 := Lib.hid (fun a c W h => sent_any a 1 c ⟨[(2, 3)], 0, 5, 2, 5⟩ W rfl (by decide) h)
  have K7 := Lib.hid (fun v W => due_any v 0 5 0 0 9 0 W (by decide) (by decide) (by decide))
  rw [show dueB 2 5 6 9 = true by decide] at K5
  rw [show dueB 0 0 9 0 = false by decide] at K7
  simp only at K1 K2 K3 K4 K6
  rw [show max ((9 : Int) - 5) 0 = 4 by decide] at K4
  go_enter Try.func7, Try.ntmps7
  go_wp2_with fail
  refine (K1.out _).mono ?_
  rintro e w1 ⟨u, rfl, hr, hq, hb⟩
  obtain ⟨ua, uc, rfl, _⟩ := id hr
  have hr : Rd w1 (.slice ua 1 uc) [(3, 3)] := hr
  have HS1 : Hid (Sb (w1.alloc (.cells #[.slice ua 1 uc, .int .u64 0, .int .i64 5, .int .i64 1, .int .i64 5] 28)) w1.heap.size (.slice ua 1 uc) ⟨[(3, 3)], 0, 5, 1, 5⟩) := Lib.hid (tl_made _ w1 (.slice ua 1 uc) ⟨[(3, 3)], 0, 5, 1, 5⟩ hr)
  have HB1 : Hid (Below w.heap.size w (w1.alloc (.cells #[.slice ua 1 uc, .int .u64 0, .int .i64 5, .int .i64 1, .int .i64 5] 28))) := Lib.hid (hb.alloc hb.size _)
  have HG1 : Hid (w.heap.size ≤ w1.heap.size) := Lib.hid hb.size
  clear hr hq hb
  go_wp2_with fail
  generalize w1.alloc (.cells #[.slice ua 1 uc, .int .u64 0, .int .i64 5, .int .i64 1, .int .i64 5] 28) = W1 at *
  generalize w1.heap.size = g at *
  refine (K2.out _ _ _ HS1.out.rd).mono ?_
  rintro e w2 ⟨x, rfl, hr, hq, hb⟩
  obtain ⟨xa, xc, rfl, _⟩ := id hr
  have hr : Rd w2 (.slice xa 1 xc) [(2, 3)] := hr
  have hnb : ¬ Blk (.slice xa 1 xc) g := fun h => by have := hq _ h; have := HS1.out.lt; omega
  have HS2 := Lib.hid (HS1.out.go hb)
  have HS3 : Hid (Sb ((((((w2).setCell ⟨g, 0, none⟩ (.slice xa 1 xc)).setCell ⟨g, 1, none⟩ (.int .u64 0)).setCell ⟨g, 2, none⟩ (.int .i64 5)).setCell ⟨g, 3, none⟩ (.int .i64 2)).setCell ⟨g, 4, none⟩ (.int .i64 5)) g (.slice xa 1 xc) ⟨[(2, 3)], 0, 5, 2, 5⟩) := Lib.hid ⟨five_put HS2.out.hb (.slice xa 1 xc) (.int .u64 0) (.int .i64 5) (.int .i64 2) (.int .i64 5), rd_five hr hnb (.slice xa 1 xc) (.int .u64 0) (.int .i64 5) (.int .i64 2) (.int .i64 5), hnb⟩
  have HB2 : Hid (Below w.heap.size w ((((((w2).setCell ⟨g, 0, none⟩ (.slice xa 1 xc)).setCell ⟨g, 1, none⟩ (.int .u64 0)).setCell ⟨g, 2, none⟩ (.int .i64 5)).setCell ⟨g, 3, none⟩ (.int .i64 2)).setCell ⟨g, 4, none⟩ (.int .i64 5))) := Lib.hid (below_five (next HB1.out hb) (b := g) HG1.out (.slice xa 1 xc) (.int .u64 0) (.int .i64 5) (.int .i64 2) (.int .i64 5))
  have y0 := HS2.out.c0
  have y1 := HS2.out.c1
  have y2 := HS2.out.c2
  have y3 := HS2.out.c3
  have y4 := HS2.out.c4
  have yf : ∀ k, w2.frozen? ⟨g, k, none⟩ = false := HS2.out.fz
  simp only at y0 y1 y2 y3 y4
  clear hr hq hb hnb HS1 HB1
  go_wp2_with fail
  clear y0 y1 y2 y3 y4 yf HS2
  generalize ((((((w2).setCell ⟨g, 0, none⟩ (.slice xa 1 xc)).setCell ⟨g, 1, none⟩ (.int .u64 0)).setCell ⟨g, 2, none⟩ (.int .i64 5)).setCell ⟨g, 3, none⟩ (.int .i64 2)).setCell ⟨g, 4, none⟩ (.int .i64 5)) = W2 at *
  refine (K3.out _ _ _ HS3.out.rd).mono ?_
  rintro e w3 ⟨y, rfl, hr, hq, hb⟩
  obtain ⟨ya, yc, rfl, _⟩ := id hr
  have hr : Rd w3 (.slice ya 1 yc) [(2, 3)] := hr
  have HS4 := Lib.hid (HS3.out.go hb)
  have HB3 := Lib.hid (next HB2.out hb)
  have y0 := HS4.out.c0
  have y1 := HS4.out.c1
  have y2 := HS4.out.c2
  have y3 := HS4.out.c3
  have y4 := HS4.out.c4
  simp only at y0 y1 y2 y3 y4
  have HS5 : Hid (Sb (w3.alloc (.cells #[.slice ya 1 yc, .int .u64 0, .int .i64 5, .int .i64 2, .int .i64 5] 28)) g (.slice xa 1 xc) ⟨[(2, 3)], 0, 5, 2, 5⟩) := Lib.hid (HS4.out.go ((Below.refl _ _).alloc (Nat.le_refl _) _))
  have HB5 : Hid (Below w.heap.size w (w3.alloc (.cells #[.slice ya 1 yc, .int .u64 0, .int .i64 5, .int .i64 2, .int .i64 5] 28))) := Lib.hid (HB3.out.alloc HB3.out.size _)
  have k0 := HS5.out.c0
  have k1 := HS5.out.c1
  have k2 := HS5.out.c2
  have k3 := HS5.out.c3
  have k4 := HS5.out.c4
  simp only at k0 k1 k2 k3 k4
  clear hr hq hb HS3 HB2 HS4 HB3
  go_wp2_with fail
  clear y0 y1 y2 y3 y4 k0 k1 k2 k3 k4
  generalize w3.alloc (.cells #[.slice ya 1 yc, .int .u64 0, .int .i64 5, .int .i64 2, .int .i64 5] 28) = W3 at *
  refine (K4.out _ _ _ HS5.out.rd).mono ?_
  rintro e w4 ⟨f, rfl, hr, hq, hb⟩
  obtain ⟨fa, fc, rfl, _⟩ := id hr
  have hr : Rd w4 (.slice fa 1 fc) [(2, 3)] := hr
  obtain ⟨_, _, _, _, hrow⟩ := id hr
  obtain ⟨fb, fo, rfl, hcell⟩ := hrow (by simp)
  obtain ⟨h1, h2⟩ := hcell 0 (by simp)
  have h1 : w4.cell? ⟨fb, fo, none⟩ = some (.int .u64 2) := h1
  have h2 : w4.cell? ⟨fb, fo + 1, none⟩ = some (.int .u64 3) := h2
  have hlt : fb < w4.heap.size := World.block_lt_of_cell? w4 _ h1
  have hbf : Below w4.heap.size w4 (w4.alloc (.cells #[.int .u64 2, .int .u64 0, .int .u64 0, .int .u64 0, .int .u64 0, .int .u64 0, .int .u64 0, .int .u64 4, .bool false, .string ⟨#[]⟩, .string ⟨#[]⟩, .string ⟨#[]⟩, .slice (some ⟨fb, fo, none⟩) 1 fc] 40)) := (Below.refl _ _).alloc (Nat.le_refl _) _
  have k1 := cell_below hbf h1 hlt
  have k2 := cell_below hbf h2 hlt
  have HS6 := Lib.hid (HS5.out.go (next hb hbf))
  have HB6 := Lib.hid (next HB5.out (next hb hbf))
  have y0 := HS6.out.c0
  have y1 := HS6.out.c1
  have y2 := HS6.out.c2
  have y3 := HS6.out.c3
  have y4 := HS6.out.c4
  simp only at y0 y1 y2 y3 y4
  clear hr hq hb HS5 HB5 hbf hrow hcell
  go_wp2_with fail
  clear y0 y1 y2 y3 y4 k1 k2 h1 h2
  generalize w4.alloc (.cells #[.int .u64 2, .int .u64 0, .int .u64 0, .int .u64 0, .int .u64 0, .int .u64 0, .int .u64 0, .int .u64 4, .bool false, .string ⟨#[]⟩, .string ⟨#[]⟩, .string ⟨#[]⟩, .slice (some ⟨fb, fo, none⟩) 1 fc] 40) = W4 at *
  refine (K5.out _ _).mono ?_
  rintro e w5 ⟨rfl, hb⟩
  have HS7 := Lib.hid (HS6.out.go hb)
  have HB7 := Lib.hid (next HB6.out hb)
  have y0 := HS7.out.c0
  have y1 := HS7.out.c1
  have y2 := HS7.out.c2
  have y3 := HS7.out.c3
  have y4 := HS7.out.c4
  simp only at y0 y1 y2 y3 y4
  clear hb HS6 HB6
  go_wp2_with fail
  refine (K6.out _ _ _ HS7.out.rd).mono ?_
  rintro e w6 ⟨z, rfl, hr, hb⟩
  have HB8 := Lib.hid (next HB7.out hb)
  clear y0 y1 y2 y3 y4 hb hr HB7 HS7
  go_wp2_with fail
  refine (K7.out _ _).mono ?_
  rintro e w7 ⟨rfl, hb⟩
  have HB9 := Lib.hid (next HB8.out hb)
  clear hb HB8
  go_wp2_with fail
  go_ret
  exact ⟨rfl, HB9.out⟩
end Go.Proofs.Ytliakeiaeakliaa.Rg
