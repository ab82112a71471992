/- The walks of layer 9: sixteen words in a block; one of them turned; mix, quarter, twice -/
import Derived.Test.YtojoalmldapboaaGreatDoorJa04
import Derived.Deep.RegionWith
import Derived.Deep.CutRange
namespace Go.Proofs.YtojoalmldapboaaGreatDoor.Se
set_option maxRecDepth 20000
open Go.RowKit Vm Dg
set_option linter.unusedVariables false
set_option linter.unusedSimpArgs false

/-- A block of 16 words. -/
def WB (T : TypeId) (w : World) (b : Nat) (l : List Nat) : Prop := w.heap[b]? = some (.cells (l.map fun x : Nat => Value.int .u32 x).toArray T (0, 0))
theorem WB.lt {T : TypeId} {w : World} {b : Nat} {l : List Nat} (h : WB T w b l) : b < w.heap.size := (Array.getElem?_eq_some_iff.1 h).1
theorem WB.keep {T : TypeId} {w w' : World} {b B : Nat} {l : List Nat} (h : WB T w b l) (hb : Below B w w') (hB : b < B) : WB T w' b l := (hb.block b hB).trans h
theorem WB.only {T : TypeId} {O : Nat → Prop} {w w' : World} {b : Nat} {l : List Nat} (h : WB T w b l) (ho : It.Only O w w') (hn : ¬ O b) : WB T w' b l := ho.heap h hn
theorem WB.cell {T : TypeId} {w : World} {b : Nat} {l : List Nat} (h : WB T w b l) (j : Nat) (hj : j < l.length) : w.cell? ⟨b, j, none⟩ = some (.int .u32 (l.getD j 0 : Nat)) := by
  rw [Lib.cell_of_heap h]
  simp [List.getD, List.getElem?_eq_getElem hj]
theorem WB.fz {T : TypeId} {w : World} {b : Nat} {l : List Nat} (h : WB T w b l) (j : Nat) : w.frozen? ⟨b, j, none⟩ = false := Lib.frozen_of_heap h j
theorem WB.set {T : TypeId} {w : World} {b : Nat} {l : List Nat} (h : WB T w b l) (j x : Nat) : WB T (w.setCell ⟨b, j, none⟩ (.int .u32 x)) b (l.set j x) := by
  have := Joins.block_setCell (i := j) h (.int .u32 (x : Int))
  unfold WB
  rw [this]
  simp [List.map_set]
theorem WB.drew {T : TypeId} {w : World} {b : Nat} {l : List Nat} (h : WB T w b l) : WB T w.drew b l := h
theorem WB.other {T : TypeId} {w : World} {b c : Nat} {l : List Nat} (h : WB T w b l) (hc : b ≠ c) (j : Nat) (v : Value) : WB T (w.setCell ⟨c, j, none⟩ v) b l := by
  unfold WB at *
  rw [heap_setCell_other _ _ _ _ hc]
  exact h
theorem rl_rr (x n : Nat) (hx : x < 4294967296) (hn : n ≤ 32) : rl x n = rr x (32 - n) := by
  have e : (4294967296 : Nat) = 2 ^ (32 - n) * 2 ^ n := by rw [← Nat.pow_add, show 32 - n + n = 32 by omega]
  have h1 : x * 2 ^ n % 4294967296 = x % 2 ^ (32 - n) * 2 ^ n := by
    rw [e, Nat.mul_mod_mul_right]
  unfold rl rr
  rw [h1, show 32 - (32 - n) = n by omega]
  omega
set_option maxHeartbeats 1000000 in
theorem rot16 (x : Nat) (w : World) (hx : x < 4294967296) : Calls Tryz.prog 161 #[.int .u32 x, .int .i64 16] w fun e w' => e = .returned (.int .u32 (rl x 16 : Nat)) ∧ w' = w := by
  have X := rot_num x 16 16 hx rfl (by decide) (by decide)
  have hrl : rl x 16 = rr x 16 := rl_rr x 16 hx (by decide)
  rw [hrl]
  clear hrl
  have h1 : (2 : Int) ^ 16 = 65536 := by decide
  have h2 : (2 : Int) ^ 16 = 65536 := by decide
  have h3 : bits .and .u64 16 31 = 16 := by decide
  rw [h1] at X
  try rw [h2] at X
  have hxI : (x : Int) < 4294967296 := by omega
  have hxI0 : (0 : Int) ≤ (x : Int) := by omega
  have X : bits .or .u32 ((x : Int) * 65536 % 4294967296) ((x : Int) / 65536) = ((rr x 16 : Nat) : Int) := by rw [← X, IntKind.wrap_u32]
  clear h1 h2
  go_enter Tryz.func161, Tryz.ntmps161
  go_wp2
  go_ret
  exact ⟨by first | rfl | (rw [← X]; rfl), rfl⟩
set_option maxHeartbeats 1000000 in
theorem rot12 (x : Nat) (w : World) (hx : x < 4294967296) : Calls Tryz.prog 161 #[.int .u32 x, .int .i64 12] w fun e w' => e = .returned (.int .u32 (rl x 12 : Nat)) ∧ w' = w := by
  have X := rot_num x 20 12 hx rfl (by decide) (by decide)
  have hrl : rl x 12 = rr x 20 := rl_rr x 12 hx (by decide)
  rw [hrl]
  clear hrl
  have h1 : (2 : Int) ^ 12 = 4096 := by decide
  have h2 : (2 : Int) ^ 20 = 1048576 := by decide
  have h3 : bits .and .u64 12 31 = 12 := by decide
  rw [h1] at X
  try rw [h2] at X
  have hxI : (x : Int) < 4294967296 := by omega
  have hxI0 : (0 : Int) ≤ (x : Int) := by omega
  have X : bits .or .u32 ((x : Int) * 4096 % 4294967296) ((x : Int) / 1048576) = ((rr x 20 : Nat) : Int) := by rw [← X, IntKind.wrap_u32]
  clear h1 h2
  go_enter Tryz.func161, Tryz.ntmps161
  go_wp2
  go_ret
  exact ⟨by first | rfl | (rw [← X]; rfl), rfl⟩
set_option maxHeartbeats 1000000 in
theorem rot8 (x : Nat) (w : World) (hx : x < 4294967296) : Calls Tryz.prog 161 #[.int .u32 x, .int .i64 8] w fun e w' => e = .returned (.int .u32 (rl x 8 : Nat)) ∧ w' = w := by
  have X := rot_num x 24 8 hx rfl (by decide) (by decide)
  have hrl : rl x 8 = rr x 24 := rl_rr x 8 hx (by decide)
  rw [hrl]
  clear hrl
  have h1 : (2 : Int) ^ 8 = 256 := by decide
  have h2 : (2 : Int) ^ 24 = 16777216 := by decide
  have h3 : bits .and .u64 8 31 = 8 := by decide
  rw [h1] at X
  try rw [h2] at X
  have hxI : (x : Int) < 4294967296 := by omega
  have hxI0 : (0 : Int) ≤ (x : Int) := by omega
  have X : bits .or .u32 ((x : Int) * 256 % 4294967296) ((x : Int) / 16777216) = ((rr x 24 : Nat) : Int) := by rw [← X, IntKind.wrap_u32]
  clear h1 h2
  go_enter Tryz.func161, Tryz.ntmps161
  go_wp2
  go_ret
  exact ⟨by first | rfl | (rw [← X]; rfl), rfl⟩
set_option maxHeartbeats 1000000 in
theorem rot7 (x : Nat) (w : World) (hx : x < 4294967296) : Calls Tryz.prog 161 #[.int .u32 x, .int .i64 7] w fun e w' => e = .returned (.int .u32 (rl x 7 : Nat)) ∧ w' = w := by
  have X := rot_num x 25 7 hx rfl (by decide) (by decide)
  have hrl : rl x 7 = rr x 25 := rl_rr x 7 hx (by decide)
  rw [hrl]
  clear hrl
  have h1 : (2 : Int) ^ 7 = 128 := by decide
  have h2 : (2 : Int) ^ 25 = 33554432 := by decide
  have h3 : bits .and .u64 7 31 = 7 := by decide
  rw [h1] at X
  try rw [h2] at X
  have hxI : (x : Int) < 4294967296 := by omega
  have hxI0 : (0 : Int) ≤ (x : Int) := by omega
  have X : bits .or .u32 ((x : Int) * 128 % 4294967296) ((x : Int) / 33554432) = ((rr x 25 : Nat) : Int) := by rw [← X, IntKind.wrap_u32]
  clear h1 h2
  go_enter Tryz.func161, Tryz.ntmps161
  go_wp2
  go_ret
  exact ⟨by first | rfl | (rw [← X]; rfl), rfl⟩
theorem rot_any (x n : Nat) (w : World) (hx : x < 4294967296) (hn : n = 16 ∨ n = 12 ∨ n = 8 ∨ n = 7) : Calls Tryz.prog 161 #[.int .u32 x, .int .i64 n] w fun e w' => e = .returned (.int .u32 (rl x n : Nat)) ∧ w' = w := by
  rcases hn with rfl | rfl | rfl | rfl
  · exact rot16 x w hx
  · exact rot12 x w hx
  · exact rot8 x w hx
  · exact rot7 x w hx
/-- The world in which a block of words was turned. -/
structure Mx (T : TypeId) (b : Nat) (l : List Nat) (w w' : World) : Prop where
  wb : WB T w' b l
  only : It.Only (fun k => k = b) w w'
set_option maxHeartbeats 4000000 in
theorem mix_any (T : TypeId) (b : Nat) (l : List Nat) (s a o n : Nat) (w : World) (hl : l.length = 16) (h32 : W32 l) (hb : WB T w b l) (hs : s < 16) (ha : a < 16) (ho : o < 16) (hn : n = 16 ∨ n = 12 ∨ n = 8 ∨ n = 7) :
    Calls Tryz.prog 139 #[.pointer (some ⟨b, 0, none⟩), .int .i64 s, .int .i64 a, .int .i64 o, .int .i64 n] w fun e w' => e = .returned (.tuple #[]) ∧ Mx T b (mixW l s a o n) w w' := by
  have cs := hb.cell s (by omega)
  have ca := hb.cell a (by omega)
  have fs := hb.fz s
  have H1 := hb.set s ((l.getD s 0 + l.getD a 0) % 4294967296)
  have hl1 : (l.set s ((l.getD s 0 + l.getD a 0) % 4294967296)).length = 16 := by simp [hl]
  have h321 := h32.set s ((l.getD s 0 + l.getD a 0) % 4294967296) (Nat.mod_lt _ (by decide))
  have hx0 := h32.get s
  have hx1 := h32.get a
  have e1 : IntKind.u32.wrap (((l.getD s 0 : Nat) : Int) + ((l.getD a 0 : Nat) : Int)) = (((l.getD s 0 + l.getD a 0) % 4294967296 : Nat) : Int) := by rw [IntKind.wrap_u32]; omega
  have hMX : mixW l s a o n = (l.set s ((l.getD s 0 + l.getD a 0) % 4294967296)).set o (rl ((l.set s ((l.getD s 0 + l.getD a 0) % 4294967296)).getD o 0 ^^^ (l.set s ((l.getD s 0 + l.getD a 0) % 4294967296)).getD s 0) n) := rfl
  rw [hMX]
  clear hMX
  generalize (l.getD s 0 + l.getD a 0) % 4294967296 = q at *
  generalize l.getD s 0 = x0 at *
  generalize l.getD a 0 = x1 at *
  generalize l.set s q = l1 at *
  have co := H1.cell o (by omega)
  have cs1 := H1.cell s (by omega)
  have fo := H1.fz o
  have hy0 := h321.get o
  have hy1 := h321.get s
  have e2 := xor32 (l1.getD o 0) (l1.getD s 0) hy0 hy1
  have CR := Lib.hid (fun W => rot_any (l1.getD o 0 ^^^ l1.getD s 0) n W (Nat.xor_lt_two_pow (n := 32) hy0 hy1) hn)
  have H2 := Lib.hid (fun (W : World) (hW : WB T W b l1) => hW.set o (rl (l1.getD o 0 ^^^ l1.getD s 0) n))
  generalize rl (l1.getD o 0 ^^^ l1.getD s 0) n = r at CR H2 ⊢
  generalize l1.getD o 0 ^^^ l1.getD s 0 = y at *
  generalize l1.getD o 0 = y0 at *
  generalize l1.getD s 0 = y1 at *
  have HH1 := Lib.hid H1
  have hsI : (s : Int) < 16 := by omega
  have haI : (a : Int) < 16 := by omega
  have hoI : (o : Int) < 16 := by omega
  have HO := Lib.hid (It.Only.refl (fun k => k = b) w)
  have CR : Hid (∀ W : World, Calls Tryz.prog 161 #[.int .u32 (y : Int), .int .i64 n] W fun e w' => e = .returned (.int .u32 (r : Nat)) ∧ w' = W) := CR
  clear hs ha ho hn hl hl1 h32 h321 hb H1 hx0 hx1 hy0 hy1
  go_enter Tryz.func139, Tryz.ntmps139
  go_wp2_with fail
  go_region
  go_wp2_with fail
  go_region_with (go_at_call 161; (with_reducible refine (CR.out _).mono ?_); rintro e1 w1 ⟨rfl, rfl⟩)
  all_goals (
    go_wp2_with fail
    go_end0
    refine ⟨rfl, ?_, ?_⟩
    · exact H2.out _ HH1.out
    · first | exact (It.Only.setCell (O := fun k => k = b) (p := ⟨b, s, none⟩) rfl _ _).trans (It.Only.setCell (O := fun k => k = b) (p := ⟨b, o, none⟩) rfl _ _) | exact ((It.Only.setCell (O := fun k => k = b) (p := ⟨b, s, none⟩) rfl _ _).trans (It.Only.setCell (O := fun k => k = b) (p := ⟨b, o, none⟩) rfl _ _)).trans (It.Only.drew _ _) | exact (((It.Only.setCell (O := fun k => k = b) (p := ⟨b, s, none⟩) rfl _ _).trans (It.Only.setCell (O := fun k => k = b) (p := ⟨b, o, none⟩) rfl _ _)).trans (It.Only.drew _ _)).trans (It.Only.drew _ _))
set_option maxHeartbeats 4000000 in
theorem quarter_any (T : TypeId) (b : Nat) (L0 : List Nat) (p q r t : Nat) (w : World) (hl : L0.length = 16) (h32 : W32 L0) (hb : WB T w b L0) (hp : p < 16) (hq : q < 16) (hr : r < 16) (ht : t < 16) :
    Calls Tryz.prog 106 #[.pointer (some ⟨b, 0, none⟩), .int .i64 p, .int .i64 q, .int .i64 r, .int .i64 t] w fun e w' => e = .returned (.tuple #[]) ∧ Mx T b (quarterW L0 p q r t) w w' := by
  unfold quarterW
  have h0l := hl
  have h0w := h32
  have C1 : Hid (∀ W : World, WB T W b L0 → Calls Tryz.prog 139 #[.pointer (some ⟨b, 0, none⟩), .int .i64 p, .int .i64 q, .int .i64 t, .int .i64 16] W fun e w' => e = .returned (.tuple #[]) ∧ Mx T b (mixW L0 p q t 16) W w') := Lib.hid (fun W hW => mix_any T b L0 p q t 16 W h0l h0w hW (by omega) (by omega) (by omega) (by decide))
  have h1l := (mixW_len L0 p q t 16).trans h0l
  have h1w := h0w.mix p q t 16 (by decide)
  generalize mixW L0 p q t 16 = L1 at *
  have C2 : Hid (∀ W : World, WB T W b L1 → Calls Tryz.prog 139 #[.pointer (some ⟨b, 0, none⟩), .int .i64 r, .int .i64 t, .int .i64 q, .int .i64 12] W fun e w' => e = .returned (.tuple #[]) ∧ Mx T b (mixW L1 r t q 12) W w') := Lib.hid (fun W hW => mix_any T b L1 r t q 12 W h1l h1w hW (by omega) (by omega) (by omega) (by decide))
  have h2l := (mixW_len L1 r t q 12).trans h1l
  have h2w := h1w.mix r t q 12 (by decide)
  generalize mixW L1 r t q 12 = L2 at *
  have C3 : Hid (∀ W : World, WB T W b L2 → Calls Tryz.prog 139 #[.pointer (some ⟨b, 0, none⟩), .int .i64 p, .int .i64 q, .int .i64 t, .int .i64 8] W fun e w' => e = .returned (.tuple #[]) ∧ Mx T b (mixW L2 p q t 8) W w') := Lib.hid (fun W hW => mix_any T b L2 p q t 8 W h2l h2w hW (by omega) (by omega) (by omega) (by decide))
  have h3l := (mixW_len L2 p q t 8).trans h2l
  have h3w := h2w.mix p q t 8 (by decide)
  generalize mixW L2 p q t 8 = L3 at *
  have C4 : Hid (∀ W : World, WB T W b L3 → Calls Tryz.prog 139 #[.pointer (some ⟨b, 0, none⟩), .int .i64 r, .int .i64 t, .int .i64 q, .int .i64 7] W fun e w' => e = .returned (.tuple #[]) ∧ Mx T b (mixW L3 r t q 7) W w') := Lib.hid (fun W hW => mix_any T b L3 r t q 7 W h3l h3w hW (by omega) (by omega) (by omega) (by decide))
  have h4l := (mixW_len L3 r t q 7).trans h3l
  have h4w := h3w.mix r t q 7 (by decide)
  generalize mixW L3 r t q 7 = L4 at *
  have H0 : Hid (Mx T b L0 w w) := Lib.hid ⟨hb, It.Only.refl _ _⟩
  clear hl h32 hb hp hq hr ht h0l h0w h1l h1w h2l h2w h3l h3w h4l h4w
  go_enter Tryz.func106, Tryz.ntmps106
  go_wp2_with fail
  with_reducible refine (C1.out _ H0.out.wb).mono ?_
  rintro e1 w1 ⟨rfl, hx⟩
  have H1 : Hid (Mx T b L1 w w1) := Lib.hid ⟨hx.wb, H0.out.only.trans hx.only⟩
  clear hx
  go_wp2_with fail
  with_reducible refine (C2.out _ H1.out.wb).mono ?_
  rintro e2 w2 ⟨rfl, hx⟩
  have H2 : Hid (Mx T b L2 w w2) := Lib.hid ⟨hx.wb, H1.out.only.trans hx.only⟩
  clear hx
  go_wp2_with fail
  with_reducible refine (C3.out _ H2.out.wb).mono ?_
  rintro e3 w3 ⟨rfl, hx⟩
  have H3 : Hid (Mx T b L3 w w3) := Lib.hid ⟨hx.wb, H2.out.only.trans hx.only⟩
  clear hx
  go_wp2_with fail
  with_reducible refine (C4.out _ H3.out.wb).mono ?_
  rintro e4 w4 ⟨rfl, hx⟩
  have H4 : Hid (Mx T b L4 w w4) := Lib.hid ⟨hx.wb, H3.out.only.trans hx.only⟩
  clear hx
  go_wp2_with fail
  go_end0
  exact ⟨rfl, H4.out⟩
/-- So many quarters of two rounds. -/
def tq (l : List Nat) : Nat → List Nat
  | 0 => l
  | k + 1 => quarterW (tq l k) (k % 4) (4 + (k % 4 + k / 4) % 4) (8 + (k % 4 + 2 * (k / 4)) % 4) (12 + (k % 4 + 3 * (k / 4)) % 4)
theorem tq_len (l : List Nat) (k : Nat) : (tq l k).length = l.length := by
  induction k with
  | zero => rfl
  | succ k ih => rw [tq, quarterW_len, ih]
theorem tq_32 (l : List Nat) (h : W32 l) (k : Nat) : W32 (tq l k) := by
  induction k with
  | zero => exact h
  | succ k ih => exact ih.quarter _ _ _ _
theorem tq_all (l : List Nat) : tq l 8 = twiceW l := rfl
set_option maxHeartbeats 8000000 in
theorem twice_any (T : TypeId) (b : Nat) (l : List Nat) (w : World) (hl : l.length = 16) (h32 : W32 l) (hb : WB T w b l) :
    Calls Tryz.prog 72 #[.pointer (some ⟨b, 0, none⟩)] w fun e w' => e = .returned (.tuple #[]) ∧ Mx T b (twiceW l) w w' := by
  rw [← tq_all]
  have H0 : Hid (Mx T b l w w) := Lib.hid ⟨hb, It.Only.refl _ _⟩
  have C0 : Hid (∀ W : World, WB T W b (tq l 0) → Calls Tryz.prog 106 #[.pointer (some ⟨b, 0, none⟩), .int .i64 0, .int .i64 4, .int .i64 8, .int .i64 12] W fun e w' => e = .returned (.tuple #[]) ∧ Mx T b (tq l 1) W w') := Lib.hid (fun W hW => quarter_any T b (tq l 0) 0 4 8 12 W ((tq_len l 0).trans hl) (tq_32 l h32 0) hW (by decide) (by decide) (by decide) (by decide))
  have C1 : Hid (∀ W : World, WB T W b (tq l 1) → Calls Tryz.prog 106 #[.pointer (some ⟨b, 0, none⟩), .int .i64 1, .int .i64 5, .int .i64 9, .int .i64 13] W fun e w' => e = .returned (.tuple #[]) ∧ Mx T b (tq l 2) W w') := Lib.hid (fun W hW => quarter_any T b (tq l 1) 1 5 9 13 W ((tq_len l 1).trans hl) (tq_32 l h32 1) hW (by decide) (by decide) (by decide) (by decide))
  have C2 : Hid (∀ W : World, WB T W b (tq l 2) → Calls Tryz.prog 106 #[.pointer (some ⟨b, 0, none⟩), .int .i64 2, .int .i64 6, .int .i64 10, .int .i64 14] W fun e w' => e = .returned (.tuple #[]) ∧ Mx T b (tq l 3) W w') := Lib.hid (fun W hW => quarter_any T b (tq l 2) 2 6 10 14 W ((tq_len l 2).trans hl) (tq_32 l h32 2) hW (by decide) (by decide) (by decide) (by decide))
  have C3 : Hid (∀ W : World, WB T W b (tq l 3) → Calls Tryz.prog 106 #[.pointer (some ⟨b, 0, none⟩), .int .i64 3, .int .i64 7, .int .i64 11, .int .i64 15] W fun e w' => e = .returned (.tuple #[]) ∧ Mx T b (tq l 4) W w') := Lib.hid (fun W hW => quarter_any T b (tq l 3) 3 7 11 15 W ((tq_len l 3).trans hl) (tq_32 l h32 3) hW (by decide) (by decide) (by decide) (by decide))
  have C4 : Hid (∀ W : World, WB T W b (tq l 4) → Calls Tryz.prog 106 #[.pointer (some ⟨b, 0, none⟩), .int .i64 0, .int .i64 5, .int .i64 10, .int .i64 15] W fun e w' => e = .returned (.tuple #[]) ∧ Mx T b (tq l 5) W w') := Lib.hid (fun W hW => quarter_any T b (tq l 4) 0 5 10 15 W ((tq_len l 4).trans hl) (tq_32 l h32 4) hW (by decide) (by decide) (by decide) (by decide))
  have C5 : Hid (∀ W : World, WB T W b (tq l 5) → Calls Tryz.prog 106 #[.pointer (some ⟨b, 0, none⟩), .int .i64 1, .int .i64 6, .int .i64 11, .int .i64 12] W fun e w' => e = .returned (.tuple #[]) ∧ Mx T b (tq l 6) W w') := Lib.hid (fun W hW => quarter_any T b (tq l 5) 1 6 11 12 W ((tq_len l 5).trans hl) (tq_32 l h32 5) hW (by decide) (by decide) (by decide) (by decide))
  have C6 : Hid (∀ W : World, WB T W b (tq l 6) → Calls Tryz.prog 106 #[.pointer (some ⟨b, 0, none⟩), .int .i64 2, .int .i64 7, .int .i64 8, .int .i64 13] W fun e w' => e = .returned (.tuple #[]) ∧ Mx T b (tq l 7) W w') := Lib.hid (fun W hW => quarter_any T b (tq l 6) 2 7 8 13 W ((tq_len l 6).trans hl) (tq_32 l h32 6) hW (by decide) (by decide) (by decide) (by decide))
  have C7 : Hid (∀ W : World, WB T W b (tq l 7) → Calls Tryz.prog 106 #[.pointer (some ⟨b, 0, none⟩), .int .i64 3, .int .i64 4, .int .i64 9, .int .i64 14] W fun e w' => e = .returned (.tuple #[]) ∧ Mx T b (tq l 8) W w') := Lib.hid (fun W hW => quarter_any T b (tq l 7) 3 4 9 14 W ((tq_len l 7).trans hl) (tq_32 l h32 7) hW (by decide) (by decide) (by decide) (by decide))
  clear hl h32 hb
  go_enter Tryz.func72, Tryz.ntmps72
  go_wp2_with fail
  go_loopw [4] (fun iv wr => (iv = .int .i64 0 ∧ Mx T b (tq l 0) w wr) ∨ (iv = .int .i64 1 ∧ Mx T b (tq l 4) w wr) ∨ (iv = .int .i64 2 ∧ Mx T b (tq l 8) w wr)) (fun iv _ => 2 - (intOf iv).toNat)
  case atStart => exact .inl ⟨rfl, H0.out⟩
  case round =>
    clear H0
    rcases hrel with ⟨rfl, hx⟩ | ⟨rfl, hx⟩ | ⟨rfl, hx⟩ <;> (have HX := Lib.hid hx; clear hx)
    · go_wp2_with fail
      go_loopw [7] (fun iv wx => (iv = .int .i64 0 ∧ Mx T b (tq l 0) w wx) ∨ (iv = .int .i64 1 ∧ Mx T b (tq l 1) w wx) ∨ (iv = .int .i64 2 ∧ Mx T b (tq l 2) w wx) ∨ (iv = .int .i64 3 ∧ Mx T b (tq l 3) w wx) ∨ (iv = .int .i64 4 ∧ Mx T b (tq l 4) w wx)) (fun iv _ => 4 - (intOf iv).toNat)
      case atStart => exact .inl ⟨rfl, HX.out⟩
      case round =>
        clear HX
        rcases hrel with ⟨rfl, hx⟩ | ⟨rfl, hx⟩ | ⟨rfl, hx⟩ | ⟨rfl, hx⟩ | ⟨rfl, hx⟩ <;> (have HY := Lib.hid hx; clear hx)
        · go_wp2_with fail
          with_reducible refine (C0.out _ HY.out.wb).mono ?_
          rintro e1 w1 ⟨rfl, hx⟩
          have H1 : Hid (Mx T b (tq l 1) w w1) := Lib.hid ⟨hx.wb, HY.out.only.trans hx.only⟩
          clear hx
          go_wp2_with fail
          go_roundw
          case rel => exact .inr (.inl ⟨rfl, H1.out⟩)
          case measure => simp [intOf]
        · go_wp2_with fail
          with_reducible refine (C1.out _ HY.out.wb).mono ?_
          rintro e1 w1 ⟨rfl, hx⟩
          have H1 : Hid (Mx T b (tq l 2) w w1) := Lib.hid ⟨hx.wb, HY.out.only.trans hx.only⟩
          clear hx
          go_wp2_with fail
          go_roundw
          case rel => exact .inr (.inr (.inl ⟨rfl, H1.out⟩))
          case measure => simp [intOf]
        · go_wp2_with fail
          with_reducible refine (C2.out _ HY.out.wb).mono ?_
          rintro e1 w1 ⟨rfl, hx⟩
          have H1 : Hid (Mx T b (tq l 3) w w1) := Lib.hid ⟨hx.wb, HY.out.only.trans hx.only⟩
          clear hx
          go_wp2_with fail
          go_roundw
          case rel => exact .inr (.inr (.inr (.inl ⟨rfl, H1.out⟩)))
          case measure => simp [intOf]
        · go_wp2_with fail
          with_reducible refine (C3.out _ HY.out.wb).mono ?_
          rintro e1 w1 ⟨rfl, hx⟩
          have H1 : Hid (Mx T b (tq l 4) w w1) := Lib.hid ⟨hx.wb, HY.out.only.trans hx.only⟩
          clear hx
          go_wp2_with fail
          go_roundw
          case rel => exact .inr (.inr (.inr (.inr (⟨rfl, H1.out⟩))))
          case measure => simp [intOf]
        · go_wp2_with fail
          go_roundw
          case rel => exact .inr (.inl ⟨rfl, HY.out⟩)
          case measure => simp [intOf]
    · go_wp2_with fail
      go_loopw [7] (fun iv wx => (iv = .int .i64 0 ∧ Mx T b (tq l 4) w wx) ∨ (iv = .int .i64 1 ∧ Mx T b (tq l 5) w wx) ∨ (iv = .int .i64 2 ∧ Mx T b (tq l 6) w wx) ∨ (iv = .int .i64 3 ∧ Mx T b (tq l 7) w wx) ∨ (iv = .int .i64 4 ∧ Mx T b (tq l 8) w wx)) (fun iv _ => 4 - (intOf iv).toNat)
      case atStart => exact .inl ⟨rfl, HX.out⟩
      case round =>
        clear HX
        rcases hrel with ⟨rfl, hx⟩ | ⟨rfl, hx⟩ | ⟨rfl, hx⟩ | ⟨rfl, hx⟩ | ⟨rfl, hx⟩ <;> (have HY := Lib.hid hx; clear hx)
        · go_wp2_with fail
          with_reducible refine (C4.out _ HY.out.wb).mono ?_
          rintro e1 w1 ⟨rfl, hx⟩
          have H1 : Hid (Mx T b (tq l 5) w w1) := Lib.hid ⟨hx.wb, HY.out.only.trans hx.only⟩
          clear hx
          go_wp2_with fail
          go_roundw
          case rel => exact .inr (.inl ⟨rfl, H1.out⟩)
          case measure => simp [intOf]
        · go_wp2_with fail
          with_reducible refine (C5.out _ HY.out.wb).mono ?_
          rintro e1 w1 ⟨rfl, hx⟩
          have H1 : Hid (Mx T b (tq l 6) w w1) := Lib.hid ⟨hx.wb, HY.out.only.trans hx.only⟩
          clear hx
          go_wp2_with fail
          go_roundw
          case rel => exact .inr (.inr (.inl ⟨rfl, H1.out⟩))
          case measure => simp [intOf]
        · go_wp2_with fail
          with_reducible refine (C6.out _ HY.out.wb).mono ?_
          rintro e1 w1 ⟨rfl, hx⟩
          have H1 : Hid (Mx T b (tq l 7) w w1) := Lib.hid ⟨hx.wb, HY.out.only.trans hx.only⟩
          clear hx
          go_wp2_with fail
          go_roundw
          case rel => exact .inr (.inr (.inr (.inl ⟨rfl, H1.out⟩)))
          case measure => simp [intOf]
        · go_wp2_with fail
          with_reducible refine (C7.out _ HY.out.wb).mono ?_
          rintro e1 w1 ⟨rfl, hx⟩
          have H1 : Hid (Mx T b (tq l 8) w w1) := Lib.hid ⟨hx.wb, HY.out.only.trans hx.only⟩
          clear hx
          go_wp2_with fail
          go_roundw
          case rel => exact .inr (.inr (.inr (.inr (⟨rfl, H1.out⟩))))
          case measure => simp [intOf]
        · go_wp2_with fail
          go_roundw
          case rel => exact .inr (.inr ⟨rfl, HY.out⟩)
          case measure => simp [intOf]
    · go_wp2_with fail
      go_end0
      exact ⟨rfl, HX.out⟩
end Go.Proofs.YtojoalmldapboaaGreatDoor.Se
