/- The walks of layer 9: a packet without its mask; what it is tried by · The walks of layer 9: tried by one door -/
import Derived.Test.YtagbkmoahflfdaaGreatDoorJa30
namespace Go.Proofs.YtagbkmoahflfdaaGreatDoor.Se
set_option maxRecDepth 20000
open Go.RowKit Vm Dg Kd
set_option linter.unusedVariables false
set_option linter.unusedSimpArgs false

theorem put13 {W : World} {r : Nat} {T : TypeId} {a0 a1 a2 a3 a4 a5 a6 a7 a8 a9 a10 a11 a12 : Value} (h : W.heap[r]? = some (.cells #[a0, a1, a2, a3, a4, a5, a6, a7, a8, a9, a10, a11, a12] T (0, 0))) (b0 b1 b2 b3 b4 b5 b6 b7 b8 b9 b10 b11 b12 : Value) :
    (((((((((((((W.setCell ⟨r, 0, none⟩ (b0)).setCell ⟨r, 1, none⟩ (b1)).setCell ⟨r, 2, none⟩ (b2)).setCell ⟨r, 3, none⟩ (b3)).setCell ⟨r, 4, none⟩ (b4)).setCell ⟨r, 5, none⟩ (b5)).setCell ⟨r, 6, none⟩ (b6)).setCell ⟨r, 7, none⟩ (b7)).setCell ⟨r, 8, none⟩ (b8)).setCell ⟨r, 9, none⟩ (b9)).setCell ⟨r, 10, none⟩ (b10)).setCell ⟨r, 11, none⟩ (b11)).setCell ⟨r, 12, none⟩ (b12)).heap[r]? = some (.cells #[b0, b1, b2, b3, b4, b5, b6, b7, b8, b9, b10, b11, b12] T (0, 0)) := by
  have h0 := Joins.block_setCell (i := 0) h b0
  have h1 := Joins.block_setCell (i := 1) h0 b1
  have h2 := Joins.block_setCell (i := 2) h1 b2
  have h3 := Joins.block_setCell (i := 3) h2 b3
  have h4 := Joins.block_setCell (i := 4) h3 b4
  have h5 := Joins.block_setCell (i := 5) h4 b5
  have h6 := Joins.block_setCell (i := 6) h5 b6
  have h7 := Joins.block_setCell (i := 7) h6 b7
  have h8 := Joins.block_setCell (i := 8) h7 b8
  have h9 := Joins.block_setCell (i := 9) h8 b9
  have h10 := Joins.block_setCell (i := 10) h9 b10
  have h11 := Joins.block_setCell (i := 11) h10 b11
  have h12 := Joins.block_setCell (i := 12) h11 b12
  rw [h12]
  simp
theorem below13 {B r : Nat} {w W : World} (h : Below B w W) (hr : B ≤ r) (b0 b1 b2 b3 b4 b5 b6 b7 b8 b9 b10 b11 b12 : Value) : Below B w (((((((((((((W.setCell ⟨r, 0, none⟩ (b0)).setCell ⟨r, 1, none⟩ (b1)).setCell ⟨r, 2, none⟩ (b2)).setCell ⟨r, 3, none⟩ (b3)).setCell ⟨r, 4, none⟩ (b4)).setCell ⟨r, 5, none⟩ (b5)).setCell ⟨r, 6, none⟩ (b6)).setCell ⟨r, 7, none⟩ (b7)).setCell ⟨r, 8, none⟩ (b8)).setCell ⟨r, 9, none⟩ (b9)).setCell ⟨r, 10, none⟩ (b10)).setCell ⟨r, 11, none⟩ (b11)).setCell ⟨r, 12, none⟩ (b12)) :=
  ((((((((((((h.setCell (p := ⟨r, 0, none⟩) hr b0).setCell (p := ⟨r, 1, none⟩) hr b1).setCell (p := ⟨r, 2, none⟩) hr b2).setCell (p := ⟨r, 3, none⟩) hr b3).setCell (p := ⟨r, 4, none⟩) hr b4).setCell (p := ⟨r, 5, none⟩) hr b5).setCell (p := ⟨r, 6, none⟩) hr b6).setCell (p := ⟨r, 7, none⟩) hr b7).setCell (p := ⟨r, 8, none⟩) hr b8).setCell (p := ⟨r, 9, none⟩) hr b9).setCell (p := ⟨r, 10, none⟩) hr b10).setCell (p := ⟨r, 11, none⟩) hr b11).setCell (p := ⟨r, 12, none⟩) hr b12
theorem cells13 {W : World} {r : Nat} {T : TypeId} {a0 a1 a2 a3 a4 a5 a6 a7 a8 a9 a10 a11 a12 : Value} (h : W.heap[r]? = some (.cells #[a0, a1, a2, a3, a4, a5, a6, a7, a8, a9, a10, a11, a12] T (0, 0))) : W.cell? ⟨r, 0, none⟩ = some a0 ∧ W.cell? ⟨r, 1, none⟩ = some a1 ∧ W.cell? ⟨r, 2, none⟩ = some a2 ∧ W.cell? ⟨r, 3, none⟩ = some a3 ∧ W.cell? ⟨r, 4, none⟩ = some a4 ∧ W.cell? ⟨r, 5, none⟩ = some a5 ∧ W.cell? ⟨r, 6, none⟩ = some a6 ∧ W.cell? ⟨r, 7, none⟩ = some a7 ∧ W.cell? ⟨r, 8, none⟩ = some a8 ∧ W.cell? ⟨r, 9, none⟩ = some a9 ∧ W.cell? ⟨r, 10, none⟩ = some a10 ∧ W.cell? ⟨r, 11, none⟩ = some a11 ∧ W.cell? ⟨r, 12, none⟩ = some a12 :=
  ⟨Lib.cell_of_heap h 0, Lib.cell_of_heap h 1, Lib.cell_of_heap h 2, Lib.cell_of_heap h 3, Lib.cell_of_heap h 4, Lib.cell_of_heap h 5, Lib.cell_of_heap h 6, Lib.cell_of_heap h 7, Lib.cell_of_heap h 8, Lib.cell_of_heap h 9, Lib.cell_of_heap h 10, Lib.cell_of_heap h 11, Lib.cell_of_heap h 12⟩
theorem fz13 {W : World} {r : Nat} {T : TypeId} {cs : Array Value} (h : W.heap[r]? = some (.cells cs T (0, 0))) : W.frozen? ⟨r, 0, none⟩ = false ∧ W.frozen? ⟨r, 1, none⟩ = false ∧ W.frozen? ⟨r, 2, none⟩ = false ∧ W.frozen? ⟨r, 3, none⟩ = false ∧ W.frozen? ⟨r, 4, none⟩ = false ∧ W.frozen? ⟨r, 5, none⟩ = false ∧ W.frozen? ⟨r, 6, none⟩ = false ∧ W.frozen? ⟨r, 7, none⟩ = false ∧ W.frozen? ⟨r, 8, none⟩ = false ∧ W.frozen? ⟨r, 9, none⟩ = false ∧ W.frozen? ⟨r, 10, none⟩ = false ∧ W.frozen? ⟨r, 11, none⟩ = false ∧ W.frozen? ⟨r, 12, none⟩ = false :=
  ⟨Lib.frozen_of_heap h 0, Lib.frozen_of_heap h 1, Lib.frozen_of_heap h 2, Lib.frozen_of_heap h 3, Lib.frozen_of_heap h 4, Lib.frozen_of_heap h 5, Lib.frozen_of_heap h 6, Lib.frozen_of_heap h 7, Lib.frozen_of_heap h 8, Lib.frozen_of_heap h 9, Lib.frozen_of_heap h 10, Lib.frozen_of_heap h 11, Lib.frozen_of_heap h 12⟩
/-- A header's block. -/
def DX (W : World) (b : Nat) (lg sp ph : Bool) (ty ve : Int) (dc sc tk : ByteArray) (le wi nu : Int) : Prop := W.heap[b]? = some (.cells #[.bool lg, .bool sp, .bool ph, .int .i64 ty, .int .u32 ve, .string dc, .string sc, .string tk, .int .u64 le, .int .i64 wi, .int .u64 nu] 101 (0, 0))
theorem DX.cells {W : World} {b : Nat} {lg sp ph : Bool} {ty ve : Int} {dc sc tk : ByteArray} {le wi nu : Int} (h : DX W b lg sp ph ty ve dc sc tk le wi nu) : W.cell? ⟨b, 0, none⟩ = some (.bool lg) ∧ W.cell? ⟨b, 1, none⟩ = some (.bool sp) ∧ W.cell? ⟨b, 2, none⟩ = some (.bool ph) ∧ W.cell? ⟨b, 3, none⟩ = some (.int .i64 ty) ∧ W.cell? ⟨b, 4, none⟩ = some (.int .u32 ve) ∧ W.cell? ⟨b, 5, none⟩ = some (.string dc) ∧ W.cell? ⟨b, 6, none⟩ = some (.string sc) ∧ W.cell? ⟨b, 7, none⟩ = some (.string tk) ∧ W.cell? ⟨b, 8, none⟩ = some (.int .u64 le) ∧ W.cell? ⟨b, 9, none⟩ = some (.int .i64 wi) ∧ W.cell? ⟨b, 10, none⟩ = some (.int .u64 nu) :=
  ⟨Lib.cell_of_heap h 0, Lib.cell_of_heap h 1, Lib.cell_of_heap h 2, Lib.cell_of_heap h 3, Lib.cell_of_heap h 4, Lib.cell_of_heap h 5, Lib.cell_of_heap h 6, Lib.cell_of_heap h 7, Lib.cell_of_heap h 8, Lib.cell_of_heap h 9, Lib.cell_of_heap h 10⟩
/-- A packet's block, as it is laid. -/
def PX0 (W : World) (b : Nat) : Prop := W.heap[b]? = some (.cells #[.bool false, .bool false, .bool false, .int .i64 0, .int .u32 0, .string ⟨#[]⟩, .string ⟨#[]⟩, .string ⟨#[]⟩, .int .u64 0, .int .i64 0, .int .u64 0, .string ⟨#[]⟩, .string ⟨#[]⟩] 107 (0, 0))
theorem heap_drew {W : World} {b : Nat} {o : Option Obj} (h : W.heap[b]? = o) : W.drew.heap[b]? = o := h
theorem res_bare (tmps : Array Value) (g : Nat) (a0 a1 a2 a3 a4 a5 a6 a7 a8 a9 a10 a11 a12 : Value) (er : Int) (w : World) (hp : tmps.getD 4 undef = .pointer (some ⟨g, 0, none⟩)) (hu : tmps.getD 5 undef = .int .i64 er) (hc : w.heap[g]? = some (.cells #[a0, a1, a2, a3, a4, a5, a6, a7, a8, a9, a10, a11, a12] 107 (0, 0))) :
    (results Tryz.f61 tmps).run Tryz.prog w = .ok (.tuple #[.agg #[a0, a1, a2, a3, a4, a5, a6, a7, a8, a9, a10, a11, a12], .int .i64 er]) w := by
  obtain ⟨c0, c1, c2, c3, c4, c5, c6, c7, c8, c9, c10, c11, c12⟩ := cells13 hc
  rw [results_cell_tmp Tryz.results61]
  simp only [hp, hu]
  go_simp
set_option maxHeartbeats 8000000 in
theorem bare_walk (x0 x1 x2 x3 x4 x5 x6 x7 x8 x9 T SM MK BR SL HEAD : ByteArray) (xo xp : Bool) (lg sp ph : Bool) (ty ve : Int) (dc sc tk : ByteArray) (le wi nu : Int) (p n : Nat) (w : World) (ht : Tab w)
    (hT0 : 0 < T.size) (hbit : bits .and .u8 ((T[0].toNat : Nat) : Int) 128 = 0) (hSL : SL.size + n = BR.size) (hBR : BR.size ≤ 1000000) (hHD : BR.extract 0 n = HEAD)
    (CPL : Hid (∀ W : World, Tab W → Calls Tryz.prog 98 #[.string T] W fun e w' => e = .returned (.tuple #[.int .i64 p, .int .i64 0]) ∧ Below W.heap.size W w'))
    (CS : Hid (∀ W : World, Calls Tryz.prog 90 #[.string T, .int .i64 p] W fun e w' => e = .returned (.tuple #[.string SM, .bool true]) ∧ w' = W))
    (CM : Hid (∀ W : World, Calls Tryz.prog 48 #[.agg #[.string x4, .string x5, .string x6], .string SM] W fun e w' => e = .returned (.string MK) ∧ Below W.heap.size W w'))
    (CU : Hid (∀ W : World, Tab W → Calls Tryz.prog 99 #[.string T, .string MK] W fun e w' => e = .returned (.tuple #[.string BR, .int .i64 0]) ∧ Below W.heap.size W w'))
    (CG : Hid (∀ W : World, Tab W → Calls Tryz.prog 100 #[.string BR] W fun e w' => e = .returned (.tuple #[.agg #[.bool lg, .bool sp, .bool ph, .int .i64 ty, .int .u32 ve, .string dc, .string sc, .string tk, .int .u64 le, .int .i64 wi, .int .u64 nu], .string SL, .int .i64 0]) ∧ Below W.heap.size W w')) :
    Calls Tryz.prog 61 #[.agg #[.string x0, .string x1, .string x2, .string x3, .string x4, .string x5, .string x6, .string x7, .string x8, .string x9, .bool xo, .bool xp, .string x4, .string x5, .string x6], .string T] w fun e w' => e = .returned (.tuple #[.agg #[.bool lg, .bool sp, .bool ph, .int .i64 ty, .int .u32 ve, .string dc, .string sc, .string tk, .int .u64 le, .int .i64 wi, .int .u64 nu, .string HEAD, .string SL], .int .i64 0]) ∧ Below w.heap.size w w' := by
  have H0 : Hid ((HX ((w.alloc (.cells #[.string x0, .string x1, .string x2, .string x3, .string x4, .string x5, .string x6, .string x7, .string x8, .string x9, .bool xo, .bool xp, .string x4, .string x5, .string x6] 95)).alloc (.cells #[.bool false, .bool false, .bool false, .int .i64 0, .int .u32 0, .string ⟨#[]⟩, .string ⟨#[]⟩, .string ⟨#[]⟩, .int .u64 0, .int .i64 0, .int .u64 0, .string ⟨#[]⟩, .string ⟨#[]⟩] 107)) w.heap.size x0 x1 x2 x3 x4 x5 x6 x7 x8 x9 xo xp ∧ PX0 ((w.alloc (.cells #[.string x0, .string x1, .string x2, .string x3, .string x4, .string x5, .string x6, .string x7, .string x8, .string x9, .bool xo, .bool xp, .string x4, .string x5, .string x6] 95)).alloc (.cells #[.bool false, .bool false, .bool false, .int .i64 0, .int .u32 0, .string ⟨#[]⟩, .string ⟨#[]⟩, .string ⟨#[]⟩, .int .u64 0, .int .i64 0, .int .u64 0, .string ⟨#[]⟩, .string ⟨#[]⟩] 107)) (w.heap.size + 1)) ∧ Tab ((w.alloc (.cells #[.string x0, .string x1, .string x2, .string x3, .string x4, .string x5, .string x6, .string x7, .string x8, .string x9, .bool xo, .bool xp, .string x4, .string x5, .string x6] 95)).alloc (.cells #[.bool false, .bool false, .bool false, .int .i64 0, .int .u32 0, .string ⟨#[]⟩, .string ⟨#[]⟩, .string ⟨#[]⟩, .int .u64 0, .int .i64 0, .int .u64 0, .string ⟨#[]⟩, .string ⟨#[]⟩] 107)) ∧ Below w.heap.size w ((w.alloc (.cells #[.string x0, .string x1, .string x2, .string x3, .string x4, .string x5, .string x6, .string x7, .string x8, .string x9, .bool xo, .bool xp, .string x4, .string x5, .string x6] 95)).alloc (.cells #[.bool false, .bool false, .bool false, .int .i64 0, .int .u32 0, .string ⟨#[]⟩, .string ⟨#[]⟩, .string ⟨#[]⟩, .int .u64 0, .int .i64 0, .int .u64 0, .string ⟨#[]⟩, .string ⟨#[]⟩] 107))) := Lib.hid (by
    have hB := ((Below.refl w.heap.size w).alloc (Nat.le_refl _) (.cells #[.string x0, .string x1, .string x2, .string x3, .string x4, .string x5, .string x6, .string x7, .string x8, .string x9, .bool xo, .bool xp, .string x4, .string x5, .string x6] 95)).alloc (by simp) (.cells #[.bool false, .bool false, .bool false, .int .i64 0, .int .u32 0, .string ⟨#[]⟩, .string ⟨#[]⟩, .string ⟨#[]⟩, .int .u64 0, .int .i64 0, .int .u64 0, .string ⟨#[]⟩, .string ⟨#[]⟩] 107)
    have h := heap_alloc_new (w.alloc (.cells #[.string x0, .string x1, .string x2, .string x3, .string x4, .string x5, .string x6, .string x7, .string x8, .string x9, .bool xo, .bool xp, .string x4, .string x5, .string x6] 95)) (.cells #[.bool false, .bool false, .bool false, .int .i64 0, .int .u32 0, .string ⟨#[]⟩, .string ⟨#[]⟩, .string ⟨#[]⟩, .int .u64 0, .int .i64 0, .int .u64 0, .string ⟨#[]⟩, .string ⟨#[]⟩] 107)
    rw [World.size_alloc] at h
    exact ⟨⟨(Below.heap_alloc _ _ w.heap.size (by simp)).trans (heap_alloc_new w _), h⟩, ht.below hB ht.lt, hB⟩)
  have hT0I : (0 : Int) < (T.size : Int) := by omega
  have hn1 : (BR.size : Int) - (SL.size : Int) = (n : Int) := by omega
  have hn2 : IntKind.i64.wrap ((BR.size : Int) - (SL.size : Int)) = (n : Int) := by rw [IntWalk.i64_in _ (by omega)]; exact hn1
  have hn5 : IntKind.i64.wrap (n : Int) = (n : Int) := IntWalk.i64_in _ (by omega)
  have hn3 : (n : Int) ≤ (BR.size : Int) := by omega
  have hn4 : (0 : Int) ≤ (n : Int) := by omega
  have hSLI : (SL.size : Int) ≤ 1000000 := by omega
  have hBRI : (BR.size : Int) ≤ 1000000 := by omega
  clear ht
  go_enter Tryz.func61, Tryz.ntmps61
  go_wp2_with fail
  with_reducible refine (CPL.out _ H0.out.2.1).mono ?_
  rintro e1 w1 ⟨rfl, hb⟩
  have H1 : Hid ((HX w1 w.heap.size x0 x1 x2 x3 x4 x5 x6 x7 x8 x9 xo xp ∧ PX0 w1 (w.heap.size + 1)) ∧ Tab w1 ∧ Below w.heap.size w w1) := Lib.hid ⟨⟨H0.out.1.1.keep hb H0.out.1.1.lt, (hb.block (w.heap.size + 1) (Array.getElem?_eq_some_iff.1 H0.out.1.2).1).trans H0.out.1.2⟩, H0.out.2.1.below hb H0.out.2.1.lt, H0.out.2.2.trans (hb.mono H0.out.2.2.size)⟩
  clear hb
  go_wp2_with fail
  with_reducible refine (CS.out _).mono ?_
  rintro e2 w2 ⟨rfl, rfl⟩
  obtain ⟨u0, u1, u2, u3, u4, u5, u6, u7, u8, u9, u10, u11, u12, u13, u14⟩ := H1.out.1.1.cells
  go_wp2_with fail
  with_reducible refine (CM.out _).mono ?_
  rintro e3 w3 ⟨rfl, hb⟩
  have H3 : Hid ((HX w3 w.heap.size x0 x1 x2 x3 x4 x5 x6 x7 x8 x9 xo xp ∧ PX0 w3 (w.heap.size + 1)) ∧ Tab w3 ∧ Below w.heap.size w w3) := Lib.hid ⟨⟨H1.out.1.1.keep hb H1.out.1.1.lt, (hb.block (w.heap.size + 1) (Array.getElem?_eq_some_iff.1 H1.out.1.2).1).trans H1.out.1.2⟩, H1.out.2.1.below hb H1.out.2.1.lt, H1.out.2.2.trans (hb.mono H1.out.2.2.size)⟩
  clear hb
  go_wp2_with fail
  with_reducible refine (CU.out _ H3.out.2.1).mono ?_
  rintro e4 w4 ⟨rfl, hb⟩
  have H4 : Hid ((HX w4 w.heap.size x0 x1 x2 x3 x4 x5 x6 x7 x8 x9 xo xp ∧ PX0 w4 (w.heap.size + 1)) ∧ Tab w4 ∧ Below w.heap.size w w4) := Lib.hid ⟨⟨H3.out.1.1.keep hb H3.out.1.1.lt, (hb.block (w.heap.size + 1) (Array.getElem?_eq_some_iff.1 H3.out.1.2).1).trans H3.out.1.2⟩, H3.out.2.1.below hb H3.out.2.1.lt, H3.out.2.2.trans (hb.mono H3.out.2.2.size)⟩
  clear hb
  go_wp2_with fail
  with_reducible refine (CG.out _ H4.out.2.1).mono ?_
  rintro e5 w5 ⟨rfl, hb⟩
  have H5 : Hid ((HX w5 w.heap.size x0 x1 x2 x3 x4 x5 x6 x7 x8 x9 xo xp ∧ PX0 w5 (w.heap.size + 1)) ∧ Tab w5 ∧ Below w.heap.size w w5) := Lib.hid ⟨⟨H4.out.1.1.keep hb H4.out.1.1.lt, (hb.block (w.heap.size + 1) (Array.getElem?_eq_some_iff.1 H4.out.1.2).1).trans H4.out.1.2⟩, H4.out.2.1.below hb H4.out.2.1.lt, H4.out.2.2.trans (hb.mono H4.out.2.2.size)⟩
  clear hb
  have HZ := (Array.getElem?_eq_some_iff.1 H5.out.1.2).1
  have HD6 : Hid (DX (w5.alloc (.cells #[.bool lg, .bool sp, .bool ph, .int .i64 ty, .int .u32 ve, .string dc, .string sc, .string tk, .int .u64 le, .int .i64 wi, .int .u64 nu] 101)) w5.heap.size lg sp ph ty ve dc sc tk le wi nu ∧ PX0 (w5.alloc (.cells #[.bool lg, .bool sp, .bool ph, .int .i64 ty, .int .u32 ve, .string dc, .string sc, .string tk, .int .u64 le, .int .i64 wi, .int .u64 nu] 101)) (w.heap.size + 1) ∧ Tab (w5.alloc (.cells #[.bool lg, .bool sp, .bool ph, .int .i64 ty, .int .u32 ve, .string dc, .string sc, .string tk, .int .u64 le, .int .i64 wi, .int .u64 nu] 101)) ∧ Below w.heap.size w (w5.alloc (.cells #[.bool lg, .bool sp, .bool ph, .int .i64 ty, .int .u32 ve, .string dc, .string sc, .string tk, .int .u64 le, .int .i64 wi, .int .u64 nu] 101))) := Lib.hid (by
    have hB := ((Below.refl w5.heap.size w5).alloc (Nat.le_refl _) (.cells #[.bool lg, .bool sp, .bool ph, .int .i64 ty, .int .u32 ve, .string dc, .string sc, .string tk, .int .u64 le, .int .i64 wi, .int .u64 nu] 101))
    exact ⟨heap_alloc_new w5 _, (hB.block _ HZ).trans H5.out.1.2, H5.out.2.1.below hB H5.out.2.1.lt, H5.out.2.2.trans (hB.mono H5.out.2.2.size)⟩)
  go_wp2_with fail
  generalize w5.alloc (.cells #[.bool lg, .bool sp, .bool ph, .int .i64 ty, .int .u32 ve, .string dc, .string sc, .string tk, .int .u64 le, .int .i64 wi, .int .u64 nu] 101) = W6 at *
  generalize w5.heap.size = b3 at *
  have HDD : Hid (DX W6.drew b3 lg sp ph ty ve dc sc tk le wi nu ∧ PX0 W6.drew (w.heap.size + 1) ∧ Tab W6.drew ∧ Below w.heap.size w W6.drew) := Lib.hid ⟨HD6.out.1, HD6.out.2.1, HD6.out.2.2.1.below (Below.refl _ _).drew HD6.out.2.2.1.lt, HD6.out.2.2.2.drew⟩
  obtain ⟨r0, r1, r2, r3, r4, r5, r6, r7, r8, r9, r10, r11, r12⟩ := cells13 HD6.out.2.1
  obtain ⟨f0, f1, f2, f3, f4, f5, f6, f7, f8, f9, f10, f11, f12⟩ := fz13 HD6.out.2.1
  obtain ⟨q0, q1, q2, q3, q4, q5, q6, q7, q8, q9, q10⟩ := HD6.out.1.cells
  go_region
  go_wp2_with fail
  have HQ := Lib.hid (put13 HD6.out.2.1 (.bool lg) (.bool sp) (.bool ph) (.int .i64 ty) (.int .u32 ve) (.string dc) (.string sc) (.string tk) (.int .u64 le) (.int .i64 wi) (.int .u64 nu) (.string HEAD) (.string SL))
  refine bodyPost_ret (v := .tuple #[.agg #[.bool lg, .bool sp, .bool ph, .int .i64 ty, .int .u32 ve, .string dc, .string sc, .string tk, .int .u64 le, .int .i64 wi, .int .u64 nu, .string HEAD, .string SL], .int .i64 0]) (res_bare _ (w.heap.size + 1) (.bool lg) (.bool sp) (.bool ph) (.int .i64 ty) (.int .u32 ve) (.string dc) (.string sc) (.string tk) (.int .u64 le) (.int .i64 wi) (.int .u64 nu) (.string HEAD) (.string SL) 0 _ ?_ ?_ ?_) ?_ ⟨rfl, ?_⟩
  · rfl
  · rfl
  · exact heap_drew HQ.out
  · rfl
  · exact (below13 HD6.out.2.2.2 (by omega) _ _ _ _ _ _ _ _ _ _ _ _ _).drew
set_option maxHeartbeats 2000000 in
theorem doors_same (x0 x1 x2 x3 x4 x5 x6 x7 x8 x9 : ByteArray) (xo xp : Bool) (w : World) :
    Calls Tryz.prog 64 #[.agg #[.string x0, .string x1, .string x2, .string x3, .string x4, .string x5, .string x6, .string x7, .string x8, .string x9, .bool xo, .bool xp, .string x4, .string x5, .string x6], .bool xp] w fun e w' => e = .returned (.slice (some ⟨w.heap.size + 1, 0, none⟩) 1 1) ∧ w' = (w.alloc (.cells #[.string x0, .string x1, .string x2, .string x3, .string x4, .string x5, .string x6, .string x7, .string x8, .string x9, .bool xo, .bool xp, .string x4, .string x5, .string x6] 95)).alloc (.cells #[.string x4, .string x5, .string x6, .bool false] 149) := by
  have he : (xp == xp) = true := by simp
  go_enter Tryz.func64, Tryz.ntmps64
  go_wp2_with fail
  go_ret
  exact ⟨rfl, rfl⟩
end Go.Proofs.YtagbkmoahflfdaaGreatDoor.Se
namespace Go.Proofs.YtagbkmoahflfdaaGreatDoor.Se
set_option maxRecDepth 20000
open Go.RowKit Vm Dg Kd
set_option linter.unusedVariables false
set_option linter.unusedSimpArgs false

set_option maxHeartbeats 4000000 in
theorem tried_yes (x4 x5 x6 SL HEAD P : ByteArray) (lg sp ph : Bool) (ty ve : Int) (dc sc tk : ByteArray) (le wi nu : Int) (b num : Nat) (w : World)
    (hd : w.heap[b]? = some (.cells #[.string x4, .string x5, .string x6, .bool false] 149 (0, 0)))
    (CO : Hid (∀ W : World, Calls Tryz.prog 45 #[.agg #[.string x4, .string x5, .string x6], .int .u64 num, .string HEAD, .string SL] W fun e w' => e = .returned (.tuple #[.string P, .bool true]) ∧ Below W.heap.size W w')) :
    Calls Tryz.prog 63 #[.agg #[.bool lg, .bool sp, .bool ph, .int .i64 ty, .int .u32 ve, .string dc, .string sc, .string tk, .int .u64 le, .int .i64 wi, .int .u64 nu, .string HEAD, .string SL], .int .u64 num, .slice (some ⟨b, 0, none⟩) 1 1] w fun e w' => e = .returned (.tuple #[.string P, .bool false, .bool true]) ∧ Below w.heap.size w w' := by
  have hlt : b < w.heap.size := (Array.getElem?_eq_some_iff.1 hd).1
  have HDB : Hid ((w.alloc (.cells #[.bool lg, .bool sp, .bool ph, .int .i64 ty, .int .u32 ve, .string dc, .string sc, .string tk, .int .u64 le, .int .i64 wi, .int .u64 nu, .string HEAD, .string SL] 107)).heap[b]? = some (.cells #[.string x4, .string x5, .string x6, .bool false] 149 (0, 0))) := Lib.hid ((Below.heap_alloc _ _ b hlt).trans hd)
  have g0 := Lib.cell_of_heap HDB.out 0
  have g1 := Lib.cell_of_heap HDB.out 1
  have g2 := Lib.cell_of_heap HDB.out 2
  have g3 := Lib.cell_of_heap HDB.out 3
  simp only [List.getElem?_toArray, List.getElem?_cons_zero, List.getElem?_cons_succ] at g0 g1 g2 g3
  go_enter Tryz.func63, Tryz.ntmps63
  go_wp2_with fail
  refine wp_loop_rounds 2 ?_
  rw [rounds_succ]
  go_wp2_with fail
  with_reducible refine (CO.out _).mono ?_
  rintro e1 w1 ⟨rfl, hb⟩
  have HB1 := Lib.hid ((((Below.refl w.heap.size w).alloc (Nat.le_refl _) _).alloc (by simp) _).trans (hb.mono (by simp; omega)))
  have hlw : (w.alloc (.cells #[.bool lg, .bool sp, .bool ph, .int .i64 ty, .int .u32 ve, .string dc, .string sc, .string tk, .int .u64 le, .int .i64 wi, .int .u64 nu, .string HEAD, .string SL] 107)).heap.size = w.heap.size + 1 := World.size_alloc _ _
  have HK := Lib.hid ((hb.block (w.heap.size + 1) (by simp)).trans (show ((w.alloc (.cells #[.bool lg, .bool sp, .bool ph, .int .i64 ty, .int .u32 ve, .string dc, .string sc, .string tk, .int .u64 le, .int .i64 wi, .int .u64 nu, .string HEAD, .string SL] 107)).alloc (.cells #[.string x4, .string x5, .string x6, .bool false] 149)).heap[w.heap.size + 1]? = some (.cells #[.string x4, .string x5, .string x6, .bool false] 149 (0, 0)) from by
    have h := heap_alloc_new (w.alloc (.cells #[.bool lg, .bool sp, .bool ph, .int .i64 ty, .int .u32 ve, .string dc, .string sc, .string tk, .int .u64 le, .int .i64 wi, .int .u64 nu, .string HEAD, .string SL] 107)) (.cells #[.string x4, .string x5, .string x6, .bool false] 149)
    rwa [hlw] at h))
  have k3 : w1.cell? ⟨w.heap.size + 1, 3, none⟩ = some (.bool false) := Lib.cell_of_heap HK.out 3
  clear hb
  go_wp2_with fail
  go_region
  go_wp2_with fail
  refine bodyPost_ret (v := .tuple #[.string P, .bool false, .bool true]) ?_ rfl ⟨rfl, HB1.out.drew⟩
  simp [results, Tryz.results63, go_sem]
end Go.Proofs.YtagbkmoahflfdaaGreatDoor.Se
