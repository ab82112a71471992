/- Layer 13: Frame. By tools/gen-acks-4.py. -/
import Derived.Test.YtliakeiaeakliaaAkD
import Derived.Deep.RegionHeld3
namespace Go.Proofs.Ytliakeiaeakliaa.Rg
set_option maxRecDepth 20000
open Go.RowKit Go.Shelf
set_option linter.unusedVariables false
set_option linter.unusedSimpArgs false

theorem f13_put {w : World} {b : Nat} {T : TypeId} {v0 v1 v2 v3 v4 v5 v6 v7 v8 v9 v10 v11 v12 : Value} (h : w.heap[b]? = some (.cells #[v0, v1, v2, v3, v4, v5, v6, v7, v8, v9, v10, v11, v12] T (0, 0))) (x0 x1 x2 x3 x4 x5 x6 x7 x8 x9 x10 x11 x12 : Value) : ((((((((((((((w.setCell ⟨b, 0, none⟩ x0).setCell ⟨b, 1, none⟩ x1).setCell ⟨b, 2, none⟩ x2).setCell ⟨b, 3, none⟩ x3).setCell ⟨b, 4, none⟩ x4).setCell ⟨b, 5, none⟩ x5).setCell ⟨b, 6, none⟩ x6).setCell ⟨b, 7, none⟩ x7).setCell ⟨b, 8, none⟩ x8).setCell ⟨b, 9, none⟩ x9).setCell ⟨b, 10, none⟩ x10).setCell ⟨b, 11, none⟩ x11).setCell ⟨b, 12, none⟩ x12)).heap[b]? = some (.cells #[x0, x1, x2, x3, x4, x5, x6, x7, x8, x9, x10, x11, x12] T (0, 0)) := by
  have h0 := Joins.block_setCell (i := 0) h x0
  have h1 := Joins.block_setCell (i := 1) h0 x1
  have h2 := Joins.block_setCell (i := 2) h1 x2
  have h3 := Joins.block_setCell (i := 3) h2 x3
  have h4 := Joins.block_setCell (i := 4) h3 x4
  have h5 := Joins.block_setCell (i := 5) h4 x5
  have h6 := Joins.block_setCell (i := 6) h5 x6
  have h7 := Joins.block_setCell (i := 7) h6 x7
  have h8 := Joins.block_setCell (i := 8) h7 x8
  have h9 := Joins.block_setCell (i := 9) h8 x9
  have h10 := Joins.block_setCell (i := 10) h9 x10
  have h11 := Joins.block_setCell (i := 11) h10 x11
  have h12 := Joins.block_setCell (i := 12) h11 x12
  rw [h12]
  simp
theorem rd_13 {w : World} {v : Value} {l : List Ran} (h : Rd w v l) {b : Nat} (hb : ¬ Blk v b) (x0 x1 x2 x3 x4 x5 x6 x7 x8 x9 x10 x11 x12 : Value) : Rd (((((((((((((w.setCell ⟨b, 0, none⟩ x0).setCell ⟨b, 1, none⟩ x1).setCell ⟨b, 2, none⟩ x2).setCell ⟨b, 3, none⟩ x3).setCell ⟨b, 4, none⟩ x4).setCell ⟨b, 5, none⟩ x5).setCell ⟨b, 6, none⟩ x6).setCell ⟨b, 7, none⟩ x7).setCell ⟨b, 8, none⟩ x8).setCell ⟨b, 9, none⟩ x9).setCell ⟨b, 10, none⟩ x10).setCell ⟨b, 11, none⟩ x11).setCell ⟨b, 12, none⟩ x12) v l :=
  (rd_set (rd_set (rd_set (rd_set (rd_set (rd_set (rd_set (rd_set (rd_set (rd_set (rd_set (rd_set (rd_set h hb x0) hb x1) hb x2) hb x3) hb x4) hb x5) hb x6) hb x7) hb x8) hb x9) hb x10) hb x11) hb x12)
theorem below_13 {n : Nat} {w0 w : World} (h : Below n w0 w) {b : Nat} (hb : n ≤ b) (x0 x1 x2 x3 x4 x5 x6 x7 x8 x9 x10 x11 x12 : Value) : Below n w0 (((((((((((((w.setCell ⟨b, 0, none⟩ x0).setCell ⟨b, 1, none⟩ x1).setCell ⟨b, 2, none⟩ x2).setCell ⟨b, 3, none⟩ x3).setCell ⟨b, 4, none⟩ x4).setCell ⟨b, 5, none⟩ x5).setCell ⟨b, 6, none⟩ x6).setCell ⟨b, 7, none⟩ x7).setCell ⟨b, 8, none⟩ x8).setCell ⟨b, 9, none⟩ x9).setCell ⟨b, 10, none⟩ x10).setCell ⟨b, 11, none⟩ x11).setCell ⟨b, 12, none⟩ x12) :=
  (Below.setCell (Below.setCell (Below.setCell (Below.setCell (Below.setCell (Below.setCell (Below.setCell (Below.setCell (Below.setCell (Below.setCell (Below.setCell (Below.setCell (Below.setCell h (p := ⟨b, 0, none⟩) hb x0) (p := ⟨b, 1, none⟩) hb x1) (p := ⟨b, 2, none⟩) hb x2) (p := ⟨b, 3, none⟩) hb x3) (p := ⟨b, 4, none⟩) hb x4) (p := ⟨b, 5, none⟩) hb x5) (p := ⟨b, 6, none⟩) hb x6) (p := ⟨b, 7, none⟩) hb x7) (p := ⟨b, 8, none⟩) hb x8) (p := ⟨b, 9, none⟩) hb x9) (p := ⟨b, 10, none⟩) hb x10) (p := ⟨b, 11, none⟩) hb x11) (p := ⟨b, 12, none⟩) hb x12)
theorem Tl.other {T : TypeId} {w : World} {b g k : Nat} {v : Value} {s : St} (h : Tl T w b v s) (hb : b ≠ g) (hv : ¬ Blk v g) (u : Value) : Tl T (w.setCell ⟨g, k, none⟩ u) b v s :=
  ⟨(Below.heap_setCell w ⟨g, k, none⟩ u b hb).trans h.hb, rd_set h.rd hv u, h.off⟩
theorem tl_13 {T : TypeId} {w : World} {q b : Nat} {v : Value} {s : St} (h : Tl T w q v s) (hq : q ≠ b) (hv : ¬ Blk v b) (x0 x1 x2 x3 x4 x5 x6 x7 x8 x9 x10 x11 x12 : Value) : Tl T (((((((((((((w.setCell ⟨b, 0, none⟩ x0).setCell ⟨b, 1, none⟩ x1).setCell ⟨b, 2, none⟩ x2).setCell ⟨b, 3, none⟩ x3).setCell ⟨b, 4, none⟩ x4).setCell ⟨b, 5, none⟩ x5).setCell ⟨b, 6, none⟩ x6).setCell ⟨b, 7, none⟩ x7).setCell ⟨b, 8, none⟩ x8).setCell ⟨b, 9, none⟩ x9).setCell ⟨b, 10, none⟩ x10).setCell ⟨b, 11, none⟩ x11).setCell ⟨b, 12, none⟩ x12) q v s :=
  (Tl.other (Tl.other (Tl.other (Tl.other (Tl.other (Tl.other (Tl.other (Tl.other (Tl.other (Tl.other (Tl.other (Tl.other (Tl.other h hq hv x0) hq hv x1) hq hv x2) hq hv x3) hq hv x4) hq hv x5) hq hv x6) hq hv x7) hq hv x8) hq hv x9) hq hv x10) hq hv x11) hq hv x12)
/-- An answer's frame, not yet written. -/
def Zf (W : World) (g : Nat) : Prop := W.heap[g]? = some (.cells #[.int .u64 0, .int .u64 0, .int .u64 0, .int .u64 0, .int .u64 0, .int .u64 0, .int .u64 0, .int .u64 0, .bool false, .string ⟨#[]⟩, .string ⟨#[]⟩, .string ⟨#[]⟩, .slice none 0 0] 40 (0, 0))
theorem Zf.lt {W : World} {g : Nat} (h : Zf W g) : g < W.heap.size := (Array.getElem?_eq_some_iff.1 h).1
theorem Zf.go {W W' : World} {g : Nat} (h : Zf W g) (hb : Below W.heap.size W W') : Zf W' g := (hb.block g h.lt).trans h
theorem results_frame (tmps : Array Value) (g : Nat) (d : Int) (u : Value) (r : Bool) (w : World) (hp : tmps.getD 4 undef = .pointer (some ⟨g, 0, none⟩)) (hu : tmps.getD 5 undef = .bool r) (hc : w.heap[g]? = some (.cells #[.int .u64 2, .int .u64 0, .int .u64 0, .int .u64 0, .int .u64 0, .int .u64 0, .int .u64 0, .int .u64 d, .bool false, .string ⟨#[]⟩, .string ⟨#[]⟩, .string ⟨#[]⟩, u] 40 (0, 0))) :
    (results Try.f11 tmps).run Try.prog w = .ok (.tuple #[.agg #[.int .u64 2, .int .u64 0, .int .u64 0, .int .u64 0, .int .u64 0, .int .u64 0, .int .u64 0, .int .u64 d, .bool false, .string ⟨#[]⟩, .string ⟨#[]⟩, .string ⟨#[]⟩, u], .bool r]) w := by
  have c0 : w.cell? ⟨g, 0, none⟩ = some (.int .u64 2) := Lib.cell_of_heap hc 0
  have c1 : w.cell? ⟨g, 1, none⟩ = some (.int .u64 0) := Lib.cell_of_heap hc 1
  have c2 : w.cell? ⟨g, 2, none⟩ = some (.int .u64 0) := Lib.cell_of_heap hc 2
  have c3 : w.cell? ⟨g, 3, none⟩ = some (.int .u64 0) := Lib.cell_of_heap hc 3
  have c4 : w.cell? ⟨g, 4, none⟩ = some (.int .u64 0) := Lib.cell_of_heap hc 4
  have c5 : w.cell? ⟨g, 5, none⟩ = some (.int .u64 0) := Lib.cell_of_heap hc 5
  have c6 : w.cell? ⟨g, 6, none⟩ = some (.int .u64 0) := Lib.cell_of_heap hc 6
  have c7 : w.cell? ⟨g, 7, none⟩ = some (.int .u64 d) := Lib.cell_of_heap hc 7
  have c8 : w.cell? ⟨g, 8, none⟩ = some (.bool false) := Lib.cell_of_heap hc 8
  have c9 : w.cell? ⟨g, 9, none⟩ = some (.string ⟨#[]⟩) := Lib.cell_of_heap hc 9
  have c10 : w.cell? ⟨g, 10, none⟩ = some (.string ⟨#[]⟩) := Lib.cell_of_heap hc 10
  have c11 : w.cell? ⟨g, 11, none⟩ = some (.string ⟨#[]⟩) := Lib.cell_of_heap hc 11
  have c12 : w.cell? ⟨g, 12, none⟩ = some (u) := Lib.cell_of_heap hc 12
  rw [results_cell_tmp Try.results11]
  simp only [hp, hu]
  go_simp
set_option maxHeartbeats 8000000 in
theorem frame_any (a : Option Addr) (m c : Nat) (s : St) (t : Int) (w : World) (hm : s.l.length = m) (hl : m ≤ 100) (hrd : Rd w (.slice a m c) s.l) (hn : s.l ≠ []) (h0 : 0 ≤ s.tp) (h1 : s.tp ≤ 1099511627776) (h2 : 0 ≤ t) (h3 : t ≤ 1099511627776) :
    Calls Try.prog 11 #[.agg #[.slice a m c, .int .u64 s.fl, .int .i64 s.tp, .int .i64 s.ow, .int .i64 s.si], .int .i64 t] w fun e w' => ∃ u, e = .returned (.tuple #[.agg #[.int .u64 2, .int .u64 0, .int .u64 0, .int .u64 0, .int .u64 0, .int .u64 0, .int .u64 0, .int .u64 (max (t - s.tp) 0), .bool false, .string ⟨#[]⟩, .string ⟨#[]⟩, .string ⟨#[]⟩, u], .bool true]) ∧ Rd w' u s.l ∧ (∀ k, Blk u k → w.heap.size ≤ k) ∧ Below w.heap.size w w' := by
  have CO := Lib.hid (fun W h => of_any a m c s W hm (by omega) h)
  have CG := Lib.hid (fun (v : Value) W h => greatest_ne v s.l s.fl s.tp s.ow s.si W (by omega) h hn)
  have CH := Lib.hid (fun (v : Value) W => held_any v s.fl s.tp s.ow s.si t W h0 h1 h2 h3)
  obtain ⟨D, hD⟩ : ∃ x, max (t - s.tp) 0 = x := ⟨_, rfl⟩
  have v1 : IntKind.u64.wrap D = D := IntWalk.u64_in _ (by omega)
  rw [hD] at CH ⊢
  have HR := Lib.hid hrd
  clear hrd hm h0 h1 h2 h3 hD hn
  obtain ⟨l, fl, tp, ow, si⟩ := s
  simp only at CO CG CH HR ⊢
  have HB0 : Hid (Below w.heap.size w ((w.alloc (.cells #[.slice a m c, .int .u64 fl, .int .i64 tp, .int .i64 ow, .int .i64 si] 28)).alloc (.cells #[.int .u64 0, .int .u64 0, .int .u64 0, .int .u64 0, .int .u64 0, .int .u64 0, .int .u64 0, .int .u64 0, .bool false, .string ⟨#[]⟩, .string ⟨#[]⟩, .string ⟨#[]⟩, .slice none 0 0] 40))) := Lib.hid (((Below.refl _ w).alloc (Nat.le_refl _) _).alloc (by simp) _)
  have HZ : Hid (Zf ((w.alloc (.cells #[.slice a m c, .int .u64 fl, .int .i64 tp, .int .i64 ow, .int .i64 si] 28)).alloc (.cells #[.int .u64 0, .int .u64 0, .int .u64 0, .int .u64 0, .int .u64 0, .int .u64 0, .int .u64 0, .int .u64 0, .bool false, .string ⟨#[]⟩, .string ⟨#[]⟩, .string ⟨#[]⟩, .slice none 0 0] 40)) (w.heap.size + 1)) := Lib.hid (by
    have h := heap_alloc_new (w.alloc (.cells #[.slice a m c, .int .u64 fl, .int .i64 tp, .int .i64 ow, .int .i64 si] 28)) (.cells #[.int .u64 0, .int .u64 0, .int .u64 0, .int .u64 0, .int .u64 0, .int .u64 0, .int .u64 0, .int .u64 0, .bool false, .string ⟨#[]⟩, .string ⟨#[]⟩, .string ⟨#[]⟩, .slice none 0 0] 40)
    rw [World.size_alloc] at h
    exact h)
  replace HR := Lib.hid (HR.out.go HB0.out)
  go_enter Try.func11, Try.ntmps11
  go_wp2_with fail
  refine (CO.out _ HR.out).mono ?_
  rintro e w1 ⟨u, B, rfl, hB, hT, hf, hb⟩
  obtain ⟨a1, c1, rfl, _⟩ := id hT.rd
  try simp only at hT
  try simp only at hf
  obtain ⟨m1, hm1⟩ : ∃ m, l.length = m := ⟨_, rfl⟩
  rw [hm1] at hT hf
  have HT := Lib.hid hT
  have HF : Hid (¬ Blk (.slice a1 m1 c1) (w.heap.size + 1)) := Lib.hid (fun h => by have := hf _ h; simp at this; omega)
  have HQ : Hid (∀ k, Blk (.slice a1 m1 c1) k → w.heap.size ≤ k) := Lib.hid (fun k hk => by have := hf k hk; simp at this; omega)
  have HNE : Hid (B ≠ w.heap.size + 1) := Lib.hid (by simp at hB; omega)
  have HBB : Hid (w.heap.size + 2 ≤ B) := Lib.hid (by simp at hB; omega)
  have HB1 := Lib.hid (next HB0.out hb)
  have HZ1 := Lib.hid (HZ.out.go hb)
  have y0 := HT.out.c0
  have y1 := HT.out.c1
  have y2 := HT.out.c2
  have y3 := HT.out.c3
  have y4 := HT.out.c4
  simp only at y0 y1 y2 y3 y4
  clear hB hT hf hb HB0 HZ HR CO
  go_wp2_with fail
  refine (CG.out _ _ HT.out.rd).mono ?_
  rintro e w2 ⟨rfl, hb⟩
  replace HT := Lib.hid (HT.out.go hb)
  replace HB1 := Lib.hid (next HB1.out hb)
  replace HZ1 := Lib.hid (HZ1.out.go hb)
  clear y0 y1 y2 y3 y4 hb CG
  go_wp2_with fail
  replace HT := Lib.hid (HT.out.go (Below.refl _ _).drew)
  replace HB1 := Lib.hid HB1.out.drew
  replace HZ1 := Lib.hid (HZ1.out.go (Below.refl _ _).drew)
  refine wp_region_noPanic ?_
  refine wp_region_held_drew (S := fun W : World => Tl 62 W B (.slice a1 m1 c1) ⟨l, fl, tp, ow, si⟩ ∧ Below w.heap.size w W) (by kernel_rfl) ?_ (fun hHeld => ?_)
  · exact ⟨HT.out, HB1.out⟩
  refine wpAnyH_take (i := 0) (v := ?_) rfl (by kernel_rfl) (by kernel_rfl) (by kernel_rfl) (fun _ _ _ h => h) (Or.inl ⟨by rfl, ?_⟩) (by assumption) ?_
  rotate_left
  · (intro w hSw; (obtain ⟨hSt, hSb⟩ := hSw; have c0 := hSt.c0; have c1 := hSt.c1; have c2 := hSt.c2; have c3 := hSt.c3; have c4 := hSt.c4; simp only at c0 c1 c2 c3 c4; clear hSt hSb); go_simp; (try with_reducible rfl))
  try simp only [Act.put, List.getElem_toArray, List.getElem_cons_zero, List.getElem_cons_succ, List.setIfInBounds_toArray, List.set_cons_zero, List.set_cons_succ]
  refine wpAnyH_take (i := 1) (v := ?_) rfl (by kernel_rfl) (by kernel_rfl) (by kernel_rfl) (fun _ _ _ h => h) (Or.inl ⟨by rfl, ?_⟩) (by assumption) ?_
  rotate_left
  · (intro w hSw; (obtain ⟨hSt, hSb⟩ := hSw; have c0 := hSt.c0; have c1 := hSt.c1; have c2 := hSt.c2; have c3 := hSt.c3; have c4 := hSt.c4; simp only at c0 c1 c2 c3 c4; clear hSt hSb); go_simp; (try with_reducible rfl))
  try simp only [Act.put, List.getElem_toArray, List.getElem_cons_zero, List.getElem_cons_succ, List.setIfInBounds_toArray, List.set_cons_zero, List.set_cons_succ]
  refine wpAnyH_take (i := 2) (v := ?_) rfl (by kernel_rfl) (by kernel_rfl) (by kernel_rfl) (fun _ _ _ h => h) (Or.inl ⟨by rfl, ?_⟩) (by assumption) ?_
  rotate_left
  · (intro w hSw; (obtain ⟨hSt, hSb⟩ := hSw; have c0 := hSt.c0; have c1 := hSt.c1; have c2 := hSt.c2; have c3 := hSt.c3; have c4 := hSt.c4; simp only at c0 c1 c2 c3 c4; clear hSt hSb); go_simp; (try with_reducible rfl))
  try simp only [Act.put, List.getElem_toArray, List.getElem_cons_zero, List.getElem_cons_succ, List.setIfInBounds_toArray, List.set_cons_zero, List.set_cons_succ]
  refine wpAnyH_take (i := 3) (v := ?_) rfl (by kernel_rfl) (by kernel_rfl) (by kernel_rfl) (fun _ _ _ h => h) (Or.inl ⟨by rfl, ?_⟩) (by assumption) ?_
  rotate_left
  · (intro w hSw; (obtain ⟨hSt, hSb⟩ := hSw; have c0 := hSt.c0; have c1 := hSt.c1; have c2 := hSt.c2; have c3 := hSt.c3; have c4 := hSt.c4; simp only at c0 c1 c2 c3 c4; clear hSt hSb); go_simp; (try with_reducible rfl))
  try simp only [Act.put, List.getElem_toArray, List.getElem_cons_zero, List.getElem_cons_succ, List.setIfInBounds_toArray, List.set_cons_zero, List.set_cons_succ]
  refine wpAnyH_take (i := 4) (v := ?_) rfl (by kernel_rfl) (by kernel_rfl) (by kernel_rfl) (fun _ _ _ h => h) (Or.inl ⟨by rfl, ?_⟩) (by assumption) ?_
  rotate_left
  · (intro w hSw; (obtain ⟨hSt, hSb⟩ := hSw; have c0 := hSt.c0; have c1 := hSt.c1; have c2 := hSt.c2; have c3 := hSt.c3; have c4 := hSt.c4; simp only at c0 c1 c2 c3 c4; clear hSt hSb); go_simp; (try with_reducible rfl))
  try simp only [Act.put, List.getElem_toArray, List.getElem_cons_zero, List.getElem_cons_succ, List.setIfInBounds_toArray, List.set_cons_zero, List.set_cons_succ]
  refine wpAnyH_take (i := 7) (v := ?_) rfl (by kernel_rfl) (by kernel_rfl) (by kernel_rfl) (fun _ _ _ h => h) (Or.inl ⟨by rfl, ?_⟩) (by assumption) ?_
  rotate_left
  · (intro w hSw; (obtain ⟨hSt, hSb⟩ := hSw; have c0 := hSt.c0; have c1 := hSt.c1; have c2 := hSt.c2; have c3 := hSt.c3; have c4 := hSt.c4; simp only at c0 c1 c2 c3 c4; clear hSt hSb); go_simp; (try with_reducible rfl))
  try simp only [Act.put, List.getElem_toArray, List.getElem_cons_zero, List.getElem_cons_succ, List.setIfInBounds_toArray, List.set_cons_zero, List.set_cons_succ]
  refine wpAnyH_take (i := 8) (v := ?_) rfl (by kernel_rfl) (by kernel_rfl) (by kernel_rfl) (fun _ _ _ h => h) (Or.inl ⟨by rfl, ?_⟩) (by assumption) ?_
  rotate_left
  · (intro w hSw; (obtain ⟨hSt, hSb⟩ := hSw; have c0 := hSt.c0; have c1 := hSt.c1; have c2 := hSt.c2; have c3 := hSt.c3; have c4 := hSt.c4; simp only at c0 c1 c2 c3 c4; clear hSt hSb); go_simp; (try with_reducible rfl))
  try simp only [Act.put, List.getElem_toArray, List.getElem_cons_zero, List.getElem_cons_succ, List.setIfInBounds_toArray, List.set_cons_zero, List.set_cons_succ]
  refine wpAnyH_take (i := 9) (v := ?_) rfl (by kernel_rfl) (by kernel_rfl) (by kernel_rfl) (fun _ _ _ h => h) (Or.inl ⟨by rfl, ?_⟩) (by assumption) ?_
  rotate_left
  · (intro w hSw; (obtain ⟨hSt, hSb⟩ := hSw; have c0 := hSt.c0; have c1 := hSt.c1; have c2 := hSt.c2; have c3 := hSt.c3; have c4 := hSt.c4; simp only at c0 c1 c2 c3 c4; clear hSt hSb); go_simp; (try with_reducible rfl))
  try simp only [Act.put, List.getElem_toArray, List.getElem_cons_zero, List.getElem_cons_succ, List.setIfInBounds_toArray, List.set_cons_zero, List.set_cons_succ]
  refine wpAnyH_take (i := 10) (v := ?_) rfl (by kernel_rfl) (by kernel_rfl) (by kernel_rfl) (fun _ _ _ h => h) (Or.inl ⟨by rfl, ?_⟩) (by assumption) ?_
  rotate_left
  · (intro w hSw; (obtain ⟨hSt, hSb⟩ := hSw; have c0 := hSt.c0; have c1 := hSt.c1; have c2 := hSt.c2; have c3 := hSt.c3; have c4 := hSt.c4; simp only at c0 c1 c2 c3 c4; clear hSt hSb); go_simp; (try with_reducible rfl))
  try simp only [Act.put, List.getElem_toArray, List.getElem_cons_zero, List.getElem_cons_succ, List.setIfInBounds_toArray, List.set_cons_zero, List.set_cons_succ]
  refine wpAnyH_take (i := 11) (v := ?_) rfl (by kernel_rfl) (by kernel_rfl) (by kernel_rfl) (fun _ _ _ h => h) (Or.inl ⟨by rfl, ?_⟩) (by assumption) ?_
  rotate_left
  · (intro w hSw; (obtain ⟨hSt, hSb⟩ := hSw; have c0 := hSt.c0; have c1 := hSt.c1; have c2 := hSt.c2; have c3 := hSt.c3; have c4 := hSt.c4; simp only at c0 c1 c2 c3 c4; clear hSt hSb); go_simp; (try with_reducible rfl))
  try simp only [Act.put, List.getElem_toArray, List.getElem_cons_zero, List.getElem_cons_succ, List.setIfInBounds_toArray, List.set_cons_zero, List.set_cons_succ]
  refine wpAnyH_ready (rs := [5]) (by kernel_rfl) (by simp) ?_
  refine AllReadyH.cons rfl (fun K hK => ?_) AllReadyH.nil
  rw [if_pos (by rfl)]
  go_simp
  refine (CH.out _ _).mono ?_
  rintro e w3 ⟨rfl, hb⟩
  have HT3 := Lib.hid (HT.out.go hb)
  have HB3 := Lib.hid (next HB1.out hb)
  have HZ3 := Lib.hid (HZ1.out.go hb)
  clear hb
  have z0 : w3.cell? ⟨w.heap.size + 1, 0, none⟩ = _ := Lib.cell_of_heap HZ3.out 0
  have z1 : w3.cell? ⟨w.heap.size + 1, 1, none⟩ = _ := Lib.cell_of_heap HZ3.out 1
  have z2 : w3.cell? ⟨w.heap.size + 1, 2, none⟩ = _ := Lib.cell_of_heap HZ3.out 2
  have z3 : w3.cell? ⟨w.heap.size + 1, 3, none⟩ = _ := Lib.cell_of_heap HZ3.out 3
  have z4 : w3.cell? ⟨w.heap.size + 1, 4, none⟩ = _ := Lib.cell_of_heap HZ3.out 4
  have z5 : w3.cell? ⟨w.heap.size + 1, 5, none⟩ = _ := Lib.cell_of_heap HZ3.out 5
  have z6 : w3.cell? ⟨w.heap.size + 1, 6, none⟩ = _ := Lib.cell_of_heap HZ3.out 6
  have z7 : w3.cell? ⟨w.heap.size + 1, 7, none⟩ = _ := Lib.cell_of_heap HZ3.out 7
  have z8 : w3.cell? ⟨w.heap.size + 1, 8, none⟩ = _ := Lib.cell_of_heap HZ3.out 8
  have z9 : w3.cell? ⟨w.heap.size + 1, 9, none⟩ = _ := Lib.cell_of_heap HZ3.out 9
  have z10 : w3.cell? ⟨w.heap.size + 1, 10, none⟩ = _ := Lib.cell_of_heap HZ3.out 10
  have z11 : w3.cell? ⟨w.heap.size + 1, 11, none⟩ = _ := Lib.cell_of_heap HZ3.out 11
  have z12 : w3.cell? ⟨w.heap.size + 1, 12, none⟩ = _ := Lib.cell_of_heap HZ3.out 12
  have zf : ∀ k, w3.frozen? ⟨w.heap.size + 1, k, none⟩ = false := fun k => Lib.frozen_of_heap HZ3.out k
  refine hK.out _ _ ?_ (fun hHeld => ?_)
  · exact ⟨HT3.out, HB3.out⟩
  clear hK K
  try simp only [Act.put, List.getElem_toArray, List.getElem_cons_zero, List.getElem_cons_succ, List.setIfInBounds_toArray, List.set_cons_zero, List.set_cons_succ]
  refine wpAnyH_take (i := 6) (v := ?_) rfl (by kernel_rfl) (by kernel_rfl) (by kernel_rfl) (fun _ _ _ h => h) (Or.inl ⟨by rfl, ?_⟩) (by assumption) ?_
  rotate_left
  · (intro w hSw; (obtain ⟨hSt, hSb⟩ := hSw; have c0 := hSt.c0; have c1 := hSt.c1; have c2 := hSt.c2; have c3 := hSt.c3; have c4 := hSt.c4; simp only at c0 c1 c2 c3 c4; clear hSt hSb); go_simp; (try with_reducible rfl))
  try simp only [Act.put, List.getElem_toArray, List.getElem_cons_zero, List.getElem_cons_succ, List.setIfInBounds_toArray, List.set_cons_zero, List.set_cons_succ]
  refine wpAnyH_take (i := 12) (v := ?_) rfl (by kernel_rfl) (by kernel_rfl) (by kernel_rfl) (fun _ _ _ h => h) (Or.inl ⟨by rfl, ?_⟩) (by assumption) ?_
  rotate_left
  · (intro w hSw; (obtain ⟨hSt, hSb⟩ := hSw; have c0 := hSt.c0; have c1 := hSt.c1; have c2 := hSt.c2; have c3 := hSt.c3; have c4 := hSt.c4; simp only at c0 c1 c2 c3 c4; clear hSt hSb); go_simp; (try with_reducible rfl))
  try simp only [Act.put, List.getElem_toArray, List.getElem_cons_zero, List.getElem_cons_succ, List.setIfInBounds_toArray, List.set_cons_zero, List.set_cons_succ]
  refine wpAnyH_ready (rs := [13]) (by kernel_rfl) (by simp) ?_
  refine AllReadyH.cons rfl (fun K hK => ?_) AllReadyH.nil
  rw [if_pos (by rfl)]
  go_simp
  refine hK.out _ _ ?_ (fun hHeld => ?_)
  · exact ⟨tl_13 HT3.out HNE.out HF.out (.int .u64 2) (.int .u64 0) (.int .u64 0) (.int .u64 0) (.int .u64 0) (.int .u64 0) (.int .u64 0) (.int .u64 D) (.bool false) (.string ⟨#[]⟩) (.string ⟨#[]⟩) (.string ⟨#[]⟩) (.slice a1 m1 c1), below_13 HB3.out (b := w.heap.size + 1) (by omega) (.int .u64 2) (.int .u64 0) (.int .u64 0) (.int .u64 0) (.int .u64 0) (.int .u64 0) (.int .u64 0) (.int .u64 D) (.bool false) (.string ⟨#[]⟩) (.string ⟨#[]⟩) (.string ⟨#[]⟩) (.slice a1 m1 c1)⟩
  clear hK K
  try simp only [Act.put, List.getElem_toArray, List.getElem_cons_zero, List.getElem_cons_succ, List.setIfInBounds_toArray, List.set_cons_zero, List.set_cons_succ]
  refine wpAnyH_take (i := 14) (v := ?_) rfl (by kernel_rfl) (by kernel_rfl) (by kernel_rfl) (fun _ _ _ h => h) (Or.inl ⟨by rfl, ?_⟩) (by assumption) ?_
  rotate_left
  · (intro w hSw; (obtain ⟨hSt, hSb⟩ := hSw; have c0 := hSt.c0; have c1 := hSt.c1; have c2 := hSt.c2; have c3 := hSt.c3; have c4 := hSt.c4; simp only at c0 c1 c2 c3 c4; clear hSt hSb); go_simp; (try with_reducible rfl))
  try simp only [Act.put, List.getElem_toArray, List.getElem_cons_zero, List.getElem_cons_succ, List.setIfInBounds_toArray, List.set_cons_zero, List.set_cons_succ]
  refine wpAnyH_done (by kernel_rfl) (NoPanic.normal ?_) _
  have HP := Lib.hid (f13_put HZ3.out (.int .u64 2) (.int .u64 0) (.int .u64 0) (.int .u64 0) (.int .u64 0) (.int .u64 0) (.int .u64 0) (.int .u64 D) (.bool false) (.string ⟨#[]⟩) (.string ⟨#[]⟩) (.string ⟨#[]⟩) (.slice a1 m1 c1))
  have HRF := Lib.hid (rd_13 HT3.out.rd HF.out (.int .u64 2) (.int .u64 0) (.int .u64 0) (.int .u64 0) (.int .u64 0) (.int .u64 0) (.int .u64 0) (.int .u64 D) (.bool false) (.string ⟨#[]⟩) (.string ⟨#[]⟩) (.string ⟨#[]⟩) (.slice a1 m1 c1))
  go_wp2_with fail
  exact bodyPost_ret (results_frame _ (w.heap.size + 1) D _ true _ rfl rfl HP.out) rfl ⟨_, rfl, HRF.out, HQ.out, hHeld.2⟩
end Go.Proofs.Ytliakeiaeakliaa.Rg
