/- Layer 15: a state in a block; the walks of what is read of it. By tools/gen-sendq-1.py. -/
import Derived.Test.YtedijfcagkedaaaSqA
import Derived.Deep.QuietTactic
import Derived.BigQuiet
import Derived.RegionTactic
import Derived.Deep.RegionHeld3
import Derived.Deep.RegionWith
import Derived.Laws.Rows
import Derived.Lib.SmallJoins
import Derived.Lib.ConvBytes
import Derived.Laws.ResultCell
namespace Go.Proofs.Ytedijfcagkedaaa.Rg
set_option maxRecDepth 20000
open Go.RowKit Go.Shelf
set_option linter.unusedVariables false
set_option linter.unusedSimpArgs false

theorem nextG {n : Nat} {w0 w1 w2 : World} (h : Below n w0 w1) (k : Below w1.heap.size w1 w2) (hn : n ≤ w0.heap.size := by exact Nat.le_refl _) : Below n w0 w2 := h.trans (k.mono (Nat.le_trans hn h.size))
theorem ret_u64 {a b : Int} (h : a = b) : Ending.returned (.int .u64 a) = .returned (.int .u64 b) := by rw [h]
theorem ret_i64 {a b : Int} (h : a = b) : Ending.returned (.int .i64 a) = .returned (.int .i64 b) := by rw [h]
theorem ret_bool {a b : Bool} (h : a = b) : Ending.returned (.bool a) = .returned (.bool b) := by rw [h]
theorem rd_set {w : World} {v : Value} {l : List Ran} (h : Rd w v l) {b k : Nat} (hb : ¬ Blk v b) (u : Value) : Rd (w.setCell ⟨b, k, none⟩ u) v l :=
  h.keep (fun q hq => Below.heap_setCell w ⟨b, k, none⟩ u q (fun e => hb (by have e : q = b := e; subst e; exact hq)))
/-- A state in a block; its sets lie elsewhere. -/
structure Qb (Y : TypeId) (w : World) (b : Nat) (u v : Value) (s : SS) : Prop where
  hb : w.heap[b]? = some (.cells #[.int .u64 s.ba, .int .u64 s.tp, .string s.d, u, v, .bool s.fin, .bool s.ft, .bool s.fa] Y (0, 0))
  ra : Rd w u s.ak
  rt : Rd w v s.td
  oa : ¬ Blk u b
  ot : ¬ Blk v b
theorem Qb.lt {Y : TypeId} {w : World} {b : Nat} {u v : Value} {s : SS} (h : Qb Y w b u v s) : b < w.heap.size := (Array.getElem?_eq_some_iff.1 h.hb).1
theorem Qb.c0 {Y : TypeId} {w : World} {b : Nat} {u v : Value} {s : SS} (h : Qb Y w b u v s) : w.cell? ⟨b, 0, none⟩ = some (.int .u64 s.ba) := Lib.cell_of_heap h.hb 0
theorem Qb.c1 {Y : TypeId} {w : World} {b : Nat} {u v : Value} {s : SS} (h : Qb Y w b u v s) : w.cell? ⟨b, 1, none⟩ = some (.int .u64 s.tp) := Lib.cell_of_heap h.hb 1
theorem Qb.c2 {Y : TypeId} {w : World} {b : Nat} {u v : Value} {s : SS} (h : Qb Y w b u v s) : w.cell? ⟨b, 2, none⟩ = some (.string s.d) := Lib.cell_of_heap h.hb 2
theorem Qb.c3 {Y : TypeId} {w : World} {b : Nat} {u v : Value} {s : SS} (h : Qb Y w b u v s) : w.cell? ⟨b, 3, none⟩ = some (u) := Lib.cell_of_heap h.hb 3
theorem Qb.c4 {Y : TypeId} {w : World} {b : Nat} {u v : Value} {s : SS} (h : Qb Y w b u v s) : w.cell? ⟨b, 4, none⟩ = some (v) := Lib.cell_of_heap h.hb 4
theorem Qb.c5 {Y : TypeId} {w : World} {b : Nat} {u v : Value} {s : SS} (h : Qb Y w b u v s) : w.cell? ⟨b, 5, none⟩ = some (.bool s.fin) := Lib.cell_of_heap h.hb 5
theorem Qb.c6 {Y : TypeId} {w : World} {b : Nat} {u v : Value} {s : SS} (h : Qb Y w b u v s) : w.cell? ⟨b, 6, none⟩ = some (.bool s.ft) := Lib.cell_of_heap h.hb 6
theorem Qb.c7 {Y : TypeId} {w : World} {b : Nat} {u v : Value} {s : SS} (h : Qb Y w b u v s) : w.cell? ⟨b, 7, none⟩ = some (.bool s.fa) := Lib.cell_of_heap h.hb 7
theorem Qb.fz {Y : TypeId} {w : World} {b : Nat} {u v : Value} {s : SS} (h : Qb Y w b u v s) (j : Nat) : w.frozen? ⟨b, j, none⟩ = false := Lib.frozen_of_heap h.hb j
theorem Qb.go {Y : TypeId} {w : World} {b : Nat} {u v : Value} {s : SS} (h : Qb Y w b u v s) {w2 : World} (hb : Below w.heap.size w w2) : Qb Y w2 b u v s := ⟨(hb.block b h.lt).trans h.hb, h.ra.go hb, h.rt.go hb, h.oa, h.ot⟩
theorem Qb.other {Y : TypeId} {w : World} {b : Nat} {u v : Value} {s : SS} (h : Qb Y w b u v s) {g k : Nat} (hg : b ≠ g) (ha : ¬ Blk u g) (ht : ¬ Blk v g) (x : Value) : Qb Y (w.setCell ⟨g, k, none⟩ x) b u v s := ⟨(Below.heap_setCell w ⟨g, k, none⟩ x b hg).trans h.hb, rd_set h.ra ha x, rd_set h.rt ht x, h.oa, h.ot⟩
theorem Qb.s0 {Y : TypeId} {w : World} {b : Nat} {u v : Value} {s : SS} (h : Qb Y w b u v s) (x : Int) : Qb Y (w.setCell ⟨b, 0, none⟩ (.int .u64 x)) b u v { s with ba := x } := ⟨Joins.block_setCell (i := 0) h.hb _, rd_set h.ra h.oa _, rd_set h.rt h.ot _, h.oa, h.ot⟩
theorem Qb.s1 {Y : TypeId} {w : World} {b : Nat} {u v : Value} {s : SS} (h : Qb Y w b u v s) (x : Int) : Qb Y (w.setCell ⟨b, 1, none⟩ (.int .u64 x)) b u v { s with tp := x } := ⟨Joins.block_setCell (i := 1) h.hb _, rd_set h.ra h.oa _, rd_set h.rt h.ot _, h.oa, h.ot⟩
theorem Qb.s2 {Y : TypeId} {w : World} {b : Nat} {u v : Value} {s : SS} (h : Qb Y w b u v s) (x : ByteArray) : Qb Y (w.setCell ⟨b, 2, none⟩ (.string x)) b u v { s with d := x } := ⟨Joins.block_setCell (i := 2) h.hb _, rd_set h.ra h.oa _, rd_set h.rt h.ot _, h.oa, h.ot⟩
theorem Qb.s5 {Y : TypeId} {w : World} {b : Nat} {u v : Value} {s : SS} (h : Qb Y w b u v s) (x : Bool) : Qb Y (w.setCell ⟨b, 5, none⟩ (.bool x)) b u v { s with fin := x } := ⟨Joins.block_setCell (i := 5) h.hb _, rd_set h.ra h.oa _, rd_set h.rt h.ot _, h.oa, h.ot⟩
theorem Qb.s6 {Y : TypeId} {w : World} {b : Nat} {u v : Value} {s : SS} (h : Qb Y w b u v s) (x : Bool) : Qb Y (w.setCell ⟨b, 6, none⟩ (.bool x)) b u v { s with ft := x } := ⟨Joins.block_setCell (i := 6) h.hb _, rd_set h.ra h.oa _, rd_set h.rt h.ot _, h.oa, h.ot⟩
theorem Qb.s7 {Y : TypeId} {w : World} {b : Nat} {u v : Value} {s : SS} (h : Qb Y w b u v s) (x : Bool) : Qb Y (w.setCell ⟨b, 7, none⟩ (.bool x)) b u v { s with fa := x } := ⟨Joins.block_setCell (i := 7) h.hb _, rd_set h.ra h.oa _, rd_set h.rt h.ot _, h.oa, h.ot⟩
theorem Qb.s3 {Y : TypeId} {w : World} {b : Nat} {u v : Value} {s : SS} (h : Qb Y w b u v s) {x : Value} {l : List Ran} (hr : Rd w x l) (ho : ¬ Blk x b) : Qb Y (w.setCell ⟨b, 3, none⟩ x) b x v { s with ak := l } := ⟨Joins.block_setCell (i := 3) h.hb x, rd_set hr ho x, rd_set h.rt h.ot x, ho, h.ot⟩
theorem Qb.s4 {Y : TypeId} {w : World} {b : Nat} {u v : Value} {s : SS} (h : Qb Y w b u v s) {x : Value} {l : List Ran} (hr : Rd w x l) (ho : ¬ Blk x b) : Qb Y (w.setCell ⟨b, 4, none⟩ x) b u x { s with td := l } := ⟨Joins.block_setCell (i := 4) h.hb x, rd_set h.ra h.oa x, rd_set hr ho x, h.oa, ho⟩
theorem qb_made (Y : TypeId) (w : World) (u v : Value) (s : SS) (ha : Rd w u s.ak) (ht : Rd w v s.td) : Qb Y (w.alloc (.cells #[.int .u64 s.ba, .int .u64 s.tp, .string s.d, u, v, .bool s.fin, .bool s.ft, .bool s.fa] Y)) w.heap.size u v s :=
  ⟨heap_alloc_new w _, ha.go ((Below.refl _ _).alloc (Nat.le_refl _) _), ht.go ((Below.refl _ _).alloc (Nat.le_refl _) _), fun h => by have := ha.blk h; omega, fun h => by have := ht.blk h; omega⟩
/-- A state in a block of a call, and what is beneath is as it was. -/
structure QR (w W : World) (u v : Value) (s : SS) : Prop where
  q : Qb 29 W w.heap.size u v s
  bl : Below w.heap.size w W
theorem QR.go {w W W' : World} {u v : Value} {s : SS} (h : QR w W u v s) (hb : Below W.heap.size W W') : QR w W' u v s := ⟨h.q.go hb, nextG h.bl hb⟩
theorem QR.al {w W : World} {u v : Value} {s : SS} (h : QR w W u v s) (o : Obj) : QR w (W.alloc o) u v s := h.go ((Below.refl _ _).alloc (Nat.le_refl _) o)
theorem QR.dr {w W : World} {u v : Value} {s : SS} (h : QR w W u v s) : QR w W.drew u v s := h.go (Below.refl _ _).drew
theorem qr_made (w : World) (u v : Value) (s : SS) (ha : Rd w u s.ak) (ht : Rd w v s.td) : QR w (w.alloc (.cells #[.int .u64 s.ba, .int .u64 s.tp, .string s.d, u, v, .bool s.fin, .bool s.ft, .bool s.fa] 29)) u v s := ⟨qb_made _ w u v s ha ht, (Below.refl _ _).alloc (Nat.le_refl _) _⟩

set_option maxHeartbeats 1000000 in
theorem behind_any (off n R : Int) (w : World) (h0 : 0 ≤ off) (h1 : off + max n 0 < 18446744073709551616) (hR : off + max n 0 = R) :
    Calls Try.prog 56 #[.int .u64 off, .int .i64 n] w fun e w' => e = .returned (.int .u64 R) ∧ w' = w := by
  by_cases hn : 0 ≤ n
  · have m1 : max n 0 = n := by omega
    rw [m1] at h1 hR
    have v1 : IntKind.u64.wrap n = n := IntWalk.u64_in _ (by omega)
    have v2 : IntKind.u64.wrap (off + n) = R := by rw [hR]; exact IntWalk.u64_in _ (by omega)
    clear hR h1
    replace hn := Lib.hid hn
    go_enter Try.func56, Try.ntmps56
    go_wp2
    go_ret
    exact ⟨rfl, rfl⟩
  · have m1 : max n 0 = 0 := by omega
    rw [m1] at h1 hR
    have v2 : IntKind.u64.wrap off = R := by rw [← hR, Int.add_zero]; exact IntWalk.u64_in _ (by omega)
    clear hR h1
    replace hn := Lib.hid hn
    go_enter Try.func56, Try.ntmps56
    go_wp2
    go_ret
    exact ⟨rfl, rfl⟩
set_option maxHeartbeats 1000000 in
theorem span_any (a b : Int) (w : World) (h0 : 0 ≤ a) (h1 : b < 9223372036854775808) :
    Calls Try.prog 55 #[.int .u64 a, .int .u64 b] w fun e w' => e = .returned (.agg #[.int .u64 (spn a b).1, .int .u64 (spn a b).2]) ∧ Below w.heap.size w w' := by
  unfold spn
  by_cases h : b ≤ a
  · have d1 : decide (b ≤ a) = true := decide_eq_true h
    rw [if_pos h]
    replace h := Lib.hid h
    go_enter Try.func55, Try.ntmps55
    go_wp2
    exact bodyPost_ret (v := .agg #[.int .u64 1, .int .u64 0]) (by simp [results, Try.results55, go_sem]) rfl ⟨rfl, (Below.refl _ _).alloc (Nat.le_refl _) _⟩
  · have d1 : decide (b ≤ a) = false := decide_eq_false h
    have v1 : IntKind.u64.wrap (b - 1) = b - 1 := IntWalk.u64_in _ (by omega)
    rw [if_neg h]
    replace h := Lib.hid h
    go_enter Try.func55, Try.ntmps55
    go_wp2
    exact bodyPost_ret (v := .agg #[.int .u64 a, .int .u64 (b - 1)]) (by simp [results, Try.results55, go_sem]) rfl ⟨rfl, (Below.refl _ _).alloc (Nat.le_refl _) _⟩
set_option maxHeartbeats 1000000 in
theorem endq_any (s : SS) (u v : Value) (w : World) (h0 : 0 ≤ s.ba) (h1 : en s ≤ 1000000) :
    Calls Try.prog 48 #[.agg #[.int .u64 s.ba, .int .u64 s.tp, .string s.d, u, v, .bool s.fin, .bool s.ft, .bool s.fa]] w fun e w' => e = .returned (.int .u64 (en s)) ∧ Below w.heap.size w w' := by
  obtain ⟨ba, tp, d, ak, td, fin, ft, fa⟩ := s
  unfold en at h1 ⊢
  simp only at h0 h1 ⊢
  have CB := Lib.hid (fun W => behind_any ba (d.size : Int) (ba + (d.size : Int)) W h0 (by omega) (by omega))
  clear h0 h1
  go_enter Try.func48, Try.ntmps48
  go_wp2_with fail
  refine (CB.out _).mono ?_
  rintro e w1 ⟨rfl, rfl⟩
  go_wp2_with fail
  go_ret
  exact ⟨rfl, (Below.refl _ _).alloc (Nat.le_refl _) _⟩
set_option maxHeartbeats 1000000 in
theorem endq_End (s : SS) (u v : Value) (w : World) (h0 : 0 ≤ s.ba) (h1 : en s ≤ 1000000) :
    Calls Try.prog 26 #[.agg #[.int .u64 s.ba, .int .u64 s.tp, .string s.d, u, v, .bool s.fin, .bool s.ft, .bool s.fa]] w fun e w' => e = .returned (.int .u64 (en s)) ∧ Below w.heap.size w w' := by
  have CB := Lib.hid (fun W => endq_any s u v W h0 h1)
  obtain ⟨ba, tp, d, ak, td, fin, ft, fa⟩ := s
  generalize en ⟨ba, tp, d, ak, td, fin, ft, fa⟩ = E at *
  simp only at CB h0 h1 ⊢
  clear h0 h1
  go_enter Try.func26, Try.ntmps26
  go_wp2_with fail
  refine (CB.out _).mono ?_
  rintro e w1 ⟨rfl, hb⟩
  have HB := Lib.hid (nextG ((Below.refl w.heap.size w).alloc (Nat.le_refl _) _) hb)
  clear hb
  go_wp2_with fail
  go_ret
  exact ⟨rfl, HB.out⟩
set_option maxHeartbeats 2000000 in
theorem reached_any (s : SS) (u v : Value) (off n : Int) (w : World) (h0 : 0 ≤ s.ba) (h1 : en s ≤ 1000000) (ha : Rd w u s.ak) (ht : Rd w v s.td) (h2 : 0 ≤ off) (h3 : off + max n 0 < 18446744073709551616) :
    Calls Try.prog 37 #[.agg #[.int .u64 s.ba, .int .u64 s.tp, .string s.d, u, v, .bool s.fin, .bool s.ft, .bool s.fa], .int .u64 off, .int .i64 n] w fun e w' => e = .returned (.int .u64 (min (off + max n 0) (en s))) ∧ Below w.heap.size w w' := by
  have CE := Lib.hid (fun W => endq_any s u v W h0 h1)
  have CB := Lib.hid (fun W => behind_any off n (off + max n 0) W h2 h3 rfl)
  have HS0 := Lib.hid (qr_made w u v s ha ht).dr
  obtain ⟨ba, tp, d, ak, td, fin, ft, fa⟩ := s
  generalize en ⟨ba, tp, d, ak, td, fin, ft, fa⟩ = E at *
  generalize off + max n 0 = F at *
  simp only at CE HS0 ⊢
  clear h0 h1 h2 h3 ha ht
  obtain ⟨M, hM⟩ : ∃ x, min F E = x := ⟨_, rfl⟩
  have hmr := min_run F E M hM
  rw [hM]
  replace hM := Lib.hid hM
  go_enter Try.func37, Try.ntmps37
  go_wp2_with fail
  refine wp_region_noPanic ?_
  refine wp_region_held_drew (S := fun W : World => QR w W u v ⟨ba, tp, d, ak, td, fin, ft, fa⟩) (by kernel_rfl) ?_ (fun hHeld => ?_)
  · exact HS0.out
  refine wpAnyH_take (i := 0) (v := ?_) rfl (by kernel_rfl) (by kernel_rfl) (by kernel_rfl) (fun _ _ _ h => h) (Or.inl ⟨by rfl, ?_⟩) (by assumption) ?_
  rotate_left
  · (intro w hSw; (have c0 := hSw.q.c0; have c1 := hSw.q.c1; have c2 := hSw.q.c2; have c3 := hSw.q.c3; have c4 := hSw.q.c4; have c5 := hSw.q.c5; have c6 := hSw.q.c6; have c7 := hSw.q.c7; simp only at c0 c1 c2 c5 c6 c7); go_simp; (try with_reducible rfl))
  try simp only [Act.put, List.getElem_toArray, List.getElem_cons_zero, List.getElem_cons_succ, List.setIfInBounds_toArray, List.set_cons_zero, List.set_cons_succ]
  refine wpAnyH_take (i := 1) (v := ?_) rfl (by kernel_rfl) (by kernel_rfl) (by kernel_rfl) (fun _ _ _ h => h) (Or.inl ⟨by rfl, ?_⟩) (by assumption) ?_
  rotate_left
  · (intro w hSw; (have c0 := hSw.q.c0; have c1 := hSw.q.c1; have c2 := hSw.q.c2; have c3 := hSw.q.c3; have c4 := hSw.q.c4; have c5 := hSw.q.c5; have c6 := hSw.q.c6; have c7 := hSw.q.c7; simp only at c0 c1 c2 c5 c6 c7); go_simp; (try with_reducible rfl))
  try simp only [Act.put, List.getElem_toArray, List.getElem_cons_zero, List.getElem_cons_succ, List.setIfInBounds_toArray, List.set_cons_zero, List.set_cons_succ]
  refine wpAnyH_take (i := 3) (v := ?_) rfl (by kernel_rfl) (by kernel_rfl) (by kernel_rfl) (fun _ _ _ h => h) (Or.inl ⟨by rfl, ?_⟩) (by assumption) ?_
  rotate_left
  · (intro w hSw; (have c0 := hSw.q.c0; have c1 := hSw.q.c1; have c2 := hSw.q.c2; have c3 := hSw.q.c3; have c4 := hSw.q.c4; have c5 := hSw.q.c5; have c6 := hSw.q.c6; have c7 := hSw.q.c7; simp only at c0 c1 c2 c5 c6 c7); go_simp; (try with_reducible rfl))
  try simp only [Act.put, List.getElem_toArray, List.getElem_cons_zero, List.getElem_cons_succ, List.setIfInBounds_toArray, List.set_cons_zero, List.set_cons_succ]
  refine wpAnyH_ready (rs := [2]) (by kernel_rfl) (by simp) ?_
  refine AllReadyH.cons rfl (fun K hK => ?_) AllReadyH.nil
  rw [if_pos (by rfl)]
  go_simp
  refine (CB.out _).mono ?_
  rintro e wx1 ⟨rfl, rfl⟩
  have HX1 := HS0
  refine hK.out _ _ ?_ (fun hHeld => ?_)
  · exact HX1.out
  clear hK K
  try simp only [Act.put, List.getElem_toArray, List.getElem_cons_zero, List.getElem_cons_succ, List.setIfInBounds_toArray, List.set_cons_zero, List.set_cons_succ]
  refine wpAnyH_ready (rs := [4]) (by kernel_rfl) (by simp) ?_
  refine AllReadyH.cons rfl (fun K hK => ?_) AllReadyH.nil
  rw [if_pos (by rfl)]
  go_simp
  refine (CE.out _).mono ?_
  rintro e wx2 ⟨rfl, hb⟩
  have HX2 := Lib.hid (HX1.out.go hb)
  clear hb
  refine hK.out _ _ ?_ (fun hHeld => ?_)
  · exact HX2.out
  clear hK K
  try simp only [Act.put, List.getElem_toArray, List.getElem_cons_zero, List.getElem_cons_succ, List.setIfInBounds_toArray, List.set_cons_zero, List.set_cons_succ]
  refine wpAnyH_take (i := 5) (v := ?_) rfl (by kernel_rfl) (by kernel_rfl) (by kernel_rfl) (fun _ _ _ h => h) (Or.inl ⟨by rfl, ?_⟩) (by assumption) ?_
  rotate_left
  · (intro w hSw; (have c0 := hSw.q.c0; have c1 := hSw.q.c1; have c2 := hSw.q.c2; have c3 := hSw.q.c3; have c4 := hSw.q.c4; have c5 := hSw.q.c5; have c6 := hSw.q.c6; have c7 := hSw.q.c7; simp only at c0 c1 c2 c5 c6 c7); go_simp; (try with_reducible rfl))
  try simp only [Act.put, List.getElem_toArray, List.getElem_cons_zero, List.getElem_cons_succ, List.setIfInBounds_toArray, List.set_cons_zero, List.set_cons_succ]
  refine wpAnyH_take (i := 6) (v := ?_) rfl (by kernel_rfl) (by kernel_rfl) (by kernel_rfl) (fun _ _ _ h => h) (Or.inl ⟨by rfl, ?_⟩) (by assumption) ?_
  rotate_left
  · (intro w hSw; (have c0 := hSw.q.c0; have c1 := hSw.q.c1; have c2 := hSw.q.c2; have c3 := hSw.q.c3; have c4 := hSw.q.c4; have c5 := hSw.q.c5; have c6 := hSw.q.c6; have c7 := hSw.q.c7; simp only at c0 c1 c2 c5 c6 c7); go_simp; (try with_reducible rfl))
  try simp only [Act.put, List.getElem_toArray, List.getElem_cons_zero, List.getElem_cons_succ, List.setIfInBounds_toArray, List.set_cons_zero, List.set_cons_succ]
  refine wpAnyH_done (by kernel_rfl) (NoPanic.normal ?_) _
  go_wp2_with fail
  go_ret
  exact ⟨rfl, hHeld.bl⟩
end Go.Proofs.Ytedijfcagkedaaa.Rg
