/- Layer 15: the walks of a state's places. By tools/gen-sendq-2.py. -/
import Derived.Test.YtedijfcagkedaaaSqB
namespace Go.Proofs.Ytedijfcagkedaaa.Rg
set_option maxRecDepth 20000
open Go.RowKit Go.Shelf
set_option linter.unusedVariables false
set_option linter.unusedSimpArgs false

theorem infRg : (Try.prog.info? 68).map (·.size) = some 2 := by kernel_rfl
/-- A block of two cells. -/
def Bk2 (W : World) (g : Nat) (Y : TypeId) (x y : Value) : Prop := W.heap[g]? = some (.cells #[x, y] Y (0, 0))
theorem Bk2.lt {W : World} {g : Nat} {Y : TypeId} {x y : Value} (h : Bk2 W g Y x y) : g < W.heap.size := (Array.getElem?_eq_some_iff.1 h).1
theorem Bk2.go {W W' : World} {g : Nat} {Y : TypeId} {x y : Value} (h : Bk2 W g Y x y) (hb : Below W.heap.size W W') : Bk2 W' g Y x y := (hb.block g h.lt).trans h
theorem Bk2.c0 {W : World} {g : Nat} {Y : TypeId} {x y : Value} (h : Bk2 W g Y x y) : W.cell? ⟨g, 0, none⟩ = some x := Lib.cell_of_heap h 0
theorem Bk2.c1 {W : World} {g : Nat} {Y : TypeId} {x y : Value} (h : Bk2 W g Y x y) : W.cell? ⟨g, 1, none⟩ = some y := Lib.cell_of_heap h 1
theorem Bk2.fz {W : World} {g : Nat} {Y : TypeId} {x y : Value} (h : Bk2 W g Y x y) (j : Nat) : W.frozen? ⟨g, j, none⟩ = false := Lib.frozen_of_heap h j
theorem Bk2.put {W : World} {g : Nat} {Y : TypeId} {x y : Value} (h : Bk2 W g Y x y) (x' y' : Value) : Bk2 ((W.setCell ⟨g, 0, none⟩ x').setCell ⟨g, 1, none⟩ y') g Y x' y' := by
  have h0 := Joins.block_setCell (i := 0) h x'
  have h1 := Joins.block_setCell (i := 1) h0 y'
  unfold Bk2
  rw [h1]
  simp
theorem bk2_made (W : World) (Y : TypeId) (x y : Value) : Bk2 (W.alloc (.cells #[x, y] Y)) W.heap.size Y x y := heap_alloc_new W _
theorem below_put2 {n : Nat} {w0 W : World} (h : Below n w0 W) {g : Nat} (hg : n ≤ g) (x y : Value) : Below n w0 ((W.setCell ⟨g, 0, none⟩ x).setCell ⟨g, 1, none⟩ y) := Below.setCell (Below.setCell h (p := ⟨g, 0, none⟩) hg _) (p := ⟨g, 1, none⟩) hg _
theorem QR.put2 {w W : World} {u v : Value} {s : SS} (h : QR w W u v s) {g : Nat} (hg : w.heap.size < g) (ha : ¬ Blk u g) (ht : ¬ Blk v g) (x y : Value) : QR w ((W.setCell ⟨g, 0, none⟩ x).setCell ⟨g, 1, none⟩ y) u v s :=
  ⟨(h.q.other (by omega) ha ht x).other (by omega) ha ht y, below_put2 h.bl (by omega) x y⟩
set_option maxHeartbeats 2000000 in
theorem places_any (s : SS) (u v : Value) (off n : Int) (P1 P2 : Int) (w : World) (h0 : 0 ≤ s.ba) (h1 : en s ≤ 1000000) (ha : Rd w u s.ak) (ht : Rd w v s.td) (h2 : 0 ≤ off) (h3 : off + max n 0 < 18446744073709551616) (hP : plS s off n = (P1, P2)) :
    Calls Try.prog 36 #[.agg #[.int .u64 s.ba, .int .u64 s.tp, .string s.d, u, v, .bool s.fin, .bool s.ft, .bool s.fa], .int .u64 off, .int .i64 n] w fun e w' => e = .returned (.agg #[.int .u64 P1, .int .u64 P2]) ∧ Below w.heap.size w w' := by
  obtain ⟨M, hM⟩ : ∃ x, max off s.ba = x := ⟨_, rfl⟩
  obtain ⟨L, hL⟩ : ∃ x, min (off + max n 0) (en s) = x := ⟨_, rfl⟩
  have hmr := max_run off s.ba M hM
  have CR := Lib.hid (fun W (hb : Below w.heap.size w W) => reached_any s u v off n W h0 h1 (ha.go hb) (ht.go hb) h2 h3)
  rw [hL] at CR
  have CS := Lib.hid (fun W => span_any M L W (by omega) (by omega))
  unfold plS at hP
  rw [hM, hL] at hP
  rw [hP] at CS
  have HS0 := Lib.hid ((qr_made w u v s ha ht).al (.cells #[.int .u64 0, .int .u64 0] 68)).dr
  have HZ : Hid (Bk2 (((w.alloc (.cells #[.int .u64 s.ba, .int .u64 s.tp, .string s.d, u, v, .bool s.fin, .bool s.ft, .bool s.fa] 29)).alloc (.cells #[.int .u64 0, .int .u64 0] 68)).drew) (w.heap.size + 1) 68 (.int .u64 0) (.int .u64 0)) := Lib.hid (by
    have := (bk2_made (w.alloc (.cells #[.int .u64 s.ba, .int .u64 s.tp, .string s.d, u, v, .bool s.fin, .bool s.ft, .bool s.fa] 29)) 68 (.int .u64 0) (.int .u64 0)).go (Below.refl _ _).drew
    simpa using this)
  have NA : Hid (¬ Blk u (w.heap.size + 1)) := Lib.hid (fun h => by have := ha.blk h; omega)
  have NT : Hid (¬ Blk v (w.heap.size + 1)) := Lib.hid (fun h => by have := ht.blk h; omega)
  obtain ⟨ba, tp, d, ak, td, fin, ft, fa⟩ := s
  simp only at CR HS0 HZ hmr ⊢
  clear h0 h1 ha ht h2 h3 hP hM hL
  go_enter Try.func36, Try.ntmps36
  go_wp2_with fail
  refine wp_region_noPanic ?_
  refine wp_region_held_drew (S := fun W : World => QR w W u v ⟨ba, tp, d, ak, td, fin, ft, fa⟩) (by kernel_rfl) ?_ (fun hHeld => ?_)
  · exact HS0.out
  refine wpAnyH_take (i := 0) (v := ?_) rfl (by kernel_rfl) (by kernel_rfl) (by kernel_rfl) (fun _ _ _ h => h) (Or.inl ⟨by rfl, ?_⟩) (by assumption) ?_
  rotate_left
  · (intro w hSw; (have c0 := hSw.q.c0; have c1 := hSw.q.c1; have c2 := hSw.q.c2; have c3 := hSw.q.c3; have c4 := hSw.q.c4; have c5 := hSw.q.c5; have c6 := hSw.q.c6; have c7 := hSw.q.c7; simp only at c0 c1 c2 c5 c6 c7); go_simp; (try with_reducible rfl))
  try simp only [Act.put, List.getElem_toArray, List.getElem_cons_zero, List.getElem_cons_succ, List.setIfInBounds_toArray, List.set_cons_zero, List.set_cons_succ]
  refine wpAnyH_take (i := 1) (v := ?_) rfl (by kernel_rfl) (by kernel_rfl) (by kernel_rfl) (fun _ _ _ h => h) (Or.inl ⟨by rfl, ?_⟩) (by assumption) ?_
  rotate_left
  · (intro w hSw; (have c0 := hSw.q.c0; have c1 := hSw.q.c1; have c2 := hSw.q.c2; have c3 := hSw.q.c3; have c4 := hSw.q.c4; have c5 := hSw.q.c5; have c6 := hSw.q.c6; have c7 := hSw.q.c7; simp only at c0 c1 c2 c5 c6 c7); go_simp; (try with_reducible rfl))
  try simp only [Act.put, List.getElem_toArray, List.getElem_cons_zero, List.getElem_cons_succ, List.setIfInBounds_toArray, List.set_cons_zero, List.set_cons_succ]
  refine wpAnyH_take (i := 2) (v := ?_) rfl (by kernel_rfl) (by kernel_rfl) (by kernel_rfl) (fun _ _ _ h => h) (Or.inl ⟨by rfl, ?_⟩) (by assumption) ?_
  rotate_left
  · (intro w hSw; (have c0 := hSw.q.c0; have c1 := hSw.q.c1; have c2 := hSw.q.c2; have c3 := hSw.q.c3; have c4 := hSw.q.c4; have c5 := hSw.q.c5; have c6 := hSw.q.c6; have c7 := hSw.q.c7; simp only at c0 c1 c2 c5 c6 c7); go_simp; (try with_reducible rfl))
  try simp only [Act.put, List.getElem_toArray, List.getElem_cons_zero, List.getElem_cons_succ, List.setIfInBounds_toArray, List.set_cons_zero, List.set_cons_succ]
  refine wpAnyH_take (i := 3) (v := ?_) rfl (by kernel_rfl) (by kernel_rfl) (by kernel_rfl) (fun _ _ _ h => h) (Or.inl ⟨by rfl, ?_⟩) (by assumption) ?_
  rotate_left
  · (intro w hSw; (have c0 := hSw.q.c0; have c1 := hSw.q.c1; have c2 := hSw.q.c2; have c3 := hSw.q.c3; have c4 := hSw.q.c4; have c5 := hSw.q.c5; have c6 := hSw.q.c6; have c7 := hSw.q.c7; simp only at c0 c1 c2 c5 c6 c7); go_simp; (try with_reducible rfl))
  try simp only [Act.put, List.getElem_toArray, List.getElem_cons_zero, List.getElem_cons_succ, List.setIfInBounds_toArray, List.set_cons_zero, List.set_cons_succ]
  refine wpAnyH_take (i := 4) (v := ?_) rfl (by kernel_rfl) (by kernel_rfl) (by kernel_rfl) (fun _ _ _ h => h) (Or.inl ⟨by rfl, ?_⟩) (by assumption) ?_
  rotate_left
  · (intro w hSw; (have c0 := hSw.q.c0; have c1 := hSw.q.c1; have c2 := hSw.q.c2; have c3 := hSw.q.c3; have c4 := hSw.q.c4; have c5 := hSw.q.c5; have c6 := hSw.q.c6; have c7 := hSw.q.c7; simp only at c0 c1 c2 c5 c6 c7); go_simp; (try with_reducible rfl))
  try simp only [Act.put, List.getElem_toArray, List.getElem_cons_zero, List.getElem_cons_succ, List.setIfInBounds_toArray, List.set_cons_zero, List.set_cons_succ]
  refine wpAnyH_take (i := 5) (v := ?_) rfl (by kernel_rfl) (by kernel_rfl) (by kernel_rfl) (fun _ _ _ h => h) (Or.inl ⟨by rfl, ?_⟩) (by assumption) ?_
  rotate_left
  · (intro w hSw; (have c0 := hSw.q.c0; have c1 := hSw.q.c1; have c2 := hSw.q.c2; have c3 := hSw.q.c3; have c4 := hSw.q.c4; have c5 := hSw.q.c5; have c6 := hSw.q.c6; have c7 := hSw.q.c7; simp only at c0 c1 c2 c5 c6 c7); go_simp; (try with_reducible rfl))
  try simp only [Act.put, List.getElem_toArray, List.getElem_cons_zero, List.getElem_cons_succ, List.setIfInBounds_toArray, List.set_cons_zero, List.set_cons_succ]
  refine wpAnyH_take (i := 6) (v := ?_) rfl (by kernel_rfl) (by kernel_rfl) (by kernel_rfl) (fun _ _ _ h => h) (Or.inl ⟨by rfl, ?_⟩) (by assumption) ?_
  rotate_left
  · (intro w hSw; (have c0 := hSw.q.c0; have c1 := hSw.q.c1; have c2 := hSw.q.c2; have c3 := hSw.q.c3; have c4 := hSw.q.c4; have c5 := hSw.q.c5; have c6 := hSw.q.c6; have c7 := hSw.q.c7; simp only at c0 c1 c2 c5 c6 c7); go_simp; (try with_reducible rfl))
  try simp only [Act.put, List.getElem_toArray, List.getElem_cons_zero, List.getElem_cons_succ, List.setIfInBounds_toArray, List.set_cons_zero, List.set_cons_succ]
  refine wpAnyH_ready (rs := [7]) (by kernel_rfl) (by simp) ?_
  refine AllReadyH.cons rfl (fun K hK => ?_) AllReadyH.nil
  rw [if_pos (by rfl)]
  go_simp
  refine (CR.out _ HS0.out.bl).mono ?_
  rintro e w1 ⟨rfl, hb⟩
  have HS1 := Lib.hid (HS0.out.go hb)
  have HZ1 := Lib.hid (HZ.out.go hb)
  clear hb
  refine hK.out _ _ ?_ (fun hHeld => ?_)
  · exact HS1.out
  clear hK K
  try simp only [Act.put, List.getElem_toArray, List.getElem_cons_zero, List.getElem_cons_succ, List.setIfInBounds_toArray, List.set_cons_zero, List.set_cons_succ]
  refine wpAnyH_ready (rs := [8]) (by kernel_rfl) (by simp) ?_
  refine AllReadyH.cons rfl (fun K hK => ?_) AllReadyH.nil
  rw [if_pos (by rfl)]
  go_simp
  refine (CS.out _).mono ?_
  rintro e w2 ⟨rfl, hb⟩
  have HS2 := Lib.hid (HS1.out.go hb)
  have HZ2 := Lib.hid (HZ1.out.go hb)
  have z0 := HZ2.out.c0
  have z1 := HZ2.out.c1
  have zf := HZ2.out.fz
  clear hb
  refine hK.out _ _ ?_ (fun hHeld => ?_)
  · exact HS2.out
  clear hK K
  try simp only [Act.put, List.getElem_toArray, List.getElem_cons_zero, List.getElem_cons_succ, List.setIfInBounds_toArray, List.set_cons_zero, List.set_cons_succ]
  refine wpAnyH_ready (rs := [9]) (by kernel_rfl) (by simp) ?_
  refine AllReadyH.cons rfl (fun K hK => ?_) AllReadyH.nil
  rw [if_pos (by rfl)]
  go_simp
  refine hK.out _ _ ?_ (fun hHeld => ?_)
  · exact HS2.out.put2 (by omega) NA.out NT.out _ _
  clear hK K
  try simp only [Act.put, List.getElem_toArray, List.getElem_cons_zero, List.getElem_cons_succ, List.setIfInBounds_toArray, List.set_cons_zero, List.set_cons_succ]
  refine wpAnyH_done (by kernel_rfl) (NoPanic.normal ?_) _
  have HF := Lib.hid (HZ2.out.put (.int .u64 P1) (.int .u64 P2))
  go_wp2_with fail
  exact bodyPost_ret (v := .agg #[.int .u64 P1, .int .u64 P2]) (results_cell_row Try.results36 _ _ (w.heap.size + 1) _ _ _ _ rfl HF.out Try.underlying68 rfl infRg) rfl ⟨rfl, hHeld.bl⟩
set_option maxHeartbeats 2000000 in
theorem missing_any (s : SS) (a1 : Option Addr) (n1 c1 : Nat) (v : Value) (off n : Int) (w : World) (hs : Mid s) (hl : s.ak.length ≤ 1000) (ha : Rd w (.slice a1 n1 c1) s.ak) (ht : Rd w v s.td) (h2 : 0 ≤ off) (h3 : off + max n 0 < 18446744073709551616) :
    Calls Try.prog 42 #[.agg #[.int .u64 s.ba, .int .u64 s.tp, .string s.d, .slice a1 n1 c1, v, .bool s.fin, .bool s.ft, .bool s.fa], .int .u64 off, .int .i64 n] w fun e w' => ∃ a c, e = .returned (.slice a (lack s.ak (plS s off n)).length c) ∧ Rd w' (.slice a (lack s.ak (plS s off n)).length c) (lack s.ak (plS s off n)) ∧ Below w.heap.size w w' := by
  have hn1 : n1 ≤ 1000 := by obtain ⟨_, _, e, _⟩ := id ha; cases e; omega
  obtain ⟨P1, P2, hP⟩ : ∃ P1 P2, plS s off n = (P1, P2) := ⟨_, _, rfl⟩
  have hg := pl_goodM hs off n
  rw [hP] at hg ⊢
  have CP := Lib.hid (fun W (hb : Below w.heap.size w W) => places_any s (.slice a1 n1 c1) v off n P1 P2 W hs.b0 hs.b1 (ha.go hb) (ht.go hb) h2 h3 hP)
  have CG := Lib.hid (fun W (h : Rd W (.slice a1 n1 c1) s.ak) => gaps_is a1 n1 c1 s.ak P1 P2 W hn1 hs.ca hg.1 hg.2 h)
  have HS0 := Lib.hid (qr_made w (.slice a1 n1 c1) v s ha ht).dr
  clear hs hl ha ht h2 h3 hg hP hn1
  obtain ⟨ba, tp, d, ak, td, fin, ft, fa⟩ := s
  simp only at CP CG HS0 ⊢
  go_enter Try.func42, Try.ntmps42
  go_wp2_with fail
  refine wp_region_noPanic ?_
  refine wp_region_held_drew (S := fun W : World => QR w W (.slice a1 n1 c1) v ⟨ba, tp, d, ak, td, fin, ft, fa⟩) (by kernel_rfl) ?_ (fun hHeld => ?_)
  · exact HS0.out
  refine wpAnyH_take (i := 0) (v := ?_) rfl (by kernel_rfl) (by kernel_rfl) (by kernel_rfl) (fun _ _ _ h => h) (Or.inl ⟨by rfl, ?_⟩) (by assumption) ?_
  rotate_left
  · (intro w hSw; (have c0 := hSw.q.c0; have c1 := hSw.q.c1; have c2 := hSw.q.c2; have c3 := hSw.q.c3; have c4 := hSw.q.c4; have c5 := hSw.q.c5; have c6 := hSw.q.c6; have c7 := hSw.q.c7; simp only at c0 c1 c2 c5 c6 c7); go_simp; (try with_reducible rfl))
  try simp only [Act.put, List.getElem_toArray, List.getElem_cons_zero, List.getElem_cons_succ, List.setIfInBounds_toArray, List.set_cons_zero, List.set_cons_succ]
  refine wpAnyH_take (i := 1) (v := ?_) rfl (by kernel_rfl) (by kernel_rfl) (by kernel_rfl) (fun _ _ _ h => h) (Or.inl ⟨by rfl, ?_⟩) (by assumption) ?_
  rotate_left
  · (intro w hSw; (have c0 := hSw.q.c0; have c1 := hSw.q.c1; have c2 := hSw.q.c2; have c3 := hSw.q.c3; have c4 := hSw.q.c4; have c5 := hSw.q.c5; have c6 := hSw.q.c6; have c7 := hSw.q.c7; simp only at c0 c1 c2 c5 c6 c7); go_simp; (try with_reducible rfl))
  try simp only [Act.put, List.getElem_toArray, List.getElem_cons_zero, List.getElem_cons_succ, List.setIfInBounds_toArray, List.set_cons_zero, List.set_cons_succ]
  refine wpAnyH_take (i := 2) (v := ?_) rfl (by kernel_rfl) (by kernel_rfl) (by kernel_rfl) (fun _ _ _ h => h) (Or.inl ⟨by rfl, ?_⟩) (by assumption) ?_
  rotate_left
  · (intro w hSw; (have c0 := hSw.q.c0; have c1 := hSw.q.c1; have c2 := hSw.q.c2; have c3 := hSw.q.c3; have c4 := hSw.q.c4; have c5 := hSw.q.c5; have c6 := hSw.q.c6; have c7 := hSw.q.c7; simp only at c0 c1 c2 c5 c6 c7); go_simp; (try with_reducible rfl))
  try simp only [Act.put, List.getElem_toArray, List.getElem_cons_zero, List.getElem_cons_succ, List.setIfInBounds_toArray, List.set_cons_zero, List.set_cons_succ]
  refine wpAnyH_take (i := 3) (v := ?_) rfl (by kernel_rfl) (by kernel_rfl) (by kernel_rfl) (fun _ _ _ h => h) (Or.inl ⟨by rfl, ?_⟩) (by assumption) ?_
  rotate_left
  · (intro w hSw; (have c0 := hSw.q.c0; have c1 := hSw.q.c1; have c2 := hSw.q.c2; have c3 := hSw.q.c3; have c4 := hSw.q.c4; have c5 := hSw.q.c5; have c6 := hSw.q.c6; have c7 := hSw.q.c7; simp only at c0 c1 c2 c5 c6 c7); go_simp; (try with_reducible rfl))
  try simp only [Act.put, List.getElem_toArray, List.getElem_cons_zero, List.getElem_cons_succ, List.setIfInBounds_toArray, List.set_cons_zero, List.set_cons_succ]
  refine wpAnyH_take (i := 4) (v := ?_) rfl (by kernel_rfl) (by kernel_rfl) (by kernel_rfl) (fun _ _ _ h => h) (Or.inl ⟨by rfl, ?_⟩) (by assumption) ?_
  rotate_left
  · (intro w hSw; (have c0 := hSw.q.c0; have c1 := hSw.q.c1; have c2 := hSw.q.c2; have c3 := hSw.q.c3; have c4 := hSw.q.c4; have c5 := hSw.q.c5; have c6 := hSw.q.c6; have c7 := hSw.q.c7; simp only at c0 c1 c2 c5 c6 c7); go_simp; (try with_reducible rfl))
  try simp only [Act.put, List.getElem_toArray, List.getElem_cons_zero, List.getElem_cons_succ, List.setIfInBounds_toArray, List.set_cons_zero, List.set_cons_succ]
  refine wpAnyH_ready (rs := [5]) (by kernel_rfl) (by simp) ?_
  refine AllReadyH.cons rfl (fun K hK => ?_) AllReadyH.nil
  rw [if_pos (by rfl)]
  go_simp
  refine (CP.out _ HS0.out.bl).mono ?_
  rintro e w1 ⟨rfl, hb⟩
  have HS1 := Lib.hid (HS0.out.go hb)
  clear hb
  refine hK.out _ _ ?_ (fun hHeld => ?_)
  · exact HS1.out
  clear hK K
  try simp only [Act.put, List.getElem_toArray, List.getElem_cons_zero, List.getElem_cons_succ, List.setIfInBounds_toArray, List.set_cons_zero, List.set_cons_succ]
  refine wpAnyH_ready (rs := [6]) (by kernel_rfl) (by simp) ?_
  refine AllReadyH.cons rfl (fun K hK => ?_) AllReadyH.nil
  rw [if_pos (by rfl)]
  go_simp
  refine (CG.out _ HS1.out.q.ra).mono ?_
  rintro e w2 ⟨a2, c2, rfl, hr, hb⟩
  have HR2 := Lib.hid hr
  have HS2 := Lib.hid (HS1.out.go hb)
  clear hr hb
  refine hK.out _ _ ?_ (fun hHeld => ?_)
  · exact HS2.out
  clear hK K
  try simp only [Act.put, List.getElem_toArray, List.getElem_cons_zero, List.getElem_cons_succ, List.setIfInBounds_toArray, List.set_cons_zero, List.set_cons_succ]
  refine wpAnyH_take (i := 7) (v := ?_) rfl (by kernel_rfl) (by kernel_rfl) (by kernel_rfl) (fun _ _ _ h => h) (Or.inl ⟨by rfl, ?_⟩) (by assumption) ?_
  rotate_left
  · (intro w hSw; (have c0 := hSw.q.c0; have c1 := hSw.q.c1; have c2 := hSw.q.c2; have c3 := hSw.q.c3; have c4 := hSw.q.c4; have c5 := hSw.q.c5; have c6 := hSw.q.c6; have c7 := hSw.q.c7; simp only at c0 c1 c2 c5 c6 c7); go_simp; (try with_reducible rfl))
  try simp only [Act.put, List.getElem_toArray, List.getElem_cons_zero, List.getElem_cons_succ, List.setIfInBounds_toArray, List.set_cons_zero, List.set_cons_succ]
  refine wpAnyH_done (by kernel_rfl) (NoPanic.normal ?_) _
  go_wp2_with fail
  go_ret
  exact ⟨a2, c2, rfl, HR2.out, HS2.out.bl⟩
theorem max_run64 (x y z : Int) (h : max x y = z) (ts : Array TypeId) (t : TypeId) (w : World) : (Builtin.max_ ts t #[.int .i64 x, .int .i64 y]).run Try.prog w = .ok (.int .i64 z) w := by
  rw [run_max_int2, ← h]
  by_cases h : y > x
  · rw [if_pos h, show max x y = y by omega]
  · rw [if_neg h, show max x y = x by omega]
theorem min_run64 (x y z : Int) (h : min x y = z) (ts : Array TypeId) (t : TypeId) (w : World) : (Builtin.min_ ts t #[.int .i64 x, .int .i64 y]).run Try.prog w = .ok (.int .i64 z) w := by
  rw [run_min_int2, ← h]
  by_cases h : y < x
  · rw [if_pos h, show min x y = y by omega]
  · rw [if_neg h, show min x y = x by omega]
set_option maxHeartbeats 1000000 in
theorem free_any (s : SS) (u v : Value) (room : Int) (w : World) (h0 : 0 ≤ s.ba) (h1 : en s ≤ 1000000) (h2 : room < 9223372036854775808) :
    Calls Try.prog 32 #[.agg #[.int .u64 s.ba, .int .u64 s.tp, .string s.d, u, v, .bool s.fin, .bool s.ft, .bool s.fa], .int .i64 room] w fun e w' => e = .returned (.int .i64 (frS s room)) ∧ Below w.heap.size w w' := by
  unfold frS
  unfold en at h1
  obtain ⟨ba, tp, d, ak, td, fin, ft, fa⟩ := s
  simp only at h0 h1 ⊢
  obtain ⟨M, hM⟩ : ∃ x, max room (d.size : Int) = x := ⟨_, rfl⟩
  have hmr := max_run64 room d.size M hM
  have v1 : IntKind.i64.wrap (M - (d.size : Int)) = M - (d.size : Int) := IntWalk.i64_in _ (by omega)
  rw [hM]
  clear h0 h1 h2 hM
  go_enter Try.func32, Try.ntmps32
  go_wp2
  go_ret
  exact ⟨rfl, (Below.refl _ _).alloc (Nat.le_refl _) _⟩
set_option maxHeartbeats 1000000 in
theorem bytes_any (s : SS) (u v : Value) (lo hi : Int) (D : ByteArray) (w : World) (h0 : 0 ≤ s.ba) (h1 : en s ≤ 1000000) (h2 : s.ba ≤ lo) (h3 : lo ≤ hi) (h4 : hi ≤ en s) (hD : s.d.extract (lo - s.ba).toNat (hi - s.ba).toNat = D) :
    Calls Try.prog 50 #[.agg #[.int .u64 s.ba, .int .u64 s.tp, .string s.d, u, v, .bool s.fin, .bool s.ft, .bool s.fa], .int .u64 lo, .int .u64 hi] w fun e w' => e = .returned (.string D) ∧ Below w.heap.size w w' := by
  unfold en at h1 h4
  obtain ⟨ba, tp, d, ak, td, fin, ft, fa⟩ := s
  simp only at h0 h1 h2 h4 hD ⊢
  have v1 : IntKind.u64.wrap (lo - ba) = lo - ba := IntWalk.u64_in _ (by omega)
  have v2 : IntKind.u64.wrap (hi - ba) = hi - ba := IntWalk.u64_in _ (by omega)
  have b1 : 0 ≤ lo - ba := by omega
  have b2 : lo - ba ≤ hi - ba := by omega
  have b3 : hi - ba ≤ (d.size : Int) := by omega
  have HD := Lib.hid hD
  clear h0 h1 h2 h3 h4 hD
  go_enter Try.func50, Try.ntmps50
  go_wp2
  rw [HD.out]
  go_ret
  exact ⟨rfl, (Below.refl _ _).alloc (Nat.le_refl _) _⟩
set_option maxHeartbeats 1000000 in
theorem endTodo_any (s : SS) (u v : Value) (w : World) :
    Calls Try.prog 51 #[.agg #[.int .u64 s.ba, .int .u64 s.tp, .string s.d, u, v, .bool s.fin, .bool s.ft, .bool s.fa]] w fun e w' => e = .returned (.bool (s.fin && s.ft)) ∧ Below w.heap.size w w' := by
  obtain ⟨ba, tp, d, ak, td, fin, ft, fa⟩ := s
  simp only
  cases fin with
  | false =>
    go_enter Try.func51, Try.ntmps51
    go_wp2
    go_ret
    exact ⟨rfl, (Below.refl _ _).alloc (Nat.le_refl _) _⟩
  | true =>
    go_enter Try.func51, Try.ntmps51
    go_wp2
    go_ret
    exact ⟨rfl, (Below.refl _ _).alloc (Nat.le_refl _) _⟩
end Go.Proofs.Ytedijfcagkedaaa.Rg
