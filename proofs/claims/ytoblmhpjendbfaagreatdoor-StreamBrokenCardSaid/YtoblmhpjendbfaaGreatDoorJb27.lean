/- Layer 15: the walks of a state's places · SqD -/
import Derived.Test.YtoblmhpjendbfaaGreatDoorJb26
import Derived.Test.YtoblmhpjendbfaaGreatDoorJb01
namespace Go.Proofs.YtoblmhpjendbfaaGreatDoor.Rg
set_option maxRecDepth 20000
open Go.RowKit Go.Shelf
set_option linter.unusedVariables false
set_option linter.unusedSimpArgs false

theorem infRg : (Tryz.prog.info? 153).map (·.size) = some 2 := by kernel_rfl
/-- A block of two cells. -/
def Bk2 (W : World) (g : Nat) (Y : TypeId) (x y : Value) : Prop := W.heap[g]? = some (.cells #[x, y] Y (0, 0))
theorem Bk2.lt {W : World} {g : Nat} {Y : TypeId} {x y : Value} (h : Bk2 W g Y x y) : g < W.heap.size := (Array.getElem?_eq_some_iff.1 h).1
theorem Bk2.go {W W' : World} {g : Nat} {Y : TypeId} {x y : Value} (h : Bk2 W g Y x y) (hb : Below W.heap.size W W') : Bk2 W' g Y x y := (hb.block g h.lt).trans h
theorem Bk2.c0 {W : World} {g : Nat} {Y : TypeId} {x y : Value} (h : Bk2 W g Y x y) : W.cell? ⟨g, 0, none⟩ = some x := Lib.cell_of_heap h 0
theorem Bk2.c1 {W : World} {g : Nat} {Y : TypeId} {x y : Value} (h : Bk2 W g Y x y) : W.cell? ⟨g, 1, none⟩ = some y := Lib.cell_of_heap h 1
theorem Bk2.fz {W : World} {g : Nat} {Y : TypeId} {x y : Value} (h : Bk2 W g Y x y) (j : Nat) : W.frozen? ⟨g, j, none⟩ = false := Lib.frozen_of_heap h j
theorem Bk2.put {W : World} {g : Nat} {Y : TypeId} {x y : Value} (h : Bk2 W g Y x y) (x' y' : Value) : Bk2 ((W.setCell ⟨g, 0, none⟩ x').setCell ⟨g, 1, none⟩ y') g Y x' y' := by
  have h0 := Joins.block_setCell (i := 0) h x'
  have h1 := Joins.block_setCell (i := 1) h0 y'
  unfold Bk2
  rw [h1]
  simp
theorem bk2_made (W : World) (Y : TypeId) (x y : Value) : Bk2 (W.alloc (.cells #[x, y] Y)) W.heap.size Y x y := heap_alloc_new W _
theorem below_put2 {n : Nat} {w0 W : World} (h : Below n w0 W) {g : Nat} (hg : n ≤ g) (x y : Value) : Below n w0 ((W.setCell ⟨g, 0, none⟩ x).setCell ⟨g, 1, none⟩ y) := Below.setCell (Below.setCell h (p := ⟨g, 0, none⟩) hg _) (p := ⟨g, 1, none⟩) hg _
theorem QR.put2 {w W : World} {u v : Value} {s : SS} (h : QR w W u v s) {g : Nat} (hg : w.heap.size < g) (ha : ¬ Blk u g) (ht : ¬ Blk v g) (x y : Value) : QR w ((W.setCell ⟨g, 0, none⟩ x).setCell ⟨g, 1, none⟩ y) u v s :=
  ⟨(h.q.other (by omega) ha ht x).other (by omega) ha ht y, below_put2 h.bl (by omega) x y⟩
set_option maxHeartbeats 2000000 in
theorem places_any (s : SS) (u v : Value) (off n : Int) (P1 P2 : Int) (w : World) (h0 : 0 ≤ s.ba) (h1 : en s ≤ 1000000) (ha : Rd w u s.ak) (ht : Rd w v s.td) (h2 : 0 ≤ off) (h3 : off + max n 0 < 18446744073709551616) (hP : plS s off n = (P1, P2)) :
    Calls Tryz.prog 116 #[.agg #[.int .u64 s.ba, .int .u64 s.tp, .string s.d, u, v, .bool s.fin, .bool s.ft, .bool s.fa], .int .u64 off, .int .i64 n] w fun e w' => e = .returned (.agg #[.int .u64 P1, .int .u64 P2]) ∧ Below w.heap.size w w' := by
  obtain ⟨M, hM⟩ : ∃ x, max off s.ba = x := ⟨_, rfl⟩
  obtain ⟨L, hL⟩ : ∃ x, min (off + max n 0) (en s) = x := ⟨_, rfl⟩
  have hmr := max_run off s.ba M hM
  have CR := Lib.hid (fun W (hb : Below w.heap.size w W) => reached_any s u v off n W h0 h1 (ha.go hb) (ht.go hb) h2 h3)
  rw [hL] at CR
  have CS := Lib.hid (fun W => span_any M L W (by omega) (by omega))
  unfold plS at hP
  rw [hM, hL] at hP
  rw [hP] at CS
  have HS0 := Lib.hid ((qr_made w u v s ha ht).al (.cells #[.int .u64 0, .int .u64 0] 153)).dr
  have HZ : Hid (Bk2 (((w.alloc (.cells #[.int .u64 s.ba, .int .u64 s.tp, .string s.d, u, v, .bool s.fin, .bool s.ft, .bool s.fa] 30)).alloc (.cells #[.int .u64 0, .int .u64 0] 153)).drew) (w.heap.size + 1) 153 (.int .u64 0) (.int .u64 0)) := Lib.hid (by
    have := (bk2_made (w.alloc (.cells #[.int .u64 s.ba, .int .u64 s.tp, .string s.d, u, v, .bool s.fin, .bool s.ft, .bool s.fa] 30)) 153 (.int .u64 0) (.int .u64 0)).go (Below.refl _ _).drew
    simpa using this)
  have NA : Hid (¬ Blk u (w.heap.size + 1)) := Lib.hid (fun h => by have := ha.blk h; omega)
  have NT : Hid (¬ Blk v (w.heap.size + 1)) := Lib.hid (fun h => by have := ht.blk h; omega)
  obtain ⟨ba, tp, d, ak, td, fin, ft, fa⟩ := s
  simp only at CR HS0 HZ hmr ⊢
  clear h0 h1 ha ht h2 h3 hP hM hL
  go_enter Tryz.func116, Tryz.ntmps116
  go_wp2_with fail
  refine wp_region_noPanic ?_
  refine wp_region_held_drew (S := fun W : World => QR w W u v ⟨ba, tp, d, ak, td, fin, ft, fa⟩) (by kernel_rfl) ?_ (fun hHeld => ?_)
  · exact HS0.out
  refine wpAnyH_take (i := 0) (v := ?_) rfl (by kernel_rfl) (by kernel_rfl) (by kernel_rfl) (fun _ _ _ h => h) (Or.inl ⟨by rfl, ?_⟩) (by assumption) ?_
  rotate_left
  · (intro w hSw; (have c0 := hSw.q.c0; have c1 := hSw.q.c1; have c2 := hSw.q.c2; have c3 := hSw.q.c3; have c4 := hSw.q.c4; have c5 := hSw.q.c5; have c6 := hSw.q.c6; have c7 := hSw.q.c7; simp only at c0 c1 c2 c5 c6 c7); go_simp; (try with_reducible rfl))
  try simp only [Act.put, List.getElem_toArray, List.getElem_cons_zero, List.getElem_cons_succ, List.setIfInBounds_toArray, List.set_cons_zero, List.set_cons_succ]
  refine wpAnyH_take (i := 1) (v := ?_) rfl (by kernel_rfl) (by kernel_rfl) (by kernel_rfl) (fun _ _ _ h => h) (Or.inl ⟨by rfl, ?_⟩) (by assumption) ?_
  rotate_left
  · (intro w hSw; (have c0 := hSw.q.c0; have c1 := hSw.q.c1; have c2 := hSw.q.c2; have c3 := hSw.q.c3; have c4 := hSw.q.c4; have c5 := hSw.q.c5; have c6 := hSw.q.c6; have c7 := hSw.q.c7; simp only at c0 c1 c2 c5 c6 c7); go_simp; (try with_reducible rfl))
  try simp only [Act.put, List.getElem_toArray, List.getElem_cons_zero, List.getElem_cons_succ, List.setIfInBounds_toArray, List.set_cons_zero, List.set_cons_succ]
  refine wpAnyH_take (i := 2) (v := ?_) rfl (by kernel_rfl) (by kernel_rfl) (by kernel_rfl) (fun _ _ _ h => h) (Or.inl ⟨by rfl, ?_⟩) (by assumption) ?_
  rotate_left
  · (intro w hSw; (have c0 := hSw.q.c0; have c1 := hSw.q.c1; have c2 := hSw.q.c2; have c3 := hSw.q.c3; have c4 := hSw.q.c4; have c5 := hSw.q.c5; have c6 := hSw.q.c6; have c7 := hSw.q.c7; simp only at c0 c1 c2 c5 c6 c7); go_simp; (try with_reducible rfl))
  try simp only [Act.put, List.getElem_toArray, List.getElem_cons_zero, List.getElem_cons_succ, List.setIfInBounds_toArray, List.set_cons_zero, List.set_cons_succ]
  refine wpAnyH_take (i := 3) (v := ?_) rfl (by kernel_rfl) (by kernel_rfl) (by kernel_rfl) (fun _ _ _ h => h) (Or.inl ⟨by rfl, ?_⟩) (by assumption) ?_
  rotate_left
  · (intro w hSw; (have c0 := hSw.q.c0; have c1 := hSw.q.c1; have c2 := hSw.q.c2; have c3 := hSw.q.c3; have c4 := hSw.q.c4; have c5 := hSw.q.c5; have c6 := hSw.q.c6; have c7 := hSw.q.c7; simp only at c0 c1 c2 c5 c6 c7); go_simp; (try with_reducible rfl))
  try simp only [Act.put, List.getElem_toArray, List.getElem_cons_zero, List.getElem_cons_succ, List.setIfInBounds_toArray, List.set_cons_zero, List.set_cons_succ]
  refine wpAnyH_take (i := 4) (v := ?_) rfl (by kernel_rfl) (by kernel_rfl) (by kernel_rfl) (fun _ _ _ h => h) (Or.inl ⟨by rfl, ?_⟩) (by assumption) ?_
  rotate_left
  · (intro w hSw; (have c0 := hSw.q.c0; have c1 := hSw.q.c1; have c2 := hSw.q.c2; have c3 := hSw.q.c3; have c4 := hSw.q.c4; have c5 := hSw.q.c5; have c6 := hSw.q.c6; have c7 := hSw.q.c7; simp only at c0 c1 c2 c5 c6 c7); go_simp; (try with_reducible rfl))
  try simp only [Act.put, List.getElem_toArray, List.getElem_cons_zero, List.getElem_cons_succ, List.setIfInBounds_toArray, List.set_cons_zero, List.set_cons_succ]
  refine wpAnyH_take (i := 5) (v := ?_) rfl (by kernel_rfl) (by kernel_rfl) (by kernel_rfl) (fun _ _ _ h => h) (Or.inl ⟨by rfl, ?_⟩) (by assumption) ?_
  rotate_left
  · (intro w hSw; (have c0 := hSw.q.c0; have c1 := hSw.q.c1; have c2 := hSw.q.c2; have c3 := hSw.q.c3; have c4 := hSw.q.c4; have c5 := hSw.q.c5; have c6 := hSw.q.c6; have c7 := hSw.q.c7; simp only at c0 c1 c2 c5 c6 c7); go_simp; (try with_reducible rfl))
  try simp only [Act.put, List.getElem_toArray, List.getElem_cons_zero, List.getElem_cons_succ, List.setIfInBounds_toArray, List.set_cons_zero, List.set_cons_succ]
  refine wpAnyH_take (i := 6) (v := ?_) rfl (by kernel_rfl) (by kernel_rfl) (by kernel_rfl) (fun _ _ _ h => h) (Or.inl ⟨by rfl, ?_⟩) (by assumption) ?_
  rotate_left
  · (intro w hSw; (have c0 := hSw.q.c0; have c1 := hSw.q.c1; have c2 := hSw.q.c2; have c3 := hSw.q.c3; have c4 := hSw.q.c4; have c5 := hSw.q.c5; have c6 := hSw.q.c6; have c7 := hSw.q.c7; simp only at c0 c1 c2 c5 c6 c7); go_simp; (try with_reducible rfl))
  try simp only [Act.put, List.getElem_toArray, List.getElem_cons_zero, List.getElem_cons_succ, List.setIfInBounds_toArray, List.set_cons_zero, List.set_cons_succ]
  refine wpAnyH_ready (rs := [7]) (by kernel_rfl) (by simp) ?_
  refine AllReadyH.cons rfl (fun K hK => ?_) AllReadyH.nil
  rw [if_pos (by rfl)]
  go_simp
  refine (CR.out _ HS0.out.bl).mono ?_
  rintro e w1 ⟨rfl, hb⟩
  have HS1 := Lib.hid (HS0.out.go hb)
  have HZ1 := Lib.hid (HZ.out.go hb)
  clear hb
  refine hK.out _ _ ?_ (fun hHeld => ?_)
  · exact HS1.out
  clear hK K
  try simp only [Act.put, List.getElem_toArray, List.getElem_cons_zero, List.getElem_cons_succ, List.setIfInBounds_toArray, List.set_cons_zero, List.set_cons_succ]
  refine wpAnyH_ready (rs := [8]) (by kernel_rfl) (by simp) ?_
  refine AllReadyH.cons rfl (fun K hK => ?_) AllReadyH.nil
  rw [if_pos (by rfl)]
  go_simp
  refine (CS.out _).mono ?_
  rintro e w2 ⟨rfl, hb⟩
  have HS2 := Lib.hid (HS1.out.go hb)
  have HZ2 := Lib.hid (HZ1.out.go hb)
  have z0 := HZ2.out.c0
  have z1 := HZ2.out.c1
  have zf := HZ2.out.fz
  clear hb
  refine hK.out _ _ ?_ (fun hHeld => ?_)
  · exact HS2.out
  clear hK K
  try simp only [Act.put, List.getElem_toArray, List.getElem_cons_zero, List.getElem_cons_succ, List.setIfInBounds_toArray, List.set_cons_zero, List.set_cons_succ]
  refine wpAnyH_ready (rs := [9]) (by kernel_rfl) (by simp) ?_
  refine AllReadyH.cons rfl (fun K hK => ?_) AllReadyH.nil
  rw [if_pos (by rfl)]
  go_simp
  refine hK.out _ _ ?_ (fun hHeld => ?_)
  · exact HS2.out.put2 (by omega) NA.out NT.out _ _
  clear hK K
  try simp only [Act.put, List.getElem_toArray, List.getElem_cons_zero, List.getElem_cons_succ, List.setIfInBounds_toArray, List.set_cons_zero, List.set_cons_succ]
  refine wpAnyH_done (by kernel_rfl) (NoPanic.normal ?_) _
  have HF := Lib.hid (HZ2.out.put (.int .u64 P1) (.int .u64 P2))
  go_wp2_with fail
  exact bodyPost_ret (v := .agg #[.int .u64 P1, .int .u64 P2]) (results_cell_row Tryz.results116 _ _ (w.heap.size + 1) _ _ _ _ rfl HF.out Tryz.underlying153 rfl infRg) rfl ⟨rfl, hHeld.bl⟩
theorem max_run64 (x y z : Int) (h : max x y = z) (ts : Array TypeId) (t : TypeId) (w : World) : (Builtin.max_ ts t #[.int .i64 x, .int .i64 y]).run Tryz.prog w = .ok (.int .i64 z) w := by
  rw [run_max_int2, ← h]
  by_cases h : y > x
  · rw [if_pos h, show max x y = y by omega]
  · rw [if_neg h, show max x y = x by omega]
theorem min_run64 (x y z : Int) (h : min x y = z) (ts : Array TypeId) (t : TypeId) (w : World) : (Builtin.min_ ts t #[.int .i64 x, .int .i64 y]).run Tryz.prog w = .ok (.int .i64 z) w := by
  rw [run_min_int2, ← h]
  by_cases h : y < x
  · rw [if_pos h, show min x y = y by omega]
  · rw [if_neg h, show min x y = x by omega]
set_option maxHeartbeats 1000000 in
theorem free_any (s : SS) (u v : Value) (room : Int) (w : World) (h0 : 0 ≤ s.ba) (h1 : en s ≤ 1000000) (h2 : room < 9223372036854775808) :
    Calls Tryz.prog 71 #[.agg #[.int .u64 s.ba, .int .u64 s.tp, .string s.d, u, v, .bool s.fin, .bool s.ft, .bool s.fa], .int .i64 room] w fun e w' => e = .returned (.int .i64 (frS s room)) ∧ Below w.heap.size w w' := by
  unfold frS
  unfold en at h1
  obtain ⟨ba, tp, d, ak, td, fin, ft, fa⟩ := s
  simp only at h0 h1 ⊢
  obtain ⟨M, hM⟩ : ∃ x, max room (d.size : Int) = x := ⟨_, rfl⟩
  have hmr := max_run64 room d.size M hM
  have v1 : IntKind.i64.wrap (M - (d.size : Int)) = M - (d.size : Int) := IntWalk.i64_in _ (by omega)
  rw [hM]
  clear h0 h1 h2 hM
  go_enter Tryz.func71, Tryz.ntmps71
  go_wp2
  go_ret
  exact ⟨rfl, (Below.refl _ _).alloc (Nat.le_refl _) _⟩
set_option maxHeartbeats 1000000 in
theorem bytes_any (s : SS) (u v : Value) (lo hi : Int) (D : ByteArray) (w : World) (h0 : 0 ≤ s.ba) (h1 : en s ≤ 1000000) (h2 : s.ba ≤ lo) (h3 : lo ≤ hi) (h4 : hi ≤ en s) (hD : s.d.extract (lo - s.ba).toNat (hi - s.ba).toNat = D) :
    Calls Tryz.prog 200 #[.agg #[.int .u64 s.ba, .int .u64 s.tp, .string s.d, u, v, .bool s.fin, .bool s.ft, .bool s.fa], .int .u64 lo, .int .u64 hi] w fun e w' => e = .returned (.string D) ∧ Below w.heap.size w w' := by
  unfold en at h1 h4
  obtain ⟨ba, tp, d, ak, td, fin, ft, fa⟩ := s
  simp only at h0 h1 h2 h4 hD ⊢
  have v1 : IntKind.u64.wrap (lo - ba) = lo - ba := IntWalk.u64_in _ (by omega)
  have v2 : IntKind.u64.wrap (hi - ba) = hi - ba := IntWalk.u64_in _ (by omega)
  have b1 : 0 ≤ lo - ba := by omega
  have b2 : lo - ba ≤ hi - ba := by omega
  have b3 : hi - ba ≤ (d.size : Int) := by omega
  have HD := Lib.hid hD
  clear h0 h1 h2 h3 h4 hD
  go_enter Tryz.func200, Tryz.ntmps200
  go_wp2
  rw [HD.out]
  go_ret
  exact ⟨rfl, (Below.refl _ _).alloc (Nat.le_refl _) _⟩
set_option maxHeartbeats 1000000 in
theorem endTodo_any (s : SS) (u v : Value) (w : World) :
    Calls Tryz.prog 201 #[.agg #[.int .u64 s.ba, .int .u64 s.tp, .string s.d, u, v, .bool s.fin, .bool s.ft, .bool s.fa]] w fun e w' => e = .returned (.bool (s.fin && s.ft)) ∧ Below w.heap.size w w' := by
  obtain ⟨ba, tp, d, ak, td, fin, ft, fa⟩ := s
  simp only
  cases fin with
  | false =>
    go_enter Tryz.func201, Tryz.ntmps201
    go_wp2
    go_ret
    exact ⟨rfl, (Below.refl _ _).alloc (Nat.le_refl _) _⟩
  | true =>
    go_enter Tryz.func201, Tryz.ntmps201
    go_wp2
    go_ret
    exact ⟨rfl, (Below.refl _ _).alloc (Nat.le_refl _) _⟩
end Go.Proofs.YtoblmhpjendbfaaGreatDoor.Rg
namespace Go.Proofs.YtoblmhpjendbfaaGreatDoor.Rg
set_option maxHeartbeats 4000000
set_option maxRecDepth 20000
open Tk
open Go.RowKit Go.Shelf
set_option linter.unusedVariables false
set_option linter.unusedSimpArgs false
theorem rd_len{w:World}{a:Option Addr}{n c:Nat}{l:List Ran}(h:Rd w (.slice a n c) l):n=l.length:=by
 obtain⟨_,_,e,_⟩:=h
 cases e;rfl
theorem rd_first{w:World}{b off n c:Nat}{x:Ran}{m:List Ran}(h:Rd w (.slice (some ⟨b,off,none⟩) n c) (x::m)):w.cell? ⟨b,off,none⟩=some (.int .u64 x.1)∧w.cell? ⟨b,off+1,none⟩=some (.int .u64 x.2):=by
 obtain⟨a,c',e,_,hrow⟩:=h;obtain⟨b',off',e2,hc⟩:=hrow (by simp)
 cases e
 cases e2
 have:=hc 0 (by simp)
 simpa using this
theorem rd_some{w:World}{a:Option Addr}{n c:Nat}{x:Ran}{m:List Ran}(h:Rd w (.slice a n c) (x::m)):∃b off,a=some ⟨b,off,none⟩∧n≤c:=by
 obtain⟨a,c',e,hc,hrow⟩:=h;obtain⟨b',off',e2,_⟩:=hrow (by simp)
 cases e
 exact⟨b',off',e2,hc⟩
theorem isEmptyG{D:ByteArray}(h:0<D.size):D.toList.isEmpty=false:=by
 rw[ByteArray.toList_eq]
 cases hh:D.data.toList with
 | nil=>
  have h1:D.size=D.data.toList.length:=by rw[Array.length_toList];rfl
  rw[hh,List.length_nil]at h1;omega
 | cons=>rfl
theorem isEmptyY{D:ByteArray}(h:D.size=0):D.toList.isEmpty=true:=by
 rw[ByteArray.toList_eq]
 cases hh:D.data.toList with
 | nil=>rfl
 | cons=>
  have h1:D.size=D.data.toList.length:=by rw[Array.length_toList];rfl
  rw[hh,List.length_cons]at h1;omega
theorem nextEnd_any(s:SS)(u v:Value)(w:World)(h0:0≤s.ba)(h1:en s≤1000000)(htd:s.td=[])(most credit:Int) :
 Calls Tryz.prog 176 #[.agg #[.int .u64 s.ba,.int .u64 s.tp,.string s.d,u,v,.bool s.fin,.bool s.ft,.bool s.fa]] w fun e w'=>e=.returned (.tuple #[.int .u64 (nxt s most credit).off,.string (nxt s most credit).d,.bool (nxt s most credit).fin,.bool (nxt s most credit).iz])∧Below w.heap.size w w':=by
 have CE:=zh (fun W=>endq_any s u v W h0 h1);unfold nxt;rw[htd];clear h0 h1 htd;obtain⟨ba,tp,d,ak,td,fin,ft,fa⟩:=s;generalize en ⟨ba,tp,d,ak,td,fin,ft,fa⟩=E at *;simp only at CE ⊢
 cases ft with
 | false=>
  go_enter Tryz.func176,Tryz.ntmps176;go_wp2_with fail
  exact bodyPost_ret (v:=.tuple #[.int .u64 0,.string ⟨#[]⟩,.bool false,.bool false]) (by simp[results,Tryz.results176,go_sem]) rfl ⟨rfl,(Below.refl _ _).alloc zle _⟩
 | true=>
  go_enter Tryz.func176,Tryz.ntmps176;go_wp2_with fail
  refine (CE.out _).mono ?_;rintro e w1 ⟨rfl,hb⟩;have HB:=zh (nextG ((Below.refl w.heap.size w).alloc zle _) hb);clear hb;go_wp2_with fail
  exact bodyPost_ret (v:=.tuple #[.int .u64 E,.string ⟨#[]⟩,.bool true,.bool true]) (by simp[results,Tryz.results176,go_sem]) rfl ⟨rfl,HB.out⟩
theorem min3_run(x y z r:Int)(h:min (min x y) z=r)(ts:Array TypeId)(t:TypeId)(w:World):(Builtin.min_ ts t #[.int .u64 x,.int .u64 y,.int .u64 z]).run Tryz.prog w=.ok (.int .u64 r) w:=by
 have e:(if z<(if y<x then y else x) then z else (if y<x then y else x))=r:=by
  rw[←h]
  split<;>split<;>omega
 simp[Builtin.min_,Builtin.min2];exact e
theorem nextOf_any(s:SS)(u v:Value)(lo hi most credit:Int)(w:World)(hs:SsOk s)(ha:Rd w u s.ak)(ht:Rd w v s.td)(h2:0≤lo)(h3:hi<9223372036854775808)(h4:lo≤hi)(h5:most<9223372036854775808)(h6:0≤credit)(N:NX)(hN:nxo s most credit (lo,hi)=N) :
 Calls Tryz.prog 177 #[.agg #[.int .u64 s.ba,.int .u64 s.tp,.string s.d,u,v,.bool s.fin,.bool s.ft,.bool s.fa],.agg #[.int .u64 lo,.int .u64 hi],.int .i64 most,.int .u64 credit] w fun e w'=>e=.returned (.tuple #[.int .u64 N.off,.string N.d,.bool N.fin,.bool N.iz])∧Below w.heap.size w w':=by
 have h0:=hs.b0;have h1:=hs.b1;have h7:=en_ge s;obtain⟨M,hM⟩:∃x,max lo s.ba=x:=⟨_,rfl⟩;obtain⟨G,hG⟩:∃x,min (M+max most 0) (en s)=x:=⟨_,rfl⟩;obtain⟨R,hR⟩:∃x,nxE s most credit (lo,hi)=x:=⟨_,rfl⟩;have hmr:=max_run lo s.ba M hM;have v1:IntKind.u64.wrap (hi+1)=hi+1:=IntWalk.u64_in _ (by omega);have CR:=zh (fun W (k1:Rd W u s.ak) (k2:Rd W v s.td)=>reached_any s u v M most W h0 h1 k1 k2 (by omega) (by omega));rw[hG]at CR;have hR2:min (min G (hi+1)) credit=R:=by rw[←hR,←hG,←hM];rfl
 have hm3:=min3_run G (hi+1) credit R hR2;have CE:=zh (fun W=>endq_any s u v W h0 h1);have CT:=zh (fun W=>endTodo_any s u v W);have hle:R≤en s:=by omega
 have CB:=zh (fun (hlt:M<R) W=>bytes_any s u v M R (s.d.extract (M-s.ba).toNat (R-s.ba).toNat) W h0 h1 (by omega) (by omega) hle rfl);have HR0:=zh (bk2_made (w.alloc (.cells #[.int .u64 s.ba,.int .u64 s.tp,.string s.d,u,v,.bool s.fin,.bool s.ft,.bool s.fa] 30)) 153 (.int .u64 lo) (.int .u64 hi));have HS0:=zh ((qr_made w u v s ha ht).al (.cells #[.int .u64 lo,.int .u64 hi] 153));rw[World.size_alloc]at HR0;have hN2:N=if M<R then ⟨M,s.d.extract (M-s.ba).toNat (R-s.ba).toNat,s.fin && s.ft && decide (R=en s),true⟩ else nx0:=by rw[←hN];unfold nxo;rw[hR,hM]
 clear hN h0 h1 h7 hs ha ht h2 h3 h4 h5 h6 hM hG hR hR2 hle;obtain⟨ba,tp,d,ak,td,fin,ft,fa⟩:=s;obtain⟨E,hE⟩:∃x,en ⟨ba,tp,d,ak,td,fin,ft,fa⟩=x:=⟨_,rfl⟩;rw[hE]at hN2 CE;obtain⟨D,hD⟩:∃x,d.extract (M-ba).toNat (R-ba).toNat=x:=⟨_,rfl⟩;simp only at CR CE CT CB HR0 HS0 hN2 hmr ⊢;rw[hD]at hN2 CB;clear hE hD;by_cases hlt:M<R
 ·rw[if_pos hlt]at hN2
  replace CB:=zh (CB.out hlt);have d1:decide (R≤M)=false:=decide_eq_false (by omega)
  cases hB:fin && ft with
  | false=>
   rw[hB]at CT;rw[hB,Bool.false_and]at hN2;replace hN2:=zh hN2;replace hB:=zh hB;clear hlt CE;go_enter Tryz.func177,Tryz.ntmps177;go_wp2_with fail
   refine wp_region_noPanic ?_;refine wp_region_held_drew (S:=fun W:World=>QR w W u v ⟨ba,tp,d,ak,td,fin,ft,fa⟩∧Bk2 W (w.heap.size+1) 153 (.int .u64 lo) (.int .u64 hi)) (by kernel_rfl) ?_ (fun hHeld=>?_)
   ·exact⟨HS0.out.dr,HR0.out.go (Below.refl _ _).drew⟩
   iterate 7
    refine zqb [0,1,2,4,5,6,7] rfl rfl ?_ ?_ ?_;rotate_left
    ·(intro w hSw;(have c0:=hSw.1.q.c0;have c1:=hSw.1.q.c1;have c2:=hSw.1.q.c2;have c3:=hSw.1.q.c3;have c4:=hSw.1.q.c4;have c5:=hSw.1.q.c5;have c6:=hSw.1.q.c6;have c7:=hSw.1.q.c7;simp only at c0 c1 c2 c5 c6 c7;have e0:=hSw.2.c0;have e1:=hSw.2.c1);go_simp;(try with_reducible rfl))
    try simp only[Act.put,J1,J2,J3,J4,J5,J6]
   refine zqf [3] (AllReadyH.cons rfl (fun K hK=>?_) AllReadyH.nil);rw[if_pos (by rfl)];go_simp;refine (CR.out _ HS0.out.dr.q.ra HS0.out.dr.q.rt).mono ?_;rintro e w1 ⟨rfl,hb⟩;have HS1:=zh (HS0.out.dr.go hb);have HR1:=zh ((HR0.out.go (Below.refl _ _).drew).go hb);clear hb;refine hK.out _ _ ?_ (fun hHeld=>?_)
   ·exact⟨HS1.out,HR1.out⟩
   clear hK K
   try simp only[Act.put,J1,J2,J3,J4,J5,J6]
   iterate 2
    refine zqb [8,9] rfl rfl ?_ ?_ ?_;rotate_left
    ·(intro w hSw;(have c0:=hSw.1.q.c0;have c1:=hSw.1.q.c1;have c2:=hSw.1.q.c2;have c3:=hSw.1.q.c3;have c4:=hSw.1.q.c4;have c5:=hSw.1.q.c5;have c6:=hSw.1.q.c6;have c7:=hSw.1.q.c7;simp only at c0 c1 c2 c5 c6 c7;have e0:=hSw.2.c0;have e1:=hSw.2.c1);go_simp;(try with_reducible rfl))
    try simp only[Act.put,J1,J2,J3,J4,J5,J6]
   refine zqe (NoPanic.normal ?_);clear HR0 HS0;go_wp2_with fail
   have HS2:=zh HS1.out.dr;refine wp_region_noPanic ?_;refine wp_region_held_drew (S:=fun W:World=>QR w W u v ⟨ba,tp,d,ak,td,fin,ft,fa⟩) (by kernel_rfl) ?_ (fun hHeld=>?_)
   ·exact HS2.out
   iterate 5
    refine zqb [0,1,2,3,5] rfl rfl ?_ ?_ ?_;rotate_left
    ·(intro w hSw;(have c0:=hSw.q.c0;have c1:=hSw.q.c1;have c2:=hSw.q.c2;have c3:=hSw.q.c3;have c4:=hSw.q.c4;have c5:=hSw.q.c5;have c6:=hSw.q.c6;have c7:=hSw.q.c7;simp only at c0 c1 c2 c5 c6 c7);go_simp;(try with_reducible rfl))
    try simp only[Act.put,J1,J2,J3,J4,J5,J6]
   refine zqf [4] (AllReadyH.cons rfl (fun K hK=>?_) AllReadyH.nil);rw[if_pos (by rfl)];go_simp;refine (CB.out _).mono ?_;rintro e wy1 ⟨rfl,hb⟩;have HY1:=zh (HS2.out.go hb);clear hb;refine hK.out _ _ ?_ (fun hHeld=>?_)
   ·exact HY1.out
   clear hK K
   try simp only[Act.put,J1,J2,J3,J4,J5,J6]
   refine zqf [6] (AllReadyH.cons rfl (fun K hK=>?_) AllReadyH.nil);rw[if_pos (by rfl)];go_simp;refine (CT.out _).mono ?_;rintro e wy2 ⟨rfl,hb⟩;have HY2:=zh (HY1.out.go hb);clear hb;refine hK.out _ _ ?_ (fun hHeld=>?_)
   ·exact HY2.out
   clear hK K
   try simp only[Act.put,J1,J2,J3,J4,J5,J6]
   refine zqa 7 rfl ?_ ?_ ?_;rotate_left
   ·(intro w hSw;(have c0:=hSw.q.c0;have c1:=hSw.q.c1;have c2:=hSw.q.c2;have c3:=hSw.q.c3;have c4:=hSw.q.c4;have c5:=hSw.q.c5;have c6:=hSw.q.c6;have c7:=hSw.q.c7;simp only at c0 c1 c2 c5 c6 c7);go_simp;(try with_reducible rfl))
   try simp only[Act.put,J1,J2,J3,J4,J5,J6]
   refine zqc 8 rfl ?_
   try simp only[Act.put,J1,J2,J3,J4,J5,J6]
   refine zqc 9 rfl ?_
   try simp only[Act.put,J1,J2,J3,J4,J5,J6]
   refine zqc 10 rfl ?_
   try simp only[Act.put,J1,J2,J3,J4,J5,J6]
   refine zqc 11 rfl ?_
   try simp only[Act.put,J1,J2,J3,J4,J5,J6]
   iterate 5
    refine zqb [12,13,14,15,16] rfl rfl ?_ ?_ ?_;rotate_left
    ·(intro w hSw;(have c0:=hSw.q.c0;have c1:=hSw.q.c1;have c2:=hSw.q.c2;have c3:=hSw.q.c3;have c4:=hSw.q.c4;have c5:=hSw.q.c5;have c6:=hSw.q.c6;have c7:=hSw.q.c7;simp only at c0 c1 c2 c5 c6 c7);go_simp;(try with_reducible rfl))
    try simp only[Act.put,J1,J2,J3,J4,J5,J6]
   refine zqe (NoPanic.normal ?_);go_wp2_with fail
   exact bodyPost_ret (v:=.tuple #[.int .u64 M,.string D,.bool false,.bool true]) (by simp[results,Tryz.results177,go_sem]) rfl ⟨by rw[hN2.out],HY2.out.bl⟩
  | true=>
   rw[hB]at CT;rw[hB,Bool.true_and]at hN2;replace hB:=zh hB;clear hlt;by_cases hq:R=E
   ·have d2:(R==E)=true:=by rw[hq];exact beq_self_eq_true _
    rw[decide_eq_true hq]at hN2;replace hN2:=zh hN2;replace hq:=zh hq;go_enter Tryz.func177,Tryz.ntmps177;go_wp2_with fail
    refine wp_region_noPanic ?_;refine wp_region_held_drew (S:=fun W:World=>QR w W u v ⟨ba,tp,d,ak,td,fin,ft,fa⟩∧Bk2 W (w.heap.size+1) 153 (.int .u64 lo) (.int .u64 hi)) (by kernel_rfl) ?_ (fun hHeld=>?_)
    ·exact⟨HS0.out.dr,HR0.out.go (Below.refl _ _).drew⟩
    iterate 7
     refine zqb [0,1,2,4,5,6,7] rfl rfl ?_ ?_ ?_;rotate_left
     ·(intro w hSw;(have c0:=hSw.1.q.c0;have c1:=hSw.1.q.c1;have c2:=hSw.1.q.c2;have c3:=hSw.1.q.c3;have c4:=hSw.1.q.c4;have c5:=hSw.1.q.c5;have c6:=hSw.1.q.c6;have c7:=hSw.1.q.c7;simp only at c0 c1 c2 c5 c6 c7;have e0:=hSw.2.c0;have e1:=hSw.2.c1);go_simp;(try with_reducible rfl))
     try simp only[Act.put,J1,J2,J3,J4,J5,J6]
    refine zqf [3] (AllReadyH.cons rfl (fun K hK=>?_) AllReadyH.nil);rw[if_pos (by rfl)];go_simp;refine (CR.out _ HS0.out.dr.q.ra HS0.out.dr.q.rt).mono ?_;rintro e w1 ⟨rfl,hb⟩;have HS1:=zh (HS0.out.dr.go hb);have HR1:=zh ((HR0.out.go (Below.refl _ _).drew).go hb);clear hb;refine hK.out _ _ ?_ (fun hHeld=>?_)
    ·exact⟨HS1.out,HR1.out⟩
    clear hK K
    try simp only[Act.put,J1,J2,J3,J4,J5,J6]
    iterate 2
     refine zqb [8,9] rfl rfl ?_ ?_ ?_;rotate_left
     ·(intro w hSw;(have c0:=hSw.1.q.c0;have c1:=hSw.1.q.c1;have c2:=hSw.1.q.c2;have c3:=hSw.1.q.c3;have c4:=hSw.1.q.c4;have c5:=hSw.1.q.c5;have c6:=hSw.1.q.c6;have c7:=hSw.1.q.c7;simp only at c0 c1 c2 c5 c6 c7;have e0:=hSw.2.c0;have e1:=hSw.2.c1);go_simp;(try with_reducible rfl))
     try simp only[Act.put,J1,J2,J3,J4,J5,J6]
    refine zqe (NoPanic.normal ?_);clear HR0 HS0;go_wp2_with fail
    have HS2:=zh HS1.out.dr;refine wp_region_noPanic ?_;refine wp_region_held_drew (S:=fun W:World=>QR w W u v ⟨ba,tp,d,ak,td,fin,ft,fa⟩) (by kernel_rfl) ?_ (fun hHeld=>?_)
    ·exact HS2.out
    iterate 5
     refine zqb [0,1,2,3,5] rfl rfl ?_ ?_ ?_;rotate_left
     ·(intro w hSw;(have c0:=hSw.q.c0;have c1:=hSw.q.c1;have c2:=hSw.q.c2;have c3:=hSw.q.c3;have c4:=hSw.q.c4;have c5:=hSw.q.c5;have c6:=hSw.q.c6;have c7:=hSw.q.c7;simp only at c0 c1 c2 c5 c6 c7);go_simp;(try with_reducible rfl))
     try simp only[Act.put,J1,J2,J3,J4,J5,J6]
    refine zqf [4] (AllReadyH.cons rfl (fun K hK=>?_) AllReadyH.nil);rw[if_pos (by rfl)];go_simp;refine (CB.out _).mono ?_;rintro e wy1 ⟨rfl,hb⟩;have HY1:=zh (HS2.out.go hb);clear hb;refine hK.out _ _ ?_ (fun hHeld=>?_)
    ·exact HY1.out
    clear hK K
    try simp only[Act.put,J1,J2,J3,J4,J5,J6]
    refine zqf [6] (AllReadyH.cons rfl (fun K hK=>?_) AllReadyH.nil);rw[if_pos (by rfl)];go_simp;refine (CT.out _).mono ?_;rintro e wy2 ⟨rfl,hb⟩;have HY2:=zh (HY1.out.go hb);clear hb;refine hK.out _ _ ?_ (fun hHeld=>?_)
    ·exact HY2.out
    clear hK K
    try simp only[Act.put,J1,J2,J3,J4,J5,J6]
    iterate 3
     refine zqb [7,8,9] rfl rfl ?_ ?_ ?_;rotate_left
     ·(intro w hSw;(have c0:=hSw.q.c0;have c1:=hSw.q.c1;have c2:=hSw.q.c2;have c3:=hSw.q.c3;have c4:=hSw.q.c4;have c5:=hSw.q.c5;have c6:=hSw.q.c6;have c7:=hSw.q.c7;simp only at c0 c1 c2 c5 c6 c7);go_simp;(try with_reducible rfl))
     try simp only[Act.put,J1,J2,J3,J4,J5,J6]
    refine zqf [10] (AllReadyH.cons rfl (fun K hK=>?_) AllReadyH.nil);rw[if_pos (by rfl)];go_simp;refine (CE.out _).mono ?_;rintro e wy3 ⟨rfl,hb⟩;have HY3:=zh (HY2.out.go hb);clear hb;refine hK.out _ _ ?_ (fun hHeld=>?_)
    ·exact HY3.out
    clear hK K
    try simp only[Act.put,J1,J2,J3,J4,J5,J6]
    iterate 6
     refine zqb [11,12,13,14,15,16] rfl rfl ?_ ?_ ?_;rotate_left
     ·(intro w hSw;(have c0:=hSw.q.c0;have c1:=hSw.q.c1;have c2:=hSw.q.c2;have c3:=hSw.q.c3;have c4:=hSw.q.c4;have c5:=hSw.q.c5;have c6:=hSw.q.c6;have c7:=hSw.q.c7;simp only at c0 c1 c2 c5 c6 c7);go_simp;(try with_reducible rfl))
     try simp only[Act.put,J1,J2,J3,J4,J5,J6]
    refine zqe (NoPanic.normal ?_);go_wp2_with fail
    exact bodyPost_ret (v:=.tuple #[.int .u64 M,.string D,.bool true,.bool true]) (by simp[results,Tryz.results177,go_sem]) rfl ⟨by rw[hN2.out],HY3.out.bl⟩
   ·have d2:(R==E)=false:=beq_eq_false_iff_ne.2 hq
    rw[decide_eq_false hq]at hN2;replace hN2:=zh hN2;replace hq:=zh hq;go_enter Tryz.func177,Tryz.ntmps177;go_wp2_with fail
    refine wp_region_noPanic ?_;refine wp_region_held_drew (S:=fun W:World=>QR w W u v ⟨ba,tp,d,ak,td,fin,ft,fa⟩∧Bk2 W (w.heap.size+1) 153 (.int .u64 lo) (.int .u64 hi)) (by kernel_rfl) ?_ (fun hHeld=>?_)
    ·exact⟨HS0.out.dr,HR0.out.go (Below.refl _ _).drew⟩
    iterate 7
     refine zqb [0,1,2,4,5,6,7] rfl rfl ?_ ?_ ?_;rotate_left
     ·(intro w hSw;(have c0:=hSw.1.q.c0;have c1:=hSw.1.q.c1;have c2:=hSw.1.q.c2;have c3:=hSw.1.q.c3;have c4:=hSw.1.q.c4;have c5:=hSw.1.q.c5;have c6:=hSw.1.q.c6;have c7:=hSw.1.q.c7;simp only at c0 c1 c2 c5 c6 c7;have e0:=hSw.2.c0;have e1:=hSw.2.c1);go_simp;(try with_reducible rfl))
     try simp only[Act.put,J1,J2,J3,J4,J5,J6]
    refine zqf [3] (AllReadyH.cons rfl (fun K hK=>?_) AllReadyH.nil);rw[if_pos (by rfl)];go_simp;refine (CR.out _ HS0.out.dr.q.ra HS0.out.dr.q.rt).mono ?_;rintro e w1 ⟨rfl,hb⟩;have HS1:=zh (HS0.out.dr.go hb);have HR1:=zh ((HR0.out.go (Below.refl _ _).drew).go hb);clear hb;refine hK.out _ _ ?_ (fun hHeld=>?_)
    ·exact⟨HS1.out,HR1.out⟩
    clear hK K
    try simp only[Act.put,J1,J2,J3,J4,J5,J6]
    iterate 2
     refine zqb [8,9] rfl rfl ?_ ?_ ?_;rotate_left
     ·(intro w hSw;(have c0:=hSw.1.q.c0;have c1:=hSw.1.q.c1;have c2:=hSw.1.q.c2;have c3:=hSw.1.q.c3;have c4:=hSw.1.q.c4;have c5:=hSw.1.q.c5;have c6:=hSw.1.q.c6;have c7:=hSw.1.q.c7;simp only at c0 c1 c2 c5 c6 c7;have e0:=hSw.2.c0;have e1:=hSw.2.c1);go_simp;(try with_reducible rfl))
     try simp only[Act.put,J1,J2,J3,J4,J5,J6]
    refine zqe (NoPanic.normal ?_);clear HR0 HS0;go_wp2_with fail
    have HS2:=zh HS1.out.dr;refine wp_region_noPanic ?_;refine wp_region_held_drew (S:=fun W:World=>QR w W u v ⟨ba,tp,d,ak,td,fin,ft,fa⟩) (by kernel_rfl) ?_ (fun hHeld=>?_)
    ·exact HS2.out
    iterate 5
     refine zqb [0,1,2,3,5] rfl rfl ?_ ?_ ?_;rotate_left
     ·(intro w hSw;(have c0:=hSw.q.c0;have c1:=hSw.q.c1;have c2:=hSw.q.c2;have c3:=hSw.q.c3;have c4:=hSw.q.c4;have c5:=hSw.q.c5;have c6:=hSw.q.c6;have c7:=hSw.q.c7;simp only at c0 c1 c2 c5 c6 c7);go_simp;(try with_reducible rfl))
     try simp only[Act.put,J1,J2,J3,J4,J5,J6]
    refine zqf [4] (AllReadyH.cons rfl (fun K hK=>?_) AllReadyH.nil);rw[if_pos (by rfl)];go_simp;refine (CB.out _).mono ?_;rintro e wy1 ⟨rfl,hb⟩;have HY1:=zh (HS2.out.go hb);clear hb;refine hK.out _ _ ?_ (fun hHeld=>?_)
    ·exact HY1.out
    clear hK K
    try simp only[Act.put,J1,J2,J3,J4,J5,J6]
    refine zqf [6] (AllReadyH.cons rfl (fun K hK=>?_) AllReadyH.nil);rw[if_pos (by rfl)];go_simp;refine (CT.out _).mono ?_;rintro e wy2 ⟨rfl,hb⟩;have HY2:=zh (HY1.out.go hb);clear hb;refine hK.out _ _ ?_ (fun hHeld=>?_)
    ·exact HY2.out
    clear hK K
    try simp only[Act.put,J1,J2,J3,J4,J5,J6]
    iterate 3
     refine zqb [7,8,9] rfl rfl ?_ ?_ ?_;rotate_left
     ·(intro w hSw;(have c0:=hSw.q.c0;have c1:=hSw.q.c1;have c2:=hSw.q.c2;have c3:=hSw.q.c3;have c4:=hSw.q.c4;have c5:=hSw.q.c5;have c6:=hSw.q.c6;have c7:=hSw.q.c7;simp only at c0 c1 c2 c5 c6 c7);go_simp;(try with_reducible rfl))
     try simp only[Act.put,J1,J2,J3,J4,J5,J6]
    refine zqf [10] (AllReadyH.cons rfl (fun K hK=>?_) AllReadyH.nil);rw[if_pos (by rfl)];go_simp;refine (CE.out _).mono ?_;rintro e wy3 ⟨rfl,hb⟩;have HY3:=zh (HY2.out.go hb);clear hb;refine hK.out _ _ ?_ (fun hHeld=>?_)
    ·exact HY3.out
    clear hK K
    try simp only[Act.put,J1,J2,J3,J4,J5,J6]
    iterate 6
     refine zqb [11,12,13,14,15,16] rfl rfl ?_ ?_ ?_;rotate_left
     ·(intro w hSw;(have c0:=hSw.q.c0;have c1:=hSw.q.c1;have c2:=hSw.q.c2;have c3:=hSw.q.c3;have c4:=hSw.q.c4;have c5:=hSw.q.c5;have c6:=hSw.q.c6;have c7:=hSw.q.c7;simp only at c0 c1 c2 c5 c6 c7);go_simp;(try with_reducible rfl))
     try simp only[Act.put,J1,J2,J3,J4,J5,J6]
    refine zqe (NoPanic.normal ?_);go_wp2_with fail
    exact bodyPost_ret (v:=.tuple #[.int .u64 M,.string D,.bool false,.bool true]) (by simp[results,Tryz.results177,go_sem]) rfl ⟨by rw[hN2.out],HY3.out.bl⟩
 ·rw[if_neg hlt]at hN2
  have d1:decide (R≤M)=true:=decide_eq_true (by omega);replace hN2:=zh hN2;clear hlt CB CT CE;go_enter Tryz.func177,Tryz.ntmps177;go_wp2_with fail
  refine wp_region_noPanic ?_;refine wp_region_held_drew (S:=fun W:World=>QR w W u v ⟨ba,tp,d,ak,td,fin,ft,fa⟩∧Bk2 W (w.heap.size+1) 153 (.int .u64 lo) (.int .u64 hi)) (by kernel_rfl) ?_ (fun hHeld=>?_)
  ·exact⟨HS0.out.dr,HR0.out.go (Below.refl _ _).drew⟩
  iterate 7
   refine zqb [0,1,2,4,5,6,7] rfl rfl ?_ ?_ ?_;rotate_left
   ·(intro w hSw;(have c0:=hSw.1.q.c0;have c1:=hSw.1.q.c1;have c2:=hSw.1.q.c2;have c3:=hSw.1.q.c3;have c4:=hSw.1.q.c4;have c5:=hSw.1.q.c5;have c6:=hSw.1.q.c6;have c7:=hSw.1.q.c7;simp only at c0 c1 c2 c5 c6 c7;have e0:=hSw.2.c0;have e1:=hSw.2.c1);go_simp;(try with_reducible rfl))
   try simp only[Act.put,J1,J2,J3,J4,J5,J6]
  refine zqf [3] (AllReadyH.cons rfl (fun K hK=>?_) AllReadyH.nil);rw[if_pos (by rfl)];go_simp;refine (CR.out _ HS0.out.dr.q.ra HS0.out.dr.q.rt).mono ?_;rintro e w1 ⟨rfl,hb⟩;have HS1:=zh (HS0.out.dr.go hb);have HR1:=zh ((HR0.out.go (Below.refl _ _).drew).go hb);clear hb;refine hK.out _ _ ?_ (fun hHeld=>?_)
  ·exact⟨HS1.out,HR1.out⟩
  clear hK K
  try simp only[Act.put,J1,J2,J3,J4,J5,J6]
  iterate 2
   refine zqb [8,9] rfl rfl ?_ ?_ ?_;rotate_left
   ·(intro w hSw;(have c0:=hSw.1.q.c0;have c1:=hSw.1.q.c1;have c2:=hSw.1.q.c2;have c3:=hSw.1.q.c3;have c4:=hSw.1.q.c4;have c5:=hSw.1.q.c5;have c6:=hSw.1.q.c6;have c7:=hSw.1.q.c7;simp only at c0 c1 c2 c5 c6 c7;have e0:=hSw.2.c0;have e1:=hSw.2.c1);go_simp;(try with_reducible rfl))
   try simp only[Act.put,J1,J2,J3,J4,J5,J6]
  refine zqe (NoPanic.normal ?_);clear HR0 HS0;go_wp2_with fail
  exact bodyPost_ret (v:=.tuple #[.int .u64 0,.string ⟨#[]⟩,.bool false,.bool false]) (by simp[results,Tryz.results177,go_sem]) rfl ⟨by rw[hN2.out,nx0],HS1.out.bl⟩
theorem next_any(s:SS)(a1:Option Addr)(n1 c1:Nat)(a2:Option Addr)(n2 c2:Nat)(most credit:Int)(w:World)(hs:SsOk s)(ha:Rd w (.slice a1 n1 c1) s.ak)(ht:Rd w (.slice a2 n2 c2) s.td)(h5:most<9223372036854775808)(h6:0≤credit)(N:NX)(hN:nxt s most credit=N) :
 Calls Tryz.prog 152 #[.agg #[.int .u64 s.ba,.int .u64 s.tp,.string s.d,.slice a1 n1 c1,.slice a2 n2 c2,.bool s.fin,.bool s.ft,.bool s.fa],.int .i64 most,.int .u64 credit] w fun e w'=>e=.returned (.tuple #[.int .u64 N.off,.string N.d,.bool N.fin,.bool N.iz])∧Below w.heap.size w w':=by
 have hn2:=rd_len ht;have HS0:=zh (qr_made w (.slice a1 n1 c1) (.slice a2 n2 c2) s ha ht);rcases htd:s.td with _|⟨x,m⟩
 ·have CE:=zh (fun W=>nextEnd_any s (.slice a1 n1 c1) (.slice a2 n2 c2) W hs.b0 hs.b1 htd most credit)
  rw[hN]at CE;rw[htd]at hn2;obtain rfl:n2=0:=hn2;clear hs ha ht h5 h6 hN htd;obtain⟨ba,tp,d,ak,td,fin,ft,fa⟩:=s;simp only at CE HS0 ⊢;obtain⟨o1,o2,o3,o4⟩:=N;simp only at CE ⊢;go_enter Tryz.func152,Tryz.ntmps152;go_wp2_with fail
  refine (CE.out _).mono ?_;rintro e w1 ⟨rfl,hb⟩;have HS1:=zh (HS0.out.go hb);clear hb;go_wp2_with fail
  exact bodyPost_ret (v:=.tuple #[.int .u64 o1,.string o2,.bool o3,.bool o4]) (by simp[results,Tryz.results152,go_sem]) rfl ⟨rfl,HS1.out.bl⟩
 ·have hg:=hs.ct.good x (by rw[htd];simp)
  have hN2:nxo s most credit x=N:=by rw[←hN];unfold nxt;rw[htd]
  obtain⟨x1,x2⟩:=x;have CO:=zh (fun W (k1:Rd W (.slice a1 n1 c1) s.ak) (k2:Rd W (.slice a2 n2 c2) s.td)=>nextOf_any s (.slice a1 n1 c1) (.slice a2 n2 c2) x1 x2 most credit W hs k1 k2 hg.1 hg.2.2 hg.2.1 h5 h6 N hN2);rw[htd]at hn2 ht;obtain⟨b2,o2,rfl,hcc⟩:=rd_some ht;have hk0:0<n2:=by rw[hn2];simp
  have d0:((n2:Int)==0)=false:=by rw[beq_eq_false_iff_ne];omega
  have k0:(0:Int)<n2:=by omega
  clear hs ha ht h5 h6 hN hN2 hg hn2;obtain⟨ba,tp,d,ak,td,fin,ft,fa⟩:=s;simp only at CO HS0 htd ⊢;subst htd;obtain⟨o1,oo2,o3,o4⟩:=N;simp only at CO ⊢;go_enter Tryz.func152,Tryz.ntmps152;go_wp2_with fail
  refine wp_region_noPanic ?_;refine wp_region_held_drew (S:=fun W:World=>QR w W (.slice a1 n1 c1) (.slice (some ⟨b2,o2,none⟩) n2 c2) ⟨ba,tp,d,ak,(x1,x2)::m,fin,ft,fa⟩) (by kernel_rfl) ?_ (fun hHeld=>?_)
  ·exact HS0.out.dr
  iterate 7
   refine zqb [0,1,2,3,4,5,6] rfl rfl ?_ ?_ ?_;rotate_left
   ·(intro w hSw;(have c0:=hSw.q.c0;have c1:=hSw.q.c1;have c2:=hSw.q.c2;have c3:=hSw.q.c3;have c4:=hSw.q.c4;have c5:=hSw.q.c5;have c6:=hSw.q.c6;have c7:=hSw.q.c7;simp only at c0 c1 c2 c5 c6 c7;have g:=rd_first hSw.q.rt;have g0:=g.1;have g1:=g.2;clear g);go_simp;(try with_reducible rfl))
   try simp only[Act.put,J1,J2,J3,J4,J5,J6]
  refine zqf [7] (AllReadyH.cons rfl (fun K hK=>?_) AllReadyH.nil);rw[if_pos (by rfl)];go_simp;refine (CO.out _ HS0.out.dr.q.ra HS0.out.dr.q.rt).mono ?_;rintro e w1 ⟨rfl,hb⟩;have HS1:=zh (HS0.out.dr.go hb);clear hb;refine hK.out _ _ ?_ (fun hHeld=>?_)
  ·exact HS1.out
  clear hK K
  try simp only[Act.put,J1,J2,J3,J4,J5,J6]
  iterate 8
   refine zqb [8,9,10,11,12,13,14,15] rfl rfl ?_ ?_ ?_;rotate_left
   ·(intro w hSw;(have c0:=hSw.q.c0;have c1:=hSw.q.c1;have c2:=hSw.q.c2;have c3:=hSw.q.c3;have c4:=hSw.q.c4;have c5:=hSw.q.c5;have c6:=hSw.q.c6;have c7:=hSw.q.c7;simp only at c0 c1 c2 c5 c6 c7;have g:=rd_first hSw.q.rt;have g0:=g.1;have g1:=g.2;clear g);go_simp;(try with_reducible rfl))
   try simp only[Act.put,J1,J2,J3,J4,J5,J6]
  refine zqe (NoPanic.normal ?_);go_wp2_with fail
  exact bodyPost_ret (v:=.tuple #[.int .u64 o1,.string oo2,.bool o3,.bool o4]) (by simp[results,Tryz.results152,go_sem]) rfl ⟨rfl,HS1.out.bl⟩
end Go.Proofs.YtoblmhpjendbfaaGreatDoor.Rg
