/- Layer 14: the walks of places, of a part's end, of what is told of a state · slices.SortFunc at the program's parts (layer 14): the library's contract, laid at the program's own numbers. -/
import Derived.Test.YtoblmhpjendbfaaGreatDoorJb05
import Derived.Deep.QuietTactic
import Derived.BigQuiet
import Derived.RegionTactic
import Derived.Deep.RegionHeld3
import Derived.Deep.RegionWith
import Derived.Laws.Rows
import Derived.Lib.SmallJoins
import Derived.Shelf.SlSortCmp.WholeK
import Derived.Test.YtoblmhpjendbfaaGreatDoorProg
namespace Go.Proofs.YtoblmhpjendbfaaGreatDoor.Rg.Gt
set_option maxRecDepth 20000
open Go.RowKit Go.Shelf
set_option linter.unusedVariables false
set_option linter.unusedSimpArgs false

theorem nextG {n : Nat} {w0 w1 w2 : World} (h : Below n w0 w1) (k : Below w1.heap.size w1 w2) (hn : n ≤ w0.heap.size := by exact Nat.le_refl _) : Below n w0 w2 := h.trans (k.mono (Nat.le_trans hn h.size))
theorem ret_u64 {a b : Int} (h : a = b) : Ending.returned (.int .u64 a) = .returned (.int .u64 b) := by rw [h]
theorem ret_bool {a b : Bool} (h : a = b) : Ending.returned (.bool a) = .returned (.bool b) := by rw [h]
set_option maxHeartbeats 1000000 in
theorem end_any (off : Int) (d : ByteArray) (w : World) (h0 : 0 ≤ off) (h1 : off ≤ 4611686018427387903) (h2 : (d.size : Int) ≤ 4611686018427387903) :
    Calls Tryz.prog 98 #[.agg #[.int .u64 off, .string d]] w fun e w' => e = .returned (.int .u64 (off + (d.size : Int))) ∧ Below w.heap.size w w' := by
  have v1 : IntKind.u64.wrap (d.size : Int) = (d.size : Int) := IntWalk.u64_in _ (by omega)
  have v2 : IntKind.u64.wrap (off + (d.size : Int)) = off + (d.size : Int) := IntWalk.u64_in _ (by omega)
  go_enter Tryz.func98, Tryz.ntmps98
  go_wp2
  go_ret
  exact ⟨rfl, (Below.refl _ _).alloc (Nat.le_refl _) _⟩
set_option maxHeartbeats 1000000 in
theorem span_any (a b : Int) (w : World) (h0 : 0 ≤ a) (h1 : b < 9223372036854775808) :
    Calls Tryz.prog 168 #[.int .u64 a, .int .u64 b] w fun e w' => e = .returned (.agg #[.int .u64 (spn a b).1, .int .u64 (spn a b).2]) ∧ Below w.heap.size w w' := by
  unfold spn
  by_cases h : b ≤ a
  · have d1 : decide (b ≤ a) = true := decide_eq_true h
    rw [if_pos h]
    replace h := Lib.hid h
    go_enter Tryz.func168, Tryz.ntmps168
    go_wp2
    exact bodyPost_ret (v := .agg #[.int .u64 1, .int .u64 0]) (by simp [results, Tryz.results168, go_sem]) rfl ⟨rfl, (Below.refl _ _).alloc (Nat.le_refl _) _⟩
  · have d1 : decide (b ≤ a) = false := decide_eq_false h
    have v1 : IntKind.u64.wrap (b - 1) = b - 1 := IntWalk.u64_in _ (by omega)
    rw [if_neg h]
    replace h := Lib.hid h
    go_enter Tryz.func168, Tryz.ntmps168
    go_wp2
    exact bodyPost_ret (v := .agg #[.int .u64 a, .int .u64 (b - 1)]) (by simp [results, Tryz.results168, go_sem]) rfl ⟨rfl, (Below.refl _ _).alloc (Nat.le_refl _) _⟩
theorem infRg : (Tryz.prog.info? 153).map (·.size) = some 2 := by kernel_rfl
/-- A block of two cells. -/
def Bk2 (W : World) (g : Nat) (Y : TypeId) (x y : Value) : Prop := W.heap[g]? = some (.cells #[x, y] Y (0, 0))
theorem Bk2.lt {W : World} {g : Nat} {Y : TypeId} {x y : Value} (h : Bk2 W g Y x y) : g < W.heap.size := (Array.getElem?_eq_some_iff.1 h).1
theorem Bk2.go {W W' : World} {g : Nat} {Y : TypeId} {x y : Value} (h : Bk2 W g Y x y) (hb : Below W.heap.size W W') : Bk2 W' g Y x y := (hb.block g h.lt).trans h
theorem Bk2.c0 {W : World} {g : Nat} {Y : TypeId} {x y : Value} (h : Bk2 W g Y x y) : W.cell? ⟨g, 0, none⟩ = some x := Lib.cell_of_heap h 0
theorem Bk2.c1 {W : World} {g : Nat} {Y : TypeId} {x y : Value} (h : Bk2 W g Y x y) : W.cell? ⟨g, 1, none⟩ = some y := Lib.cell_of_heap h 1
theorem Bk2.fz {W : World} {g : Nat} {Y : TypeId} {x y : Value} (h : Bk2 W g Y x y) (j : Nat) : W.frozen? ⟨g, j, none⟩ = false := Lib.frozen_of_heap h j
theorem Bk2.put {W : World} {g : Nat} {Y : TypeId} {x y : Value} (h : Bk2 W g Y x y) (x' y' : Value) : Bk2 ((W.setCell ⟨g, 0, none⟩ x').setCell ⟨g, 1, none⟩ y') g Y x' y' := by
  have h0 := Joins.block_setCell (i := 0) h x'
  have h1 := Joins.block_setCell (i := 1) h0 y'
  unfold Bk2
  rw [h1]
  simp
theorem Bk2.other {W : World} {g b k : Nat} {Y : TypeId} {x y : Value} (h : Bk2 W g Y x y) (hb : g ≠ b) (u : Value) : Bk2 (W.setCell ⟨b, k, none⟩ u) g Y x y := (Below.heap_setCell W ⟨b, k, none⟩ u g hb).trans h
theorem bk2_made (W : World) (Y : TypeId) (x y : Value) : Bk2 (W.alloc (.cells #[x, y] Y)) W.heap.size Y x y := heap_alloc_new W _
theorem below_put2 {n : Nat} {w0 W : World} (h : Below n w0 W) {g : Nat} (hg : n ≤ g) (x y : Value) : Below n w0 ((W.setCell ⟨g, 0, none⟩ x).setCell ⟨g, 1, none⟩ y) := Below.setCell (Below.setCell h (p := ⟨g, 0, none⟩) hg _) (p := ⟨g, 1, none⟩) hg _
set_option maxHeartbeats 2000000 in
theorem places_any (off : Int) (d : ByteArray) (w : World) (h0 : 0 ≤ off) (h1 : off ≤ 4611686018427387903) (h2 : (d.size : Int) ≤ 4611686018427387903) :
    Calls Tryz.prog 140 #[.agg #[.int .u64 off, .string d]] w fun e w' => e = .returned (.agg #[.int .u64 (spn off (off + (d.size : Int))).1, .int .u64 (spn off (off + (d.size : Int))).2]) ∧ Below w.heap.size w w' := by
  have CE := Lib.hid (fun W => end_any off d W h0 h1 h2)
  have CS := Lib.hid (fun W => span_any off (off + (d.size : Int)) W h0 (by omega))
  have HK := Lib.hid ((((bk2_made w 137 (.int .u64 off) (.string d)).go ((Below.refl _ _).alloc (Nat.le_refl _) (.cells #[.int .u64 0, .int .u64 0] 153)))).go (Below.refl _ _).drew)
  have HZ : Hid (Bk2 (((w.alloc (.cells #[.int .u64 off, .string d] 137)).alloc (.cells #[.int .u64 0, .int .u64 0] 153)).drew) (w.heap.size + 1) 153 (.int .u64 0) (.int .u64 0)) := Lib.hid (by
    have := (bk2_made (w.alloc (.cells #[.int .u64 off, .string d] 137)) 153 (.int .u64 0) (.int .u64 0)).go (Below.refl _ _).drew
    simpa using this)
  have HB := Lib.hid ((((Below.refl w.heap.size w).alloc (Nat.le_refl _) (.cells #[.int .u64 off, .string d] 137)).alloc (by simp) (.cells #[.int .u64 0, .int .u64 0] 153)).drew)
  clear h0 h1 h2
  go_enter Tryz.func140, Tryz.ntmps140
  go_wp2_with fail
  refine wp_region_noPanic ?_
  refine wp_region_held_drew (S := fun W : World => Bk2 W w.heap.size 137 (.int .u64 off) (.string d) ∧ Below w.heap.size w W) (by kernel_rfl) ?_ (fun hHeld => ?_)
  · exact ⟨HK.out, HB.out⟩
  refine wpAnyH_take (i := 0) (v := ?_) rfl (by kernel_rfl) (by kernel_rfl) (by kernel_rfl) (fun _ _ _ h => h) (Or.inl ⟨by rfl, ?_⟩) (by assumption) ?_
  rotate_left
  · (intro w hSw; (have c0 := hSw.1.c0; have c1 := hSw.1.c1); go_simp; (try with_reducible rfl))
  try simp only [Act.put, List.getElem_toArray, List.getElem_cons_zero, List.getElem_cons_succ, List.setIfInBounds_toArray, List.set_cons_zero, List.set_cons_succ]
  refine wpAnyH_take (i := 1) (v := ?_) rfl (by kernel_rfl) (by kernel_rfl) (by kernel_rfl) (fun _ _ _ h => h) (Or.inl ⟨by rfl, ?_⟩) (by assumption) ?_
  rotate_left
  · (intro w hSw; (have c0 := hSw.1.c0; have c1 := hSw.1.c1); go_simp; (try with_reducible rfl))
  try simp only [Act.put, List.getElem_toArray, List.getElem_cons_zero, List.getElem_cons_succ, List.setIfInBounds_toArray, List.set_cons_zero, List.set_cons_succ]
  refine wpAnyH_take (i := 2) (v := ?_) rfl (by kernel_rfl) (by kernel_rfl) (by kernel_rfl) (fun _ _ _ h => h) (Or.inl ⟨by rfl, ?_⟩) (by assumption) ?_
  rotate_left
  · (intro w hSw; (have c0 := hSw.1.c0; have c1 := hSw.1.c1); go_simp; (try with_reducible rfl))
  try simp only [Act.put, List.getElem_toArray, List.getElem_cons_zero, List.getElem_cons_succ, List.setIfInBounds_toArray, List.set_cons_zero, List.set_cons_succ]
  refine wpAnyH_ready (rs := [3]) (by kernel_rfl) (by simp) ?_
  refine AllReadyH.cons rfl (fun K hK => ?_) AllReadyH.nil
  rw [if_pos (by rfl)]
  go_simp
  refine (CE.out _).mono ?_
  rintro e w1 ⟨rfl, hb⟩
  have HK1 := Lib.hid (HK.out.go hb)
  have HZ1 := Lib.hid (HZ.out.go hb)
  have HB1 := Lib.hid (nextG HB.out hb)
  clear hb
  refine hK.out _ _ ?_ (fun hHeld => ?_)
  · exact ⟨HK1.out, HB1.out⟩
  clear hK K
  try simp only [Act.put, List.getElem_toArray, List.getElem_cons_zero, List.getElem_cons_succ, List.setIfInBounds_toArray, List.set_cons_zero, List.set_cons_succ]
  refine wpAnyH_ready (rs := [4]) (by kernel_rfl) (by simp) ?_
  refine AllReadyH.cons rfl (fun K hK => ?_) AllReadyH.nil
  rw [if_pos (by rfl)]
  go_simp
  refine (CS.out _).mono ?_
  rintro e w2 ⟨rfl, hb⟩
  have HK2 := Lib.hid (HK1.out.go hb)
  have HZ2 := Lib.hid (HZ1.out.go hb)
  have HB2 := Lib.hid (nextG HB1.out hb)
  have z0 := HZ2.out.c0
  have z1 := HZ2.out.c1
  have zf := HZ2.out.fz
  clear hb
  refine hK.out _ _ ?_ (fun hHeld => ?_)
  · exact ⟨HK2.out, HB2.out⟩
  clear hK K
  try simp only [Act.put, List.getElem_toArray, List.getElem_cons_zero, List.getElem_cons_succ, List.setIfInBounds_toArray, List.set_cons_zero, List.set_cons_succ]
  refine wpAnyH_ready (rs := [5]) (by kernel_rfl) (by simp) ?_
  refine AllReadyH.cons rfl (fun K hK => ?_) AllReadyH.nil
  rw [if_pos (by rfl)]
  go_simp
  refine hK.out _ _ ?_ (fun hHeld => ?_)
  · exact ⟨(HK2.out.other (by omega) _).other (by omega) _, below_put2 HB2.out (by omega) _ _⟩
  clear hK K
  try simp only [Act.put, List.getElem_toArray, List.getElem_cons_zero, List.getElem_cons_succ, List.setIfInBounds_toArray, List.set_cons_zero, List.set_cons_succ]
  refine wpAnyH_done (by kernel_rfl) (NoPanic.normal ?_) _
  have HF := Lib.hid (HZ2.out.put (.int .u64 (spn off (off + (d.size : Int))).1) (.int .u64 (spn off (off + (d.size : Int))).2))
  go_wp2_with fail
  exact bodyPost_ret (v := .agg #[.int .u64 (spn off (off + (d.size : Int))).1, .int .u64 (spn off (off + (d.size : Int))).2]) (results_cell_row Tryz.results140 _ _ (w.heap.size + 1) _ _ _ _ rfl HF.out Tryz.underlying153 rfl infRg) rfl ⟨rfl, hHeld.2⟩
set_option maxHeartbeats 2000000 in
theorem piece_any (off lo hi : Int) (d D : ByteArray) (w : World) (h0 : 0 ≤ off) (h1 : off ≤ lo) (h2 : lo ≤ hi + 1) (h3 : hi + 1 ≤ off + (d.size : Int)) (h4 : (d.size : Int) ≤ 4611686018427387903) (h5 : off ≤ 4611686018427387903)
    (hD : d.extract (lo - off).toNat (hi - off + 1).toNat = D) :
    Calls Tryz.prog 141 #[.agg #[.int .u64 off, .string d], .agg #[.int .u64 lo, .int .u64 hi]] w fun e w' => e = .returned (.agg #[.int .u64 lo, .string D]) ∧ Below w.heap.size w w' := by
  have v1 : IntKind.u64.wrap (lo - off) = lo - off := IntWalk.u64_in _ (by omega)
  have v3 : IntKind.u64.wrap (hi - off + 1) = hi - off + 1 := IntWalk.u64_in _ (by omega)
  have v4 : IntKind.u64.wrap (IntKind.u64.wrap (hi - off) + 1) = hi - off + 1 := by rw [IntKind.wrap_u64, IntKind.wrap_u64]; omega
  have b1 : 0 ≤ lo - off := by omega
  have b2 : lo - off ≤ hi - off + 1 := by omega
  have b3 : hi - off + 1 ≤ (d.size : Int) := by omega
  have HD := Lib.hid hD
  clear hD
  go_enter Tryz.func141, Tryz.ntmps141
  go_wp2_with fail
  go_region
  go_wp2_with fail
  rw [HD.out]
  exact bodyPost_ret (v := .agg #[.int .u64 lo, .string D]) (by simp [results, Tryz.results141, go_sem]) rfl ⟨rfl, ((((Below.refl _ _).alloc (Nat.le_refl _) _).alloc (by simp) _).alloc (by simp; omega) _).drew⟩

/-! ### What is told of a state -/
/-- A state in a block. -/
def Gb (W : World) (g : Nat) (Y : TypeId) (s : GS) (v : Value) : Prop := W.heap[g]? = some (.cells #[.int .u64 s.rd, v, .int .u64 s.fin, .bool s.kn] Y (0, 0))
theorem Gb.lt {W : World} {g : Nat} {Y : TypeId} {s : GS} {v : Value} (h : Gb W g Y s v) : g < W.heap.size := (Array.getElem?_eq_some_iff.1 h).1
theorem Gb.go {W W' : World} {g : Nat} {Y : TypeId} {s : GS} {v : Value} (h : Gb W g Y s v) (hb : Below W.heap.size W W') : Gb W' g Y s v := (hb.block g h.lt).trans h
theorem Gb.c0 {W : World} {g : Nat} {Y : TypeId} {s : GS} {v : Value} (h : Gb W g Y s v) : W.cell? ⟨g, 0, none⟩ = some (.int .u64 s.rd) := Lib.cell_of_heap h 0
theorem Gb.c1 {W : World} {g : Nat} {Y : TypeId} {s : GS} {v : Value} (h : Gb W g Y s v) : W.cell? ⟨g, 1, none⟩ = some v := Lib.cell_of_heap h 1
theorem Gb.c2 {W : World} {g : Nat} {Y : TypeId} {s : GS} {v : Value} (h : Gb W g Y s v) : W.cell? ⟨g, 2, none⟩ = some (.int .u64 s.fin) := Lib.cell_of_heap h 2
theorem Gb.c3 {W : World} {g : Nat} {Y : TypeId} {s : GS} {v : Value} (h : Gb W g Y s v) : W.cell? ⟨g, 3, none⟩ = some (.bool s.kn) := Lib.cell_of_heap h 3
theorem Gb.fz {W : World} {g : Nat} {Y : TypeId} {s : GS} {v : Value} (h : Gb W g Y s v) (j : Nat) : W.frozen? ⟨g, j, none⟩ = false := Lib.frozen_of_heap h j
theorem gb_made (W : World) (Y : TypeId) (s : GS) (v : Value) : Gb (W.alloc (.cells #[.int .u64 s.rd, v, .int .u64 s.fin, .bool s.kn] Y)) W.heap.size Y s v := heap_alloc_new W _
theorem Gb.other {W : World} {g b k : Nat} {Y : TypeId} {s : GS} {v : Value} (h : Gb W g Y s v) (hb : g ≠ b) (u : Value) : Gb (W.setCell ⟨b, k, none⟩ u) g Y s v := (Below.heap_setCell W ⟨b, k, none⟩ u g hb).trans h
theorem Gb.s0 {W : World} {g : Nat} {Y : TypeId} {s : GS} {v : Value} (h : Gb W g Y s v) (x : Int) : Gb (W.setCell ⟨g, 0, none⟩ (.int .u64 x)) g Y { s with rd := x } v := Joins.block_setCell (i := 0) h _
theorem Gb.s1 {W : World} {g : Nat} {Y : TypeId} {s : GS} {v : Value} (h : Gb W g Y s v) (l : List Ran) (u : Value) : Gb (W.setCell ⟨g, 1, none⟩ u) g Y { s with l := l } u := Joins.block_setCell (i := 1) h _
theorem Gb.s2 {W : World} {g : Nat} {Y : TypeId} {s : GS} {v : Value} (h : Gb W g Y s v) (x : Int) : Gb (W.setCell ⟨g, 2, none⟩ (.int .u64 x)) g Y { s with fin := x } v := Joins.block_setCell (i := 2) h _
theorem Gb.s3 {W : World} {g : Nat} {Y : TypeId} {s : GS} {v : Value} (h : Gb W g Y s v) (x : Bool) : Gb (W.setCell ⟨g, 3, none⟩ (.bool x)) g Y { s with kn := x } v := Joins.block_setCell (i := 3) h _
theorem Gb.l {W : World} {g : Nat} {Y : TypeId} {s : GS} {v : Value} (h : Gb W g Y s v) (l : List Ran) : Gb W g Y { s with l := l } v := h

set_option maxHeartbeats 1000000 in
theorem endsAt_any (s : GS) (v : Value) (p : Int) (w : World) :
    Calls Tryz.prog 104 #[.agg #[.int .u64 s.rd, v, .int .u64 s.fin, .bool s.kn], .int .u64 p] w fun e w' => e = .returned (.bool (s.kn && decide (s.fin = p))) ∧ Below w.heap.size w w' := by
  obtain ⟨rd, l, fin, kn⟩ := s
  simp only
  cases kn with
  | false =>
    go_enter Tryz.func104, Tryz.ntmps104
    go_wp2_with fail
    go_ret
    exact ⟨rfl, (Below.refl _ _).alloc (Nat.le_refl _) _⟩
  | true =>
    by_cases h : fin = p
    · have d1 : (fin == p) = true := by rw [h]; exact beq_self_eq_true _
      replace h := Lib.hid h
      go_enter Tryz.func104, Tryz.ntmps104
      go_wp2_with fail
      go_ret
      exact ⟨ret_bool (by simp [h.out]), (Below.refl _ _).alloc (Nat.le_refl _) _⟩
    · have d1 : (fin == p) = false := beq_eq_false_iff_ne.2 h
      replace h := Lib.hid h
      go_enter Tryz.func104, Tryz.ntmps104
      go_wp2_with fail
      go_ret
      exact ⟨ret_bool (by simp [h.out]), (Below.refl _ _).alloc (Nat.le_refl _) _⟩

/-- The bytes that are ready. -/
def rdB (T : ByteArray) (s : GS) : ByteArray := match s.l with | x :: _ => if x.1 = s.rd then bt T x else ⟨#[]⟩ | [] => ⟨#[]⟩
set_option maxHeartbeats 1000000 in
theorem ready_nil (rd fin : Int) (kn : Bool) (a : Option Addr) (c : Nat) (w : World) :
    Calls Tryz.prog 142 #[.agg #[.int .u64 rd, .slice a 0 c, .int .u64 fin, .bool kn]] w fun e w' => e = .returned (.string ⟨#[]⟩) ∧ Below w.heap.size w w' := by
  go_enter Tryz.func142, Tryz.ntmps142
  go_wp2_with fail
  go_quiet (fail)
  go_wp2_with fail
  go_ret
  exact ⟨rfl, below_drewN ((Below.refl _ _).alloc (Nat.le_refl _) _) _⟩
set_option maxHeartbeats 1000000 in
theorem ready_row (rd fin x : Int) (kn : Bool) (D : ByteArray) (b off n c : Nat) (w : World) (hn : 0 < n) (hc : n ≤ c) (h1 : w.cell? ⟨b, off, none⟩ = some (.int .u64 x)) (h2 : w.cell? ⟨b, off + 1, none⟩ = some (.string D)) :
    Calls Tryz.prog 142 #[.agg #[.int .u64 rd, .slice (some ⟨b, off, none⟩) n c, .int .u64 fin, .bool kn]] w fun e w' => e = .returned (.string (if x = rd then D else ⟨#[]⟩)) ∧ Below w.heap.size w w' := by
  have hb := block_lt_of_cell h1
  have d0 : ((n : Int) == 0) = false := by rw [beq_eq_false_iff_ne]; omega
  have n0 : (0 : Int) < n := by omega
  by_cases h : x = rd
  · have d1 : (x != rd) = false := by rw [h]; simp
    rw [if_pos h]
    replace h := Lib.hid h
    go_enter Tryz.func142, Tryz.ntmps142
    go_wp2_with fail
    go_quiet (fail)
    go_wp2_with fail
    go_ret
    exact ⟨rfl, below_drewN ((Below.refl _ _).alloc (Nat.le_refl _) _) _⟩
  · have d1 : (x != rd) = true := by simp [h]
    rw [if_neg h]
    replace h := Lib.hid h
    go_enter Tryz.func142, Tryz.ntmps142
    go_wp2_with fail
    go_quiet (fail)
    go_wp2_with fail
    go_ret
    exact ⟨rfl, below_drewN ((Below.refl _ _).alloc (Nat.le_refl _) _) _⟩
theorem ready_any (T : ByteArray) (s : GS) (v : Value) (w : World) (hr : RowG w v T s.l) :
    Calls Tryz.prog 142 #[.agg #[.int .u64 s.rd, v, .int .u64 s.fin, .bool s.kn]] w fun e w' => e = .returned (.string (rdB T s)) ∧ Below w.heap.size w w' := by
  obtain ⟨rd, l, fin, kn⟩ := s
  obtain ⟨a, c, rfl, hc, hrow⟩ := hr
  simp only at hc hrow ⊢
  unfold rdB
  cases l with
  | nil => exact ready_nil rd fin kn a c w
  | cons x l =>
    obtain ⟨b, off, rfl, hb, hcell⟩ := hrow (by simp)
    have h1 := hcell 0 (by simp) 0 (by decide)
    have h2 := hcell 0 (by simp) 1 (by decide)
    exact ready_row rd fin x.1 kn (bt T x) b off _ c w (by simp) hc (by simpa [gcs] using h1) (by simpa [gcs] using h2)
end Go.Proofs.YtoblmhpjendbfaaGreatDoor.Rg.Gt
namespace Go.Proofs
set_option maxRecDepth 20000
open Go.Shelf
def Tryz.sortG_ren : Go.Shelf.Ren := ⟨fun | 6 => 135 | 14 => 163 | 15 => 164 | 20 => 182 | 21 => 183 | 22 => 184 | 23 => 185 | 24 => 186 | 25 => 187 | 26 => 188 | 27 => 189 | 28 => 190 | 29 => 191 | 46 => 208 | 47 => 209 | 48 => 210 | 49 => 211 | 50 => 212 | 57 => 217 | n => n, fun | 0 => 0 | 3 => 3 | 4 => 4 | 5 => 5 | 9 => 9 | 22 => 31 | 24 => 137 | 25 => 204 | 39 => 181 | 45 => 241 | 46 => 242 | 50 => 166 | 53 => 22 | 55 => 23 | 66 => 258 | 70 => 261 | 76 => 267 | 77 => 268 | n => n, fun | n => n⟩
theorem Tryz.sortG : Go.Proofs.SlLaysF0.n6 Tryz.prog Tryz.sortG_ren := {
  mixed := by kernel_rfl
  f6 := ⟨Tryz.f135.name, by decide, Tryz.func135.trans (congrArg some (by kernel_rfl))⟩
  f14 := ⟨Tryz.f163.name, by decide, Tryz.func163.trans (congrArg some (by kernel_rfl))⟩
  f15 := Tryz.func164.trans (congrArg some (by kernel_rfl))
  f20 := ⟨Tryz.f182.name, by decide, Tryz.func182.trans (congrArg some (by kernel_rfl))⟩
  f21 := ⟨Tryz.f183.name, by decide, Tryz.func183.trans (congrArg some (by kernel_rfl))⟩
  f22 := ⟨Tryz.f184.name, by decide, Tryz.func184.trans (congrArg some (by kernel_rfl))⟩
  f23 := ⟨Tryz.f185.name, by decide, Tryz.func185.trans (congrArg some (by kernel_rfl))⟩
  f24 := ⟨Tryz.f186.name, by decide, Tryz.func186.trans (congrArg some (by kernel_rfl))⟩
  f25 := ⟨Tryz.f187.name, by decide, Tryz.func187.trans (congrArg some (by kernel_rfl))⟩
  f26 := ⟨Tryz.f188.name, by decide, Tryz.func188.trans (congrArg some (by kernel_rfl))⟩
  f27 := ⟨Tryz.f189.name, by decide, Tryz.func189.trans (congrArg some (by kernel_rfl))⟩
  f28 := Tryz.func190.trans (congrArg some (by kernel_rfl))
  f29 := Tryz.func191.trans (congrArg some (by kernel_rfl))
  f46 := ⟨Tryz.f208.name, by decide, Tryz.func208.trans (congrArg some (by kernel_rfl))⟩
  f47 := Tryz.func209.trans (congrArg some (by kernel_rfl))
  f48 := Tryz.func210.trans (congrArg some (by kernel_rfl))
  f49 := ⟨Tryz.f211.name, by decide, Tryz.func211.trans (congrArg some (by kernel_rfl))⟩
  f50 := ⟨Tryz.f212.name, by decide, Tryz.func212.trans (congrArg some (by kernel_rfl))⟩
  f57 := ⟨Tryz.f217.name, by decide, Tryz.func217.trans (congrArg some (by kernel_rfl))⟩
  t0 := Tryz.underlying0
  a0 := Tryz.isAgg0
  z0 := Tryz.sizeOf0
  v0 := Tryz.zeroValue0
  t3 := Tryz.underlying3
  a3 := Tryz.isAgg3
  z3 := Tryz.sizeOf3
  v3 := Tryz.zeroValue3
  t4 := Tryz.underlying4
  a4 := Tryz.isAgg4
  z4 := Tryz.sizeOf4
  v4 := Tryz.zeroValue4
  t5 := Tryz.underlying5
  a5 := Tryz.isAgg5
  z5 := Tryz.sizeOf5
  v5 := Tryz.zeroValue5
  t9 := Tryz.underlying9
  a9 := Tryz.isAgg9
  z9 := Tryz.sizeOf9
  v9 := Tryz.zeroValue9
  t22 := Tryz.underlying31
  a22 := Tryz.isAgg31
  z22 := Tryz.sizeOf31
  v22 := Tryz.zeroValue31
  t25 := Tryz.underlying204
  a25 := Tryz.isAgg204
  z25 := Tryz.sizeOf204
  v25 := Tryz.zeroValue204
  t39 := Tryz.underlying181
  a39 := Tryz.isAgg181
  z39 := Tryz.sizeOf181
  v39 := Tryz.zeroValue181
  t45 := Tryz.underlying241
  a45 := Tryz.isAgg241
  z45 := Tryz.sizeOf241
  v45 := Tryz.zeroValue241
  t46 := Tryz.underlying242
  a46 := Tryz.isAgg242
  z46 := Tryz.sizeOf242
  v46 := Tryz.zeroValue242
  t50 := Tryz.underlying166
  a50 := Tryz.isAgg166
  z50 := Tryz.sizeOf166
  v50 := Tryz.zeroValue166
  t53 := Tryz.underlying22
  a53 := Tryz.isAgg22
  z53 := Tryz.sizeOf22
  v53 := Tryz.zeroValue22
  t55 := Tryz.underlying23
  a55 := Tryz.isAgg23
  z55 := Tryz.sizeOf23
  v55 := Tryz.zeroValue23
  t66 := Tryz.underlying258
  a66 := Tryz.isAgg258
  z66 := Tryz.sizeOf258
  v66 := Tryz.zeroValue258
  t70 := Tryz.underlying261
  a70 := Tryz.isAgg261
  z70 := Tryz.sizeOf261
  v70 := Tryz.zeroValue261
  t76 := Tryz.underlying267
  a76 := Tryz.isAgg267
  z76 := Tryz.sizeOf267
  v76 := Tryz.zeroValue267
  t77 := Tryz.underlying268
  a77 := Tryz.isAgg268
  z77 := Tryz.sizeOf268
  v77 := Tryz.zeroValue268 }
end Go.Proofs
