/- The walks of layer 11: Sample, Pto, by the program and by the document. By hand. -/
import Derived.Test.YtgmaaeaaanjjaaaRtA
import Derived.Lib.SmallJoins
import Derived.Laws.Rows
import Derived.Deep.RegionHeld3
namespace Go.Proofs.Ytgmaaeaaanjjaaa.Rt
open Go.RowKit
set_option linter.unusedVariables false
set_option linter.unusedSimpArgs false

theorem min_run (x y z : Int) (h : min x y = z) (ts : Array TypeId) (t : TypeId) (w : World) : (Builtin.min_ ts t #[.int .i64 x, .int .i64 y]).run Try.prog w = .ok (.int .i64 z) w := by
  rw [run_min_int2, ← h]
  by_cases h : y < x
  · rw [if_pos h, show min x y = y by omega]
  · rw [if_neg h, show min x y = x by omega]
theorem max_run (x y z : Int) (h : max x y = z) (ts : Array TypeId) (t : TypeId) (w : World) : (Builtin.max_ ts t #[.int .i64 x, .int .i64 y]).run Try.prog w = .ok (.int .i64 z) w := by
  rw [run_max_int2, ← h]
  by_cases h : y > x
  · rw [if_pos h, show max x y = y by omega]
  · rw [if_neg h, show max x y = x by omega]
/-- A block with an estimate. -/
def Bx (W : World) (b : Nat) (T : TypeId) (a : Bool) (la sm va mn : Int) : Prop := W.heap[b]? = some (.cells #[.bool a, .int .i64 la, .int .i64 sm, .int .i64 va, .int .i64 mn] T (0, 0))
theorem Bx.cells {W : World} {b : Nat} {T : TypeId} {a : Bool} {la sm va mn : Int} (h : Bx W b T a la sm va mn) : W.cell? ⟨b, 0, none⟩ = some (.bool a) ∧ W.cell? ⟨b, 1, none⟩ = some (.int .i64 la) ∧ W.cell? ⟨b, 2, none⟩ = some (.int .i64 sm) ∧ W.cell? ⟨b, 3, none⟩ = some (.int .i64 va) ∧ W.cell? ⟨b, 4, none⟩ = some (.int .i64 mn) :=
  ⟨Lib.cell_of_heap h 0, Lib.cell_of_heap h 1, Lib.cell_of_heap h 2, Lib.cell_of_heap h 3, Lib.cell_of_heap h 4⟩
theorem Bx.fz {W : World} {b : Nat} {T : TypeId} {a : Bool} {la sm va mn : Int} (h : Bx W b T a la sm va mn) : W.frozen? ⟨b, 0, none⟩ = false ∧ W.frozen? ⟨b, 1, none⟩ = false ∧ W.frozen? ⟨b, 2, none⟩ = false ∧ W.frozen? ⟨b, 3, none⟩ = false ∧ W.frozen? ⟨b, 4, none⟩ = false :=
  ⟨Lib.frozen_of_heap h 0, Lib.frozen_of_heap h 1, Lib.frozen_of_heap h 2, Lib.frozen_of_heap h 3, Lib.frozen_of_heap h 4⟩
theorem Bx.lt {W : World} {b : Nat} {T : TypeId} {a : Bool} {la sm va mn : Int} (h : Bx W b T a la sm va mn) : b < W.heap.size := (Array.getElem?_eq_some_iff.1 h).1
theorem Bx.keep {W W' : World} {b B : Nat} {T : TypeId} {a : Bool} {la sm va mn : Int} (h : Bx W b T a la sm va mn) (hb : Below B W W') (hB : b < B) : Bx W' b T a la sm va mn := (hb.block b hB).trans h
theorem Bx.made (W : World) (T : TypeId) (a : Bool) (la sm va mn : Int) : Bx (W.alloc (.cells #[.bool a, .int .i64 la, .int .i64 sm, .int .i64 va, .int .i64 mn] T)) W.heap.size T a la sm va mn := heap_alloc_new W _
theorem Bx.put {W : World} {b : Nat} {T : TypeId} {a : Bool} {la sm va mn : Int} (h : Bx W b T a la sm va mn) (a' : Bool) (x y z u : Int) :
    Bx (((((W.setCell ⟨b, 0, none⟩ (.bool a')).setCell ⟨b, 1, none⟩ (.int .i64 x)).setCell ⟨b, 2, none⟩ (.int .i64 y)).setCell ⟨b, 3, none⟩ (.int .i64 z)).setCell ⟨b, 4, none⟩ (.int .i64 u)) b T a' x y z u := by
  have h0 := Joins.block_setCell (i := 0) h (.bool a')
  have h1 := Joins.block_setCell (i := 1) h0 (.int .i64 x)
  have h2 := Joins.block_setCell (i := 2) h1 (.int .i64 y)
  have h3 := Joins.block_setCell (i := 3) h2 (.int .i64 z)
  have h4 := Joins.block_setCell (i := 4) h3 (.int .i64 u)
  unfold Bx
  rw [h4]
  simp
theorem below_put {W W' : World} {B b : Nat} (h : Below B W W') (hb : B ≤ b) (p q r s t : Value) :
    Below B W (((((W'.setCell ⟨b, 0, none⟩ p).setCell ⟨b, 1, none⟩ q).setCell ⟨b, 2, none⟩ r).setCell ⟨b, 3, none⟩ s).setCell ⟨b, 4, none⟩ t) :=
  ((((h.setCell hb p).setCell hb q).setCell hb r).setCell hb s).setCell hb t
theorem inf_st : (Try.prog.info? 25).map (·.size) = some 5 := by kernel_rfl
theorem inf_std : (Try.prog.info? 27).map (·.size) = some 5 := by kernel_rfl
set_option maxHeartbeats 4000000 in
theorem sample_no (la sm va mn l d m : Int) (w : World) (N : Int) (hN : tk l = N) (h0 : 0 ≤ N) (h1 : N ≤ 1099511627776) :
    Calls Try.prog 15 #[.agg #[.bool false, .int .i64 la, .int .i64 sm, .int .i64 va, .int .i64 mn], .int .i64 l, .int .i64 d, .int .i64 m] w fun e w' => e = .returned (.agg #[.bool true, .int .i64 N, .int .i64 N, .int .i64 (N / 2), .int .i64 N]) ∧ Below w.heap.size w w' := by
  have CT := Lib.hid (ticks_any l)
  rw [hN] at CT
  go_enter Try.func15, Try.ntmps15
  go_wp2_with fail
  with_reducible refine (CT.out _).mono ?_
  rintro e w1 ⟨rfl, hb⟩
  have HP := (Bx.made w 25 false la sm va mn)
  have HR := (Bx.made (w.alloc (.cells #[.bool false, .int .i64 la, .int .i64 sm, .int .i64 va, .int .i64 mn] 25)) 25 false 0 0 0 0)
  rw [World.size_alloc] at HR
  have HP1 := Lib.hid ((HP.keep ((Below.refl _ _).alloc (Nat.le_refl _) _) (by simp)).keep hb (by simp; omega))
  have HR1 := Lib.hid (HR.keep hb (by simp))
  have HB1 := Lib.hid ((((Below.refl w.heap.size w).alloc (Nat.le_refl _) _).alloc (by simp) _).trans (hb.mono (by simp; omega)))
  have hs1 : w.heap.size + 1 < w1.heap.size := HR1.out.lt
  clear HP HR hb
  obtain ⟨p0, p1, p2, p3, p4⟩ := HP1.out.cells
  obtain ⟨r0, r1, r2, r3, r4⟩ := HR1.out.cells
  obtain ⟨f0, f1, f2, f3, f4⟩ := HR1.out.fz
  go_wp2_with fail
  have HQ := Lib.hid (HR1.out.put true N N (N / 2) N)
  exact bodyPost_ret (v := .agg #[.bool true, .int .i64 N, .int .i64 N, .int .i64 (N / 2), .int .i64 N]) (results_cell_row Try.results15 _ _ (w.heap.size + 1) _ _ _ _ rfl HQ.out Try.underlying25 rfl inf_st) rfl ⟨rfl, below_put HB1.out (by omega) _ _ _ _ _⟩
set_option maxHeartbeats 4000000 in
theorem sampleD_no (la sm va mn l d m : Int) (w : World) (N : Int) (hN : tk l = N) (h0 : 0 ≤ N) (h1 : N ≤ 1099511627776) :
    Calls Try.prog 16 #[.agg #[.bool false, .int .i64 la, .int .i64 sm, .int .i64 va, .int .i64 mn], .int .i64 l, .int .i64 d, .int .i64 m] w fun e w' => e = .returned (.agg #[.bool true, .int .i64 N, .int .i64 N, .int .i64 (N / 2), .int .i64 N]) ∧ Below w.heap.size w w' := by
  have CT := Lib.hid (bound_any l)
  rw [hN] at CT
  go_enter Try.func16, Try.ntmps16
  go_wp2_with fail
  with_reducible refine (CT.out _).mono ?_
  rintro e w1 ⟨rfl, hb⟩
  have HP := (Bx.made w 27 false la sm va mn)
  have HR := (Bx.made (w.alloc (.cells #[.bool false, .int .i64 la, .int .i64 sm, .int .i64 va, .int .i64 mn] 27)) 27 false 0 0 0 0)
  rw [World.size_alloc] at HR
  have HP1 := Lib.hid ((HP.keep ((Below.refl _ _).alloc (Nat.le_refl _) _) (by simp)).keep hb (by simp; omega))
  have HR1 := Lib.hid (HR.keep hb (by simp))
  have HB1 := Lib.hid ((((Below.refl w.heap.size w).alloc (Nat.le_refl _) _).alloc (by simp) _).trans (hb.mono (by simp; omega)))
  have hs1 : w.heap.size + 1 < w1.heap.size := HR1.out.lt
  clear HP HR hb
  obtain ⟨p0, p1, p2, p3, p4⟩ := HP1.out.cells
  obtain ⟨r0, r1, r2, r3, r4⟩ := HR1.out.cells
  obtain ⟨f0, f1, f2, f3, f4⟩ := HR1.out.fz
  go_wp2_with fail
  have HQ := Lib.hid (HR1.out.put true N N (N / 2) N)
  exact bodyPost_ret (v := .agg #[.bool true, .int .i64 N, .int .i64 N, .int .i64 (N / 2), .int .i64 N]) (results_cell_row Try.results16 _ _ (w.heap.size + 1) _ _ _ _ rfl HQ.out Try.underlying27 rfl inf_std) rfl ⟨rfl, below_put HB1.out (by omega) _ _ _ _ _⟩
theorem Bx.put_other {W : World} {b g : Nat} {T : TypeId} {a : Bool} {la sm va mn : Int} (h : Bx W b T a la sm va mn) (hg : b ≠ g) (p q r s t : Value) :
    Bx (((((W.setCell ⟨g, 0, none⟩ p).setCell ⟨g, 1, none⟩ q).setCell ⟨g, 2, none⟩ r).setCell ⟨g, 3, none⟩ s).setCell ⟨g, 4, none⟩ t) b T a la sm va mn :=
  (Below.heap_setCell _ _ _ b hg).trans ((Below.heap_setCell _ _ _ b hg).trans ((Below.heap_setCell _ _ _ b hg).trans ((Below.heap_setCell _ _ _ b hg).trans ((Below.heap_setCell _ _ _ b hg).trans h))))
set_option maxHeartbeats 4000000 in
theorem sample_yes (la sm va mn l d m : Int) (w : World) (N D E DE L K AP : Int) (hN : tk l = N) (hD : tk d = D) (hE : tk m = E) (hDE : min D E = DE) (hL : min mn N = L) (hT : took N DE L = K) (hAP : apartN sm K = AP) (h0 : 0 ≤ N) (h1 : N ≤ 1099511627776) (hsm0 : 0 ≤ sm) (hsm1 : sm ≤ 1099511627776) (hva0 : 0 ≤ va) (hva1 : va ≤ 1099511627776) (hmn0 : 0 ≤ mn) (hd0 : 0 ≤ DE) (hd1 : DE ≤ 1099511627776) (hL0 : 0 ≤ L) (ht0 : 0 ≤ K) (ht1 : K ≤ 1099511627776) (ha0 : 0 ≤ AP) (ha1 : AP ≤ 1099511627776) :
    Calls Try.prog 15 #[.agg #[.bool true, .int .i64 la, .int .i64 sm, .int .i64 va, .int .i64 mn], .int .i64 l, .int .i64 d, .int .i64 m] w fun e w' => e = .returned (.agg #[.bool true, .int .i64 N, .int .i64 ((7 * sm + K) / 8), .int .i64 ((3 * va + AP) / 4), .int .i64 L]) ∧ Below w.heap.size w w' := by
  have CT := Lib.hid (ticks_any l)
  have CD := Lib.hid (ticks_any d)
  have CE := Lib.hid (ticks_any m)
  have CA : Hid (∀ W : World, Calls Try.prog 20 #[.int .i64 N, .int .i64 DE, .int .i64 L] W fun e w' => e = .returned (.int .i64 K) ∧ Below W.heap.size W w') := Lib.hid (fun W => by
    rw [← hT]; exact adjusted_any N DE L W h0 h1 hd0 hd1)
  have CP : Hid (∀ W : World, Calls Try.prog 21 #[.int .i64 sm, .int .i64 K] W fun e w' => e = .returned (.int .i64 AP) ∧ Below W.heap.size W w') := Lib.hid (fun W => by
    rw [← hAP]; exact apart_any sm K W hsm0 hsm1 ht0 ht1)
  have m1 := min_run mn N L hL
  have m2 := min_run D E DE hDE
  rw [hN] at CT
  rw [hD] at CD
  rw [hE] at CE
  have u1 : IntKind.i64.wrap (7 * sm) = 7 * sm := IntWalk.i64_in _ (by omega)
  have u2 : IntKind.i64.wrap (7 * sm + K) = 7 * sm + K := IntWalk.i64_in _ (by omega)
  have u3 : (7 * sm + K).tdiv 8 = (7 * sm + K) / 8 := Int.tdiv_eq_ediv_of_nonneg (by omega)
  have u4 : IntKind.i64.wrap ((7 * sm + K) / 8) = (7 * sm + K) / 8 := IntWalk.i64_in _ (by omega)
  have u5 : IntKind.i64.wrap (3 * va) = 3 * va := IntWalk.i64_in _ (by omega)
  have u6 : IntKind.i64.wrap (3 * va + AP) = 3 * va + AP := IntWalk.i64_in _ (by omega)
  have u7 : (3 * va + AP).tdiv 4 = (3 * va + AP) / 4 := Int.tdiv_eq_ediv_of_nonneg (by omega)
  have u8 : IntKind.i64.wrap ((3 * va + AP) / 4) = (3 * va + AP) / 4 := IntWalk.i64_in _ (by omega)
  clear hN hD hE hDE hL hT hAP
  go_enter Try.func15, Try.ntmps15
  go_wp2_with fail
  with_reducible refine (CT.out _).mono ?_
  rintro e w1 ⟨rfl, hb⟩
  have HP := (Bx.made w 25 true la sm va mn)
  have HR := (Bx.made (w.alloc (.cells #[.bool true, .int .i64 la, .int .i64 sm, .int .i64 va, .int .i64 mn] 25)) 25 false 0 0 0 0)
  rw [World.size_alloc] at HR
  have HP1 := Lib.hid ((HP.keep ((Below.refl _ _).alloc (Nat.le_refl _) _) (by simp)).keep hb (by simp; omega))
  have HR1 := Lib.hid (HR.keep hb (by simp))
  have HB1 := Lib.hid ((((Below.refl w.heap.size w).alloc (Nat.le_refl _) _).alloc (by simp) _).trans (hb.mono (by simp; omega)))
  have hs1 : w.heap.size + 1 < w1.heap.size := HR1.out.lt
  clear HP HR hb
  obtain ⟨p0, p1, p2, p3, p4⟩ := HP1.out.cells
  go_wp2_with fail
  with_reducible refine (CD.out _).mono ?_
  rintro e w2 ⟨rfl, hb⟩
  have HB2 := Lib.hid (HB1.out.trans (hb.mono HB1.out.size))
  have HP2 := Lib.hid (HP1.out.keep hb HP1.out.lt)
  have HR2 := Lib.hid (HR1.out.keep hb HR1.out.lt)
  clear hb
  go_wp2_with fail
  with_reducible refine (CE.out _).mono ?_
  rintro e w3 ⟨rfl, hb⟩
  have HB3 := Lib.hid (HB2.out.trans (hb.mono HB2.out.size))
  have HP3 := Lib.hid (HP2.out.keep hb HP2.out.lt)
  have HR3 := Lib.hid (HR2.out.keep hb HR2.out.lt)
  clear hb
  go_wp2_with fail
  with_reducible refine (CA.out _).mono ?_
  rintro e w4 ⟨rfl, hb⟩
  have HB4 := Lib.hid (HB3.out.trans (hb.mono HB3.out.size))
  have HP4 := Lib.hid (HP3.out.keep hb HP3.out.lt)
  have HR4 := Lib.hid (HR3.out.keep hb HR3.out.lt)
  clear hb
  have HB4' : Hid (Below w.heap.size w w4.drew) := Lib.hid HB4.out.drew
  have HP4' : Hid (Bx w4.drew w.heap.size 25 true la sm va mn) := Lib.hid HP4.out
  have HR4' : Hid (Bx w4.drew (w.heap.size + 1) 25 false 0 0 0 0) := Lib.hid HR4.out
  go_wp2_with fail
  refine wp_region_noPanic ?_
  refine wp_region_held_drew (S := fun W : World => Bx W w.heap.size 25 true la sm va mn) (by kernel_rfl) ?_ (fun hHeld => ?_)
  · exact HP4'.out
  refine wpAnyH_take (i := 0) (v := ?_) rfl (by kernel_rfl) (by kernel_rfl) (by kernel_rfl) (fun _ _ _ h => h) (Or.inl ⟨by rfl, ?_⟩) (by assumption) ?_
  rotate_left
  · (intro w hSw; obtain ⟨q0, q1, q2, q3, q4⟩ := Bx.cells hSw; go_simp; (try with_reducible rfl))
  try simp only [Act.put, List.getElem_toArray, List.getElem_cons_zero, List.getElem_cons_succ, List.setIfInBounds_toArray, List.set_cons_zero, List.set_cons_succ]
  refine wpAnyH_take (i := 1) (v := ?_) rfl (by kernel_rfl) (by kernel_rfl) (by kernel_rfl) (fun _ _ _ h => h) (Or.inl ⟨by rfl, ?_⟩) (by assumption) ?_
  rotate_left
  · (intro w hSw; obtain ⟨q0, q1, q2, q3, q4⟩ := Bx.cells hSw; go_simp; (try with_reducible rfl))
  try simp only [Act.put, List.getElem_toArray, List.getElem_cons_zero, List.getElem_cons_succ, List.setIfInBounds_toArray, List.set_cons_zero, List.set_cons_succ]
  refine wpAnyH_take (i := 2) (v := ?_) rfl (by kernel_rfl) (by kernel_rfl) (by kernel_rfl) (fun _ _ _ h => h) (Or.inl ⟨by rfl, ?_⟩) (by assumption) ?_
  rotate_left
  · (intro w hSw; obtain ⟨q0, q1, q2, q3, q4⟩ := Bx.cells hSw; go_simp; (try with_reducible rfl))
  try simp only [Act.put, List.getElem_toArray, List.getElem_cons_zero, List.getElem_cons_succ, List.setIfInBounds_toArray, List.set_cons_zero, List.set_cons_succ]
  refine wpAnyH_take (i := 3) (v := ?_) rfl (by kernel_rfl) (by kernel_rfl) (by kernel_rfl) (fun _ _ _ h => h) (Or.inl ⟨by rfl, ?_⟩) (by assumption) ?_
  rotate_left
  · (intro w hSw; obtain ⟨q0, q1, q2, q3, q4⟩ := Bx.cells hSw; go_simp; (try with_reducible rfl))
  try simp only [Act.put, List.getElem_toArray, List.getElem_cons_zero, List.getElem_cons_succ, List.setIfInBounds_toArray, List.set_cons_zero, List.set_cons_succ]
  refine wpAnyH_take (i := 4) (v := ?_) rfl (by kernel_rfl) (by kernel_rfl) (by kernel_rfl) (fun _ _ _ h => h) (Or.inl ⟨by rfl, ?_⟩) (by assumption) ?_
  rotate_left
  · (intro w hSw; obtain ⟨q0, q1, q2, q3, q4⟩ := Bx.cells hSw; go_simp; (try with_reducible rfl))
  try simp only [Act.put, List.getElem_toArray, List.getElem_cons_zero, List.getElem_cons_succ, List.setIfInBounds_toArray, List.set_cons_zero, List.set_cons_succ]
  refine wpAnyH_take (i := 5) (v := ?_) rfl (by kernel_rfl) (by kernel_rfl) (by kernel_rfl) (fun _ _ _ h => h) (Or.inl ⟨by rfl, ?_⟩) (by assumption) ?_
  rotate_left
  · (intro w hSw; obtain ⟨q0, q1, q2, q3, q4⟩ := Bx.cells hSw; go_simp; (try with_reducible rfl))
  try simp only [Act.put, List.getElem_toArray, List.getElem_cons_zero, List.getElem_cons_succ, List.setIfInBounds_toArray, List.set_cons_zero, List.set_cons_succ]
  refine wpAnyH_take (i := 6) (v := ?_) rfl (by kernel_rfl) (by kernel_rfl) (by kernel_rfl) (fun _ _ _ h => h) (Or.inl ⟨by rfl, ?_⟩) (by assumption) ?_
  rotate_left
  · (intro w hSw; obtain ⟨q0, q1, q2, q3, q4⟩ := Bx.cells hSw; go_simp; (try with_reducible rfl))
  try simp only [Act.put, List.getElem_toArray, List.getElem_cons_zero, List.getElem_cons_succ, List.setIfInBounds_toArray, List.set_cons_zero, List.set_cons_succ]
  refine wpAnyH_take (i := 7) (v := ?_) rfl (by kernel_rfl) (by kernel_rfl) (by kernel_rfl) (fun _ _ _ h => h) (Or.inl ⟨by rfl, ?_⟩) (by assumption) ?_
  rotate_left
  · (intro w hSw; obtain ⟨q0, q1, q2, q3, q4⟩ := Bx.cells hSw; go_simp; (try with_reducible rfl))
  try simp only [Act.put, List.getElem_toArray, List.getElem_cons_zero, List.getElem_cons_succ, List.setIfInBounds_toArray, List.set_cons_zero, List.set_cons_succ]
  refine wpAnyH_take (i := 8) (v := ?_) rfl (by kernel_rfl) (by kernel_rfl) (by kernel_rfl) (fun _ _ _ h => h) (Or.inl ⟨by rfl, ?_⟩) (by assumption) ?_
  rotate_left
  · (intro w hSw; obtain ⟨q0, q1, q2, q3, q4⟩ := Bx.cells hSw; go_simp; (try with_reducible rfl))
  try simp only [Act.put, List.getElem_toArray, List.getElem_cons_zero, List.getElem_cons_succ, List.setIfInBounds_toArray, List.set_cons_zero, List.set_cons_succ]
  refine wpAnyH_take (i := 9) (v := ?_) rfl (by kernel_rfl) (by kernel_rfl) (by kernel_rfl) (fun _ _ _ h => h) (Or.inl ⟨by rfl, ?_⟩) (by assumption) ?_
  rotate_left
  · (intro w hSw; obtain ⟨q0, q1, q2, q3, q4⟩ := Bx.cells hSw; go_simp; (try with_reducible rfl))
  try simp only [Act.put, List.getElem_toArray, List.getElem_cons_zero, List.getElem_cons_succ, List.setIfInBounds_toArray, List.set_cons_zero, List.set_cons_succ]
  refine wpAnyH_take (i := 10) (v := ?_) rfl (by kernel_rfl) (by kernel_rfl) (by kernel_rfl) (fun _ _ _ h => h) (Or.inl ⟨by rfl, ?_⟩) (by assumption) ?_
  rotate_left
  · (intro w hSw; obtain ⟨q0, q1, q2, q3, q4⟩ := Bx.cells hSw; go_simp; (try with_reducible rfl))
  try simp only [Act.put, List.getElem_toArray, List.getElem_cons_zero, List.getElem_cons_succ, List.setIfInBounds_toArray, List.set_cons_zero, List.set_cons_succ]
  refine wpAnyH_take (i := 11) (v := ?_) rfl (by kernel_rfl) (by kernel_rfl) (by kernel_rfl) (fun _ _ _ h => h) (Or.inl ⟨by rfl, ?_⟩) (by assumption) ?_
  rotate_left
  · (intro w hSw; obtain ⟨q0, q1, q2, q3, q4⟩ := Bx.cells hSw; go_simp; (try with_reducible rfl))
  try simp only [Act.put, List.getElem_toArray, List.getElem_cons_zero, List.getElem_cons_succ, List.setIfInBounds_toArray, List.set_cons_zero, List.set_cons_succ]
  refine wpAnyH_take (i := 12) (v := ?_) rfl (by kernel_rfl) (by kernel_rfl) (by kernel_rfl) (fun _ _ _ h => h) (Or.inl ⟨by rfl, ?_⟩) (by assumption) ?_
  rotate_left
  · (intro w hSw; obtain ⟨q0, q1, q2, q3, q4⟩ := Bx.cells hSw; go_simp; (try with_reducible rfl))
  try simp only [Act.put, List.getElem_toArray, List.getElem_cons_zero, List.getElem_cons_succ, List.setIfInBounds_toArray, List.set_cons_zero, List.set_cons_succ]
  refine wpAnyH_take (i := 16) (v := ?_) rfl (by kernel_rfl) (by kernel_rfl) (by kernel_rfl) (fun _ _ _ h => h) (Or.inl ⟨by rfl, ?_⟩) (by assumption) ?_
  rotate_left
  · (intro w hSw; obtain ⟨q0, q1, q2, q3, q4⟩ := Bx.cells hSw; go_simp; (try with_reducible rfl))
  try simp only [Act.put, List.getElem_toArray, List.getElem_cons_zero, List.getElem_cons_succ, List.setIfInBounds_toArray, List.set_cons_zero, List.set_cons_succ]
  refine wpAnyH_ready (rs := [13]) (by kernel_rfl) (by simp) ?_
  refine AllReadyH.cons rfl (fun K hK => ?_) AllReadyH.nil
  rw [if_pos (by rfl)]
  go_simp
  with_reducible refine (CP.out _).mono ?_
  rintro e w5 ⟨rfl, hb⟩
  have HB5 := Lib.hid (HB4'.out.trans (hb.mono HB4'.out.size))
  have HP5 := Lib.hid (HP4'.out.keep hb HP4'.out.lt)
  have HR5 := Lib.hid (HR4'.out.keep hb HR4'.out.lt)
  obtain ⟨r0, r1, r2, r3, r4⟩ := HR5.out.cells
  obtain ⟨f0, f1, f2, f3, f4⟩ := HR5.out.fz
  clear hb
  refine hK.out _ _ ?_ (fun hHeld => ?_)
  · exact HP5.out
  clear hK K
  try simp only [Act.put, List.getElem_toArray, List.getElem_cons_zero, List.getElem_cons_succ, List.setIfInBounds_toArray, List.set_cons_zero, List.set_cons_succ]
  refine wpAnyH_take (i := 14) (v := ?_) rfl (by kernel_rfl) (by kernel_rfl) (by kernel_rfl) (fun _ _ _ h => h) (Or.inl ⟨by rfl, ?_⟩) (by assumption) ?_
  rotate_left
  · (intro w hSw; obtain ⟨q0, q1, q2, q3, q4⟩ := Bx.cells hSw; go_simp; (try with_reducible rfl))
  try simp only [Act.put, List.getElem_toArray, List.getElem_cons_zero, List.getElem_cons_succ, List.setIfInBounds_toArray, List.set_cons_zero, List.set_cons_succ]
  refine wpAnyH_take (i := 15) (v := ?_) rfl (by kernel_rfl) (by kernel_rfl) (by kernel_rfl) (fun _ _ _ h => h) (Or.inl ⟨by rfl, ?_⟩) (by assumption) ?_
  rotate_left
  · (intro w hSw; obtain ⟨q0, q1, q2, q3, q4⟩ := Bx.cells hSw; go_simp; (try with_reducible rfl))
  try simp only [Act.put, List.getElem_toArray, List.getElem_cons_zero, List.getElem_cons_succ, List.setIfInBounds_toArray, List.set_cons_zero, List.set_cons_succ]
  refine wpAnyH_take (i := 17) (v := ?_) rfl (by kernel_rfl) (by kernel_rfl) (by kernel_rfl) (fun _ _ _ h => h) (Or.inl ⟨by rfl, ?_⟩) (by assumption) ?_
  rotate_left
  · (intro w hSw; obtain ⟨q0, q1, q2, q3, q4⟩ := Bx.cells hSw; go_simp; (try with_reducible rfl))
  try simp only [Act.put, List.getElem_toArray, List.getElem_cons_zero, List.getElem_cons_succ, List.setIfInBounds_toArray, List.set_cons_zero, List.set_cons_succ]
  refine wpAnyH_ready (rs := [18]) (by kernel_rfl) (by simp) ?_
  refine AllReadyH.cons rfl (fun K hK => ?_) AllReadyH.nil
  rw [if_pos (by rfl)]
  go_simp
  refine hK.out _ _ ?_ (fun hHeld => ?_)
  · exact HP5.out.put_other (by omega) _ _ _ _ _
  clear hK K
  try simp only [Act.put, List.getElem_toArray, List.getElem_cons_zero, List.getElem_cons_succ, List.setIfInBounds_toArray, List.set_cons_zero, List.set_cons_succ]
  refine wpAnyH_done (by kernel_rfl) (NoPanic.normal ?_) _
  go_wp2_with fail
  have HQ := Lib.hid (HR5.out.put true N ((7 * sm + K) / 8) ((3 * va + AP) / 4) L)
  exact bodyPost_ret (v := .agg #[.bool true, .int .i64 N, .int .i64 ((7 * sm + K) / 8), .int .i64 ((3 * va + AP) / 4), .int .i64 L]) (results_cell_row Try.results15 _ _ (w.heap.size + 1) _ _ _ _ rfl HQ.out Try.underlying25 rfl inf_st) rfl ⟨rfl, below_put HB5.out (by omega) _ _ _ _ _⟩
set_option maxHeartbeats 4000000 in
theorem sampleD_lt (la sm va mn l d m : Int) (w : World) (N D E DE L AP : Int) (hN : tk l = N) (hD : tk d = D) (hE : tk m = E) (hDE : min D E = DE) (hL : min mn N = L) (hlt : N - DE < L) (hAP : max (sm - (N)) ((N) - sm) = AP) (h0 : 0 ≤ N) (h1 : N ≤ 1099511627776) (hsm0 : 0 ≤ sm) (hsm1 : sm ≤ 1099511627776) (hva0 : 0 ≤ va) (hva1 : va ≤ 1099511627776) (hmn0 : 0 ≤ mn) (hd0 : 0 ≤ DE) (hd1 : DE ≤ 1099511627776) (hL0 : 0 ≤ L) (ha0 : 0 ≤ AP) (ha1 : AP ≤ 1099511627776) :
    Calls Try.prog 16 #[.agg #[.bool true, .int .i64 la, .int .i64 sm, .int .i64 va, .int .i64 mn], .int .i64 l, .int .i64 d, .int .i64 m] w fun e w' => e = .returned (.agg #[.bool true, .int .i64 N, .int .i64 ((7 * sm + (N)) / 8), .int .i64 ((3 * va + AP) / 4), .int .i64 L]) ∧ Below w.heap.size w w' := by
  have CT := Lib.hid (bound_any l)
  have CD := Lib.hid (bound_any d)
  have CE := Lib.hid (bound_any m)
  have m1 := min_run mn N L hL
  have m2 := min_run D E DE hDE
  have m3 := max_run (sm - (N)) ((N) - sm) AP hAP
  rw [hN] at CT
  rw [hD] at CD
  rw [hE] at CE
  have hlt' : ¬ (N - DE ≥ L) := by omega
  clear hN hD hE hDE hL
  go_enter Try.func16, Try.ntmps16
  go_wp2_with fail
  with_reducible refine (CT.out _).mono ?_
  rintro e w1 ⟨rfl, hb⟩
  have HP := (Bx.made w 27 true la sm va mn)
  have HR := (Bx.made (w.alloc (.cells #[.bool true, .int .i64 la, .int .i64 sm, .int .i64 va, .int .i64 mn] 27)) 27 false 0 0 0 0)
  rw [World.size_alloc] at HR
  have HP1 := Lib.hid ((HP.keep ((Below.refl _ _).alloc (Nat.le_refl _) _) (by simp)).keep hb (by simp; omega))
  have HR1 := Lib.hid (HR.keep hb (by simp))
  have HB1 := Lib.hid ((((Below.refl w.heap.size w).alloc (Nat.le_refl _) _).alloc (by simp) _).trans (hb.mono (by simp; omega)))
  have hs1 : w.heap.size + 1 < w1.heap.size := HR1.out.lt
  clear HP HR hb
  obtain ⟨p0, p1, p2, p3, p4⟩ := HP1.out.cells
  go_wp2_with fail
  with_reducible refine (CD.out _).mono ?_
  rintro e w2 ⟨rfl, hb⟩
  have HB2 := Lib.hid (HB1.out.trans (hb.mono HB1.out.size))
  have HP2 := Lib.hid (HP1.out.keep hb HP1.out.lt)
  have HR2 := Lib.hid (HR1.out.keep hb HR1.out.lt)
  clear hb
  go_wp2_with fail
  with_reducible refine (CE.out _).mono ?_
  rintro e w3 ⟨rfl, hb⟩
  have HB3 := Lib.hid (HB2.out.trans (hb.mono HB2.out.size))
  have HP3 := Lib.hid (HP2.out.keep hb HP2.out.lt)
  have HR3 := Lib.hid (HR2.out.keep hb HR2.out.lt)
  clear hb
  obtain ⟨q0, q1, q2, q3, q4⟩ := HP3.out.cells
  obtain ⟨r0, r1, r2, r3, r4⟩ := HR3.out.cells
  obtain ⟨f0, f1, f2, f3, f4⟩ := HR3.out.fz
  go_wp2_with fail
  have HQ := Lib.hid (HR3.out.put true N ((7 * sm + (N)) / 8) ((3 * va + AP) / 4) L)
  exact bodyPost_ret (v := .agg #[.bool true, .int .i64 N, .int .i64 ((7 * sm + (N)) / 8), .int .i64 ((3 * va + AP) / 4), .int .i64 L]) (results_cell_row Try.results16 _ _ (w.heap.size + 1) _ _ _ _ rfl HQ.out Try.underlying27 rfl inf_std) rfl ⟨rfl, below_put HB3.out (by omega) _ _ _ _ _⟩
set_option maxHeartbeats 4000000 in
theorem sampleD_ge (la sm va mn l d m : Int) (w : World) (N D E DE L AP : Int) (hN : tk l = N) (hD : tk d = D) (hE : tk m = E) (hDE : min D E = DE) (hL : min mn N = L) (hlt : ¬ (N - DE < L)) (hAP : max (sm - (N - DE)) ((N - DE) - sm) = AP) (h0 : 0 ≤ N) (h1 : N ≤ 1099511627776) (hsm0 : 0 ≤ sm) (hsm1 : sm ≤ 1099511627776) (hva0 : 0 ≤ va) (hva1 : va ≤ 1099511627776) (hmn0 : 0 ≤ mn) (hd0 : 0 ≤ DE) (hd1 : DE ≤ 1099511627776) (hL0 : 0 ≤ L) (ha0 : 0 ≤ AP) (ha1 : AP ≤ 1099511627776) :
    Calls Try.prog 16 #[.agg #[.bool true, .int .i64 la, .int .i64 sm, .int .i64 va, .int .i64 mn], .int .i64 l, .int .i64 d, .int .i64 m] w fun e w' => e = .returned (.agg #[.bool true, .int .i64 N, .int .i64 ((7 * sm + (N - DE)) / 8), .int .i64 ((3 * va + AP) / 4), .int .i64 L]) ∧ Below w.heap.size w w' := by
  have CT := Lib.hid (bound_any l)
  have CD := Lib.hid (bound_any d)
  have CE := Lib.hid (bound_any m)
  have m1 := min_run mn N L hL
  have m2 := min_run D E DE hDE
  have m3 := max_run (sm - (N - DE)) ((N - DE) - sm) AP hAP
  rw [hN] at CT
  rw [hD] at CD
  rw [hE] at CE
  have hlt' : N - DE ≥ L := by omega
  clear hN hD hE hDE hL
  go_enter Try.func16, Try.ntmps16
  go_wp2_with fail
  with_reducible refine (CT.out _).mono ?_
  rintro e w1 ⟨rfl, hb⟩
  have HP := (Bx.made w 27 true la sm va mn)
  have HR := (Bx.made (w.alloc (.cells #[.bool true, .int .i64 la, .int .i64 sm, .int .i64 va, .int .i64 mn] 27)) 27 false 0 0 0 0)
  rw [World.size_alloc] at HR
  have HP1 := Lib.hid ((HP.keep ((Below.refl _ _).alloc (Nat.le_refl _) _) (by simp)).keep hb (by simp; omega))
  have HR1 := Lib.hid (HR.keep hb (by simp))
  have HB1 := Lib.hid ((((Below.refl w.heap.size w).alloc (Nat.le_refl _) _).alloc (by simp) _).trans (hb.mono (by simp; omega)))
  have hs1 : w.heap.size + 1 < w1.heap.size := HR1.out.lt
  clear HP HR hb
  obtain ⟨p0, p1, p2, p3, p4⟩ := HP1.out.cells
  go_wp2_with fail
  with_reducible refine (CD.out _).mono ?_
  rintro e w2 ⟨rfl, hb⟩
  have HB2 := Lib.hid (HB1.out.trans (hb.mono HB1.out.size))
  have HP2 := Lib.hid (HP1.out.keep hb HP1.out.lt)
  have HR2 := Lib.hid (HR1.out.keep hb HR1.out.lt)
  clear hb
  go_wp2_with fail
  with_reducible refine (CE.out _).mono ?_
  rintro e w3 ⟨rfl, hb⟩
  have HB3 := Lib.hid (HB2.out.trans (hb.mono HB2.out.size))
  have HP3 := Lib.hid (HP2.out.keep hb HP2.out.lt)
  have HR3 := Lib.hid (HR2.out.keep hb HR2.out.lt)
  clear hb
  obtain ⟨q0, q1, q2, q3, q4⟩ := HP3.out.cells
  obtain ⟨r0, r1, r2, r3, r4⟩ := HR3.out.cells
  obtain ⟨f0, f1, f2, f3, f4⟩ := HR3.out.fz
  go_wp2_with fail
  have HQ := Lib.hid (HR3.out.put true N ((7 * sm + (N - DE)) / 8) ((3 * va + AP) / 4) L)
  exact bodyPost_ret (v := .agg #[.bool true, .int .i64 N, .int .i64 ((7 * sm + (N - DE)) / 8), .int .i64 ((3 * va + AP) / 4), .int .i64 L]) (results_cell_row Try.results16 _ _ (w.heap.size + 1) _ _ _ _ rfl HQ.out Try.underlying27 rfl inf_std) rfl ⟨rfl, below_put HB3.out (by omega) _ _ _ _ _⟩
theorem sample_any (s : St) (l d m : Int) (w : World) (h : s.Ok) : Calls Try.prog 15 #[s.val, .int .i64 l, .int .i64 d, .int .i64 m] w fun e w' => e = .returned (samp s l d m).val ∧ Below w.heap.size w w' := by
  obtain ⟨a, la, sm, va, mn⟩ := s
  obtain ⟨x0, x1, x2, x3, x4, x5, x6, x7⟩ := h
  simp only at x0 x1 x2 x3 x4 x5 x6 x7
  have h0 := tk_lo l
  have h1 := tk_hi l
  cases a
  · exact sample_no la sm va mn l d m w _ rfl h0 h1
  · have hd := tk_lo d
    have hd2 := tk_hi d
    have hm := tk_lo m
    obtain ⟨t0, t1⟩ := took_in (n := tk l) (d := min (tk d) (tk m)) (least := min mn (tk l)) h0 h1 (by omega) (by omega)
    have h2 := sample_yes la sm va mn l d m w (tk l) (tk d) (tk m) (min (tk d) (tk m)) (min mn (tk l)) (took (tk l) (min (tk d) (tk m)) (min mn (tk l))) (apartN sm (took (tk l) (min (tk d) (tk m)) (min mn (tk l)))) rfl rfl rfl rfl rfl rfl rfl h0 h1 x2 x3 x4 x5 x6 (by omega) (by omega) (by omega) t0 t1 (by unfold apartN; omega) (by unfold apartN; omega)
    unfold samp
    rw [if_pos rfl]
    exact h2
theorem sampleD_any (s : St) (l d m : Int) (w : World) (h : s.Ok) : Calls Try.prog 16 #[s.val, .int .i64 l, .int .i64 d, .int .i64 m] w fun e w' => e = .returned (samp s l d m).val ∧ Below w.heap.size w w' := by
  obtain ⟨a, la, sm, va, mn⟩ := s
  obtain ⟨x0, x1, x2, x3, x4, x5, x6, x7⟩ := h
  simp only at x0 x1 x2 x3 x4 x5 x6 x7
  have h0 := tk_lo l
  have h1 := tk_hi l
  cases a
  · exact sampleD_no la sm va mn l d m w _ rfl h0 h1
  · have hd := tk_lo d
    have hd2 := tk_hi d
    have hm := tk_lo m
    obtain ⟨t0, t1⟩ := took_in (n := tk l) (d := min (tk d) (tk m)) (least := min mn (tk l)) h0 h1 (by omega) (by omega)
    by_cases hlt : tk l - min (tk d) (tk m) < min mn (tk l)
    · have e : took (tk l) (min (tk d) (tk m)) (min mn (tk l)) = tk l := if_pos hlt
      have h2 := sampleD_lt la sm va mn l d m w _ _ _ _ _ (apartN sm (tk l)) rfl rfl rfl rfl rfl hlt (by unfold apartN; omega) h0 h1 x2 x3 x4 x5 x6 (by omega) (by omega) (by omega) (by unfold apartN; omega) (by unfold apartN; omega)
      unfold samp
      rw [if_pos rfl]
      simp only [e]
      exact h2
    · have e : took (tk l) (min (tk d) (tk m)) (min mn (tk l)) = tk l - min (tk d) (tk m) := if_neg hlt
      rw [e] at t0 t1
      have h2 := sampleD_ge la sm va mn l d m w _ _ _ _ _ (apartN sm (tk l - min (tk d) (tk m))) rfl rfl rfl rfl rfl hlt (by unfold apartN; omega) h0 h1 x2 x3 x4 x5 x6 (by omega) (by omega) (by omega) (by unfold apartN; omega) (by unfold apartN; omega)
      unfold samp
      rw [if_pos rfl]
      simp only [e]
      exact h2
theorem IntKind.wrap_i64_wrap64 (x : Int) : IntKind.i64.wrap x = wrap64 x := by rw [IntKind.wrap_i64]; unfold wrap64; omega
theorem pto_fits (V P : Int) (h0 : 0 ≤ V) (h1 : V ≤ 8796093022208) (p0 : 0 ≤ P) (p1 : P ≤ 10) : -9223372036854775808 ≤ V * 2 ^ P.toNat ∧ V * 2 ^ P.toNat ≤ 9223372036854775807 := by
  have h2 : ((2 ^ P.toNat : Nat) : Int) ≤ 1024 := by
    have := Nat.pow_le_pow_right (n := 2) (by decide) (show P.toNat ≤ 10 by omega)
    have e : (2 : Nat) ^ 10 = 1024 := by decide
    omega
  have h3 : (2 : Int) ^ P.toNat = ((2 ^ P.toNat : Nat) : Int) := by push_cast; rfl
  have h4 : (0 : Int) ≤ ((2 ^ P.toNat : Nat) : Int) := Int.natCast_nonneg _
  rw [h3]
  generalize ((2 ^ P.toNat : Nat) : Int) = q at *
  have a := Int.mul_nonneg h0 h4
  have b := Int.mul_le_mul_of_nonneg_left h2 h0
  omega
set_option maxHeartbeats 4000000 in
theorem pto_walk (a : Bool) (la sm va mn m p : Int) (w : World) (M V N P : Int) (hM : max (4 * va) 1 = M) (hN : tk m = N) (hV : sm + M + N = V) (hP : min (max p 0) 10 = P) (hn0 : 0 ≤ N) (hn1 : N ≤ 1099511627776) (hsm0 : 0 ≤ sm) (hsm1 : sm ≤ 1099511627776) (hva0 : 0 ≤ va) (hva1 : va ≤ 1099511627776) (hP0 : 0 ≤ P) (hP1 : P ≤ 10) :
    Calls Try.prog 11 #[.agg #[.bool a, .int .i64 la, .int .i64 sm, .int .i64 va, .int .i64 mn], .int .i64 m, .int .i64 p] w fun e w' => e = .returned (.int .i64 (V * 2 ^ P.toNat)) ∧ Below w.heap.size w w' := by
  have CT := Lib.hid (ticks_any m)
  have CD := Lib.hid (doublings_any p)
  have m1 := max_run (4 * va) 1 M hM
  rw [hN] at CT
  rw [hP] at CD
  have u1 : IntKind.i64.wrap (4 * va) = 4 * va := IntWalk.i64_in _ (by omega)
  have u2 : IntKind.i64.wrap (sm + M) = sm + M := IntWalk.i64_in _ (by omega)
  have u3 : IntKind.i64.wrap (sm + M + N) = V := by rw [IntWalk.i64_in _ (by omega)]; exact hV
  have hV0 : 0 ≤ V ∧ V ≤ 8796093022208 := by omega
  clear hM hN hV hP
  have HP0 : Hid (Bx (w.alloc (.cells #[.bool a, .int .i64 la, .int .i64 sm, .int .i64 va, .int .i64 mn] 25)).drew w.heap.size 25 a la sm va mn) := Lib.hid (Bx.made w 25 a la sm va mn)
  have HB0 : Hid (Below w.heap.size w (w.alloc (.cells #[.bool a, .int .i64 la, .int .i64 sm, .int .i64 va, .int .i64 mn] 25)).drew) := Lib.hid ((Below.refl _ _).alloc (Nat.le_refl _) _).drew
  go_enter Try.func11, Try.ntmps11
  go_wp2_with fail
  refine wp_region_noPanic ?_
  refine wp_region_held_drew (S := fun W : World => Bx W w.heap.size 25 a la sm va mn) (by kernel_rfl) ?_ (fun hHeld => ?_)
  · exact HP0.out
  refine wpAnyH_take (i := 0) (v := ?_) rfl (by kernel_rfl) (by kernel_rfl) (by kernel_rfl) (fun _ _ _ h => h) (Or.inl ⟨by rfl, ?_⟩) (by assumption) ?_
  rotate_left
  · (intro w hSw; obtain ⟨q0, q1, q2, q3, q4⟩ := Bx.cells hSw; go_simp; (try with_reducible rfl))
  try simp only [Act.put, List.getElem_toArray, List.getElem_cons_zero, List.getElem_cons_succ, List.setIfInBounds_toArray, List.set_cons_zero, List.set_cons_succ]
  refine wpAnyH_take (i := 1) (v := ?_) rfl (by kernel_rfl) (by kernel_rfl) (by kernel_rfl) (fun _ _ _ h => h) (Or.inl ⟨by rfl, ?_⟩) (by assumption) ?_
  rotate_left
  · (intro w hSw; obtain ⟨q0, q1, q2, q3, q4⟩ := Bx.cells hSw; go_simp; (try with_reducible rfl))
  try simp only [Act.put, List.getElem_toArray, List.getElem_cons_zero, List.getElem_cons_succ, List.setIfInBounds_toArray, List.set_cons_zero, List.set_cons_succ]
  refine wpAnyH_take (i := 2) (v := ?_) rfl (by kernel_rfl) (by kernel_rfl) (by kernel_rfl) (fun _ _ _ h => h) (Or.inl ⟨by rfl, ?_⟩) (by assumption) ?_
  rotate_left
  · (intro w hSw; obtain ⟨q0, q1, q2, q3, q4⟩ := Bx.cells hSw; go_simp; (try with_reducible rfl))
  try simp only [Act.put, List.getElem_toArray, List.getElem_cons_zero, List.getElem_cons_succ, List.setIfInBounds_toArray, List.set_cons_zero, List.set_cons_succ]
  refine wpAnyH_take (i := 3) (v := ?_) rfl (by kernel_rfl) (by kernel_rfl) (by kernel_rfl) (fun _ _ _ h => h) (Or.inl ⟨by rfl, ?_⟩) (by assumption) ?_
  rotate_left
  · (intro w hSw; obtain ⟨q0, q1, q2, q3, q4⟩ := Bx.cells hSw; go_simp; (try with_reducible rfl))
  try simp only [Act.put, List.getElem_toArray, List.getElem_cons_zero, List.getElem_cons_succ, List.setIfInBounds_toArray, List.set_cons_zero, List.set_cons_succ]
  refine wpAnyH_take (i := 4) (v := ?_) rfl (by kernel_rfl) (by kernel_rfl) (by kernel_rfl) (fun _ _ _ h => h) (Or.inl ⟨by rfl, ?_⟩) (by assumption) ?_
  rotate_left
  · (intro w hSw; obtain ⟨q0, q1, q2, q3, q4⟩ := Bx.cells hSw; go_simp; (try with_reducible rfl))
  try simp only [Act.put, List.getElem_toArray, List.getElem_cons_zero, List.getElem_cons_succ, List.setIfInBounds_toArray, List.set_cons_zero, List.set_cons_succ]
  refine wpAnyH_take (i := 5) (v := ?_) rfl (by kernel_rfl) (by kernel_rfl) (by kernel_rfl) (fun _ _ _ h => h) (Or.inl ⟨by rfl, ?_⟩) (by assumption) ?_
  rotate_left
  · (intro w hSw; obtain ⟨q0, q1, q2, q3, q4⟩ := Bx.cells hSw; go_simp; (try with_reducible rfl))
  try simp only [Act.put, List.getElem_toArray, List.getElem_cons_zero, List.getElem_cons_succ, List.setIfInBounds_toArray, List.set_cons_zero, List.set_cons_succ]
  refine wpAnyH_take (i := 6) (v := ?_) rfl (by kernel_rfl) (by kernel_rfl) (by kernel_rfl) (fun _ _ _ h => h) (Or.inl ⟨by rfl, ?_⟩) (by assumption) ?_
  rotate_left
  · (intro w hSw; obtain ⟨q0, q1, q2, q3, q4⟩ := Bx.cells hSw; go_simp; (try with_reducible rfl))
  try simp only [Act.put, List.getElem_toArray, List.getElem_cons_zero, List.getElem_cons_succ, List.setIfInBounds_toArray, List.set_cons_zero, List.set_cons_succ]
  refine wpAnyH_take (i := 7) (v := ?_) rfl (by kernel_rfl) (by kernel_rfl) (by kernel_rfl) (fun _ _ _ h => h) (Or.inl ⟨by rfl, ?_⟩) (by assumption) ?_
  rotate_left
  · (intro w hSw; obtain ⟨q0, q1, q2, q3, q4⟩ := Bx.cells hSw; go_simp; (try with_reducible rfl))
  try simp only [Act.put, List.getElem_toArray, List.getElem_cons_zero, List.getElem_cons_succ, List.setIfInBounds_toArray, List.set_cons_zero, List.set_cons_succ]
  refine wpAnyH_ready (rs := [8]) (by kernel_rfl) (by simp) ?_
  refine AllReadyH.cons rfl (fun K hK => ?_) AllReadyH.nil
  rw [if_pos (by rfl)]
  go_simp
  with_reducible refine (CT.out _).mono ?_
  rintro e w1 ⟨rfl, hb⟩
  have HB1 := Lib.hid (HB0.out.trans (hb.mono HB0.out.size))
  have HP1 := Lib.hid (HP0.out.keep hb HP0.out.lt)
  clear hb
  refine hK.out _ _ ?_ (fun hHeld => ?_)
  · exact HP1.out
  clear hK K
  try simp only [Act.put, List.getElem_toArray, List.getElem_cons_zero, List.getElem_cons_succ, List.setIfInBounds_toArray, List.set_cons_zero, List.set_cons_succ]
  refine wpAnyH_take (i := 9) (v := ?_) rfl (by kernel_rfl) (by kernel_rfl) (by kernel_rfl) (fun _ _ _ h => h) (Or.inl ⟨by rfl, ?_⟩) (by assumption) ?_
  rotate_left
  · (intro w hSw; obtain ⟨q0, q1, q2, q3, q4⟩ := Bx.cells hSw; go_simp; (try with_reducible rfl))
  try simp only [Act.put, List.getElem_toArray, List.getElem_cons_zero, List.getElem_cons_succ, List.setIfInBounds_toArray, List.set_cons_zero, List.set_cons_succ]
  refine wpAnyH_take (i := 10) (v := ?_) rfl (by kernel_rfl) (by kernel_rfl) (by kernel_rfl) (fun _ _ _ h => h) (Or.inl ⟨by rfl, ?_⟩) (by assumption) ?_
  rotate_left
  · (intro w hSw; obtain ⟨q0, q1, q2, q3, q4⟩ := Bx.cells hSw; go_simp; (try with_reducible rfl))
  try simp only [Act.put, List.getElem_toArray, List.getElem_cons_zero, List.getElem_cons_succ, List.setIfInBounds_toArray, List.set_cons_zero, List.set_cons_succ]
  refine wpAnyH_done (by kernel_rfl) (NoPanic.normal ?_) _
  go_wp2_with fail
  with_reducible refine (CD.out _).mono ?_
  rintro e w2 ⟨rfl, hb⟩
  have HB2 := Lib.hid (HB1.out.trans (hb.mono HB1.out.size))
  clear hb
  go_wp2_with fail
  go_ret
  obtain ⟨f0, f1⟩ := pto_fits V P hV0.1 hV0.2 hP0 hP1
  exact ⟨ret_i64 (by rw [← IntKind.wrap_i64_wrap64, IntWalk.i64_in _ ⟨f0, f1⟩]), HB2.out⟩
theorem pto_any (s : St) (m p : Int) (w : World) (h : s.Ok) : Calls Try.prog 11 #[s.val, .int .i64 m, .int .i64 p] w fun e w' => e = .returned (.int .i64 (ptoN s m p)) ∧ Below w.heap.size w w' := by
  obtain ⟨a, la, sm, va, mn⟩ := s
  obtain ⟨x0, x1, x2, x3, x4, x5, x6, x7⟩ := h
  exact pto_walk a la sm va mn m p w _ _ _ _ rfl rfl rfl rfl (tk_lo m) (tk_hi m) x2 x3 x4 x5 (by omega) (by omega)
theorem pow_step (V : Int) (j : Nat) : V * 2 ^ j * 2 = V * 2 ^ (j + 1) := by rw [Int.pow_succ, ← Int.mul_assoc]
theorem pto_mono (V : Int) (j : Nat) (h0 : 0 ≤ V) (h1 : V ≤ 8796093022208) (hj : j ≤ 10) : 0 ≤ V * 2 ^ j ∧ V * 2 ^ j ≤ 9223372036854775807 := by
  obtain ⟨a, b⟩ := pto_fits V j h0 h1 (by omega) (by omega)
  simp only [Int.toNat_natCast] at a b
  exact ⟨Int.mul_nonneg h0 (Int.le_of_lt (Int.pow_pos (by decide))), b⟩
set_option maxHeartbeats 4000000 in
theorem ptoD_walk (a : Bool) (la sm va mn m p : Int) (w : World) (M V N : Int) (P : Nat) (hM : max (4 * va) 1 = M) (hN : tk m = N) (hV : sm + M + N = V) (hP : min (max p 0) 10 = (P : Int)) (hn0 : 0 ≤ N) (hn1 : N ≤ 1099511627776) (hsm0 : 0 ≤ sm) (hsm1 : sm ≤ 1099511627776) (hva0 : 0 ≤ va) (hva1 : va ≤ 1099511627776) (hP1 : P ≤ 10) :
    Calls Try.prog 12 #[.agg #[.bool a, .int .i64 la, .int .i64 sm, .int .i64 va, .int .i64 mn], .int .i64 m, .int .i64 p] w fun e w' => e = .returned (.int .i64 (V * 2 ^ P)) ∧ Below w.heap.size w w' := by
  have CT := Lib.hid (bound_any m)
  have m1 := max_run (4 * va) 1 M hM
  obtain ⟨Q, hQ⟩ : ∃ Q, min p 10 = Q := ⟨_, rfl⟩
  have m2 := min_run p 10 Q hQ
  have hQP : Q = (P : Int) ∨ (Q ≤ 0 ∧ P = 0) := by omega
  rw [hN] at CT
  have u1 : IntKind.i64.wrap (4 * va) = 4 * va := IntWalk.i64_in _ (by omega)
  have u2 : IntKind.i64.wrap (sm + M) = sm + M := IntWalk.i64_in _ (by omega)
  have u3 : IntKind.i64.wrap (sm + M + N) = V := by rw [IntWalk.i64_in _ (by omega)]; exact hV
  have hV0 : 0 ≤ V ∧ V ≤ 8796093022208 := by omega
  clear hM hN hV hP hQ
  have HP0 : Hid (Bx (w.alloc (.cells #[.bool a, .int .i64 la, .int .i64 sm, .int .i64 va, .int .i64 mn] 27)).drew w.heap.size 27 a la sm va mn) := Lib.hid (Bx.made w 27 a la sm va mn)
  have HB0 : Hid (Below w.heap.size w (w.alloc (.cells #[.bool a, .int .i64 la, .int .i64 sm, .int .i64 va, .int .i64 mn] 27)).drew) := Lib.hid ((Below.refl _ _).alloc (Nat.le_refl _) _).drew
  go_enter Try.func12, Try.ntmps12
  go_wp2_with fail
  refine wp_region_noPanic ?_
  refine wp_region_held_drew (S := fun W : World => Bx W w.heap.size 27 a la sm va mn) (by kernel_rfl) ?_ (fun hHeld => ?_)
  · exact HP0.out
  refine wpAnyH_take (i := 0) (v := ?_) rfl (by kernel_rfl) (by kernel_rfl) (by kernel_rfl) (fun _ _ _ h => h) (Or.inl ⟨by rfl, ?_⟩) (by assumption) ?_
  rotate_left
  · (intro w hSw; obtain ⟨q0, q1, q2, q3, q4⟩ := Bx.cells hSw; go_simp; (try with_reducible rfl))
  try simp only [Act.put, List.getElem_toArray, List.getElem_cons_zero, List.getElem_cons_succ, List.setIfInBounds_toArray, List.set_cons_zero, List.set_cons_succ]
  refine wpAnyH_take (i := 1) (v := ?_) rfl (by kernel_rfl) (by kernel_rfl) (by kernel_rfl) (fun _ _ _ h => h) (Or.inl ⟨by rfl, ?_⟩) (by assumption) ?_
  rotate_left
  · (intro w hSw; obtain ⟨q0, q1, q2, q3, q4⟩ := Bx.cells hSw; go_simp; (try with_reducible rfl))
  try simp only [Act.put, List.getElem_toArray, List.getElem_cons_zero, List.getElem_cons_succ, List.setIfInBounds_toArray, List.set_cons_zero, List.set_cons_succ]
  refine wpAnyH_take (i := 2) (v := ?_) rfl (by kernel_rfl) (by kernel_rfl) (by kernel_rfl) (fun _ _ _ h => h) (Or.inl ⟨by rfl, ?_⟩) (by assumption) ?_
  rotate_left
  · (intro w hSw; obtain ⟨q0, q1, q2, q3, q4⟩ := Bx.cells hSw; go_simp; (try with_reducible rfl))
  try simp only [Act.put, List.getElem_toArray, List.getElem_cons_zero, List.getElem_cons_succ, List.setIfInBounds_toArray, List.set_cons_zero, List.set_cons_succ]
  refine wpAnyH_take (i := 3) (v := ?_) rfl (by kernel_rfl) (by kernel_rfl) (by kernel_rfl) (fun _ _ _ h => h) (Or.inl ⟨by rfl, ?_⟩) (by assumption) ?_
  rotate_left
  · (intro w hSw; obtain ⟨q0, q1, q2, q3, q4⟩ := Bx.cells hSw; go_simp; (try with_reducible rfl))
  try simp only [Act.put, List.getElem_toArray, List.getElem_cons_zero, List.getElem_cons_succ, List.setIfInBounds_toArray, List.set_cons_zero, List.set_cons_succ]
  refine wpAnyH_take (i := 4) (v := ?_) rfl (by kernel_rfl) (by kernel_rfl) (by kernel_rfl) (fun _ _ _ h => h) (Or.inl ⟨by rfl, ?_⟩) (by assumption) ?_
  rotate_left
  · (intro w hSw; obtain ⟨q0, q1, q2, q3, q4⟩ := Bx.cells hSw; go_simp; (try with_reducible rfl))
  try simp only [Act.put, List.getElem_toArray, List.getElem_cons_zero, List.getElem_cons_succ, List.setIfInBounds_toArray, List.set_cons_zero, List.set_cons_succ]
  refine wpAnyH_take (i := 5) (v := ?_) rfl (by kernel_rfl) (by kernel_rfl) (by kernel_rfl) (fun _ _ _ h => h) (Or.inl ⟨by rfl, ?_⟩) (by assumption) ?_
  rotate_left
  · (intro w hSw; obtain ⟨q0, q1, q2, q3, q4⟩ := Bx.cells hSw; go_simp; (try with_reducible rfl))
  try simp only [Act.put, List.getElem_toArray, List.getElem_cons_zero, List.getElem_cons_succ, List.setIfInBounds_toArray, List.set_cons_zero, List.set_cons_succ]
  refine wpAnyH_take (i := 6) (v := ?_) rfl (by kernel_rfl) (by kernel_rfl) (by kernel_rfl) (fun _ _ _ h => h) (Or.inl ⟨by rfl, ?_⟩) (by assumption) ?_
  rotate_left
  · (intro w hSw; obtain ⟨q0, q1, q2, q3, q4⟩ := Bx.cells hSw; go_simp; (try with_reducible rfl))
  try simp only [Act.put, List.getElem_toArray, List.getElem_cons_zero, List.getElem_cons_succ, List.setIfInBounds_toArray, List.set_cons_zero, List.set_cons_succ]
  refine wpAnyH_take (i := 7) (v := ?_) rfl (by kernel_rfl) (by kernel_rfl) (by kernel_rfl) (fun _ _ _ h => h) (Or.inl ⟨by rfl, ?_⟩) (by assumption) ?_
  rotate_left
  · (intro w hSw; obtain ⟨q0, q1, q2, q3, q4⟩ := Bx.cells hSw; go_simp; (try with_reducible rfl))
  try simp only [Act.put, List.getElem_toArray, List.getElem_cons_zero, List.getElem_cons_succ, List.setIfInBounds_toArray, List.set_cons_zero, List.set_cons_succ]
  refine wpAnyH_ready (rs := [8]) (by kernel_rfl) (by simp) ?_
  refine AllReadyH.cons rfl (fun K hK => ?_) AllReadyH.nil
  rw [if_pos (by rfl)]
  go_simp
  with_reducible refine (CT.out _).mono ?_
  rintro e w1 ⟨rfl, hb⟩
  have HB1 := Lib.hid (HB0.out.trans (hb.mono HB0.out.size))
  have HP1 := Lib.hid (HP0.out.keep hb HP0.out.lt)
  clear hb
  refine hK.out _ _ ?_ (fun hHeld => ?_)
  · exact HP1.out
  clear hK K
  try simp only [Act.put, List.getElem_toArray, List.getElem_cons_zero, List.getElem_cons_succ, List.setIfInBounds_toArray, List.set_cons_zero, List.set_cons_succ]
  refine wpAnyH_take (i := 9) (v := ?_) rfl (by kernel_rfl) (by kernel_rfl) (by kernel_rfl) (fun _ _ _ h => h) (Or.inl ⟨by rfl, ?_⟩) (by assumption) ?_
  rotate_left
  · (intro w hSw; obtain ⟨q0, q1, q2, q3, q4⟩ := Bx.cells hSw; go_simp; (try with_reducible rfl))
  try simp only [Act.put, List.getElem_toArray, List.getElem_cons_zero, List.getElem_cons_succ, List.setIfInBounds_toArray, List.set_cons_zero, List.set_cons_succ]
  refine wpAnyH_take (i := 10) (v := ?_) rfl (by kernel_rfl) (by kernel_rfl) (by kernel_rfl) (fun _ _ _ h => h) (Or.inl ⟨by rfl, ?_⟩) (by assumption) ?_
  rotate_left
  · (intro w hSw; obtain ⟨q0, q1, q2, q3, q4⟩ := Bx.cells hSw; go_simp; (try with_reducible rfl))
  try simp only [Act.put, List.getElem_toArray, List.getElem_cons_zero, List.getElem_cons_succ, List.setIfInBounds_toArray, List.set_cons_zero, List.set_cons_succ]
  refine wpAnyH_done (by kernel_rfl) (NoPanic.normal ?_) _
  go_wp2_with fail
  go_loopw [7, 8] (fun tv iv wr => ∃ j : Nat, j ≤ P ∧ iv = .int .i64 j ∧ tv = .int .i64 (V * 2 ^ j) ∧ wr = w1) (fun _ iv _ => P - (intOf iv).toNat)
  case atStart => exact ⟨0, Nat.zero_le _, rfl, by simp, rfl⟩
  case round =>
    obtain ⟨j, hj, rfl, rfl, rfl⟩ := hrel
    obtain ⟨k0, k1⟩ := pto_mono V j hV0.1 hV0.2 (by omega)
    by_cases hlt : (j : Int) < Q
    · have hjP : j < P := by omega
      obtain ⟨n0, n1⟩ := pto_mono V (j + 1) hV0.1 hV0.2 (by omega)
      have HU : Hid (wrap64 (V * 2 ^ j * 2) = V * 2 ^ (j + 1)) := Lib.hid (by rw [pow_step, ← IntKind.wrap_i64_wrap64, IntWalk.i64_in _ (by omega)])
      obtain ⟨X, hX⟩ : ∃ X, V * 2 ^ j = X := ⟨_, rfl⟩
      obtain ⟨Y, hY⟩ : ∃ Y, V * 2 ^ (j + 1) = Y := ⟨_, rfl⟩
      rw [hX] at HU k0 k1 ⊢
      rw [hY] at HU n0 n1
      have HY := Lib.hid hY
      have HX := Lib.hid hX
      clear hX hY
      go_wp2_with fail
      go_roundw
      case rel => exact ⟨j + 1, hjP, by push_cast; rfl, by rw [HY.out]; first | rfl | rw [HU.out] | exact congrArg _ HU.out | (have := HU.out; simp_all), trivial⟩
      case measure => simp [intOf]; omega
    · have hjP : j = P := by omega
      go_wp2_with fail
      go_ret
      exact ⟨rfl, HB1.out⟩
theorem ptoD_any (s : St) (m p : Int) (w : World) (h : s.Ok) : Calls Try.prog 12 #[s.val, .int .i64 m, .int .i64 p] w fun e w' => e = .returned (.int .i64 (ptoN s m p)) ∧ Below w.heap.size w w' := by
  obtain ⟨a, la, sm, va, mn⟩ := s
  obtain ⟨x0, x1, x2, x3, x4, x5, x6, x7⟩ := h
  exact ptoD_walk a la sm va mn m p w _ _ _ _ rfl rfl rfl (Int.toNat_of_nonneg (by omega)).symm (tk_lo m) (tk_hi m) x2 x3 x4 x5 (by omega)
end Go.Proofs.Ytgmaaeaaanjjaaa.Rt
