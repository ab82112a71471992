/- The walks of layer 3: Gaps, Has, Count. -/
import Derived.Test.YtedijfcagkedaaaRgT
namespace Go.Proofs.Ytedijfcagkedaaa.Rg
set_option maxRecDepth 20000
open Go.RowKit Go.Shelf
set_option linter.unusedVariables false

theorem parts_len (l : List Ran) (r : Ran) : (parts l r).length ≤ l.length := by
  unfold parts
  have := List.length_filter_le (fun b => decide (ok b)) (l.map (clip r))
  simpa using this
theorem gaps_len : ∀ (l : List Ran) (lo hi : Int), (gaps lo hi l).length ≤ l.length + 1
  | [], lo, hi => by unfold gaps; split <;> simp
  | x :: l, lo, hi => by
    have := gaps_len l (x.2 + 1) hi
    unfold gaps
    split
    · simp; omega
    · simp; omega
theorem lack_len (l : List Ran) (r : Ran) : (lack l r).length ≤ l.length + 1 := by
  have h1 := gaps_len (parts l r) r.1 r.2
  have h2 := parts_len l r
  unfold lack
  omega
def hasB (l : List Ran) (n : Int) : Bool := l.any fun x => decide (x.1 ≤ n ∧ n ≤ x.2)
theorem hasB_iff {l : List Ran} {n : Int} : hasB l n = true ↔ mem l n := by
  unfold hasB
  rw [List.any_eq_true]
  constructor
  · rintro ⟨x, hx, h⟩
    exact ⟨x, hx, by simpa [inn] using h⟩
  · rintro ⟨x, hx, h⟩
    exact ⟨x, hx, by have h' : x.1 ≤ n ∧ n ≤ x.2 := h; simpa using h'⟩

/-- How many numbers. -/
def size : List Ran → Int
  | [] => 0
  | x :: l => (x.2 - x.1 + 1) + size l
theorem size_append : ∀ (l m : List Ran), size (l ++ m) = size l + size m
  | [], m => by simp [size]
  | x :: l, m => by rw [List.cons_append, size, size, size_append l]; omega
theorem size_bound : ∀ (l : List Ran) (lo B : Int), Can l → (∀ y ∈ l, lo ≤ y.1 ∧ y.2 < B) → lo ≤ B → 0 ≤ size l ∧ size l ≤ B - lo
  | [], lo, B, _, _, h => by simp only [size]; omega
  | x :: l, lo, B, hc, hw, h => by
    have hx := hc.head
    have hxw := hw x (List.mem_cons_self ..)
    have := size_bound l (x.2 + 1) B hc.tail (fun y hy => ⟨by have := hc.next y hy; omega, (hw y (List.mem_cons_of_mem _ hy)).2⟩) (by omega)
    simp only [size]
    omega
theorem size_can {l : List Ran} (h : Can l) : 0 ≤ size l ∧ size l ≤ 9223372036854775808 := by
  have := size_bound l 0 9223372036854775808 h (fun y hy => ⟨(h.good y hy).1, (h.good y hy).2.2⟩) (by omega)
  omega
theorem Can.prefix {l m : List Ran} (h : Can m) (hp : l <+: m) : Can l := by
  obtain ⟨t, rfl⟩ := hp
  exact h.left

set_option maxHeartbeats 1000000 in
theorem gaps_any (a : Option Addr) (n cap : Nat) (l : List Ran) (lo hi : Int) (w : World) (hl : l.length ≤ 1000) (hcan : Can l) (h0 : 0 ≤ lo) (h1 : hi < 9223372036854775808) (hrd : Rd w (.slice a n cap) l) :
    Calls Try.prog 63 #[.slice a n cap, .agg #[.int .u64 lo, .int .u64 hi]] w fun e w' => ∃ v, e = .returned v ∧ Rd w' v (lack l (lo, hi)) ∧ Below w.heap.size w w' := by
  have HRD := Lib.hid hrd
  clear hrd
  go_enter Try.func63, Try.ntmps63
  go_wp2_with fail
  refine (without_any _ _ _ _ _ _).mono ?_
  rintro e w1 ⟨rfl, rfl⟩
  have hb0 : Below w.heap.size w (((w.alloc (.cells #[.int .u64 lo, .int .u64 hi] 68)).alloc (.cells #[.slice a n cap] 27)).alloc (.cells #[.int .u64 lo, .int .u64 hi] 68)) := (((Below.refl _ w).alloc (Nat.le_refl _) _).alloc (by simp) _).alloc (by simp; omega) _
  have hit := without_iter (w.heap.size + 1 + 1) (w.heap.size + 1) (.slice a n cap) l lo hi (((w.alloc (.cells #[.int .u64 lo, .int .u64 hi] 68)).alloc (.cells #[.slice a n cap] 27)).alloc (.cells #[.int .u64 lo, .int .u64 hi] 68)) hl hcan h0 h1 (by simp [go_sem]) (HRD.out.below hb0 (Nat.le_refl _)) (by simp [go_sem]) (by simp [go_sem])
  have HC := Lib.hid (collect_any _ _ _ _ _ (((w.alloc (.cells #[.int .u64 lo, .int .u64 hi] 68)).alloc (.cells #[.slice a n cap] 27)).alloc (.cells #[.int .u64 lo, .int .u64 hi] 68)) (enters_of Try.func67 (by kernel_rfl) rfl) hit (fun q hq => ⟨by
    rcases hq with rfl | rfl | hq
    · simp
    · simp
    · have := HRD.out.blk hq; simp; omega, rfl⟩) (Nat.le_refl _) (by have := lack_len l (lo, hi); omega))
  have HB := Lib.hid hb0
  clear hit hb0
  go_wp2_with fail
  refine HC.out.mono ?_
  rintro e w2 ⟨v, rfl, ho, hb⟩
  have HO := Lib.hid ho
  have HB2 := Lib.hid hb
  clear ho hb HC
  go_wp2
  go_ret
  exact ⟨v, rfl, HO.out.rd, HB.out.trans (HB2.out.mono (by simp; omega))⟩

/-- Between two rounds of Has's loop, and where one has left it. -/
def HasI (w : World) (pre : List Ran) (O : Nat → Prop) (A : World) : Prop :=
  A.heap[w.heap.size]? = some (.cells #[.bool false] 4 (0, 0)) ∧ pre = [] ∧ (∀ q, O q → w.heap.size + 1 ≤ q) ∧ w.heap.size + 1 ≤ A.heap.size ∧ Below w.heap.size w A
def HasX (w : World) (c : Code) (pre : List Ran) (O : Nat → Prop) (A : World) : Prop :=
  c = .ret ∧ A.heap[w.heap.size]? = some (.cells #[.bool true] 4 (0, 0)) ∧ pre ≠ [] ∧ (∀ q, O q → w.heap.size + 1 ≤ q) ∧ w.heap.size + 1 ≤ A.heap.size ∧ Below w.heap.size w A
theorem hasI_stable (w : World) : Stable (HasI w) := by
  rintro pre O O' A B ⟨h1, h2, h3, h4, h5⟩ ho g2
  exact ⟨ho.heap h1 (fun h => by have := h3 _ h; omega), h2, grow_ge h3 h4 g2, Nat.le_trans h4 ho.size, h5.trans (ho.below (by omega) (fun k hk => by have := h3 k hk; omega))⟩
theorem hasX_stable (w : World) (c : Code) : Stable (HasX w c) := by
  rintro pre O O' A B ⟨h0, h1, h2, h3, h4, h5⟩ ho g2
  exact ⟨h0, ho.heap h1 (fun h => by have := h3 _ h; omega), h2, grow_ge h3 h4 g2, Nat.le_trans h4 ho.size, h5.trans (ho.below (by omega) (fun k hk => by have := h3 k hk; omega))⟩
theorem one_cell {A : World} {B : Nat} {u : Value} {t : TypeId} (h : A.heap[B]? = some (.cells #[u] t (0, 0))) : A.cell? ⟨B, 0, none⟩ = some u ∧ A.frozen? ⟨B, 0, none⟩ = false := by
  simp [World.cell?, World.frozen?, h]

attribute [local go_sem] Oper.semAt_some
/-- Between two rounds of Count's loop. -/
def CountI (w : World) (pre : List Ran) (O : Nat → Prop) (A : World) : Prop :=
  A.heap[w.heap.size]? = some (.cells #[.int .u64 (size pre)] 23 (0, 0)) ∧ (∀ q, O q → w.heap.size + 1 ≤ q) ∧ w.heap.size + 1 ≤ A.heap.size ∧ Below w.heap.size w A
theorem countI_stable (w : World) : Stable (CountI w) := by
  rintro pre O O' A B ⟨h1, h3, h4, h5⟩ ho g2
  exact ⟨ho.heap h1 (fun h => by have := h3 _ h; omega), grow_ge h3 h4 g2, Nat.le_trans h4 ho.size, h5.trans (ho.below (by omega) (fun k hk => by have := h3 k hk; omega))⟩

set_option maxHeartbeats 1000000 in
theorem count_any (a : Option Addr) (n cap : Nat) (l : List Ran) (w : World) (hl : l.length ≤ 1000) (hcan : Can l) (hrd : Rd w (.slice a n cap) l) :
    Calls Try.prog 28 #[.slice a n cap] w fun e w' => e = .returned (.int .u64 (size l)) ∧ Below w.heap.size w w' := by
  refine (callsIn_wide (n := 0)).1 ?_
  have HRD := Lib.hid hrd
  clear hrd
  refine callsIn_of_wp_marks Try.func28 rfl trivial ?_ rfl
  simp only [Try.ntmps28, List.size_toArray, List.length_cons, List.length_nil, Nat.reduceAdd, Nat.reduceSub, Array.replicate_succ, Array.replicate_zero, List.push_toArray, List.append_toArray, List.nil_append, List.cons_append]
  gi_wp2_with fail
  refine ⟨trivial, rfl, (callsIn_wide.2 (walk_any _ _ _ _)).mono ?_⟩
  rintro e w1 ⟨rfl, rfl⟩
  have hb0 : Below w.heap.size w ((w.alloc (.cells #[.int .u64 0] 23)).alloc (.cells #[.slice a n cap] 26)) := ((Below.refl _ w).alloc (Nat.le_refl _) _).alloc (by simp) _
  have hit := walk_iter (w.heap.size + 1) (.slice a n cap) l ((w.alloc (.cells #[.int .u64 0] 23)).alloc (.cells #[.slice a n cap] 26)) hl (by simp [go_sem]) (HRD.out.below hb0 (Nat.le_refl _))
  rw [hcan.ok] at hit
  have HB := Lib.hid hb0
  clear hb0
  gi_wp2_with fail
  refine wp_range rfl (enters_of Try.func65 (by kernel_rfl) rfl) hit (fun q hq => ⟨?_, rfl⟩) (Nat.le_refl _) rfl (CountI w) (fun _ _ _ _ => False) (countI_stable w) (fun _ _ _ _ _ _ h _ _ => h) ?h0 ?round ?done ?stop
  case round =>
    rintro lq pre ⟨x1, x2⟩ O A hpx hw hOl ⟨hi1, hi3, hi4, hi5⟩
    have hcp := hcan.prefix hpx
    have hsc := size_can hcp
    have hsp := size_can hcp.left
    rw [size_append] at hsc
    have hxg := hcp.good (x1, x2) (by simp)
    simp only [size] at hsc hxg
    have HSZ := Lib.hid (size_append pre [(x1, x2)])
    simp only [enc]
    gi_wp2_with fail
    refine ⟨Only.alloc _ _ _, ?_⟩
    intro A2 ho2 hsz2
    have hb1 := ho2.heap ((Below.heap_alloc A (.cells #[.int .u64 x1, .int .u64 x2] 68) w.heap.size (by omega)).trans hi1) (fun h => by have := hi3 _ h; omega)
    have hx1 : A2.cell? ⟨A.heap.size, 0, none⟩ = some (.int .u64 x1) := ho2.cell (by simp [go_sem]) (fun h => by have := (hw.2 _ h).2; simp only at this; omega)
    have hx2 : A2.cell? ⟨A.heap.size, 1, none⟩ = some (.int .u64 x2) := ho2.cell (by simp [go_sem]) (fun h => by have := (hw.2 _ h).2; simp only at this; omega)
    obtain ⟨hc1, hc2⟩ := one_cell hb1
    have HB1 := Lib.hid hb1
    have HI3 := Lib.hid hi3
    have HI5 : Hid (Below w.heap.size w A2) := Lib.hid ((hi5.alloc (by omega) _).trans (ho2.below (by simp; omega) (fun k hk => by have := hi3 k hk; omega)))
    have hnR : Hid (¬ (w.heap.size = w.heap.size + 1 ∨ Blk (.slice a n cap) w.heap.size)) := Lib.hid (fun h => by
      rcases h with h | h
      · omega
      · have := HRD.out.blk h; omega)
    have hz2 : A2.heap.size = A.heap.size + 1 := by simpa using hsz2
    have hne : A.heap.size ≠ w.heap.size := by omega
    have HZ2 := Lib.hid hz2
    clear hb1 hi1 hi3 hi5 ho2 hw hpx hit hsz2 hcp hz2
    generalize size pre = c at *
    gi_wp2_with fail
    refine ⟨Only.setCell ⟨fun h => (by have := HI3.out _ h; simp only at this; omega), fun h => hnR.out h⟩ _ _, ?_, HI3.out, by have := HZ2.out; simp; omega, HI5.out.setCell (p := ⟨w.heap.size, 0, none⟩) (Nat.le_refl _) _⟩
    rw [HSZ.out]
    have := set_one HB1.out (.int .u64 (c + (x2 - x1 + 1)))
    simpa [size] using this
  case done =>
    rintro D O B hw hOD hD ⟨hi1, hi3, hi4, hi5⟩
    obtain ⟨hc1, hc2⟩ := one_cell hi1
    have HI5 := Lib.hid hi5
    have hDl := hi3 D hOD
    clear hi1 hi3 hi5 hw hit
    gi_wp2_with fail
    refine ⟨by simp, .inl ⟨_, _, rfl, run_takeDeferred hD, ?_⟩⟩
    exact ⟨_, results_tmp rfl _ _ _, rfl, HI5.out.trans (Only.below (Only.putObj (O := fun k => k = D) rfl _ _) (by omega) (fun k hk => by omega))⟩
  case stop =>
    rintro D c pre O B hw hOD hD hpre h
    exact h.elim
  case h0 =>
    refine ⟨?_, fun _ h => h.elim, by simp, HB.out⟩
    rw [Below.heap_alloc _ _ _ (by simp)]
    exact World.alloc_heap_new w _
  · rcases hq with rfl | hq
    · simp
    · have := HRD.out.blk hq; simp; omega
end Go.Proofs.Ytedijfcagkedaaa.Rg
