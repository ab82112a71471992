/- The walks of layer 3: Gaps, Has, Count. -/
import Derived.Test.YtliakeiaeakliaaRgT
namespace Go.Proofs.Ytliakeiaeakliaa.Rg
set_option maxRecDepth 20000
open Go.RowKit Go.Shelf
set_option linter.unusedVariables false

theorem parts_len (l : List Ran) (r : Ran) : (parts l r).length ≤ l.length := by
  unfold parts
  have := List.length_filter_le (fun b => decide (ok b)) (l.map (clip r))
  simpa using this
theorem gaps_len : ∀ (l : List Ran) (lo hi : Int), (gaps lo hi l).length ≤ l.length + 1
  | [], lo, hi => by unfold gaps; split <;> simp
  | x :: l, lo, hi => by
    have := gaps_len l (x.2 + 1) hi
    unfold gaps
    split
    · simp; omega
    · simp; omega
theorem lack_len (l : List Ran) (r : Ran) : (lack l r).length ≤ l.length + 1 := by
  have h1 := gaps_len (parts l r) r.1 r.2
  have h2 := parts_len l r
  unfold lack
  omega
def hasB (l : List Ran) (n : Int) : Bool := l.any fun x => decide (x.1 ≤ n ∧ n ≤ x.2)
theorem hasB_iff {l : List Ran} {n : Int} : hasB l n = true ↔ mem l n := by
  unfold hasB
  rw [List.any_eq_true]
  constructor
  · rintro ⟨x, hx, h⟩
    exact ⟨x, hx, by simpa [inn] using h⟩
  · rintro ⟨x, hx, h⟩
    exact ⟨x, hx, by have h' : x.1 ≤ n ∧ n ≤ x.2 := h; simpa using h'⟩

/-- How many numbers. -/
def size : List Ran → Int
  | [] => 0
  | x :: l => (x.2 - x.1 + 1) + size l
theorem size_append : ∀ (l m : List Ran), size (l ++ m) = size l + size m
  | [], m => by simp [size]
  | x :: l, m => by rw [List.cons_append, size, size, size_append l]; omega
theorem size_bound : ∀ (l : List Ran) (lo B : Int), Can l → (∀ y ∈ l, lo ≤ y.1 ∧ y.2 < B) → lo ≤ B → 0 ≤ size l ∧ size l ≤ B - lo
  | [], lo, B, _, _, h => by simp only [size]; omega
  | x :: l, lo, B, hc, hw, h => by
    have hx := hc.head
    have hxw := hw x (List.mem_cons_self ..)
    have := size_bound l (x.2 + 1) B hc.tail (fun y hy => ⟨by have := hc.next y hy; omega, (hw y (List.mem_cons_of_mem _ hy)).2⟩) (by omega)
    simp only [size]
    omega
theorem size_can {l : List Ran} (h : Can l) : 0 ≤ size l ∧ size l ≤ 9223372036854775808 := by
  have := size_bound l 0 9223372036854775808 h (fun y hy => ⟨(h.good y hy).1, (h.good y hy).2.2⟩) (by omega)
  omega
theorem Can.prefix {l m : List Ran} (h : Can m) (hp : l <+: m) : Can l := by
  obtain ⟨t, rfl⟩ := hp
  exact h.left

/-- Between two rounds of Has's loop, and where one has left it. -/
def HasI (w : World) (pre : List Ran) (O : Nat → Prop) (A : World) : Prop :=
  A.heap[w.heap.size]? = some (.cells #[.bool false] 4 (0, 0)) ∧ pre = [] ∧ (∀ q, O q → w.heap.size + 1 ≤ q) ∧ w.heap.size + 1 ≤ A.heap.size ∧ Below w.heap.size w A
def HasX (w : World) (c : Code) (pre : List Ran) (O : Nat → Prop) (A : World) : Prop :=
  c = .ret ∧ A.heap[w.heap.size]? = some (.cells #[.bool true] 4 (0, 0)) ∧ pre ≠ [] ∧ (∀ q, O q → w.heap.size + 1 ≤ q) ∧ w.heap.size + 1 ≤ A.heap.size ∧ Below w.heap.size w A
theorem hasI_stable (w : World) : Stable (HasI w) := by
  rintro pre O O' A B ⟨h1, h2, h3, h4, h5⟩ ho g2
  exact ⟨ho.heap h1 (fun h => by have := h3 _ h; omega), h2, grow_ge h3 h4 g2, Nat.le_trans h4 ho.size, h5.trans (ho.below (by omega) (fun k hk => by have := h3 k hk; omega))⟩
theorem hasX_stable (w : World) (c : Code) : Stable (HasX w c) := by
  rintro pre O O' A B ⟨h0, h1, h2, h3, h4, h5⟩ ho g2
  exact ⟨h0, ho.heap h1 (fun h => by have := h3 _ h; omega), h2, grow_ge h3 h4 g2, Nat.le_trans h4 ho.size, h5.trans (ho.below (by omega) (fun k hk => by have := h3 k hk; omega))⟩
theorem one_cell {A : World} {B : Nat} {u : Value} {t : TypeId} (h : A.heap[B]? = some (.cells #[u] t (0, 0))) : A.cell? ⟨B, 0, none⟩ = some u ∧ A.frozen? ⟨B, 0, none⟩ = false := by
  simp [World.cell?, World.frozen?, h]

attribute [local go_sem] Oper.semAt_some
set_option maxHeartbeats 1000000 in
theorem has_any (a : Option Addr) (n cap : Nat) (l : List Ran) (y : Int) (w : World) (hl : l.length ≤ 1000) (hcan : Can l) (hrd : Rd w (.slice a n cap) l) :
    Calls Try.prog 29 #[.slice a n cap, .int .u64 y] w fun e w' => e = .returned (.bool (hasB l y)) ∧ Below w.heap.size w w' := by
  refine (callsIn_wide (n := 0)).1 ?_
  have HRD := Lib.hid hrd
  clear hrd
  refine callsIn_of_wp_marks Try.func29 rfl trivial ?_ rfl
  simp only [Try.ntmps29, List.size_toArray, List.length_cons, List.length_nil, Nat.reduceAdd, Nat.reduceSub, Array.replicate_succ, Array.replicate_zero, List.push_toArray, List.append_toArray, List.nil_append, List.cons_append]
  gi_wp2_with fail
  refine ⟨trivial, rfl, (callsIn_wide.2 (within_any _ _ _ _ _ _)).mono ?_⟩
  rintro e w1 ⟨rfl, rfl⟩
  have hb0 : Below w.heap.size w (((w.alloc (.cells #[.bool false] 4)).alloc (.cells #[.slice a n cap] 25)).alloc (.cells #[.int .u64 y, .int .u64 y] 52)) := (((Below.refl _ w).alloc (Nat.le_refl _) _).alloc (by simp) _).alloc (by simp; omega) _
  have hit := within_iter (w.heap.size + 1) (w.heap.size + 1 + 1) (.slice a n cap) l y y (((w.alloc (.cells #[.bool false] 4)).alloc (.cells #[.slice a n cap] 25)).alloc (.cells #[.int .u64 y, .int .u64 y] 52)) hl hcan (by simp [go_sem]) (HRD.out.below hb0 (Nat.le_refl _)) (by simp [go_sem]) (by simp [go_sem])
  have HB := Lib.hid hb0
  clear hb0
  gi_wp2_with fail
  refine wp_range rfl (enters_of Try.func41 (by kernel_rfl) rfl) hit (fun q hq => ⟨?_, rfl⟩) (Nat.le_refl _) rfl (HasI w) (HasX w) (hasI_stable w) (hasX_stable w) ?h0 ?round ?done ?stop
  case round =>
    rintro lq pre ⟨x1, x2⟩ O A hpx hw hOl ⟨hi1, rfl, hi3, hi4, hi5⟩
    simp only [enc]
    gi_wp2_with fail
    refine ⟨Only.refl _ _, ?_⟩
    intro A2 ho2 hsz2
    have hb1 := ho2.heap hi1 (fun h => by have := hi3 _ h; omega)
    obtain ⟨hc1, hc2⟩ := one_cell hb1
    have HB1 := Lib.hid hb1
    have HI3 := Lib.hid hi3
    have HI5 : Hid (Below w.heap.size w A2) := Lib.hid (hi5.trans (ho2.below (by omega) (fun k hk => by have := hi3 k hk; omega)))
    have hnR : Hid (¬ (w.heap.size = w.heap.size + 1 ∨ w.heap.size = w.heap.size + 1 + 1 ∨ Blk (.slice a n cap) w.heap.size)) := Lib.hid (fun h => by
      rcases h with h | h | h
      · omega
      · omega
      · have := HRD.out.blk h; omega)
    clear hb1 hi1 hi3 hi5 ho2 hw hpx hit
    gi_wp2_with fail
    refine ⟨Only.setCell ⟨fun h => (by have := HI3.out _ h; simp only at this; omega), fun h => hnR.out h⟩ _ _, rfl, set_one HB1.out _, by simp, HI3.out, by simp; omega, HI5.out.setCell (p := ⟨w.heap.size, 0, none⟩) (Nat.le_refl _) _⟩
  case done =>
    rintro D O B hw hOD hD ⟨hi1, hi2, hi3, hi4, hi5⟩
    obtain ⟨hc1, hc2⟩ := one_cell hi1
    have HB1 := Lib.hid hi1
    have HD : Hid ((B.setCell ⟨w.heap.size, 0, none⟩ (.bool false)).heap[D]? = some (.deferred (some []))) := Lib.hid ((Below.heap_setCell _ _ _ _ (by have := hi3 D hOD; simp only; omega)).trans hD)
    have HX := Lib.hid hi2
    have HI5 := Lib.hid hi5
    have hDl := hi3 D hOD
    clear hi1 hi2 hi3 hi5 hw hit hD
    gi_wp2_with fail
    refine ⟨by simp, .inl ⟨_, _, rfl, run_takeDeferred HD.out, ?_⟩⟩
    have hc5 : ((B.setCell ⟨w.heap.size, 0, none⟩ (.bool false)).putObj D (.deferred none)).cell? ⟨w.heap.size, 0, none⟩ = some (.bool false) := (World.cell?_of_block (a := ⟨w.heap.size, 0, none⟩) (World.putObj_heap_other (by simp only; omega))).trans (one_cell (set_one HB1.out _)).1
    refine ⟨.bool false, by simp [results, Try.results29, go_sem, hc5], ?_, ?_⟩
    · have : hasB l y = false := by
        rw [← Bool.not_eq_true, hasB_iff]
        intro h
        have := parts_mem.2 ⟨h, (⟨Int.le_refl y, Int.le_refl y⟩ : inn (y, y) y)⟩
        rw [HX.out] at this
        exact mem_nil _ this
      rw [this]
    · exact ((HI5.out.setCell (p := ⟨w.heap.size, 0, none⟩) (Nat.le_refl _) _).trans (Only.below (Only.putObj (O := fun k => k = D) rfl _ _) (by simp; omega) (fun k hk => by omega)))
  case stop =>
    rintro D c pre O B hw hOD hD hpre ⟨rfl, hi1, hi2, hi3, hi4, hi5⟩
    have hDl := hi3 D hOD
    have HB1 := Lib.hid hi1
    have HX := Lib.hid hi2
    have HI5 := Lib.hid hi5
    have HP := Lib.hid hpre
    clear hi1 hi2 hi3 hi5 hw hit hpre
    gi_wp2_with fail
    refine ⟨by simp, .inl ⟨_, _, rfl, run_takeDeferred hD, ?_⟩⟩
    have hc5 : (B.putObj D (.deferred none)).cell? ⟨w.heap.size, 0, none⟩ = some (.bool true) := (World.cell?_of_block (a := ⟨w.heap.size, 0, none⟩) (World.putObj_heap_other (by simp only; omega))).trans (one_cell HB1.out).1
    refine ⟨.bool true, by simp [results, Try.results29, go_sem, hc5], ?_, ?_⟩
    · have : hasB l y = true := by
        rw [hasB_iff]
        obtain ⟨z, hz⟩ := List.exists_mem_of_ne_nil _ HX.out
        have hzp := List.IsPrefix.mem hz HP.out
        have h1 := parts_in z hzp
        have h2 : mem (parts l (y, y)) y := ⟨z, hzp, by have := h1.2.1; simp only at this; have := h1.2.2; simp only at this; omega, by have := h1.2.1; simp only at this; have := h1.2.2; simp only at this; omega⟩
        exact (parts_mem.1 h2).1
      rw [this]
    · exact HI5.out.trans (Only.below (Only.putObj (O := fun k => k = D) rfl _ _) (by omega) (fun k hk => by omega))
  case h0 =>
    refine ⟨?_, rfl, fun _ h => h.elim, by simp, HB.out⟩
    rw [Below.heap_alloc _ _ _ (by simp <;> omega), Below.heap_alloc _ _ _ (by simp)]
    exact World.alloc_heap_new w _
  · rcases hq with rfl | rfl | hq
    · simp
    · simp
    · have := HRD.out.blk hq; simp; omega

/-- Between two rounds of Count's loop. -/
def CountI (w : World) (pre : List Ran) (O : Nat → Prop) (A : World) : Prop :=
  A.heap[w.heap.size]? = some (.cells #[.int .u64 (size pre)] 26 (0, 0)) ∧ (∀ q, O q → w.heap.size + 1 ≤ q) ∧ w.heap.size + 1 ≤ A.heap.size ∧ Below w.heap.size w A
theorem countI_stable (w : World) : Stable (CountI w) := by
  rintro pre O O' A B ⟨h1, h3, h4, h5⟩ ho g2
  exact ⟨ho.heap h1 (fun h => by have := h3 _ h; omega), grow_ge h3 h4 g2, Nat.le_trans h4 ho.size, h5.trans (ho.below (by omega) (fun k hk => by have := h3 k hk; omega))⟩

end Go.Proofs.Ytliakeiaeakliaa.Rg
