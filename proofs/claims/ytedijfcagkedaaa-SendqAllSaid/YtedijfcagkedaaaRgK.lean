/- Layer 3: every call's contract in one form: a set, by its numbers. -/
import Derived.Test.YtedijfcagkedaaaRgG
namespace Go.Proofs.Ytedijfcagkedaaa.Rg
set_option maxRecDepth 20000
open Go.RowKit Go.Shelf
set_option linter.unusedVariables false

theorem sub_len : ∀ (m s : List Int), m.Pairwise (· < ·) → (∀ y ∈ m, y ∈ s) → m.length ≤ s.length
  | [], s, _, _ => Nat.zero_le _
  | y :: m, s, hp, hs => by
    obtain ⟨h1, h2⟩ := List.pairwise_cons.1 hp
    have hy := hs y (List.mem_cons_self ..)
    have := sub_len m (s.erase y) h2 (fun z hz => (List.mem_erase_of_ne (by have := h1 z hz; omega)).2 (hs z (List.mem_cons_of_mem _ hz)))
    rw [List.length_erase_of_mem hy] at this
    have := List.length_pos_of_mem hy
    simp only [List.length_cons]
    omega
theorem Can.ends {l : List Ran} (h : Can l) : (l.map (·.2)).Pairwise (· < ·) := by
  rw [List.pairwise_map]
  exact (List.Pairwise.and_mem.1 h.rise).imp (fun {a b} ⟨ha, hb, hab⟩ => by have := h.good b hb; omega)
theorem meetP_len {a b : List Ran} (ha : Can a) (hb : Can b) : (meetP a b).length ≤ a.length + b.length := by
  have h1 := sub_len ((meetP a b).map (·.2)) (a.map (·.2) ++ b.map (·.2)) (meetP_can ha hb).1.ends (fun y hy => by
    obtain ⟨z, hz, rfl⟩ := List.mem_map.1 hy
    obtain ⟨r, hr, hz⟩ := List.mem_flatMap.1 hz
    obtain ⟨hz, _⟩ := List.mem_filter.1 hz
    obtain ⟨x, hx, rfl⟩ := List.mem_map.1 hz
    simp only [clip]
    rcases Int.le_total x.2 r.2 with h | h
    · rw [Int.min_eq_left h]; exact List.mem_append.2 (.inl (List.mem_map.2 ⟨x, hx, rfl⟩))
    · rw [Int.min_eq_right h]; exact List.mem_append.2 (.inr (List.mem_map.2 ⟨r, hr, rfl⟩)))
  simpa using h1

/-- A call gives a set of these numbers, no longer than k. -/
def Gives (f : FuncId) (args : Array Value) (w : World) (φ : Int → Prop) (k : Nat) : Prop :=
  Calls Try.prog f args w fun e w' => ∃ v l', e = .returned v ∧ Can l' ∧ (∀ n, mem l' n ↔ φ n) ∧ l'.length ≤ k ∧ Rd w' v l' ∧ Below w.heap.size w w'

theorem of' (v : Value) (l : List Ran) (w : World) (hl : l.length ≤ 1000) (hg : ∀ x ∈ l, 0 ≤ x.1 ∧ x.2 < 9223372036854775808) (hrd : Rd w v l) :
    Gives 40 #[v] w (mem l) l.length := by
  obtain ⟨a, cap, rfl, _⟩ := id hrd
  exact of_loop a l.length cap l hl hg w hrd
theorem add' (v : Value) (l : List Ran) (lo hi : Int) (w : World) (hl : l.length ≤ 200) (hcan : Can l) (h0 : 0 ≤ lo) (h1 : hi < 9223372036854775808) (hrd : Rd w v l) :
    Gives 44 #[v, .agg #[.int .u64 lo, .int .u64 hi]] w (fun n => mem l n ∨ inn (lo, hi) n) (l.length + 1) := by
  obtain ⟨a, cap, rfl, _⟩ := id hrd
  exact add_any a l.length cap l lo hi w hl hcan h0 h1 hrd
theorem cut' (v : Value) (l : List Ran) (lo hi : Int) (w : World) (hl : l.length ≤ 100) (hcan : Can l) (h0 : 0 ≤ lo) (h1 : hi < 9223372036854775808) (hrd : Rd w v l) :
    Gives 35 #[v, .agg #[.int .u64 lo, .int .u64 hi]] w (fun n => mem l n ∧ ¬ inn (lo, hi) n) (2 * l.length) := by
  obtain ⟨a, cap, rfl, _⟩ := id hrd
  refine (cut_any a l.length cap l lo hi w hl hcan h0 h1 hrd).mono ?_
  rintro e w' ⟨v, g, rfl, hg, hm, hr, h1, hb⟩
  refine ⟨v, _, rfl, (cutP_can hg hcan).1, fun n => ?_, flat_len 2 (fun x => by have := lack_len g x; omega) l, hr, hb⟩
  rw [(cutP_can hg hcan).2, hm]
theorem gaps' (v : Value) (l : List Ran) (lo hi : Int) (w : World) (hl : l.length ≤ 1000) (hcan : Can l) (h0 : 0 ≤ lo) (h1 : hi < 9223372036854775808) (hrd : Rd w v l) :
    Gives 63 #[v, .agg #[.int .u64 lo, .int .u64 hi]] w (fun n => inn (lo, hi) n ∧ ¬ mem l n) (l.length + 1) := by
  obtain ⟨a, cap, rfl, _⟩ := id hrd
  refine (gaps_any a l.length cap l lo hi w hl hcan h0 h1 hrd).mono ?_
  rintro e w' ⟨v, rfl, hr, hb⟩
  obtain ⟨c1, _, c3⟩ := lack_can hcan (lo, hi) h0 h1
  exact ⟨v, _, rfl, c1, c3, lack_len l _, hr, hb⟩
theorem count' (v : Value) (l : List Ran) (w : World) (hl : l.length ≤ 1000) (hcan : Can l) (hrd : Rd w v l) :
    Calls Try.prog 28 #[v] w fun e w' => e = .returned (.int .u64 (size l)) ∧ Below w.heap.size w w' := by
  obtain ⟨a, cap, rfl, _⟩ := id hrd
  exact count_any a l.length cap l w hl hcan hrd
/-- The same of two that have the same numbers. -/
theorem same' (v u : Value) (l m : List Ran) (w : World) (hl : l.length ≤ 1000) (h1 : Rd w v l) (h2 : Rd w u m) (hcl : Can l) (hcm : Can m) (h : ∀ n, mem l n ↔ mem m n) :
    Calls Try.prog 46 #[v, u] w fun e w' => e = .returned (.bool true) ∧ Below w.heap.size w w' := by
  obtain rfl := can_ext hcl hcm h
  exact same_any v u l w hl h1 h2

/-- What a row of low ranges gives. -/
theorem lowB_of {l : List Ran} (h : lowB l = true) : l.length ≤ 40 ∧ ∀ x ∈ l, x.1 < 9223372036854775808 ∧ x.2 < 9223372036854775808 := by
  have h := of_decide_eq_true h
  refine ⟨h.2, fun x hx => ?_⟩
  obtain ⟨i, hi, rfl⟩ := List.getElem_of_mem hx
  have := h.1 i hi
  rwa [getD_get hi] at this
theorem low_can {x : Ran} (h : lowB [x] = true) : x.1 < 9223372036854775808 ∧ x.2 < 9223372036854775808 := (lowB_of h).2 x (List.mem_cons_self ..)
theorem rd_made (A : World) (lo hi : Int) : Rd (A.alloc (.cells #[.int .u64 lo, .int .u64 hi] 68)) (.slice (some ⟨A.heap.size, 0, none⟩) 1 1) [(lo, hi)] :=
  ⟨_, _, rfl, Nat.le_refl _, fun _ => ⟨_, _, rfl, fun i hi => by
    obtain rfl : i = 0 := by simpa using hi
    exact ⟨by simp [go_sem], by simp [go_sem]⟩⟩⟩
theorem cell_next {A A' : World} {p : Addr} {v : Value} (bl : Below A.heap.size A A') (h : A.cell? p = some v) : A'.cell? p = some v := by
  have h1 := World.block_lt_of_cell? A p h
  obtain ⟨b, o, s⟩ := p
  cases s with
  | none => exact cell_below bl h h1
  | some s =>
    unfold World.cell? at h
    simp only at h
    split at h
    · simp at h
    · cases h
theorem made (A : World) (o : Obj) : Below A.heap.size A (A.alloc o) := (Below.refl _ _).alloc (Nat.le_refl _) _
theorem hasB_no' {l : List Ran} {n : Int} (h : ¬ mem l n) : hasB l n = false := by rw [← Bool.not_eq_true, hasB_iff]; exact h
theorem Rd.go {A A' : World} {v : Value} {l : List Ran} (h : Rd A v l) (hb : Below A.heap.size A A') : Rd A' v l := h.below hb (Nat.le_refl _)
end Go.Proofs.Ytedijfcagkedaaa.Rg
