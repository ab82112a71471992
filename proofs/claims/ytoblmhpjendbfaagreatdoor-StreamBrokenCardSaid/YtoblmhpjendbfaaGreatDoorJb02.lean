/- Plain mathematics of layer 3: sets of numbers as ranges that rise. -/
import Derived.Test.YtoblmhpjendbfaaGreatDoorJb01
namespace Go.Proofs.YtoblmhpjendbfaaGreatDoor.Rg
set_option maxRecDepth 20000
set_option linter.unusedVariables false

def inn (x : Ran) (n : Int) : Prop := x.1 ≤ n ∧ n ≤ x.2
def mem (l : List Ran) (n : Int) : Prop := ∃ x ∈ l, inn x n
/-- A set in the one form that it has, with numbers below 2^63. -/
structure Can (l : List Ran) : Prop where
  good : ∀ x ∈ l, 0 ≤ x.1 ∧ x.1 ≤ x.2 ∧ x.2 < 9223372036854775808
  rise : l.Pairwise (fun a b => a.2 + 2 ≤ b.1)

theorem mem_nil (n : Int) : ¬ mem [] n := by rintro ⟨x, h, _⟩; cases h
theorem mem_cons {x : Ran} {l : List Ran} {n : Int} : mem (x :: l) n ↔ inn x n ∨ mem l n := by
  constructor
  · rintro ⟨y, hy, hn⟩
    rcases List.mem_cons.1 hy with rfl | hy
    · exact .inl hn
    · exact .inr ⟨y, hy, hn⟩
  · rintro (h | ⟨y, hy, hn⟩)
    · exact ⟨x, List.mem_cons_self .., h⟩
    · exact ⟨y, List.mem_cons_of_mem _ hy, hn⟩
theorem mem_append {l m : List Ran} {n : Int} : mem (l ++ m) n ↔ mem l n ∨ mem m n := by
  constructor
  · rintro ⟨y, hy, hn⟩
    rcases List.mem_append.1 hy with hy | hy
    · exact .inl ⟨y, hy, hn⟩
    · exact .inr ⟨y, hy, hn⟩
  · rintro (⟨y, hy, hn⟩ | ⟨y, hy, hn⟩)
    · exact ⟨y, List.mem_append.2 (.inl hy), hn⟩
    · exact ⟨y, List.mem_append.2 (.inr hy), hn⟩
theorem mem_single {x : Ran} {n : Int} : mem [x] n ↔ inn x n := by
  rw [mem_cons]; exact ⟨fun h => h.elim id (fun h => absurd h (mem_nil n)), .inl⟩
theorem mem_perm {l m : List Ran} (h : ∀ x, x ∈ l ↔ x ∈ m) (n : Int) : mem l n ↔ mem m n :=
  ⟨fun ⟨x, hx, hn⟩ => ⟨x, (h x).1 hx, hn⟩, fun ⟨x, hx, hn⟩ => ⟨x, (h x).2 hx, hn⟩⟩

theorem Can.nil : Can [] := ⟨fun x h => (List.not_mem_nil h).elim, List.Pairwise.nil⟩
theorem Can.tail {x : Ran} {l : List Ran} (h : Can (x :: l)) : Can l := ⟨fun y hy => h.good y (List.mem_cons_of_mem _ hy), (List.pairwise_cons.1 h.rise).2⟩
theorem Can.head {x : Ran} {l : List Ran} (h : Can (x :: l)) : 0 ≤ x.1 ∧ x.1 ≤ x.2 ∧ x.2 < 9223372036854775808 := h.good x (List.mem_cons_self ..)
theorem Can.next {x : Ran} {l : List Ran} (h : Can (x :: l)) : ∀ y ∈ l, x.2 + 2 ≤ y.1 := (List.pairwise_cons.1 h.rise).1
theorem Can.cons {x : Ran} {l : List Ran} (h : Can l) (hx : 0 ≤ x.1 ∧ x.1 ≤ x.2 ∧ x.2 < 9223372036854775808) (hn : ∀ y ∈ l, x.2 + 2 ≤ y.1) : Can (x :: l) :=
  ⟨fun y hy => (List.mem_cons.1 hy).elim (fun e => e ▸ hx) (fun hy => h.good y hy), List.pairwise_cons.2 ⟨hn, h.rise⟩⟩
theorem Can.append {l m : List Ran} (h : Can l) (k : Can m) (hn : ∀ x ∈ l, ∀ y ∈ m, x.2 + 2 ≤ y.1) : Can (l ++ m) :=
  ⟨fun y hy => (List.mem_append.1 hy).elim (fun hy => h.good y hy) (fun hy => k.good y hy), List.pairwise_append.2 ⟨h.rise, k.rise, hn⟩⟩
theorem Can.left {l m : List Ran} (h : Can (l ++ m)) : Can l := ⟨fun y hy => h.good y (List.mem_append.2 (.inl hy)), (List.pairwise_append.1 h.rise).1⟩
theorem Can.single {x : Ran} (hx : 0 ≤ x.1 ∧ x.1 ≤ x.2 ∧ x.2 < 9223372036854775808) : Can [x] := Can.nil.cons hx (fun y h => by cases h)
theorem Can.ok {l : List Ran} (h : Can l) : l.filter ok = l := List.filter_eq_self.2 (fun x hx => decide_eq_true (h.good x hx).2.1)
/-- A number that is not above x is in none of what follows. -/
theorem Can.not_mem {x : Ran} {l : List Ran} (h : Can (x :: l)) {n : Int} (hn : n ≤ x.2 + 1) : ¬ mem l n := by
  rintro ⟨y, hy, h1, h2⟩
  have := h.next y hy
  omega

/-- Sets that have the same numbers are the same. -/
theorem can_ext : ∀ {l m : List Ran}, Can l → Can m → (∀ n, mem l n ↔ mem m n) → l = m
  | [], [], _, _, _ => rfl
  | [], y :: m, _, hm, h => absurd ((h y.1).2 (mem_cons.2 (.inl ⟨Int.le_refl _, hm.head.2.1⟩))) (mem_nil _)
  | x :: l, [], hl, _, h => absurd ((h x.1).1 (mem_cons.2 (.inl ⟨Int.le_refl _, hl.head.2.1⟩))) (mem_nil _)
  | x :: l, y :: m, hl, hm, h => by
    have hx := hl.head
    have hy := hm.head
    have e1 : x.1 = y.1 := by
      have h1 : y.1 ≤ x.1 := by
        rcases mem_cons.1 ((h x.1).1 (mem_cons.2 (.inl ⟨Int.le_refl _, hx.2.1⟩))) with h1 | ⟨z, hz, h1, h2⟩
        · exact h1.1
        · have := hm.next z hz; omega
      have h2 : x.1 ≤ y.1 := by
        rcases mem_cons.1 ((h y.1).2 (mem_cons.2 (.inl ⟨Int.le_refl _, hy.2.1⟩))) with h1 | ⟨z, hz, h1, h2⟩
        · exact h1.1
        · have := hl.next z hz; omega
      omega
    have e2 : x.2 = y.2 := by
      rcases Int.lt_trichotomy x.2 y.2 with h1 | h1 | h1
      · exfalso
        rcases mem_cons.1 ((h (x.2 + 1)).2 (mem_cons.2 (.inl ⟨by omega, by omega⟩))) with h2 | h2
        · have := h2.2; omega
        · exact hl.not_mem (Int.le_refl _) h2
      · exact h1
      · exfalso
        rcases mem_cons.1 ((h (y.2 + 1)).1 (mem_cons.2 (.inl ⟨by omega, by omega⟩))) with h2 | h2
        · have := h2.2; omega
        · exact hm.not_mem (Int.le_refl _) h2
    obtain rfl : x = y := Prod.ext e1 e2
    have := can_ext hl.tail hm.tail (fun n => by
      by_cases hn : n ≤ x.2 + 1
      · exact ⟨fun h' => absurd h' (hl.not_mem hn), fun h' => absurd h' (hm.not_mem hn)⟩
      · have hh := h n
        rw [mem_cons, mem_cons] at hh
        have hni : ¬ inn x n := fun h' => by have := h'.2; omega
        exact ⟨fun h' => (hh.1 (.inr h')).resolve_left hni, fun h' => (hh.2 (.inr h')).resolve_left hni⟩)
    rw [this]

/-! ### What both have -/
def clip (r x : Ran) : Ran := (max x.1 r.1, min x.2 r.2)
def parts (s : List Ran) (r : Ran) : List Ran := (s.map (clip r)).filter ok
theorem parts_mem {s : List Ran} {r : Ran} {n : Int} : mem (parts s r) n ↔ mem s n ∧ inn r n := by
  constructor
  · rintro ⟨y, hy, h1, h2⟩
    obtain ⟨hy, _⟩ := List.mem_filter.1 hy
    obtain ⟨x, hx, rfl⟩ := List.mem_map.1 hy
    simp only [clip] at h1 h2
    exact ⟨⟨x, hx, by omega, by omega⟩, by omega, by omega⟩
  · rintro ⟨⟨x, hx, h1, h2⟩, h3, h4⟩
    have hok : ok (clip r x) := by simp only [ok, clip]; omega
    exact ⟨clip r x, List.mem_filter.2 ⟨List.mem_map.2 ⟨x, hx, rfl⟩, decide_eq_true hok⟩, by simp only [clip]; omega, by simp only [clip]; omega⟩
theorem parts_in {s : List Ran} {r : Ran} : ∀ y ∈ parts s r, y.1 ≤ y.2 ∧ r.1 ≤ y.1 ∧ y.2 ≤ r.2 := by
  intro y hy
  obtain ⟨hy, ho⟩ := List.mem_filter.1 hy
  obtain ⟨x, hx, rfl⟩ := List.mem_map.1 hy
  have ho : ok (clip r x) := of_decide_eq_true ho
  simp only [ok, clip] at ho ⊢
  omega
theorem parts_can {s : List Ran} (h : Can s) (r : Ran) : Can (parts s r) := by
  refine ⟨fun y hy => ?_, ?_⟩
  · have h1 := parts_in y hy
    obtain ⟨hy, ho⟩ := List.mem_filter.1 hy
    obtain ⟨x, hx, rfl⟩ := List.mem_map.1 hy
    have := h.good x hx
    simp only [clip] at *
    omega
  · refine List.Pairwise.filter _ (List.pairwise_map.2 (h.rise.imp ?_))
    intro a b hab
    simp only [clip]
    omega

/-! ### What a range has besides -/
def gaps : Int → Int → List Ran → List Ran
  | lo, hi, [] => if lo ≤ hi then [(lo, hi)] else []
  | lo, hi, x :: l => (if lo < x.1 then [(lo, x.1 - 1)] else []) ++ gaps (x.2 + 1) hi l
theorem gaps_can : ∀ (l : List Ran) (lo hi : Int), Can l → (∀ x ∈ l, lo ≤ x.1 ∧ x.2 ≤ hi) → 0 ≤ lo → hi < 9223372036854775808 →
    Can (gaps lo hi l) ∧ (∀ y ∈ gaps lo hi l, lo ≤ y.1 ∧ y.2 ≤ hi) ∧ ∀ n, mem (gaps lo hi l) n ↔ inn (lo, hi) n ∧ ¬ mem l n
  | [], lo, hi, _, _, h0, h1 => by
    unfold gaps
    by_cases h : lo ≤ hi
    · rw [if_pos h]
      refine ⟨Can.single ⟨h0, h, h1⟩, fun y hy => ?_, fun n => ?_⟩
      · rw [List.mem_singleton.1 hy]; exact ⟨Int.le_refl _, Int.le_refl _⟩
      · rw [mem_single]; exact ⟨fun h => ⟨h, mem_nil n⟩, fun h => h.1⟩
    · rw [if_neg h]
      refine ⟨Can.nil, fun y hy => (by cases hy), fun n => ⟨fun h' => absurd h' (mem_nil n), fun h' => ?_⟩⟩
      have := h'.1.1
      have := h'.1.2
      simp only at *
      omega
  | x :: l, lo, hi, hl, hw, h0, h1 => by
    unfold gaps
    have hx := hl.head
    have hxw := hw x (List.mem_cons_self ..)
    obtain ⟨c1, c2, c3⟩ := gaps_can l (x.2 + 1) hi hl.tail (fun y hy => ⟨by have := hl.next y hy; omega, (hw y (List.mem_cons_of_mem _ hy)).2⟩) (by omega) h1
    have key : ∀ n, inn (lo, hi) n ∧ ¬ mem (x :: l) n ↔ (lo ≤ n ∧ n < x.1) ∨ (inn (x.2 + 1, hi) n ∧ ¬ mem l n) := by
      intro n
      rw [mem_cons]
      simp only [inn]
      constructor
      · rintro ⟨⟨h2, h3⟩, h4⟩
        by_cases h5 : n < x.1
        · exact .inl ⟨h2, h5⟩
        · refine .inr ⟨⟨?_, h3⟩, fun h6 => h4 (.inr h6)⟩
          have : ¬ n ≤ x.2 := fun h6 => h4 (.inl ⟨by omega, h6⟩)
          omega
      · rintro (⟨h2, h3⟩ | ⟨⟨h2, h3⟩, h4⟩)
        · refine ⟨⟨h2, by omega⟩, ?_⟩
          rintro (⟨h5, h6⟩ | h5)
          · omega
          · exact hl.not_mem (by omega) h5
        · refine ⟨⟨by omega, h3⟩, ?_⟩
          rintro (⟨h5, h6⟩ | h5)
          · omega
          · exact h4 h5
    by_cases h : lo < x.1
    · rw [if_pos h, List.singleton_append]
      refine ⟨c1.cons ⟨h0, by simp only; omega, by simp only; omega⟩ (fun y hy => ?_), fun y hy => ?_, fun n => ?_⟩
      · have := c2 y hy; simp only; omega
      · rcases List.mem_cons.1 hy with rfl | hy
        · simp only; omega
        · have := c2 y hy; omega
      · rw [key, mem_cons, c3]
        simp only [inn]
        constructor
        · rintro (h2 | h2)
          · exact .inl (by omega)
          · exact .inr h2
        · rintro (h2 | h2)
          · exact .inl (by omega)
          · exact .inr h2
    · rw [if_neg h, List.nil_append]
      refine ⟨c1, fun y hy => by have := c2 y hy; omega, fun n => ?_⟩
      rw [key, c3]
      exact ⟨.inr, fun h2 => h2.resolve_left (by omega)⟩
/-- What of a range is left behind a set. -/
def lack (s : List Ran) (r : Ran) : List Ran := gaps r.1 r.2 (parts s r)
theorem lack_can {s : List Ran} (h : Can s) (r : Ran) (h0 : 0 ≤ r.1) (h1 : r.2 < 9223372036854775808) :
    Can (lack s r) ∧ (∀ y ∈ lack s r, r.1 ≤ y.1 ∧ y.2 ≤ r.2) ∧ ∀ n, mem (lack s r) n ↔ inn r n ∧ ¬ mem s n := by
  obtain ⟨c1, c2, c3⟩ := gaps_can (parts s r) r.1 r.2 (parts_can h r) (fun x hx => (parts_in x hx).2) h0 h1
  refine ⟨c1, c2, fun n => ?_⟩
  rw [lack, c3, parts_mem]
  exact ⟨fun ⟨a, b⟩ => ⟨a, fun c => b ⟨c, a⟩⟩, fun ⟨a, b⟩ => ⟨a, fun c => b c.1⟩⟩

/-- Sets within the ranges of a set, one behind the other. -/
theorem flat_can {f : Ran → List Ran} : ∀ {s : List Ran}, Can s → (∀ x ∈ s, Can (f x) ∧ ∀ y ∈ f x, x.1 ≤ y.1 ∧ y.2 ≤ x.2) → Can (s.flatMap f)
  | [], _, _ => Can.nil
  | x :: s, hs, hf => by
    rw [List.flatMap_cons]
    refine Can.append (hf x (List.mem_cons_self ..)).1 (flat_can hs.tail (fun y hy => hf y (List.mem_cons_of_mem _ hy))) ?_
    intro a ha b hb
    obtain ⟨y, hy, hb⟩ := List.mem_flatMap.1 hb
    have h1 := (hf x (List.mem_cons_self ..)).2 a ha
    have h2 := (hf y (List.mem_cons_of_mem _ hy)).2 b hb
    have := hs.next y hy
    omega
theorem flat_mem {f : Ran → List Ran} {s : List Ran} {n : Int} : mem (s.flatMap f) n ↔ ∃ x ∈ s, mem (f x) n := by
  constructor
  · rintro ⟨y, hy, hn⟩
    obtain ⟨x, hx, hy⟩ := List.mem_flatMap.1 hy
    exact ⟨x, hx, y, hy, hn⟩
  · rintro ⟨x, hx, y, hy, hn⟩
    exact ⟨y, List.mem_flatMap.2 ⟨x, hx, hy⟩, hn⟩
/-- The program's Cut and Meet. -/
def cutP (g s : List Ran) : List Ran := s.flatMap (lack g)
theorem cutP_can {g s : List Ran} (hg : Can g) (hs : Can s) : Can (cutP g s) ∧ ∀ n, mem (cutP g s) n ↔ mem s n ∧ ¬ mem g n := by
  refine ⟨flat_can hs (fun x hx => ?_), fun n => ?_⟩
  · have := hs.good x hx
    obtain ⟨c1, c2, _⟩ := lack_can hg x this.1 this.2.2
    exact ⟨c1, c2⟩
  · rw [cutP, flat_mem]
    constructor
    · rintro ⟨x, hx, hn⟩
      have := hs.good x hx
      have h2 := ((lack_can hg x this.1 this.2.2).2.2 n).1 hn
      exact ⟨⟨x, hx, h2.1⟩, h2.2⟩
    · rintro ⟨⟨x, hx, hn⟩, h2⟩
      have := hs.good x hx
      exact ⟨x, hx, ((lack_can hg x this.1 this.2.2).2.2 n).2 ⟨hn, h2⟩⟩
/-! ### The program's Of -/
/-- One range more, behind those that begin no later. -/
def join (s : List Ran) (r : Ran) : List Ran := match s.getLast? with
  | some x => if r.1 ≤ x.2 + 1 then s.dropLast ++ [(x.1, max x.2 r.2)] else s ++ [r]
  | none => [r]
theorem join_can {s : List Ran} {r : Ran} (hs : Can s) (hr : 0 ≤ r.1 ∧ r.1 ≤ r.2 ∧ r.2 < 9223372036854775808) (hb : ∀ x ∈ s, x.1 ≤ r.1) :
    Can (join s r) ∧ (∀ n, mem (join s r) n ↔ mem s n ∨ inn r n) ∧ ∀ x ∈ join s r, x.1 ≤ r.1 := by
  rcases List.eq_nil_or_concat s with rfl | ⟨t, x, rfl⟩
  · refine ⟨Can.single hr, fun n => ?_, fun x hx => ?_⟩
    · rw [show join [] r = [r] from rfl, mem_single]; exact ⟨.inr, fun h => h.resolve_left (mem_nil n)⟩
    · rw [show join [] r = [r] from rfl] at hx; rw [List.mem_singleton.1 hx]; exact Int.le_refl _
  · rw [List.concat_eq_append] at *
    have hj : join (t ++ [x]) r = if r.1 ≤ x.2 + 1 then t ++ [(x.1, max x.2 r.2)] else (t ++ [x]) ++ [r] := by
      unfold join; rw [List.getLast?_concat]; simp
    have hx := hs.good x (by simp)
    have hbx := hb x (by simp)
    have hlast : ∀ y ∈ t, y.2 + 2 ≤ x.1 := fun y hy => (List.pairwise_append.1 hs.rise).2.2 y hy x (by simp)
    rw [hj]
    by_cases h : r.1 ≤ x.2 + 1
    · rw [if_pos h]
      refine ⟨hs.left.append (Can.single ⟨hx.1, by simp only; omega, by simp only; omega⟩) ?_, fun n => ?_, fun y hy => ?_⟩
      · intro y hy z hz
        rw [List.mem_singleton.1 hz]
        exact hlast y hy
      · rw [mem_append, mem_append, mem_single, mem_single, or_assoc]
        simp only [inn]
        constructor
        · rintro (h' | h')
          · exact .inl h'
          · exact .inr (by omega)
        · rintro (h' | h')
          · exact .inl h'
          · exact .inr (by omega)
      · rcases List.mem_append.1 hy with hy | hy
        · exact hb y (by simp [hy])
        · rw [List.mem_singleton.1 hy]; exact hbx
    · rw [if_neg h]
      refine ⟨hs.append (Can.single hr) ?_, fun n => ?_, fun y hy => ?_⟩
      · intro y hy z hz
        rw [List.mem_singleton.1 hz]
        rcases List.mem_append.1 hy with hy | hy
        · have := hlast y hy; omega
        · rw [List.mem_singleton.1 hy]; omega
      · rw [mem_append (l := t ++ [x]), mem_single (x := r)]
      · rcases List.mem_append.1 hy with hy | hy
        · exact hb y hy
        · rw [List.mem_singleton.1 hy]; exact Int.le_refl _
/-- What Of comes to of ranges that are sorted. -/
theorem joins_can : ∀ (l s : List Ran), Can s → (∀ r ∈ l, 0 ≤ r.1 ∧ r.1 ≤ r.2 ∧ r.2 < 9223372036854775808) → l.Pairwise (fun a b => a.1 ≤ b.1) → (∀ x ∈ s, ∀ r ∈ l, x.1 ≤ r.1) →
    Can (l.foldl join s) ∧ ∀ n, mem (l.foldl join s) n ↔ mem s n ∨ mem l n
  | [], s, hs, _, _, _ => ⟨hs, fun n => ⟨.inl, fun h => h.resolve_right (mem_nil n)⟩⟩
  | r :: l, s, hs, hl, hp, hb => by
    obtain ⟨j1, j2, j3⟩ := join_can hs (hl r (List.mem_cons_self ..)) (fun x hx => hb x hx r (List.mem_cons_self ..))
    have hp' := List.pairwise_cons.1 hp
    obtain ⟨c1, c2⟩ := joins_can l (join s r) j1 (fun y hy => hl y (List.mem_cons_of_mem _ hy)) hp'.2 (fun x hx y hy => Int.le_trans (j3 x hx) (hp'.1 y hy))
    refine ⟨c1, fun n => ?_⟩
    rw [List.foldl_cons, c2, j2, mem_cons, or_assoc]
end Go.Proofs.YtoblmhpjendbfaaGreatDoor.Rg
