/- Layer 13: what came, as plain numbers. By hand. -/
import Derived.Test.YtliakeiaeakliaaRgK
namespace Go.Proofs.Ytliakeiaeakliaa.Rg
set_option maxRecDepth 20000
open Go.RowKit Go.Shelf
set_option linter.unusedVariables false
set_option linter.unusedSimpArgs false

/-- The greatest number of a set. -/
def lastHi (l : List Ran) : Int := (l.getD (l.length - 1) (0, 0)).2
theorem last_in {l : List Ran} (h : l ≠ []) : l.getD (l.length - 1) (0, 0) ∈ l := by
  have := List.length_pos_iff.2 h
  rw [getD_get (by omega)]
  exact List.getElem_mem _
theorem last_mem {l : List Ran} (hc : Can l) (h : l ≠ []) : mem l (lastHi l) :=
  ⟨_, last_in h, (hc.good _ (last_in h)).2.1, Int.le_refl _⟩
theorem last_cons {x : Ran} {l : List Ran} (h : l ≠ []) : lastHi (x :: l) = lastHi l := by
  cases l with
  | nil => exact absurd rfl h
  | cons y t => simp [lastHi]
theorem last_snoc (l : List Ran) (x : Ran) : lastHi (l ++ [x]) = x.2 := by simp [lastHi]
theorem last_ge : ∀ {l : List Ran} {n : Int}, Can l → mem l n → n ≤ lastHi l
  | [], n, _, h => absurd h (mem_nil n)
  | [x], n, _, h => by
    rw [mem_single] at h
    exact h.2
  | x :: y :: t, n, hc, h => by
    rw [last_cons (by simp)]
    rcases mem_cons.1 h with h | h
    · have h1 := last_ge (n := y.1) hc.tail (mem_cons.2 (.inl ⟨Int.le_refl _, hc.tail.head.2.1⟩))
      have h2 := hc.next y (List.mem_cons_self ..)
      have h3 := h.2
      omega
    · exact last_ge hc.tail h
theorem mem_bound {l : List Ran} (hc : Can l) {n : Int} (h : mem l n) : 0 ≤ n ∧ n < 9223372036854775808 := by
  obtain ⟨x, hx, h1, h2⟩ := h
  have := hc.good x hx
  omega

/-- What came, and what is owed. -/
structure St where
  l : List Ran
  fl : Int
  tp : Int
  ow : Int
  si : Int
/-- Is a number taken no more? -/
def shut (s : St) (n : Int) : Bool := decide (n < s.fl) || hasB s.l n
theorem shut_iff {s : St} {n : Int} : shut s n = true ↔ n < s.fl ∨ mem s.l n := by
  unfold shut
  rw [Bool.or_eq_true, decide_eq_true_eq, hasB_iff]
theorem shut_no {s : St} {n : Int} (h : shut s n = false) : s.fl ≤ n ∧ ¬ mem s.l n := by
  have h1 : ¬ (shut s n = true) := by rw [h]; decide
  rw [shut_iff] at h1
  exact ⟨by omega, fun h => h1 (.inr h)⟩
theorem shut_of {s : St} {n : Int} (h0 : s.fl ≤ n) (h1 : ¬ mem s.l n) : shut s n = false := by
  rw [← Bool.not_eq_true, shut_iff]
  rintro (h | h)
  · omega
  · exact h1 h
/-- What a number that is taken makes of it; l1: the set with it. -/
structure GotR (s : St) (n : Int) (el : Bool) (t : Int) (s' : St) (l1 : List Ran) : Prop where
  can : Can l1
  has : ∀ x, mem l1 x ↔ mem s.l x ∨ x = n
  len : l1.length ≤ s.l.length + 1
  tp : s'.tp = if n = lastHi l1 then t else s.tp
  ow : s'.ow = if el = true then s.ow + 1 else s.ow
  si : s'.si = if el = true ∧ s.ow = 0 then t else s.si
  set : (l1.length ≤ 32 ∧ s'.l = l1 ∧ s'.fl = s.fl) ∨ (32 < l1.length ∧ s'.l = l1.tail ∧ s'.fl = (l1.getD 0 (0, 0)).2 + 1)
/-- It is just this set. -/
theorem GotR.is {s s' : St} {n t : Int} {el : Bool} {l1 m : List Ran} (h : GotR s n el t s' l1) (hm : Can m) (hx : ∀ x, mem m x ↔ mem s.l x ∨ x = n) : l1 = m :=
  can_ext h.can hm (fun x => by rw [h.has, hx])
/-- What every state keeps. -/
structure Inv (s : St) : Prop where
  can : Can s.l
  len : s.l.length ≤ 32
  fl0 : 0 ≤ s.fl
  low : ∀ x, mem s.l x → s.fl ≤ x
theorem Inv.none : Inv ⟨[], 0, 0, 0, 0⟩ := ⟨Can.nil, by simp, Int.le_refl _, fun x h => absurd h (mem_nil x)⟩
theorem GotR.ne {s s' : St} {n t : Int} {el : Bool} {l1 : List Ran} (h : GotR s n el t s' l1) : l1 ≠ [] := by
  rintro rfl
  exact mem_nil n ((h.has n).2 (.inr rfl))
theorem GotR.inv {s s' : St} {n t : Int} {el : Bool} {l1 : List Ran} (h : GotR s n el t s' l1) (hi : Inv s) (hn : shut s n = false) :
    Inv s' ∧ s'.l ≠ [] ∧ lastHi s'.l = lastHi l1 ∧ s'.fl ≤ lastHi l1 + 1 ∨ ¬ (s.fl ≤ lastHi l1 + 1) := by
  by_cases hf : s.fl ≤ lastHi l1 + 1
  · left
    have hlow : ∀ x, mem l1 x → s.fl ≤ x := fun x hx => by
      rcases (h.has x).1 hx with h1 | rfl
      · exact hi.low x h1
      · exact (shut_no hn).1
    rcases h.set with ⟨h1, h2, h3⟩ | ⟨h1, h2, h3⟩
    · exact ⟨⟨by rw [h2]; exact h.can, by rw [h2]; exact h1, by rw [h3]; exact hi.fl0, fun x hx => by rw [h3]; rw [h2] at hx; exact hlow x hx⟩, by rw [h2]; exact h.ne, by rw [h2], by rw [h3]; exact hf⟩
    · have hc := h.can
      have hl := h.len
      have hl2 := hi.len
      obtain ⟨x, r, rfl⟩ := List.exists_cons_of_ne_nil h.ne
      have e1 : s'.l = r := h2
      have e2 : s'.fl = x.2 + 1 := h3
      have hr : r ≠ [] := by rintro rfl; simp at h1
      have hx := hc.head
      refine ⟨⟨by rw [e1]; exact hc.tail, by rw [e1]; simp at hl; omega, by rw [e2]; omega, fun y hy => ?_⟩, by rw [e1]; exact hr, by rw [e1, last_cons hr], ?_⟩
      · rw [e1] at hy
        obtain ⟨z, hz, h5, h6⟩ := hy
        have := hc.next z hz
        omega
      · have := last_ge (n := x.2) hc (mem_cons.2 (.inl ⟨hx.2.1, Int.le_refl _⟩))
        omega
  · exact .inr hf
/-- What was there is there, or is taken no more. -/
theorem GotR.kept {s s' : St} {n t : Int} {el : Bool} {l1 : List Ran} (h : GotR s n el t s' l1) (hi : Inv s) (hn : shut s n = false) (x : Int) (hx : x < s.fl ∨ mem s.l x ∨ x = n) : x < s'.fl ∨ mem s'.l x := by
  have hlow : ∀ x, mem l1 x → s.fl ≤ x := fun x hx => by
    rcases (h.has x).1 hx with h1 | rfl
    · exact hi.low x h1
    · exact (shut_no hn).1
  rcases h.set with ⟨h1, h2, h3⟩ | ⟨h1, h2, h3⟩
  · rw [h2, h3, h.has]
    exact hx
  · obtain ⟨y, r, hy⟩ := List.exists_cons_of_ne_nil h.ne
    subst hy
    have hc := h.can
    have e1 : s'.l = r := h2
    have e2 : s'.fl = y.2 + 1 := h3
    have hx0 := hc.head
    rw [e1, e2]
    rcases hx with hx | hx
    · have := hlow y.1 (mem_cons.2 (.inl ⟨Int.le_refl _, hx0.2.1⟩))
      left
      omega
    · rcases mem_cons.1 ((h.has x).2 hx) with h5 | h5
      · have := h5.2
        left
        omega
      · exact .inr h5
/-- The greatest number, then. -/
theorem GotR.top {s s' : St} {n t : Int} {el : Bool} {l1 : List Ran} (h : GotR s n el t s' l1) (hi : Inv s) (h0 : s.l = []) : lastHi l1 = n := by
  have h1 := last_mem h.can h.ne
  rw [h.has, h0] at h1
  exact h1.resolve_left (mem_nil _)
theorem GotR.top' {s s' : St} {n t : Int} {el : Bool} {l1 : List Ran} (h : GotR s n el t s' l1) (hi : Inv s) (h0 : s.l ≠ []) : lastHi l1 = max (lastHi s.l) n := by
  have h1 := (h.has _).1 (last_mem h.can h.ne)
  have h2 := last_ge h.can ((h.has _).2 (.inl (last_mem hi.can h0)))
  have h3 := last_ge h.can ((h.has _).2 (.inr rfl))
  rcases h1 with h1 | h1
  · have := last_ge hi.can h1
    omega
  · omega

/-- Between two rounds of AcksOnce: the greatest number so far; how often each was taken. -/
structure OnceI (s : St) (top : Int) (cnt : Int → Int) : Prop where
  inv : Inv s
  at0 : (s.l = [] ∧ top = -1 ∧ s.fl = 0) ∨ (s.l ≠ [] ∧ top = lastHi s.l ∧ s.fl ≤ top + 1)
  one : ∀ x, cnt x = 0 ∨ cnt x = 1
  got : ∀ x, cnt x = 1 → x < s.fl ∨ mem s.l x
theorem OnceI.start : OnceI ⟨[], 0, 0, 0, 0⟩ (-1) (fun _ => 0) := ⟨Inv.none, .inl ⟨rfl, rfl, rfl⟩, fun _ => .inl rfl, fun _ h => by simp at h⟩
theorem OnceI.no {s : St} {top : Int} {cnt : Int → Int} (h : OnceI s top cnt) {n : Int} (h0 : 0 ≤ n) (hs : shut s n = true) : n ≤ top ∧ s.l ≠ [] ∧ top = lastHi s.l := by
  rcases h.at0 with ⟨h1, h2, h3⟩ | ⟨h1, h2, h3⟩
  · rcases shut_iff.1 hs with h4 | h4
    · omega
    · rw [h1] at h4
      exact absurd h4 (mem_nil n)
  · refine ⟨?_, h1, h2⟩
    rcases shut_iff.1 hs with h4 | h4
    · omega
    · have := last_ge h.inv.can h4
      omega
theorem OnceI.yes {s s' : St} {top t : Int} {cnt : Int → Int} {el : Bool} {l1 : List Ran} {n : Int} (h : OnceI s top cnt) (h0 : 0 ≤ n) (hs : shut s n = false) (hg : GotR s n el t s' l1) :
    OnceI s' (max top n) (fun x => if x = n then 1 else cnt x) ∧ cnt n = 0 ∧ s'.l ≠ [] ∧ max top n = lastHi s'.l := by
  have hc : cnt n = 0 := (h.one n).resolve_right (fun h1 => by rw [shut_iff.2 (h.got n h1)] at hs; cases hs)
  have ht : lastHi l1 = max top n := by
    rcases h.at0 with ⟨h1, h2, h3⟩ | ⟨h1, h2, h3⟩
    · rw [hg.top h.inv h1]
      omega
    · rw [hg.top' h.inv h1, h2]
  have hf : s.fl ≤ lastHi l1 + 1 := by
    rcases h.at0 with ⟨h1, h2, h3⟩ | ⟨h1, h2, h3⟩ <;> omega
  obtain ⟨i1, i2, i3, i4⟩ := (hg.inv h.inv hs).resolve_right (fun h5 => h5 hf)
  refine ⟨⟨i1, .inr ⟨i2, by rw [i3, ht], by rw [← ht]; exact i4⟩, fun x => ?_, fun x hx => ?_⟩, hc, i2, by rw [i3, ht]⟩
  · by_cases hx : x = n
    · exact .inr (if_pos hx)
    · rw [if_neg hx]
      exact h.one x
  · by_cases hxn : x = n
    · exact hg.kept h.inv hs x (.inr (.inr hxn))
    · rw [if_neg hxn] at hx
      exact hg.kept h.inv hs x ((h.got x hx).elim .inl (fun h5 => .inr (.inl h5)))

/-- Numbers that lie apart: m of them, from the a-th one. -/
def pts (st : Nat) (a m : Nat) : List Ran := (List.range m).map fun i => ((((a + i) * st : Nat) : Int), (((a + i) * st : Nat) : Int))
theorem pts_len (st a m : Nat) : (pts st a m).length = m := by simp [pts]
theorem pts_snoc (st a m : Nat) : pts st a (m + 1) = pts st a m ++ [((((a + m) * st : Nat) : Int), (((a + m) * st : Nat) : Int))] := by
  simp [pts, List.range_succ]
theorem pts_cons (st a m : Nat) : pts st a (m + 1) = ((((a * st : Nat) : Int)), (((a * st : Nat) : Int))) :: pts st (a + 1) m := by
  simp only [pts, List.range_succ_eq_map, List.map_cons, List.map_map, Nat.add_zero]
  congr 1
  apply List.map_congr_left
  intro i _
  simp only [Function.comp_apply, Nat.succ_eq_add_one]
  rw [show a + (i + 1) = a + 1 + i by omega]
theorem mem_pts {st a m : Nat} {x : Int} : mem (pts st a m) x ↔ ∃ i, i < m ∧ x = (((a + i) * st : Nat) : Int) := by
  constructor
  · rintro ⟨y, hy, h1, h2⟩
    obtain ⟨i, hi, rfl⟩ := List.mem_map.1 hy
    exact ⟨i, List.mem_range.1 hi, by simp only at h1 h2; omega⟩
  · rintro ⟨i, hi, rfl⟩
    exact ⟨_, List.mem_map.2 ⟨i, List.mem_range.2 hi, rfl⟩, Int.le_refl _, Int.le_refl _⟩
theorem pts_can (st : Nat) (h2 : 2 ≤ st) (h6 : st ≤ 1000) : ∀ (m a : Nat), a + m ≤ 10000 → Can (pts st a m)
  | 0, a, _ => Can.nil
  | m + 1, a, h => by
    rw [pts_cons]
    have hb : a * st ≤ 10000 * 1000 := Nat.mul_le_mul (by omega) h6
    refine (pts_can st h2 h6 m (a + 1) (by omega)).cons ⟨by omega, Int.le_refl _, by omega⟩ (fun y hy => ?_)
    obtain ⟨i, hi, rfl⟩ := List.mem_map.1 hy
    have : a * st + st ≤ (a + 1 + i) * st := by
      rw [show a * st + st = (a + 1) * st by rw [Nat.add_mul, Nat.one_mul]]
      exact Nat.mul_le_mul (by omega) (Nat.le_refl _)
    simp only
    omega
/-- Below what was forgotten. -/
def flo (st g : Nat) : Int := if g = 0 then 0 else (((g - 1) * st + 1 : Nat) : Int)
/-- Behind k rounds of AcksFloor. -/
structure FloI (st k : Nat) (s : St) : Prop where
  l : s.l = pts st (k - 32) (k - (k - 32))
  fl : s.fl = flo st (k - 32)
  ow : s.ow = k
theorem FloI.start (st : Nat) : FloI st 0 ⟨[], 0, 0, 0, 0⟩ := ⟨rfl, rfl, rfl⟩
theorem flo_le (st k g : Nat) (hg : g ≤ k) (h1 : 1 ≤ st) : flo st g ≤ ((k * st : Nat) : Int) := by
  unfold flo
  split
  · omega
  · have h2 : (g - 1 + 1) * st ≤ k * st := Nat.mul_le_mul (by omega) (Nat.le_refl _)
    rw [Nat.add_mul] at h2
    omega
theorem FloI.can {st k : Nat} {s : St} (h : FloI st k s) (h2 : 2 ≤ st) (h6 : st ≤ 1000) (hk : k ≤ 1000) : Can s.l ∧ s.l.length ≤ 32 := by
  rw [h.l]
  exact ⟨pts_can st h2 h6 _ _ (by omega), by rw [pts_len]; omega⟩
theorem mul_inj {st a b : Nat} (h : 0 < st) (e : a * st = b * st) : a = b := Nat.eq_of_mul_eq_mul_right h e
theorem FloI.open {st k : Nat} {s : St} (h : FloI st k s) (h2 : 2 ≤ st) : shut s ((k * st : Nat) : Int) = false := by
  refine shut_of ?_ ?_
  · rw [h.fl]
    exact flo_le st k _ (by omega) (by omega)
  · rw [h.l, mem_pts]
    rintro ⟨i, hi, e⟩
    have := mul_inj (by omega) (Int.ofNat.inj e)
    omega
theorem FloI.step {st k : Nat} {s s' : St} {t : Int} {l1 : List Ran} (h : FloI st k s) (h2 : 2 ≤ st) (h6 : st ≤ 1000) (hk : k < 1000) (hg : GotR s ((k * st : Nat) : Int) true t s' l1) : FloI st (k + 1) s' := by
  have e : l1 = pts st (k - 32) (k - (k - 32) + 1) := hg.is (pts_can st h2 h6 _ _ (by omega)) (fun x => by
    rw [pts_snoc, mem_append, mem_single, h.l]
    refine or_congr Iff.rfl ?_
    have : k - 32 + (k - (k - 32)) = k := by omega
    rw [this]
    unfold inn
    simp only
    omega)
  have hw : s'.ow = s.ow + 1 := by rw [hg.ow, if_pos rfl]
  have hl : l1.length = k - (k - 32) + 1 := by rw [e, pts_len]
  have ho : s'.ow = ((k + 1 : Nat) : Int) := by rw [hw, h.ow]; omega
  rcases hg.set with ⟨h3, h4, h5⟩ | ⟨h3, h4, h5⟩
  · have hk31 : k ≤ 31 := by omega
    refine ⟨?_, ?_, ho⟩
    · rw [h4, e, show k - 32 = 0 by omega, show k + 1 - 32 = 0 by omega]
      rfl
    · rw [h5, h.fl, show k - 32 = 0 by omega, show k + 1 - 32 = 0 by omega]
  · have hk32 : 32 ≤ k := by omega
    have e2 : l1 = ((((k - 32) * st : Nat) : Int), (((k - 32) * st : Nat) : Int)) :: pts st (k - 32 + 1) (k - (k - 32)) := by rw [e, pts_cons]
    refine ⟨?_, ?_, ho⟩
    · rw [h4, e2, List.tail_cons, show k + 1 - 32 = k - 32 + 1 by omega, show k + 1 - (k - 32 + 1) = k - (k - 32) by omega]
    · rw [h5, e2]
      unfold flo
      rw [if_neg (by omega), show k + 1 - 32 - 1 = k - 32 by omega]
      simp
/-- Nought is taken no more, once it came. -/
theorem FloI.low {st k : Nat} {s : St} (h : FloI st k s) (h2 : 2 ≤ st) (hk : 0 < k) : shut s 0 = true := by
  rw [shut_iff, h.fl, h.l]
  by_cases hg : k - 32 = 0
  · right
    rw [mem_pts]
    exact ⟨0, by omega, by rw [hg]; simp⟩
  · left
    unfold flo
    rw [if_neg hg]
    omega
theorem FloI.mid1 {st : Nat} {s : St} (h : FloI st 1 s) : shut s 0 = true := by
  rw [shut_iff, h.fl, h.l]
  right
  rw [mem_pts]
  exact ⟨0, by omega, by simp⟩
theorem FloI.mid {st k : Nat} {s : St} (h : FloI st k s) (h2 : 2 ≤ st) (hk : 1 < k) : shut s ((((k - 1) * st - 1 : Nat)) : Int) = false := by
  have hm : 1 * st ≤ (k - 1) * st := Nat.mul_le_mul (by omega) (Nat.le_refl _)
  refine shut_of ?_ ?_
  · rw [h.fl]
    unfold flo
    split
    · omega
    · have h3 : (k - 32 - 1 + 1) * st ≤ (k - 1) * st := Nat.mul_le_mul (by omega) (Nat.le_refl _)
      rw [Nat.add_mul] at h3
      omega
  · rw [h.l, mem_pts]
    rintro ⟨i, hi, e⟩
    have e := Int.ofNat.inj e
    rcases Nat.lt_or_ge (k - 32 + i) (k - 1) with h4 | h4
    · have h3 : (k - 32 + i + 1) * st ≤ (k - 1) * st := Nat.mul_le_mul (by omega) (Nat.le_refl _)
      rw [Nat.add_mul] at h3
      omega
    · have h3 : (k - 1) * st ≤ (k - 32 + i) * st := Nat.mul_le_mul h4 (Nat.le_refl _)
      omega

/-- Is the number at place j changed with the one behind it? -/
def sw (n : Nat) (l : List Nat) (j : Nat) : Bool := decide (j + 1 < n ∧ j < l.length ∧ l.getD j 0 % 2 = 1)
/-- The number that is carried to place j. -/
def cr (n : Nat) (l : List Nat) : Nat → Nat
  | 0 => 0
  | j + 1 => if sw n l j = true then cr n l j else j + 1
/-- The number at place j, in the end. -/
def outN (n : Nat) (l : List Nat) (j : Nat) : Nat := if sw n l j = true then j + 1 else cr n l j
theorem cr_le (n : Nat) (l : List Nat) : ∀ j, cr n l j ≤ j
  | 0 => Nat.le_refl _
  | j + 1 => by
    unfold cr
    split
    · have := cr_le n l j; omega
    · exact Nat.le_refl _
theorem out_le (n : Nat) (l : List Nat) (j : Nat) : outN n l j ≤ j + 1 := by
  unfold outN
  split
  · exact Nat.le_refl _
  · have := cr_le n l j; omega
/-- All up to j but c. -/
def cs (j c : Nat) : List Ran := if c = 0 then (if j = 0 then [] else [(1, (j : Int))]) else if c = j then [(0, (j : Int) - 1)] else [(0, (c : Int) - 1), ((c : Int) + 1, (j : Int))]
theorem cs_len (j c : Nat) : (cs j c).length ≤ 2 := by
  unfold cs
  split
  · split <;> simp
  · split <;> simp
theorem cs_can {j c : Nat} (hc : c ≤ j) (hj : j ≤ 10000) : Can (cs j c) := by
  unfold cs
  split
  · split
    · exact Can.nil
    · exact Can.single ⟨by simp only; omega, by simp only; omega, by simp only; omega⟩
  · split
    · exact Can.single ⟨by simp only; omega, by simp only; omega, by simp only; omega⟩
    · exact (Can.single (x := ((c : Int) + 1, (j : Int))) ⟨by simp only; omega, by simp only; omega, by simp only; omega⟩).cons ⟨by simp only; omega, by simp only; omega, by simp only; omega⟩ (fun y hy => by
        rw [List.mem_singleton.1 hy]
        simp only
        omega)
theorem cs_mem {j c : Nat} (hc : c ≤ j) (x : Int) : mem (cs j c) x ↔ 0 ≤ x ∧ x ≤ j ∧ x ≠ c := by
  unfold cs
  split
  · split
    · exact ⟨fun h => absurd h (mem_nil x), fun h => by omega⟩
    · rw [mem_single]
      unfold inn
      simp only
      omega
  · split
    · rw [mem_single]
      unfold inn
      simp only
      omega
    · rw [mem_cons, mem_single]
      unfold inn
      simp only
      omega
/-- Behind j rounds of AcksAll: its set; when its greatest one came; how many are owed. -/
structure AllI (n : Nat) (sl : List Nat) (j : Nat) (s : St) : Prop where
  l : s.l = cs j (cr n sl j)
  fl : s.fl = 0
  tp0 : 0 ≤ s.tp
  tp1 : s.tp ≤ 1000
  ow : s.ow = j
theorem AllI.start (n : Nat) (sl : List Nat) : AllI n sl 0 ⟨[], 0, 0, 0, 0⟩ := ⟨rfl, rfl, by simp, by simp, rfl⟩
theorem AllI.open {n j : Nat} {sl : List Nat} {s : St} (h : AllI n sl j s) : shut s ((outN n sl j : Nat) : Int) = false := by
  refine shut_of (by rw [h.fl]; omega) ?_
  rw [h.l, cs_mem (cr_le n sl j)]
  unfold outN
  split <;> omega
theorem AllI.step {n j : Nat} {sl : List Nat} {s s' : St} {l1 : List Ran} (h : AllI n sl j s) (hj : j < 1000) (hg : GotR s ((outN n sl j : Nat) : Int) true (j : Int) s' l1) : AllI n sl (j + 1) s' := by
  have e : l1 = cs (j + 1) (cr n sl (j + 1)) := hg.is (cs_can (cr_le n sl _) (by omega)) (fun x => by
    have := cr_le n sl j
    rw [cs_mem (cr_le n sl _), h.l, cs_mem (cr_le n sl j)]
    unfold outN
    rw [cr]
    split <;> omega)
  have hl := cs_len (j + 1) (cr n sl (j + 1))
  rw [← e] at hl
  have hw : s'.ow = s.ow + 1 := by rw [hg.ow, if_pos rfl]
  have ht : s'.tp = j ∨ s'.tp = s.tp := by
    rw [hg.tp]
    split
    · exact .inl rfl
    · exact .inr rfl
  have h3 := h.tp0
  have h4 := h.tp1
  rcases hg.set with ⟨_, h1, h2⟩ | ⟨h1, _⟩
  · exact ⟨by rw [h1, e], by rw [h2, h.fl], by omega, by omega, by rw [hw, h.ow]; omega⟩
  · omega
/-- In the end: one range. -/
theorem AllI.done {n : Nat} {sl : List Nat} {s : St} (h : AllI n sl n s) (h0 : 0 < n) : s.l = [(0, (n : Int) - 1)] := by
  have : cr n sl n = n := by
    obtain ⟨m, rfl⟩ : ∃ m, n = m + 1 := ⟨n - 1, by omega⟩
    rw [cr, if_neg]
    unfold sw
    rw [decide_eq_true_eq]
    omega
  rw [h.l, this]
  unfold cs
  rw [if_neg (by omega), if_pos rfl]
end Go.Proofs.Ytliakeiaeakliaa.Rg
