/- The walks of layer 3: without, and its iterator. -/
import Derived.Test.YtliakeiaeakliaaRgI
namespace Go.Proofs.Ytliakeiaeakliaa.Rg
set_option maxRecDepth 20000
open Go.RowKit Go.Shelf
set_option linter.unusedVariables false

/-- The gaps ahead of each, and where the last one begins. -/
def gpre : Int → List Ran → List Ran
  | _, [] => []
  | lo, x :: l => (if lo < x.1 then [(lo, x.1 - 1)] else []) ++ gpre (x.2 + 1) l
def glast : Int → List Ran → Int
  | lo, [] => lo
  | _, x :: l => glast (x.2 + 1) l
theorem gaps_eq : ∀ (l : List Ran) (lo hi : Int), gaps lo hi l = gpre lo l ++ (if glast lo l ≤ hi then [(glast lo l, hi)] else [])
  | [], lo, hi => by rw [gaps, gpre, glast, List.nil_append]
  | x :: l, lo, hi => by rw [gaps, gpre, glast, gaps_eq l, List.append_assoc]
theorem glast_snoc : ∀ (l : List Ran) (lo : Int) (x : Ran), glast lo (l ++ [x]) = x.2 + 1
  | [], lo, x => rfl
  | y :: l, lo, x => glast_snoc l (y.2 + 1) x
theorem gpre_snoc : ∀ (l : List Ran) (lo : Int) (x : Ran), gpre lo (l ++ [x]) = gpre lo l ++ (if glast lo l < x.1 then [(glast lo l, x.1 - 1)] else [])
  | [], lo, x => by rw [List.nil_append, gpre, gpre, gpre, glast, List.nil_append, List.append_nil]
  | y :: l, lo, x => by rw [List.cons_append, gpre, gpre, glast, gpre_snoc l, List.append_assoc]
theorem gpre_append : ∀ (l m : List Ran) (lo : Int), gpre lo (l ++ m) = gpre lo l ++ gpre (glast lo l) m
  | [], m, lo => rfl
  | y :: l, m, lo => by rw [List.cons_append, gpre, gpre, glast, gpre_append l, List.append_assoc]
theorem gpre_prefix {l m : List Ran} (h : l <+: m) (lo hi : Int) : gpre lo l <+: gaps lo hi m := by
  obtain ⟨t, rfl⟩ := h
  rw [gaps_eq, gpre_append]
  exact ⟨gpre (glast lo l) t ++ _, by rw [List.append_assoc]⟩
theorem glast_ge : ∀ (l : List Ran) (lo : Int), 0 ≤ lo → (∀ x ∈ l, 0 ≤ x.2) → 0 ≤ glast lo l
  | [], lo, h, _ => h
  | x :: l, lo, h, hl => glast_ge l (x.2 + 1) (by have := hl x (List.mem_cons_self ..); omega) (fun y hy => hl y (List.mem_cons_of_mem _ hy))

/-- Between two rounds of without's loop. -/
def OutI (J : List Ran → (Nat → Prop) → World → Prop) (lo hi : Int) (lp Y N : Nat) (own R : Nat → Prop) (W : World) (pre : List Ran) (O : Nat → Prop) (A : World) : Prop :=
  J (gpre lo pre) (fun q => O q ∨ own q) A ∧ (∀ q, O q → N ≤ q) ∧ N ≤ A.heap.size ∧ A.heap[Y]? = some (.cells #[.func (.yield lp) #[] #[]] 86 (0, 0)) ∧
    A.heap[Y + 1]? = some (.cells #[.int .u64 (glast lo pre), .int .u64 hi] 52 (0, 0)) ∧ ∀ q, R q → A.heap[q]? = W.heap[q]?
/-- Where a round has left it. -/
def OutX (Jx : List Ran → (Nat → Prop) → World → Prop) (l : List Ran) (N : Nat) (own : Nat → Prop) (c : Code) (pre : List Ran) (O : Nat → Prop) (A : World) : Prop :=
  c = .ret ∧ (∃ p, p <+: l ∧ Jx p (fun q => O q ∨ own q) A) ∧ (∀ q, O q → N ≤ q) ∧ N ≤ A.heap.size
theorem outI_stable {J : List Ran → (Nat → Prop) → World → Prop} (hJ : Stable J) {lo hi : Int} {lp Y N : Nat} {own R : Nat → Prop} {W : World} (hY : Y + 1 < N) (hR : ∀ q, R q → q < N) : Stable (OutI J lo hi lp Y N own R W) := by
  rintro pre O O' A B ⟨h1, h2, h3, h4, h6, h5⟩ ho g2
  have hn : ∀ q, q < N → ¬ O q := fun q hq h => by have := h2 q h; omega
  exact ⟨stab_own hJ own h1 ho g2, grow_ge h2 h3 g2, Nat.le_trans h3 ho.size, ho.heap h4 (hn Y (by omega)), ho.heap h6 (hn _ hY), fun q hq => (ho.block q (by have := hR q hq; omega) (hn q (hR q hq))).trans (h5 q hq)⟩
theorem outX_stable {Jx : List Ran → (Nat → Prop) → World → Prop} (hJx : Stable Jx) {l : List Ran} {N : Nat} {own : Nat → Prop} (c : Code) : Stable (OutX Jx l N own c) := by
  rintro pre O O' A B ⟨h1, ⟨p, hp, h2⟩, h3, h4⟩ ho g2
  exact ⟨h1, ⟨p, hp, stab_own hJx own h2 ho g2⟩, grow_ge h3 h4 g2, Nat.le_trans h4 ho.size⟩
theorem two_cells {A : World} {B : Nat} {u v : Value} {t : TypeId} (h : A.heap[B]? = some (.cells #[u, v] t (0, 0))) : A.cell? ⟨B, 0, none⟩ = some u ∧ A.cell? ⟨B, 1, none⟩ = some v ∧ A.frozen? ⟨B, 0, none⟩ = false ∧ A.frozen? ⟨B, 1, none⟩ = false := by
  simp [World.cell?, World.frozen?, h]

theorem set_first {A : World} {B : Nat} {u v : Value} {t : TypeId} (h : A.heap[B]? = some (.cells #[u, v] t (0, 0))) (u' : Value) : (A.setCell ⟨B, 0, none⟩ u').heap[B]? = some (.cells #[u', v] t (0, 0)) := by
  obtain ⟨hlt, hk⟩ := Array.getElem?_eq_some_iff.1 h
  show (A.heap.modify B _)[B]? = _
  rw [Array.getElem?_eq_getElem (by rw [Array.size_modify]; exact hlt), Array.getElem_modify_self, hk]
  rfl
attribute [local go_sem] Oper.semAt_some
end Go.Proofs.Ytliakeiaeakliaa.Rg
