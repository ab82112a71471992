/- Plain mathematics of many numbers as bytes; what a row or a builder of the call's own keeps while other memory is made. -/
import Derived.Test.YtfeecfdbncjmnaaDoorVmBack
import Derived.Test.YtfeecfdbncjmnaaDoorBld
namespace Go.Proofs.YtfeecfdbncjmnaaDoor.Vm
set_option maxRecDepth 20000
open Go.RowKit
set_option linter.unusedVariables false

/-- k numbers taken off l: they, and what is left; none, if one is not there. -/
def gst (l : List UInt8) : Nat → Option (List Nat × List UInt8)
  | 0 => some ([], l)
  | k + 1 => match gst l k with
    | none => none
    | some (acc, r) => if gk r ≤ r.length then some (acc ++ [gn r (gk r)], r.drop (gk r)) else none
theorem gst_ok {l : List UInt8} {k : Nat} {acc : List Nat} {r : List UInt8} (h : gst l k = some (acc, r)) (hk : gk r ≤ r.length) : gst l (k + 1) = some (acc ++ [gn r (gk r)], r.drop (gk r)) := by
  simp only [gst, h]; rw [if_pos hk]
theorem gst_no {l : List UInt8} {k : Nat} {acc : List Nat} {r : List UInt8} (h : gst l k = some (acc, r)) (hk : r.length < gk r) : gst l (k + 1) = none := by
  simp only [gst, h]; rw [if_neg (by omega)]
theorem gst_none {l : List UInt8} {k : Nat} (h : gst l k = none) : ∀ m, k ≤ m → gst l m = none := by
  intro m hm
  induction m with
  | zero => obtain rfl : k = 0 := by omega
            exact h
  | succ m ih =>
    rcases Nat.lt_or_ge k (m + 1) with h1 | h1
    · simp only [gst, ih (by omega)]
    · obtain rfl : k = m + 1 := by omega
      exact h
theorem gst_len {l : List UInt8} : ∀ {k : Nat} {acc : List Nat} {r : List UInt8}, gst l k = some (acc, r) → acc.length = k ∧ r.length ≤ l.length ∧ ∀ n ∈ acc, n < 4611686018427387904 := by
  intro k
  induction k with
  | zero =>
    intro acc r h
    simp only [gst, Option.some.injEq, Prod.mk.injEq] at h
    obtain ⟨rfl, rfl⟩ := h
    exact ⟨rfl, Nat.le_refl _, fun n hn => by simp at hn⟩
  | succ k ih =>
    intro acc r h
    cases hg : gst l k with
    | none => simp only [gst, hg] at h; cases h
    | some x =>
      obtain ⟨acc0, r0⟩ := x
      obtain ⟨h1, h2, h3⟩ := ih hg
      by_cases hk : gk r0 ≤ r0.length
      · rw [gst_ok hg hk, Option.some.injEq, Prod.mk.injEq] at h
        obtain ⟨rfl, rfl⟩ := h
        refine ⟨by simp [h1], by rw [List.length_drop]; omega, ?_⟩
        intro n hn
        rcases List.mem_append.1 hn with hn | hn
        · exact h3 n hn
        · simp at hn
          subst hn
          have : gn r0 (gk r0) < 2 ^ (8 * gk r0 - 2) := Nat.mod_lt _ (Nat.pow_pos (by decide))
          have hc : gk r0 ≤ 8 := by
            cases r0 with
            | nil => decide
            | cons b t =>
              have hb := b.toNat_lt
              have : b.toNat / 64 = 0 ∨ b.toNat / 64 = 1 ∨ b.toNat / 64 = 2 ∨ b.toNat / 64 = 3 := by omega
              show gw b ≤ 8
              unfold gw wd
              rcases this with h | h | h | h <;> rw [h] <;> decide
          have h62 : 2 ^ (8 * gk r0 - 2) ≤ 2 ^ 62 := Nat.pow_le_pow_right (by decide) (by omega)
          omega
      · rw [gst_no hg (by omega)] at h; cases h

/-- The bytes of many numbers, one behind the other. -/
def pcat (zs : List Int) : List UInt8 := (zs.map fun z => pt z.toNat).flatten
theorem pcat_nil : pcat [] = [] := rfl
theorem pcat_cons (z : Int) (zs : List Int) : pcat (z :: zs) = pt z.toNat ++ pcat zs := by simp [pcat]
theorem pcat_append (xs ys : List Int) : pcat (xs ++ ys) = pcat xs ++ pcat ys := by simp [pcat]
theorem pcat_take (zs : List Int) (k : Nat) (h : k < zs.length) : pcat (zs.take (k + 1)) = pcat (zs.take k) ++ pt (zs.getD k 0).toNat := by
  rw [List.take_succ_eq_append_getElem h, pcat_append]
  congr 1
  simp [pcat, List.getD, List.getElem?_eq_getElem h]
theorem wd_le (p : Nat) (h : p ≤ 4) : wd p ≤ 16 := by
  unfold wd
  exact Nat.le_trans (Nat.pow_le_pow_right (by decide) h) (by decide)
theorem pcat_len (zs : List Int) : (pcat zs).length ≤ 16 * zs.length := by
  induction zs with
  | nil => simp [pcat]
  | cons z zs ih =>
    rw [pcat_cons, List.length_append, List.length_cons, pt_length]
    have := wd_le _ (pl_le z.toNat)
    omega
/-- A row of the call's own stays one while what lies below the heap's size stands. -/
theorem owns_below {w w' : World} {B : Nat} {e : TypeId} {size : Nat} {v : Value} {n : Nat} {xs : List Value} (h : w.ownsRow B e size v n xs) (hb : Below w.heap.size w w') : w'.ownsRow B e size v n xs := by
  refine ⟨h.1, ?_⟩
  rcases h.2 with hn | ⟨g, cap, cur, rfl, hg, hgg, rest⟩
  · exact .inl hn
  · refine .inr ⟨g, cap, cur, rfl, hg, ?_, rest⟩
    have hlt : g < w.heap.size := by
      rcases Nat.lt_or_ge g w.heap.size with h1 | h1
      · exact h1
      · rw [Array.getElem?_eq_none h1] at hgg; cases hgg
    rw [hb.block g hlt]; exact hgg
theorem builder_below {w w' : World} {T e : TypeId} {B b : Nat} {bs : List Value} (h : Lib.IsBuilder T e B b bs w) (hb : Below w.heap.size w w') : Lib.IsBuilder T e B b bs w' := by
  have one : ∀ p, Lib.BuilderAt T e B b p bs w → Lib.BuilderAt T e B b p bs w' := by
    intro p h
    have hlt := h.lt
    obtain ⟨hB, v, hbk, hown, hne⟩ := h
    exact ⟨hB, v, by rw [hb.block b hlt]; exact hbk, owns_below hown hb, hne⟩
  rcases h with h | h
  · exact .inl (one _ h)
  · exact .inr (one _ h)
end Go.Proofs.YtfeecfdbncjmnaaDoor.Vm
