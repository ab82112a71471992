/- Plain mathematics of headers: their bytes, what is read of bytes, what a mask does to them. -/
import Derived.Test.YtojoalmldapboaaGreatDoorJa15
namespace Go.Proofs.YtojoalmldapboaaGreatDoor.Hd
set_option maxRecDepth 20000
open Vm
set_option linter.unusedVariables false

/-- A header, its texts as bytes. -/
structure Hdr where
  lg : Bool
  sp : Bool
  ph : Bool
  ty : Int
  ve : Int
  dc : List UInt8
  sc : List UInt8
  tk : List UInt8
  le : Int
  wi : Int
  nu : Int
/-- What stands ahead of a number, and what is behind. -/
structure Pre where
  lg : Bool
  sp : Bool
  ty : Nat
  ve : Nat
  dc : List UInt8
  sc : List UInt8
  tk : List UInt8
  le : Nat
  re : List UInt8
def idO : List UInt8 → Option (List UInt8 × List UInt8)
  | [] => none
  | b :: r => if b.toNat ≤ 20 ∧ b.toNat ≤ r.length then some (r.take b.toNat, r.drop b.toNat) else none
def vO (l : List UInt8) : Option (Nat × List UInt8) := if gk l ≤ l.length then some (gn l (gk l), l.drop (gk l)) else none
def tokO (ty : Nat) (l : List UInt8) : Option (List UInt8 × List UInt8) :=
  if ty = 0 then match vO l with
    | none => none
    | some (n, r) => if n ≤ 1000 ∧ n ≤ r.length then some (r.take n, r.drop n) else none
  else some ([], l)
def ahL (b : UInt8) (r : List UInt8) : Option Pre :=
  if r.length < 4 ∨ b.toNat / 16 % 4 = 3 then none else
  match idO (r.drop 4) with
  | none => none
  | some (d, r1) => match idO r1 with
    | none => none
    | some (c, r2) => match tokO (b.toNat / 16 % 4) r2 with
      | none => none
      | some (t, r3) => match vO r3 with
        | none => none
        | some (n, r4) => some ⟨true, false, b.toNat / 16 % 4, bk (r.take 4), d, c, t, n, r4⟩
def ahO : List UInt8 → Option Pre
  | [] => none
  | b :: r => if b.toNat / 64 % 2 = 0 then none
    else if b.toNat < 128 then (if r.length < 8 then none else some ⟨false, decide (b.toNat / 32 % 2 = 1), 0, 0, r.take 8, [], [], 0, r.drop 8⟩)
    else ahL b r
def badB (b : UInt8) : Bool := if b.toNat < 128 then decide (b.toNat / 8 % 4 ≠ 0) else decide (b.toNat / 4 % 4 ≠ 0)
def wideB (b : UInt8) : Nat := 1 + b.toNat % 4
def hdr (b : UInt8) (p : Pre) : Hdr := ⟨p.lg, p.sp, !p.lg && decide (b.toNat / 4 % 2 = 1), p.ty, p.ve, p.dc, p.sc, p.tk, p.le, wideB b, bk (p.re.take (wideB b))⟩
def getO : List UInt8 → Option (Hdr × List UInt8)
  | [] => none
  | b :: r => match ahO (b :: r) with
    | none => none
    | some p => if p.re.length < wideB b ∨ badB b = true then none else some (hdr b p, p.re.drop (wideB b))
theorem idO_local {l d r : List UInt8} (h : idO l = some (d, r)) : ∃ pre, l = pre ++ r ∧ d.length ≤ 20 ∧ ∀ r', idO (pre ++ r') = some (d, r') := by
  cases l with
  | nil => simp [idO] at h
  | cons b t =>
    simp only [idO] at h
    split at h
    · rename_i hc
      simp only [Option.some.injEq, Prod.mk.injEq] at h
      obtain ⟨rfl, rfl⟩ := h
      refine ⟨b :: t.take b.toNat, by simp, by rw [List.length_take]; omega, fun r' => ?_⟩
      have hl : (t.take b.toNat).length = b.toNat := by rw [List.length_take]; omega
      simp only [List.cons_append, idO]
      rw [if_pos ⟨hc.1, by rw [List.length_append, hl]; omega⟩]
      rw [List.take_append_of_le_length (by omega), List.drop_append_of_le_length (by omega)]
      rw [List.take_of_length_le (by omega), List.drop_of_length_le (by omega)]
      rfl
    · cases h
theorem gk_pos (l : List UInt8) : 1 ≤ gk l ∧ gk l ≤ 8 := by
  cases l with
  | nil => exact ⟨by decide, by decide⟩
  | cons b t =>
    have hb := b.toNat_lt
    have : b.toNat / 64 = 0 ∨ b.toNat / 64 = 1 ∨ b.toNat / 64 = 2 ∨ b.toNat / 64 = 3 := by omega
    show 1 ≤ gw b ∧ gw b ≤ 8
    unfold gw wd
    rcases this with h | h | h | h <;> rw [h] <;> decide
theorem vO_local {l r : List UInt8} {n : Nat} (h : vO l = some (n, r)) : ∃ pre, l = pre ++ r ∧ n < 4611686018427387904 ∧ 1 ≤ pre.length ∧ ∀ r', vO (pre ++ r') = some (n, r') := by
  have hg := gk_pos l
  unfold vO at h
  split at h
  · rename_i hc
    simp only [Option.some.injEq, Prod.mk.injEq] at h
    obtain ⟨rfl, rfl⟩ := h
    have hl : (l.take (gk l)).length = gk l := by rw [List.length_take]; omega
    refine ⟨l.take (gk l), by simp, ?_, by omega, fun r' => ?_⟩
    · unfold gn
      exact Nat.lt_of_lt_of_le (Nat.mod_lt _ (Nat.pow_pos (by decide))) (Nat.le_trans (Nat.pow_le_pow_right (by decide) (show 8 * gk l - 2 ≤ 62 by omega)) (by decide))
    · have hk : gk (l.take (gk l) ++ r') = gk l := by
        cases l with
        | nil => simp at hc; omega
        | cons b t =>
          have : 1 ≤ gk (b :: t) := hg.1
          obtain ⟨m, hm⟩ : ∃ m, gk (b :: t) = m + 1 := ⟨gk (b :: t) - 1, by omega⟩
          rw [hm]
          show gw b = m + 1
          rw [← hm]; rfl
      unfold vO gn
      rw [hk, if_pos (by rw [List.length_append, hl]; omega)]
      rw [List.take_append_of_le_length (by omega), List.drop_append_of_le_length (by omega)]
      rw [List.take_take, Nat.min_self, List.drop_of_length_le (by omega)]
      rfl
  · cases h
theorem tokO_local {ty : Nat} {l t r : List UInt8} (h : tokO ty l = some (t, r)) : ∃ pre, l = pre ++ r ∧ t.length ≤ 1000 ∧ (ty ≠ 0 → t = []) ∧ ∀ r', tokO ty (pre ++ r') = some (t, r') := by
  unfold tokO at h
  split at h
  · rename_i h0
    cases hv : vO l with
    | none => rw [hv] at h; cases h
    | some x =>
      obtain ⟨n, r1⟩ := x
      rw [hv] at h
      simp only at h
      split at h
      · rename_i hc
        simp only [Option.some.injEq, Prod.mk.injEq] at h
        obtain ⟨rfl, rfl⟩ := h
        obtain ⟨pre, rfl, _, _, hp⟩ := vO_local hv
        have hl : (r1.take n).length = n := by rw [List.length_take]; omega
        refine ⟨pre ++ r1.take n, by simp, by rw [hl]; omega, fun h => absurd h0 h, fun r' => ?_⟩
        unfold tokO
        rw [if_pos h0, List.append_assoc, hp]
        simp only
        rw [if_pos ⟨hc.1, by rw [List.length_append, hl]; omega⟩]
        rw [List.take_append_of_le_length (by omega), List.drop_append_of_le_length (by omega)]
        rw [List.take_take, Nat.min_self, List.drop_of_length_le (by omega)]
        rfl
      · cases h
  · rename_i h0
    simp only [Option.some.injEq, Prod.mk.injEq] at h
    obtain ⟨rfl, rfl⟩ := h
    refine ⟨[], by simp, by simp, fun _ => rfl, fun r' => ?_⟩
    unfold tokO
    rw [if_neg h0]
    rfl
/-- What is ahead of a number hangs on its bytes alone, and of the first one on its highest bits. -/
structure Fits (b : UInt8) (r : List UInt8) (p : Pre) (pre : List UInt8) : Prop where
  cut : r = pre ++ p.re
  dc : if p.lg then p.dc.length ≤ 20 else p.dc.length = 8
  sc : p.sc.length ≤ 20
  tk : p.tk.length ≤ 1000
  tt : p.ty ≠ 0 → p.tk = []
  ty : p.ty ≤ 2
  le : p.le < 4611686018427387904
  ve : p.ve < 4294967296
  lg : p.lg = decide (128 ≤ b.toNat)
  short : p.lg = false → p.ty = 0 ∧ p.ve = 0 ∧ p.sc = [] ∧ p.tk = [] ∧ p.le = 0
  long : p.lg = true → p.sp = false
  go : ∀ (b' : UInt8) r', (if b.toNat < 128 then b'.toNat / 32 = b.toNat / 32 else b'.toNat / 16 = b.toNat / 16) → ahO (b' :: (pre ++ r')) = some ⟨p.lg, p.sp, p.ty, p.ve, p.dc, p.sc, p.tk, p.le, r'⟩
theorem ahO_local {b : UInt8} {r : List UInt8} {p : Pre} (h : ahO (b :: r) = some p) : ∃ pre, Fits b r p pre := by
  have hb := b.toNat_lt
  simp only [ahO] at h
  split at h
  · cases h
  rename_i h1
  split at h
  · rename_i h2
    split at h
    · cases h
    rename_i h3
    simp only [Option.some.injEq] at h
    subst h
    have hl : (r.take 8).length = 8 := by rw [List.length_take]; omega
    refine ⟨r.take 8, ⟨by simp, by simp; omega, by simp, by simp, by simp, by simp, by simp, by simp, by simp; omega, by simp, by simp, fun b' r' hb' => ?_⟩⟩
    rw [if_pos h2] at hb'
    simp only [ahO]
    rw [if_neg (by omega), if_pos (by omega), if_neg (by rw [List.length_append, hl]; omega)]
    rw [List.take_append_of_le_length (by omega), List.drop_append_of_le_length (by omega)]
    rw [List.take_take, Nat.min_self, List.drop_of_length_le (by omega)]
    have : b'.toNat / 32 % 2 = b.toNat / 32 % 2 := by omega
    rw [this]
    rfl
  · rename_i h2
    unfold ahL at h
    split at h
    · cases h
    rename_i h3
    cases h4 : idO (r.drop 4) with
    | none => rw [h4] at h; cases h
    | some x =>
      obtain ⟨d, r1⟩ := x
      rw [h4] at h
      simp only at h
      cases h5 : idO r1 with
      | none => rw [h5] at h; cases h
      | some x =>
        obtain ⟨c, r2⟩ := x
        rw [h5] at h
        simp only at h
        cases h6 : tokO (b.toNat / 16 % 4) r2 with
        | none => rw [h6] at h; cases h
        | some x =>
          obtain ⟨t, r3⟩ := x
          rw [h6] at h
          simp only at h
          cases h7 : vO r3 with
          | none => rw [h7] at h; cases h
          | some x =>
            obtain ⟨n, r4⟩ := x
            rw [h7] at h
            simp only [Option.some.injEq] at h
            subst h
            obtain ⟨p4, e4, l4, g4⟩ := idO_local h4
            obtain ⟨p5, rfl, l5, g5⟩ := idO_local h5
            obtain ⟨p6, rfl, l6, t6, g6⟩ := tokO_local h6
            obtain ⟨p7, rfl, l7, _, g7⟩ := vO_local h7
            have hl : (r.take 4).length = 4 := by rw [List.length_take]; omega
            have hv := bk_lt (r.take 4)
            rw [hl] at hv
            refine ⟨r.take 4 ++ (p4 ++ (p5 ++ (p6 ++ p7))), ⟨?_, by simp; exact l4, l5, l6, t6, by simp; omega, l7, by simp; omega, by simp; omega, by simp, by simp, fun b' r' hb' => ?_⟩⟩
            · simp only [List.append_assoc]
              rw [← e4, List.take_append_drop]
            · rw [if_neg h2] at hb'
              have e16 : b'.toNat / 16 % 4 = b.toNat / 16 % 4 := by omega
              simp only [ahO]
              rw [if_neg (by omega), if_neg (by omega)]
              unfold ahL
              rw [if_neg (by simp only [List.length_append, hl]; omega), e16]
              simp only [List.append_assoc]
              rw [List.drop_append_of_le_length (by omega), List.drop_of_length_le (by omega), List.nil_append, g4]
              simp only [g5, g6, g7]
              rw [List.take_append_of_le_length (by omega), List.take_take, Nat.min_self]
end Go.Proofs.YtojoalmldapboaaGreatDoor.Hd
