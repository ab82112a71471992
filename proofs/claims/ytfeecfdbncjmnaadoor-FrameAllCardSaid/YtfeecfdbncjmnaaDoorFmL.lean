/- The walks of layer 6: what read comes to, of bytes whose kind has no Set. -/
import Derived.Test.YtfeecfdbncjmnaaDoorFmJ
namespace Go.Proofs.YtfeecfdbncjmnaaDoor.Fm
set_option maxRecDepth 20000
open Go.RowKit Vm
set_option linter.unusedVariables false
set_option linter.unusedSimpArgs false

/-- The texts of a frame that has these parts, read. -/
def textsN (p : Nat) (l : List UInt8) (f : Frm) : Option (List UInt8 × Frm) :=
  if p.testBit 7 = true then (if gk l ≤ l.length ∧ gN l ≤ (gR l).length then some ((gR l).drop (gN l), { f with data := (gR l).take (gN l) }) else none)
  else if p.testBit 12 = true then some ([], { f with data := l })
  else if p.testBit 8 = true then
    match l with
    | [] => none
    | c :: t => if c.toNat ≤ t.length ∧ 16 ≤ (t.drop c.toNat).length then some ((t.drop c.toNat).drop 16, { f with cid := t.take c.toNat, token := (t.drop c.toNat).take 16 }) else none
  else if p.testBit 9 = true then (if 8 ≤ l.length then some (l.drop 8, { f with token := l.take 8 }) else none)
  else some (l, f)
/-- The patterns of parts that there are. -/
def okP (p : Nat) : Bool :=
  if p.testBit 7 then !p.testBit 12 && !p.testBit 8 && !p.testBit 9
  else if p.testBit 12 then !p.testBit 8 && !p.testBit 9
  else if p.testBit 8 then p.testBit 9 else true
theorem toldP_ok : ∀ n, okP (toldP n) = true := by
  intro n
  unfold toldP
  split
  all_goals first | decide | skip
  unfold partsN
  split <;> decide
theorem toldP_8 : ∀ n, (toldP n).testBit 8 = true → toldK n = 24 := by
  intro n
  unfold toldP
  split
  all_goals first | decide | skip
  unfold partsN
  split
  all_goals first | decide | exact fun h => absurd h (by decide)
theorem toldP_9 : ∀ n, (toldP n).testBit 9 = true → (toldP n).testBit 8 = false → toldK n ≠ 24 := by
  intro n
  unfold toldP
  split
  all_goals first | decide | skip
  unfold partsN
  split
  all_goals first | decide | exact fun h => absurd h (by decide)
theorem setN_kind (f : Frm) (i : Nat) (v : Int) : (setN f i v).kind = f.kind := by
  unfold setN
  split <;> rfl
theorem numsN_kind {p : Nat} {l : List UInt8} {f : Frm} : ∀ {i : Nat} {l2 : List UInt8} {f2 : Frm}, numsN p l f i = some (l2, f2) → f2.kind = f.kind
  | 0, l2, f2, h => by
    simp only [numsN, Option.some.injEq, Prod.mk.injEq] at h
    rw [← h.2]
  | i + 1, l2, f2, h => by
    rw [numsN] at h
    match hn : numsN p l f i with
    | none => rw [hn] at h; cases h
    | some (l1, f1) =>
      have ih := numsN_kind hn
      rw [hn, stepN_some] at h
      split at h
      · split at h
        · cases h
          rw [setN_kind]; exact ih
        · cases h
      · cases h; exact ih
theorem texts_yes (b : Nat) (l : List UInt8) (f : Frm) (n : Nat) (l4 : List UInt8) (f4 : Frm) (he : textsN (toldP n) l f = some (l4, f4)) (hk : f.kind = (toldK n : Nat)) (hl : l.length ≤ 100000) (w : World) (ht : Tab w) (h : FBk b l f w) : Calls Tryd.prog 56 #[.pointer (some ⟨b, 0, none⟩), .int .u64 (toldP n : Nat)] w fun e w' => (∃ v, e = .returned v) ∧ FBk b l4 f4 w' ∧ It.Only (fun k => k = b) w w' := by
  have hp := toldP_lt n
  have ho := toldP_ok n
  have h24 := toldP_8 n
  have h9k := toldP_9 n
  revert he ho h24 h9k hp
  generalize toldP n = p
  intro he hp ho h24 h9k
  unfold textsN at he
  unfold okP at ho
  by_cases h7 : p.testBit 7 = true
  · rw [if_pos h7] at he
    simp only [h7, if_true, Bool.and_eq_true, Bool.not_eq_true'] at ho
    split at he
    · rename_i hg
      cases he
      exact rt_data b l f p w ht h hl hp h7 ho.1.1 ho.1.2 ho.2 hg.1 hg.2
    · cases he
  · rw [if_neg h7] at he
    have h7 : p.testBit 7 = false := by simpa using h7
    simp only [h7, Bool.false_eq_true, if_false] at ho
    by_cases h12 : p.testBit 12 = true
    · rw [if_pos h12] at he
      simp only [h12, if_true, Bool.and_eq_true, Bool.not_eq_true'] at ho
      cases he
      exact rt_rest b l f p w ht h hl hp h7 h12 ho.1 ho.2
    · rw [if_neg h12] at he
      have h12 : p.testBit 12 = false := by simpa using h12
      simp only [h12, Bool.false_eq_true, if_false] at ho
      by_cases h8 : p.testBit 8 = true
      · rw [if_pos h8] at he
        simp only [h8, if_true] at ho
        match l, h, hl, he with
        | [], _, _, he => cases he
        | c :: t, h, hl, he =>
          simp only [] at he
          split at he
          · rename_i hg
            cases he
            exact rt_cid b c t f p w h (by simp only [List.length_cons] at hl; omega) hp h7 h12 h8 ho (by rw [hk, h24 h8]; rfl) hg.1 hg.2
          · cases he
      · rw [if_neg h8] at he
        have h8 : p.testBit 8 = false := by simpa using h8
        by_cases h9 : p.testBit 9 = true
        · rw [if_pos h9] at he
          split at he
          · rename_i hg
            cases he
            refine rt_tok b l f p w ht h hl hp h7 h12 h8 h9 ?_ hg
            have := h9k h9 h8
            rw [hk, beq_eq_false_iff_ne]; omega
          · cases he
        · rw [if_neg h9] at he
          have h9 : p.testBit 9 = false := by simpa using h9
          cases he
          refine (rt_none b l f p w ht h hl hp h7 h12 h8 h9).mono ?_
          rintro e w1 ⟨hv, rfl⟩
          exact ⟨hv, h, It.Only.refl _ _⟩
theorem texts_no (b : Nat) (l : List UInt8) (f : Frm) (n : Nat) (he : textsN (toldP n) l f = none) (hk : f.kind = (toldK n : Nat)) (hl : l.length ≤ 100000) (w : World) (ht : Tab w) (h : FBk b l f w) : Calls Tryd.prog 56 #[.pointer (some ⟨b, 0, none⟩), .int .u64 (toldP n : Nat)] w fun e w' => e = .panicked GU ∧ (∃ l2 f2, FBk b l2 f2 w') ∧ It.Only (fun k => k = b) w w' := by
  have hp := toldP_lt n
  have ho := toldP_ok n
  have h24 := toldP_8 n
  have h9k := toldP_9 n
  revert he ho h24 h9k hp
  generalize toldP n = p
  intro he hp ho h24 h9k
  unfold textsN at he
  unfold okP at ho
  by_cases h7 : p.testBit 7 = true
  · rw [if_pos h7] at he
    simp only [h7, if_true, Bool.and_eq_true, Bool.not_eq_true'] at ho
    split at he
    · cases he
    · rename_i hg
      by_cases hg1 : gk l ≤ l.length
      · exact rt_data_no2 b l f p w ht h hl hp h7 ho.1.1 ho.1.2 ho.2 hg1 (Nat.lt_of_not_le fun x => hg ⟨hg1, x⟩)
      · exact rt_data_no1 b l f p w ht h hl hp h7 ho.1.1 ho.1.2 ho.2 (by omega)
  · rw [if_neg h7] at he
    have h7 : p.testBit 7 = false := by simpa using h7
    simp only [h7, Bool.false_eq_true, if_false] at ho
    by_cases h12 : p.testBit 12 = true
    · rw [if_pos h12] at he
      cases he
    · rw [if_neg h12] at he
      have h12 : p.testBit 12 = false := by simpa using h12
      simp only [h12, Bool.false_eq_true, if_false] at ho
      by_cases h8 : p.testBit 8 = true
      · rw [if_pos h8] at he
        simp only [h8, if_true] at ho
        have hk2 : f.kind = 24 := by rw [hk, h24 h8]; rfl
        match l, h, hl, he with
        | [], h, _, he => exact rt_cid_no1 b [] f p w h (by decide) hp h7 h12 h8 ho hk2
        | c :: t, h, hl, he =>
          simp only [] at he
          have hl2 : t.length ≤ 100000 := by simp only [List.length_cons] at hl; omega
          split at he
          · cases he
          · rename_i hg
            by_cases hg1 : c.toNat ≤ t.length
            · exact rt_cid_no3 b c t f p w h hl2 hp h7 h12 h8 ho hk2 hg1 (Nat.lt_of_not_le fun x => hg ⟨hg1, x⟩)
            · exact rt_cid_no2 b c t f p w h hl2 hp h7 h12 h8 ho hk2 (by omega)
      · rw [if_neg h8] at he
        have h8 : p.testBit 8 = false := by simpa using h8
        by_cases h9 : p.testBit 9 = true
        · rw [if_pos h9] at he
          split at he
          · cases he
          · rename_i hg
            refine rt_tok_no b l f p w ht h hl hp h7 h12 h8 h9 ?_ (by omega)
            have := h9k h9 h8
            rw [hk, beq_eq_false_iff_ne]; omega
        · rw [if_neg h9] at he
          cases he

/-- The frame that bytes begin by, when its kind has no Set. -/
def plainN (c : UInt8) (t : List UInt8) : Option (List UInt8 × Frm) :=
  match numsN (toldP c.toNat) t { frZ with kind := (toldK c.toNat : Nat) } 7 with
  | none => none
  | some (l2, f2) => textsN (toldP c.toNat) l2 { f2 with fin := (toldP c.toNat).testBit 10 }
theorem plain_yes (c : UInt8) (t : List UInt8) (hl : t.length ≤ 100000) (hk : toldB c.toNat = true) (hs : (toldP c.toNat).testBit 11 = false) (l4 : List UInt8) (f4 : Frm) (he : plainN c t = some (l4, f4)) (b : Nat) (w : World) (ht : Tab w) (h : FBk b (c :: t) frZ w) : Calls Tryd.prog 31 #[.pointer (some ⟨b, 0, none⟩)] w fun e w' => e = .returned (.tuple #[]) ∧ FBk b l4 f4 w' ∧ It.Only (fun k => k = b) w w' := by
  unfold plainN at he
  match hn : numsN (toldP c.toNat) t { frZ with kind := (toldK c.toNat : Nat) } 7 with
  | none => rw [hn] at he; cases he
  | some (l2, f2) =>
    rw [hn] at he
    have hl2 := numsN_len hn
    have hk2 := numsN_kind hn
    exact frame_yes b c t w ht h hl hk hs l2 l4 f2 f4 hn (Lib.hid fun W hT hB => texts_yes b l2 _ c.toNat l4 f4 he hk2 (by omega) W hT hB)
theorem plain_no (c : UInt8) (t : List UInt8) (hl : t.length ≤ 100000) (hk : toldB c.toNat = true) (hs : (toldP c.toNat).testBit 11 = false) (he : plainN c t = none) (b : Nat) (w : World) (ht : Tab w) (h : FBk b (c :: t) frZ w) : Calls Tryd.prog 31 #[.pointer (some ⟨b, 0, none⟩)] w fun e w' => e = .panicked GU ∧ (∃ l2 f2, FBk b l2 f2 w') ∧ It.Only (fun k => k = b) w w' := by
  unfold plainN at he
  match hn : numsN (toldP c.toNat) t { frZ with kind := (toldK c.toNat : Nat) } 7 with
  | none => exact frame_no_nums b c t w ht h hl hk hs hn
  | some (l2, f2) =>
    rw [hn] at he
    have hl2 := numsN_len hn
    have hk2 := numsN_kind hn
    exact frame_no_texts b c t w ht h hl hk hs l2 f2 hn (Lib.hid fun W hT hB => texts_no b l2 _ c.toNat he hk2 (by omega) W hT hB)
end Go.Proofs.YtfeecfdbncjmnaaDoor.Fm
