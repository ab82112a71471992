/- Layer 6: the document's May, its mathematics. By hand. -/
import Derived.Test.YtpdfdhmhfdogcaaDoorFnQ
namespace Go.Proofs.YtpdfdhmhfdogcaaDoor.Fm
set_option maxRecDepth 20000
open Go.RowKit Vm
set_option linter.unusedVariables false
set_option linter.unusedSimpArgs false

/-- The letters of a kind's parts. -/
def shpN : Nat → List UInt8
  | 0 => [45]
  | 1 => [45]
  | 2 => [101, 115]
  | 4 => [105, 99, 109]
  | 5 => [105, 99]
  | 6 => [111, 100]
  | 8 => [105, 111, 102, 100]
  | 16 => [109]
  | 17 => [105, 109]
  | 18 => [109]
  | 19 => [109]
  | 20 => [109]
  | 21 => [105, 109]
  | 22 => [109]
  | 23 => [109]
  | 24 => [113, 112, 110, 116]
  | 25 => [113]
  | 26 => [116]
  | 27 => [116]
  | 28 => [99, 101, 100]
  | 29 => [99, 100]
  | 30 => [45]
  | _ => []
/-- The letter of a part, by its bit. -/
def chrN : Nat → UInt8
  | 0 => 105
  | 1 => 111
  | 2 => 99
  | 3 => 109
  | 4 => 113
  | 5 => 112
  | 6 => 101
  | 7 => 100
  | 8 => 110
  | 9 => 116
  | 10 => 102
  | _ => 115
theorem shp_big {k : Nat} (h : 31 ≤ k) : shpN k = [] := by
  unfold shpN
  split <;> first | rfl | omega
theorem parts_big {k : Nat} (h : 31 ≤ k) : partsN k = none := by
  unfold partsN
  split <;> first | rfl | omega
theorem shp_fin : ∀ k : Fin 31, ∀ j : Fin 12, (shpN k.val).contains (chrN j.val) = ((partsN k.val).getD 0).testBit j.val := by decide
theorem shp_none : ∀ k : Fin 31, (shpN k.val).isEmpty = !(partsN k.val).isSome := by decide
theorem shp_bit (k j : Nat) (hj : j < 12) : (shpN k).contains (chrN j) = ((partsN k).getD 0).testBit j := by
  by_cases hk : k < 31
  · exact shp_fin ⟨k, hk⟩ ⟨j, hj⟩
  · rw [shp_big (by omega), parts_big (by omega)]
    simp
theorem shp_some (k : Nat) : (shpN k).isEmpty = !(partsN k).isSome := by
  by_cases hk : k < 31
  · exact shp_none ⟨k, hk⟩
  · rw [shp_big (by omega), parts_big (by omega)]
    rfl
/-- What a frame has, its kind has: in one word. -/
theorem sub_has {p : Nat} {f : Frm} (h : Has p f) : filN f &&& p = filN f := by
  apply Nat.eq_of_testBit_eq
  intro j
  rw [Nat.testBit_and]
  by_cases hp : p.testBit j = true
  · rw [hp, Bool.and_true]
  · have hp : p.testBit j = false := by simpa using hp
    rw [hp, Bool.and_false, fil_bit]
    symm
    by_cases h7 : j < 7
    · rw [fT_num f j h7, h.num j h7 hp, decide_eq_false (show ¬ j = 10 by omega), decide_eq_false (show ¬ j = 11 by omega)]
      simp
    · by_cases h10 : j < 10
      · have e : j = 7 + (j - 7) := by omega
        have hx : txF f (j - 7) = [] := by
          have hc : j = 7 ∨ j = 8 ∨ j = 9 := by omega
          rcases hc with rfl | rfl | rfl
          · exact h.data hp
          · exact h.cid hp
          · exact h.token hp
        rw [e, fT_txt f (j - 7) 3 (by decide), hx, decide_eq_false (show ¬ 7 + (j - 7) = 10 by omega), decide_eq_false (show ¬ 7 + (j - 7) = 11 by omega)]
        simp
      · have hlt : (fT f 3).testBit j = false := by
          apply Nat.testBit_lt_two_pow
          have h3 : fT f 3 < 2 ^ 10 := fT_lt f 3
          have : 2 ^ 10 ≤ 2 ^ j := Nat.pow_le_pow_right (by decide) (by omega)
          omega
        rw [hlt]
        by_cases h1 : j = 10
        · subst h1
          rw [h.fin hp]
          simp
        · by_cases h2 : j = 11
          · subst h2
            rw [h.set hp]
            simp
          · rw [decide_eq_false h1, decide_eq_false h2]
            simp
theorem may_kind {k : Nat} {f : Frm} {l : List Ran} (h : mayF k f l = true) : (partsN k).isSome = true ∧ Has ((partsN k).getD 0) f ∧ numB f = true := by
  unfold mayF bndB at h
  rw [Bool.and_eq_true, Bool.and_eq_true, Bool.and_eq_true] at h
  exact ⟨h.1, has_sub (of_decide_eq_true h.2.1), h.2.2.1⟩
theorem may_not {k : Nat} {f : Frm} {l : List Ran} (h : mayF k f l = true → False) : mayF k f l = false := by
  cases hm : mayF k f l with
  | false => rfl
  | true => exact (h hm).elim
theorem may_great (k : Nat) (f : Frm) (l : List Ran) (j : Nat) (hj : j < 7) (h : 4611686018427387903 < nm f j) : mayF k f l = false :=
  may_not fun hm => by
    have := of_decide_eq_true (List.all_eq_true.1 (may_kind hm).2.2 j (List.mem_range.2 hj))
    omega
theorem may_num (k : Nat) (f : Frm) (l : List Ran) (j : Nat) (hj : j < 7) (h : nm f j ≠ 0) (hc : (shpN k).contains (chrN j) = false) : mayF k f l = false :=
  may_not fun hm => h ((may_kind hm).2.1.num j hj (by rw [← shp_bit k j (by omega)]; exact hc))
theorem may_none (k : Nat) (f : Frm) (l : List Ran) (h : (shpN k).isEmpty = true) : mayF k f l = false :=
  may_not fun hm => by
    have := (may_kind hm).1
    rw [shp_some, this] at h
    cases h
theorem may_fin (k : Nat) (f : Frm) (l : List Ran) (h : f.fin = true) (hc : (shpN k).contains 102 = false) : mayF k f l = false :=
  may_not fun hm => by
    have := (may_kind hm).2.1.fin (by rw [← shp_bit k 10 (by omega)]; exact hc)
    rw [h] at this
    cases this
theorem may_data (k : Nat) (f : Frm) (l : List Ran) (h : f.data ≠ []) (hc : (shpN k).contains 100 = false) : mayF k f l = false :=
  may_not fun hm => h ((may_kind hm).2.1.data (by rw [← shp_bit k 7 (by omega)]; exact hc))
theorem may_cid (k : Nat) (f : Frm) (l : List Ran) (h : f.cid ≠ []) (hc : (shpN k).contains 110 = false) : mayF k f l = false :=
  may_not fun hm => h ((may_kind hm).2.1.cid (by rw [← shp_bit k 8 (by omega)]; exact hc))
theorem may_token (k : Nat) (f : Frm) (l : List Ran) (h : f.token ≠ []) (hc : (shpN k).contains 116 = false) : mayF k f l = false :=
  may_not fun hm => h ((may_kind hm).2.1.token (by rw [← shp_bit k 9 (by omega)]; exact hc))
theorem may_set (k : Nat) (f : Frm) (l : List Ran) (h : f.set.n ≠ 0) (hc : (shpN k).contains 115 = false) : mayF k f l = false :=
  may_not fun hm => h ((may_kind hm).2.1.set (by rw [← shp_bit k 11 (by omega)]; exact hc))
/-- What of May is left when all parts are of the kind, and no number is too great. -/
theorem may_left (k : Nat) (f : Frm) (l : List Ran) (hn : ∀ j, j < 7 → nm f j ≤ 4611686018427387903) (hz : ∀ j, j < 7 → nm f j = 0 ∨ (shpN k).contains (chrN j) = true) (hs : (shpN k).isEmpty = false)
    (h10 : f.fin = false ∨ (shpN k).contains 102 = true) (h7 : f.data = [] ∨ (shpN k).contains 100 = true) (h8 : f.cid = [] ∨ (shpN k).contains 110 = true) (h9 : f.token = [] ∨ (shpN k).contains 116 = true) (h11 : f.set.n = 0 ∨ (shpN k).contains 115 = true) :
    mayF k f l = kndB f l := by
  have hb : ∀ j, j < 12 → ((partsN k).getD 0).testBit j = false → (shpN k).contains (chrN j) = true → False := fun j hj h1 h2 => by
    rw [shp_bit k j hj, h1] at h2
    cases h2
  have hsub : filN f &&& (partsN k).getD 0 = filN f := sub_has ⟨fun j hj hp => (hz j hj).resolve_right (hb j (by omega) hp), fun hp => h7.resolve_right (hb 7 (by decide) hp), fun hp => h8.resolve_right (hb 8 (by decide) hp), fun hp => h9.resolve_right (hb 9 (by decide) hp), fun hp => h10.resolve_right (hb 10 (by decide) hp), fun hp => h11.resolve_right (hb 11 (by decide) hp)⟩
  have hk : (partsN k).isSome = true := by
    have := shp_some k
    rw [hs] at this
    simpa using this
  unfold mayF bndB
  rw [hk, decide_eq_true hsub, numB_yes hn]
  simp
end Go.Proofs.YtpdfdhmhfdogcaaDoor.Fm
