/- The walks of layer 1: Get in one word; the small case that must go well. -/
import Derived.Test.YtfeecfdbncjmnaaDoorVmF
namespace Go.Proofs.YtfeecfdbncjmnaaDoor.Vm
set_option maxRecDepth 20000
open Go.RowKit
set_option linter.unusedVariables false

/-- What Get tells of bytes: the number, what is behind it, and the error's number. -/
def gN (l : List UInt8) : Nat := if gk l ≤ l.length then gn l (gk l) else 0
def gR (l : List UInt8) : List UInt8 := if gk l ≤ l.length then l.drop (gk l) else []
def gE (l : List UInt8) : Int := if gk l ≤ l.length then 0 else 10
theorem g_ok {l : List UInt8} (h : gk l ≤ l.length) : gN l = gn l (gk l) ∧ gR l = l.drop (gk l) ∧ gE l = 0 := by unfold gN gR gE; rw [if_pos h, if_pos h, if_pos h]; exact ⟨rfl, rfl, rfl⟩
theorem g_no {l : List UInt8} (h : l.length < gk l) : gN l = 0 ∧ gR l = [] ∧ gE l = 10 := by unfold gN gR gE; rw [if_neg (by omega), if_neg (by omega), if_neg (by omega)]; exact ⟨rfl, rfl, rfl⟩
theorem gk_of (s : ByteArray) (h : 0 < s.size) (c : Nat) (hc : s[0].toNat / 64 = c) : gk s.data.toList = 2 ^ c := by
  have h0 : 0 < s.data.toList.length := by rw [← size_len]; exact h
  have e : s.data.toList[0] = s[0] := rfl
  cases hl : s.data.toList with
  | nil => rw [hl] at h0; simp at h0
  | cons b r =>
    have e2 : b = s[0] := by rw [← e]; simp [hl]
    show gw b = _
    unfold gw wd
    rw [e2, hc]
theorem vget (s : ByteArray) (w : World) (ht : Tab w) (hs : s.size ≤ 9223372036854775807) :
    Calls Tryd.prog 67 #[.string s] w fun e w' => e = .returned (.tuple #[.int .u64 (gN s.data.toList : Nat), .string ⟨(gR s.data.toList).toArray⟩, .int .i64 (gE s.data.toList)]) ∧ ∃ m, w' = w.drewN m := by
  by_cases h0 : s.size = 0
  · have h := g_no (l := s.data.toList) (by rw [List.eq_nil_of_length_eq_zero (show s.data.toList.length = 0 by rw [← size_len]; exact h0)]; decide)
    rw [h.1, h.2.1, h.2.2]
    exact (vget_empty s w h0).mono fun _ _ ⟨a, b⟩ => ⟨a, 0, b.symm⟩
  · have hp : 0 < s.size := by omega
    have hb := s[0].toNat_lt
    have hc : s[0].toNat / 64 = 0 ∨ s[0].toNat / 64 = 1 ∨ s[0].toNat / 64 = 2 ∨ s[0].toNat / 64 = 3 := by omega
    rcases hc with hc | hc | hc | hc
    · have h := g_ok (l := s.data.toList) (by rw [gk_of s hp 0 hc, ← size_len]; omega)
      rw [h.1, h.2.1, h.2.2, gk_of s hp 0 hc]
      exact vget_ok_0 s w ht hs (by omega) (by omega)
    · by_cases hk : 2 ≤ s.size
      · have h := g_ok (l := s.data.toList) (by rw [gk_of s hp 1 hc, ← size_len]; omega)
        rw [h.1, h.2.1, h.2.2, gk_of s hp 1 hc]
        exact vget_ok_1 s w ht hs (by omega) (by omega)
      · have h := g_no (l := s.data.toList) (by rw [gk_of s hp 1 hc, ← size_len]; omega)
        rw [h.1, h.2.1, h.2.2]
        exact vget_short_1 s w ht hs hp (by omega) (by omega)
    · by_cases hk : 4 ≤ s.size
      · have h := g_ok (l := s.data.toList) (by rw [gk_of s hp 2 hc, ← size_len]; omega)
        rw [h.1, h.2.1, h.2.2, gk_of s hp 2 hc]
        exact vget_ok_2 s w ht hs (by omega) (by omega)
      · have h := g_no (l := s.data.toList) (by rw [gk_of s hp 2 hc, ← size_len]; omega)
        rw [h.1, h.2.1, h.2.2]
        exact vget_short_2 s w ht hs hp (by omega) (by omega)
    · by_cases hk : 8 ≤ s.size
      · have h := g_ok (l := s.data.toList) (by rw [gk_of s hp 3 hc, ← size_len]; omega)
        rw [h.1, h.2.1, h.2.2, gk_of s hp 3 hc]
        exact vget_ok_3 s w ht hs (by omega) (by omega)
      · have h := g_no (l := s.data.toList) (by rw [gk_of s hp 3 hc, ← size_len]; omega)
        rw [h.1, h.2.1, h.2.2]
        exact vget_short_3 s w ht hs hp (by omega) (by omega)
theorem rget (s : ByteArray) (w : World) (hs : s.size ≤ 9223372036854775807) :
    Calls Tryd.prog 35 #[.string s] w fun e w' => e = .returned (.tuple #[.int .u64 (gN s.data.toList : Nat), .string ⟨(gR s.data.toList).toArray⟩, .int .i64 (gE s.data.toList)]) ∧ ∃ m, w' = w.drewN m := by
  by_cases h0 : s.size = 0
  · have h := g_no (l := s.data.toList) (by rw [List.eq_nil_of_length_eq_zero (show s.data.toList.length = 0 by rw [← size_len]; exact h0)]; decide)
    rw [h.1, h.2.1, h.2.2]
    exact (rget_empty s w h0).mono fun _ _ ⟨a, b⟩ => ⟨a, 0, b.symm⟩
  · have hp : 0 < s.size := by omega
    have hb := s[0].toNat_lt
    have hc : s[0].toNat / 64 = 0 ∨ s[0].toNat / 64 = 1 ∨ s[0].toNat / 64 = 2 ∨ s[0].toNat / 64 = 3 := by omega
    rcases hc with hc | hc | hc | hc
    · have h := g_ok (l := s.data.toList) (by rw [gk_of s hp 0 hc, ← size_len]; omega)
      rw [h.1, h.2.1, h.2.2, gk_of s hp 0 hc]
      exact rget_ok_0 s w hs (by omega) (by omega)
    · by_cases hk : 2 ≤ s.size
      · have h := g_ok (l := s.data.toList) (by rw [gk_of s hp 1 hc, ← size_len]; omega)
        rw [h.1, h.2.1, h.2.2, gk_of s hp 1 hc]
        exact rget_ok_1 s w hs (by omega) (by omega)
      · have h := g_no (l := s.data.toList) (by rw [gk_of s hp 1 hc, ← size_len]; omega)
        rw [h.1, h.2.1, h.2.2]
        exact rget_short_1 s w hs hp (by omega) (by omega)
    · by_cases hk : 4 ≤ s.size
      · have h := g_ok (l := s.data.toList) (by rw [gk_of s hp 2 hc, ← size_len]; omega)
        rw [h.1, h.2.1, h.2.2, gk_of s hp 2 hc]
        exact rget_ok_2 s w hs (by omega) (by omega)
      · have h := g_no (l := s.data.toList) (by rw [gk_of s hp 2 hc, ← size_len]; omega)
        rw [h.1, h.2.1, h.2.2]
        exact rget_short_2 s w hs hp (by omega) (by omega)
    · by_cases hk : 8 ≤ s.size
      · have h := g_ok (l := s.data.toList) (by rw [gk_of s hp 3 hc, ← size_len]; omega)
        rw [h.1, h.2.1, h.2.2, gk_of s hp 3 hc]
        exact rget_ok_3 s w hs (by omega) (by omega)
      · have h := g_no (l := s.data.toList) (by rw [gk_of s hp 3 hc, ← size_len]; omega)
        rw [h.1, h.2.1, h.2.2]
        exact rget_short_3 s w hs hp (by omega) (by omega)

theorem Tab.below {B : Nat} {w w' : World} (h : Tab w) (hb : Below B w w') (hB : 0 < B) : Tab w' :=
  ⟨(hb.cell (p := ⟨0, 0, none⟩) hB).trans h.1, (hb.cell (p := ⟨0, 1, none⟩) hB).trans h.2.1,
   (hb.cell (p := ⟨0, 2, none⟩) hB).trans h.2.2.1, (hb.cell (p := ⟨0, 3, none⟩) hB).trans h.2.2.2⟩
theorem Tab.lt {w : World} (h : Tab w) : 0 < w.heap.size := by
  rcases Nat.lt_or_ge 0 w.heap.size with h1 | h1
  · exact h1
  · have := h.1
    simp [World.cell?, Array.getElem?_eq_none h1] at this
theorem below_drewN {B : Nat} {a w : World} (h : Below B a w) (n : Nat) : Below B a (w.drewN n) := h.trans ⟨rfl, rfl, rfl, Nat.le_refl _, fun _ _ => rfl⟩
theorem Tab.drewN {w : World} (h : Tab w) (n : Nat) : Tab (w.drewN n) := h.below (below_drewN (Below.refl w.heap.size w) n) h.lt

end Go.Proofs.YtfeecfdbncjmnaaDoor.Vm
