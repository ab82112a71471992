/- The walk of the law VarintAll. -/
import Derived.Test.YtppjjpibojilcaaDoorVmBack
namespace Go.Proofs.YtppjjpibojilcaaDoor.Vm
open Go.RowKit
set_option linter.unusedVariables false

theorem gk_cases (l : List UInt8) : gk l = 1 ∨ gk l = 2 ∨ gk l = 4 ∨ gk l = 8 := by
  cases l with
  | nil => left; rfl
  | cons b r =>
    have hb := b.toNat_lt
    have : b.toNat / 64 = 0 ∨ b.toNat / 64 = 1 ∨ b.toNat / 64 = 2 ∨ b.toNat / 64 = 3 := by omega
    show gw b = 1 ∨ gw b = 2 ∨ gw b = 4 ∨ gw b = 8
    unfold gw wd
    rcases this with h | h | h | h <;> rw [h] <;> simp
theorem gn_lt (l : List UInt8) (k : Nat) : gn l k < 2 ^ (8 * k - 2) := Nat.mod_lt _ (Nat.pow_pos (by decide))
theorem sz_le (n k r : Nat) (h : n < 2 ^ r) (hk : (k = 1 ∧ r = 6) ∨ (k = 2 ∧ r = 14) ∨ (k = 4 ∧ r = 30) ∨ (k = 8 ∧ r = 62)) : sz n ≤ k := by
  unfold sz wd
  have hp := pl_cases n
  rcases hk with ⟨rfl, rfl⟩ | ⟨rfl, rfl⟩ | ⟨rfl, rfl⟩ | ⟨rfl, rfl⟩
  all_goals
    rcases hp with ⟨hp, h1⟩ | ⟨hp, h1, h2⟩ | ⟨hp, h1, h2⟩ | ⟨hp, h1, h2⟩ | ⟨hp, h1⟩
    all_goals rw [hp]
    all_goals first | decide | (exfalso; omega)

set_option maxHeartbeats 1000000 in
theorem all_long (s : ByteArray) (w : World) (ht : Tab w) (hl : 100 < s.size) (hs : s.size ≤ 9223372036854775807) :
    Calls Tryd.prog 8 #[.string s] w fun e w' => e = .returned (.bool true) ∧ Below w.heap.size w w' := by
  have hlt := ht.lt
  have HT := Lib.hid ht
  clear ht
  go_enter Tryd.func8, Tryd.ntmps8
  go_wp2_with fail
  refine (shown_any _ HT.out).mono ?_
  rintro e w1 ⟨rfl, hb1⟩
  go_wp2
  go_ret
  exact ⟨rfl, hb1⟩

set_option maxHeartbeats 1000000 in
theorem all_short (s : ByteArray) (w : World) (ht : Tab w) (hl : s.size ≤ 100) (hk : s.size < gk s.data.toList) :
    Calls Tryd.prog 8 #[.string s] w fun e w' => e = .returned (.bool true) ∧ Below w.heap.size w w' := by
  have hlt := ht.lt
  have HT := Lib.hid ht
  clear ht
  have HG := Lib.hid (g_no (l := s.data.toList) (by rw [← size_len]; exact hk))
  have h8 : s.size < 8 := by have := gk_cases s.data.toList; omega
  have hd8 : decide ((s.size : Int) < 8) = true := by simp; omega
  clear hk
  go_enter Tryd.func8, Tryd.ntmps8
  go_wp2_with fail
  refine (shown_any _ HT.out).mono ?_
  rintro e w1 ⟨rfl, hb1⟩
  have HT1 := Lib.hid (HT.out.below hb1 hlt)
  have hz1 := hb1.size
  go_wp2_with fail
  refine (vget _ _ HT1.out (by omega)).mono ?_
  rintro e w2 ⟨rfl, m, rfl⟩
  rw [HG.out.1, HG.out.2.1, HG.out.2.2]
  go_wp2
  go_ret
  exact ⟨rfl, below_drewN hb1 _⟩

set_option maxHeartbeats 1000000 in
theorem all_1 (s : ByteArray) (w : World) (ht : Tab w) (hl : s.size ≤ 100) (hk : gk s.data.toList = 1) (hks : 1 ≤ s.size) :
    Calls Tryd.prog 8 #[.string s] w fun e w' => e = .returned (.bool true) ∧ Below w.heap.size w w' := by
  have hlt := ht.lt
  have HT := Lib.hid ht
  clear ht
  have HG := Lib.hid (g_ok (l := s.data.toList) (by rw [hk, ← size_len]; exact hks))
  rw [hk] at HG
  have HD := Lib.hid (drop_part s 1 hks)
  have hn := gn_lt s.data.toList 1
  have hz0 := sz_le (gn s.data.toList 1) 1 6 hn (by omega)
  obtain ⟨x, hx⟩ : ∃ x : Int, ((gn s.data.toList 1 : Nat) : Int) = x := ⟨_, rfl⟩
  have HZ : Hid (sz x.toNat ≤ 1) := Lib.hid (by rw [← hx, Int.toNat_natCast]; exact hz0)
  have hx0 : 0 ≤ x := by omega
  have hx2 : x < 4611686018427387904 := by omega
  have HX := Lib.hid hx
  have HR : Hid ((List.drop 1 s.data.toList).length = s.size - 1) := Lib.hid (by rw [List.length_drop, ← size_len])
  clear hk hn hz0 hx
  go_enter Tryd.func8, Tryd.ntmps8
  go_wp2_with fail
  refine (shown_any _ HT.out).mono ?_
  rintro e w1 ⟨rfl, hb1⟩
  have HT1 := Lib.hid (HT.out.below hb1 hlt)
  have hz1 := hb1.size
  go_wp2_with fail
  refine (vget _ _ HT1.out (by omega)).mono ?_
  rintro e w2 ⟨rfl, m, rfl⟩
  rw [HG.out.1, HG.out.2.1, HG.out.2.2, ← HD.out, HX.out]
  have HT2 := Lib.hid (HT1.out.drewN m)
  go_wp2_with fail
  refine (vsize _ _ HT2.out hx0).mono ?_
  rintro e w3 ⟨rfl, rfl⟩
  have hz := HZ.out
  generalize sz x.toNat = z at *
  have hzd : decide ((z : Int) ≤ 1) = true := by simp; omega
  go_wp2
  go_ret
  exact ⟨rfl, below_drewN hb1 _⟩

set_option maxHeartbeats 1000000 in
theorem all_2 (s : ByteArray) (w : World) (ht : Tab w) (hl : s.size ≤ 100) (hk : gk s.data.toList = 2) (hks : 2 ≤ s.size) :
    Calls Tryd.prog 8 #[.string s] w fun e w' => e = .returned (.bool true) ∧ Below w.heap.size w w' := by
  have hlt := ht.lt
  have HT := Lib.hid ht
  clear ht
  have HG := Lib.hid (g_ok (l := s.data.toList) (by rw [hk, ← size_len]; exact hks))
  rw [hk] at HG
  have HD := Lib.hid (drop_part s 2 hks)
  have hn := gn_lt s.data.toList 2
  have hz0 := sz_le (gn s.data.toList 2) 2 14 hn (by omega)
  obtain ⟨x, hx⟩ : ∃ x : Int, ((gn s.data.toList 2 : Nat) : Int) = x := ⟨_, rfl⟩
  have HZ : Hid (sz x.toNat ≤ 2) := Lib.hid (by rw [← hx, Int.toNat_natCast]; exact hz0)
  have hx0 : 0 ≤ x := by omega
  have hx2 : x < 4611686018427387904 := by omega
  have HX := Lib.hid hx
  have HR : Hid ((List.drop 2 s.data.toList).length = s.size - 2) := Lib.hid (by rw [List.length_drop, ← size_len])
  clear hk hn hz0 hx
  go_enter Tryd.func8, Tryd.ntmps8
  go_wp2_with fail
  refine (shown_any _ HT.out).mono ?_
  rintro e w1 ⟨rfl, hb1⟩
  have HT1 := Lib.hid (HT.out.below hb1 hlt)
  have hz1 := hb1.size
  go_wp2_with fail
  refine (vget _ _ HT1.out (by omega)).mono ?_
  rintro e w2 ⟨rfl, m, rfl⟩
  rw [HG.out.1, HG.out.2.1, HG.out.2.2, ← HD.out, HX.out]
  have HT2 := Lib.hid (HT1.out.drewN m)
  go_wp2_with fail
  refine (vsize _ _ HT2.out hx0).mono ?_
  rintro e w3 ⟨rfl, rfl⟩
  have hz := HZ.out
  generalize sz x.toNat = z at *
  have hzd : decide ((z : Int) ≤ 2) = true := by simp; omega
  go_wp2
  go_ret
  exact ⟨rfl, below_drewN hb1 _⟩

set_option maxHeartbeats 1000000 in
theorem all_4 (s : ByteArray) (w : World) (ht : Tab w) (hl : s.size ≤ 100) (hk : gk s.data.toList = 4) (hks : 4 ≤ s.size) :
    Calls Tryd.prog 8 #[.string s] w fun e w' => e = .returned (.bool true) ∧ Below w.heap.size w w' := by
  have hlt := ht.lt
  have HT := Lib.hid ht
  clear ht
  have HG := Lib.hid (g_ok (l := s.data.toList) (by rw [hk, ← size_len]; exact hks))
  rw [hk] at HG
  have HD := Lib.hid (drop_part s 4 hks)
  have hn := gn_lt s.data.toList 4
  have hz0 := sz_le (gn s.data.toList 4) 4 30 hn (by omega)
  obtain ⟨x, hx⟩ : ∃ x : Int, ((gn s.data.toList 4 : Nat) : Int) = x := ⟨_, rfl⟩
  have HZ : Hid (sz x.toNat ≤ 4) := Lib.hid (by rw [← hx, Int.toNat_natCast]; exact hz0)
  have hx0 : 0 ≤ x := by omega
  have hx2 : x < 4611686018427387904 := by omega
  have HX := Lib.hid hx
  have HR : Hid ((List.drop 4 s.data.toList).length = s.size - 4) := Lib.hid (by rw [List.length_drop, ← size_len])
  clear hk hn hz0 hx
  go_enter Tryd.func8, Tryd.ntmps8
  go_wp2_with fail
  refine (shown_any _ HT.out).mono ?_
  rintro e w1 ⟨rfl, hb1⟩
  have HT1 := Lib.hid (HT.out.below hb1 hlt)
  have hz1 := hb1.size
  go_wp2_with fail
  refine (vget _ _ HT1.out (by omega)).mono ?_
  rintro e w2 ⟨rfl, m, rfl⟩
  rw [HG.out.1, HG.out.2.1, HG.out.2.2, ← HD.out, HX.out]
  have HT2 := Lib.hid (HT1.out.drewN m)
  go_wp2_with fail
  refine (vsize _ _ HT2.out hx0).mono ?_
  rintro e w3 ⟨rfl, rfl⟩
  have hz := HZ.out
  generalize sz x.toNat = z at *
  have hzd : decide ((z : Int) ≤ 4) = true := by simp; omega
  go_wp2
  go_ret
  exact ⟨rfl, below_drewN hb1 _⟩

set_option maxHeartbeats 1000000 in
theorem all_8 (s : ByteArray) (w : World) (ht : Tab w) (hl : s.size ≤ 100) (hk : gk s.data.toList = 8) (hks : 8 ≤ s.size) :
    Calls Tryd.prog 8 #[.string s] w fun e w' => e = .returned (.bool true) ∧ Below w.heap.size w w' := by
  have hlt := ht.lt
  have HT := Lib.hid ht
  clear ht
  have HG := Lib.hid (g_ok (l := s.data.toList) (by rw [hk, ← size_len]; exact hks))
  rw [hk] at HG
  have HD := Lib.hid (drop_part s 8 hks)
  have hn := gn_lt s.data.toList 8
  have hz0 := sz_le (gn s.data.toList 8) 8 62 hn (by omega)
  obtain ⟨x, hx⟩ : ∃ x : Int, ((gn s.data.toList 8 : Nat) : Int) = x := ⟨_, rfl⟩
  have HZ : Hid (sz x.toNat ≤ 8) := Lib.hid (by rw [← hx, Int.toNat_natCast]; exact hz0)
  have hx0 : 0 ≤ x := by omega
  have hx2 : x < 4611686018427387904 := by omega
  have HX := Lib.hid hx
  have HR : Hid ((List.drop 8 s.data.toList).length = s.size - 8) := Lib.hid (by rw [List.length_drop, ← size_len])
  clear hk hn hz0 hx
  go_enter Tryd.func8, Tryd.ntmps8
  go_wp2_with fail
  refine (shown_any _ HT.out).mono ?_
  rintro e w1 ⟨rfl, hb1⟩
  have HT1 := Lib.hid (HT.out.below hb1 hlt)
  have hz1 := hb1.size
  go_wp2_with fail
  refine (vget _ _ HT1.out (by omega)).mono ?_
  rintro e w2 ⟨rfl, m, rfl⟩
  rw [HG.out.1, HG.out.2.1, HG.out.2.2, ← HD.out, HX.out]
  have HT2 := Lib.hid (HT1.out.drewN m)
  go_wp2_with fail
  refine (vsize _ _ HT2.out hx0).mono ?_
  rintro e w3 ⟨rfl, rfl⟩
  have hz := HZ.out
  generalize sz x.toNat = z at *
  have hzd : decide ((z : Int) ≤ 8) = true := by simp; omega
  go_wp2
  go_ret
  exact ⟨rfl, below_drewN hb1 _⟩

theorem all (s : ByteArray) (w : World) (ht : Tab w) (w1 : s.size ≤ maxLen) :
    Calls Tryd.prog 8 #[.string s] w fun e w' => e = .returned (.bool true) ∧ Below w.heap.size w w' := by
  unfold maxLen at w1
  by_cases h : 100 < s.size
  · exact all_long s w ht h w1
  · by_cases h4 : s.size < gk s.data.toList
    · exact all_short s w ht (by omega) h4
    · rcases gk_cases s.data.toList with hk | hk | hk | hk
      · exact all_1 s w ht (by omega) hk (by omega)
      · exact all_2 s w ht (by omega) hk (by omega)
      · exact all_4 s w ht (by omega) hk (by omega)
      · exact all_8 s w ht (by omega) hk (by omega)
end Go.Proofs.YtppjjpibojilcaaDoor.Vm
