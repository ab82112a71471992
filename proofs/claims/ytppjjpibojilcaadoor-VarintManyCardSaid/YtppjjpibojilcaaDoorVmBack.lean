/- The walk of the law VarintBack. -/
import Derived.Test.YtppjjpibojilcaaDoorVmLaid
import Derived.OpenShut
namespace Go.Proofs.YtppjjpibojilcaaDoor.Vm
open Go.RowKit
set_option linter.unusedVariables false

theorem pt_le (n : Nat) (h : pl n < 4) : 1 ≤ (pt n).length ∧ (pt n).length ≤ 8 := by
  rw [pt_length]
  have : pl n = 0 ∨ pl n = 1 ∨ pl n = 2 ∨ pl n = 3 := by omega
  rcases this with h | h | h | h <;> rw [h] <;> decide
theorem back_get (n : Nat) (h : pl n < 4) (l : List UInt8) : gN (pt n ++ l) = n ∧ gR (pt n ++ l) = l ∧ gE (pt n ++ l) = 0 := by
  obtain ⟨b, r, e, h1, h2⟩ := pt_head n h
  have hk : gk (pt n ++ l) = wd (pl n) := by rw [e]; exact h1
  have hl := pt_length n
  have := g_ok (l := pt n ++ l) (by rw [hk, List.length_append, hl]; omega)
  rw [this.1, this.2.1, this.2.2, hk]
  refine ⟨pt_back n h l, ?_, rfl⟩
  rw [← hl]; simp
theorem sz_pt (n : Nat) (h : pl n < 4) : sz n = (pt n).length := by
  rw [pt_length]; unfold sz; rw [if_neg (by omega)]
theorem pl_lt (n : Nat) (h : (n : Int) < 4611686018427387904) : pl n < 4 := by have := pl_cases n; omega
theorem app_data (l : List UInt8) (s : ByteArray) : ((⟨l.toArray⟩ : ByteArray) ++ s).data.toList = l ++ s.data.toList := by simp

set_option maxHeartbeats 1000000 in
theorem back_long (n : Int) (s : ByteArray) (w : World) (ht : Tab w) (hl : 100 < s.size) (hs : s.size ≤ 9223372036854775807) :
    Calls Tryd.prog 4 #[.int .u64 n, .string s] w fun e w' => e = .returned (.bool true) ∧ Below w.heap.size w w' := by
  have HT := Lib.hid ht
  clear ht
  go_enter Tryd.func4, Tryd.ntmps4
  go_wp2_with fail
  refine (shown_any _ HT.out).mono ?_
  rintro e w1 ⟨rfl, hb1⟩
  go_wp2
  go_ret
  exact ⟨rfl, hb1⟩

set_option maxHeartbeats 1000000 in
theorem back_none (n : Int) (s : ByteArray) (w : World) (ht : Tab w) (h0 : 4611686018427387904 ≤ n) (hl : s.size ≤ 100) :
    Calls Tryd.prog 4 #[.int .u64 n, .string s] w fun e w' => e = .returned (.bool true) ∧ Below w.heap.size w w' := by
  have hlt := ht.lt
  have HT := Lib.hid ht
  clear ht
  go_enter Tryd.func4, Tryd.ntmps4
  go_wp2_with fail
  refine (shown_any _ HT.out).mono ?_
  rintro e w1 ⟨rfl, hb1⟩
  have HT1 := Lib.hid (HT.out.below hb1 hlt)
  have hz1 := hb1.size
  go_wp2_with fail
  refine (vput_4 _ _ HT1.out h0).mono ?_
  rintro e w2 ⟨rfl, hb2⟩
  have HT2 := Lib.hid (HT1.out.below hb2 (by omega))
  have hz2 := hb2.size
  go_wp2_with fail
  refine (vsize_4 _ _ HT2.out h0).mono ?_
  rintro e w3 ⟨rfl, rfl⟩
  go_wp2
  go_ret
  exact ⟨rfl, hb1.trans (hb2.mono (by omega))⟩

set_option maxHeartbeats 1000000 in
theorem back_some (n : Int) (s : ByteArray) (w : World) (ht : Tab w) (h0 : 0 ≤ n) (hn : n < 4611686018427387904) (hl : s.size ≤ 100) :
    Calls Tryd.prog 4 #[.int .u64 n, .string s] w fun e w' => e = .returned (.bool true) ∧ Below w.heap.size w w' := by
  have hlt := ht.lt
  have HT := Lib.hid ht
  clear ht
  have HP := Lib.hid (pl_lt n.toNat (by omega))
  have hp := (pt_le n.toNat HP.out).2
  have HZ : Hid (((⟨(pt n.toNat).toArray⟩ : ByteArray) ++ s).size ≤ 9223372036854775807) := Lib.hid (by rw [size_len, app_data, List.length_append, ← size_len]; omega)
  have HG := Lib.hid (back_get n.toNat HP.out s.data.toList)
  have HS := Lib.hid (sz_pt n.toNat HP.out)
  have HN : Hid ((n.toNat : Int) = n) := Lib.hid (Int.toNat_of_nonneg h0)
  go_enter Tryd.func4, Tryd.ntmps4
  go_wp2_with fail
  refine (shown_any _ HT.out).mono ?_
  rintro e w1 ⟨rfl, hb1⟩
  have HT1 := Lib.hid (HT.out.below hb1 hlt)
  have hz1 := hb1.size
  go_wp2_with fail
  refine (vput _ _ HT1.out h0).mono ?_
  rintro e w2 ⟨rfl, hb2⟩
  rw [(ps_ok HP.out).1, (ps_ok HP.out).2]
  have HT2 := Lib.hid (HT1.out.below hb2 (by omega))
  have hz2 := hb2.size
  go_wp2_with fail
  refine (vget ((⟨(pt n.toNat).toArray⟩ : ByteArray) ++ s) _ HT2.out HZ.out).mono ?_
  rintro e w3 ⟨rfl, m, rfl⟩
  rw [app_data, HG.out.1, HG.out.2.1, HG.out.2.2, HN.out]
  have HT3 := Lib.hid (HT2.out.drewN m)
  go_wp2_with fail
  refine (vsize _ _ HT3.out h0).mono ?_
  rintro e w4 ⟨rfl, rfl⟩
  rw [HS.out]
  go_wp2
  go_ret
  exact ⟨rfl, below_drewN (hb1.trans (hb2.mono (by omega))) _⟩

theorem back (n : Int) (s : ByteArray) (w : World) (ht : Tab w) (w0 : (Lit.int .u64 n).wf = true) (w1 : s.size ≤ maxLen) :
    Calls Tryd.prog 4 #[.int .u64 n, .string s] w fun e w' => e = .returned (.bool true) ∧ Below w.heap.size w w' := by
  have hn := bounds_u64 w0
  unfold maxLen at w1
  by_cases h : 100 < s.size
  · exact back_long n s w ht h w1
  · by_cases h4 : n < 4611686018427387904
    · exact back_some n s w ht hn.1 h4 (by omega)
    · exact back_none n s w ht (by omega) (by omega)
end Go.Proofs.YtppjjpibojilcaaDoor.Vm
