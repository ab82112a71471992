/- The walk of the law VarintShort. -/
import Derived.Test.YtppjjpibojilcaaDoorVmAll
namespace Go.Proofs.YtppjjpibojilcaaDoor.Vm
open Go.RowKit
set_option linter.unusedVariables false

theorem gk_take (l : List UInt8) (c : Nat) (h : 1 ≤ c) : gk (l.take c) = gk l := by
  cases l with
  | nil => simp
  | cons b r => cases c with
    | zero => omega
    | succ c => rfl
theorem cut_short (n c : Nat) (h : pl n < 4) (hc : c < (pt n).length) : ((pt n).take c).length < gk ((pt n).take c) := by
  obtain ⟨b, r, e, h1, h2⟩ := pt_head n h
  have hl := pt_length n
  by_cases h0 : c = 0
  · subst h0; simp; decide
  · rw [gk_take _ _ (by omega), show gk (pt n) = wd (pl n) by rw [e]; exact h1, List.length_take]; omega
theorem long_get (n : Nat) (h : n < 256 ^ 7) : gN (0xc0 :: fx n 7) = n ∧ gR (0xc0 :: fx n 7) = [] ∧ gE (0xc0 :: fx n 7) = 0 := by
  have hk : gk (0xc0 :: fx n 7) = 8 := by show gw 0xc0 = 8; decide
  have := g_ok (l := 0xc0 :: fx n 7) (by rw [hk, List.length_cons, fx_length]; omega)
  rw [this.1, this.2.1, this.2.2, hk]
  refine ⟨?_, ?_, rfl⟩
  · unfold gn
    rw [List.take_of_length_le (by rw [List.length_cons, fx_length]; omega), bk_cons, bk_fx, fx_length, Nat.mod_eq_of_lt h]
    have : (0xc0 : UInt8).toNat = 192 := rfl
    rw [this]
    omega
  · exact List.drop_eq_nil_of_le (by rw [List.length_cons, fx_length]; omega)

set_option maxHeartbeats 1000000 in
theorem short_none (n c : Int) (w : World) (ht : Tab w) (h0 : 4611686018427387904 ≤ n) :
    Calls Tryd.prog 6 #[.int .u64 n, .int .u8 c] w fun e w' => e = .returned (.bool true) ∧ Below w.heap.size w w' := by
  have hlt := ht.lt
  have HT := Lib.hid ht
  clear ht
  go_enter Tryd.func6, Tryd.ntmps6
  go_wp2_with fail
  refine (vput_4 _ _ HT.out h0).mono ?_
  rintro e w1 ⟨rfl, hb1⟩
  have HT1 := Lib.hid (HT.out.below hb1 hlt)
  go_wp2_with fail
  refine (shown_any _ HT1.out).mono ?_
  rintro e w2 ⟨rfl, hb2⟩
  go_wp2
  go_ret
  exact ⟨rfl, hb1.trans (hb2.mono hb1.size)⟩

set_option maxHeartbeats 1000000 in
theorem short_low (n c : Int) (w : World) (ht : Tab w) (h0 : 0 ≤ n) (hn : n < 4611686018427387904) (hs : n < 72057594037927936) (hc : 0 ≤ c) (hc2 : c ≤ 255) :
    Calls Tryd.prog 6 #[.int .u64 n, .int .u8 c] w fun e w' => e = .returned (.bool true) ∧ Below w.heap.size w w' := by
  have hlt := ht.lt
  have HT := Lib.hid ht
  clear ht
  have HP := Lib.hid (pl_lt n.toNat (by omega))
  obtain ⟨hp1, hp2⟩ := pt_le n.toNat HP.out
  have hne : ((((pt n.toNat).length : Nat) : Int) == 0) = false := by rw [beq_eq_false_iff_ne]; omega
  have hm1 : 0 ≤ c % ((pt n.toNat).length : Int) := Int.emod_nonneg _ (by omega)
  have hm2 : c % ((pt n.toNat).length : Int) < ((pt n.toNat).length : Int) := Int.emod_lt_of_pos _ (by omega)
  have HC : Hid (∀ k : Nat, k < (pt n.toNat).length → (((⟨(pt n.toNat).toArray⟩ : ByteArray).extract 0 k).size ≤ 9223372036854775807) ∧ gE ((⟨(pt n.toNat).toArray⟩ : ByteArray).extract 0 k).data.toList = 10) := Lib.hid (by
    intro k hk
    have e := take_part (⟨(pt n.toNat).toArray⟩ : ByteArray) k (by rw [size_len]; simpa using Nat.le_of_lt hk)
    refine ⟨by rw [size_len, e, List.length_take]; simp; omega, ?_⟩
    rw [e]
    exact (g_no (cut_short n.toNat k HP.out hk)).2.2)
  have HL : Hid (((⟨#[192]⟩ : ByteArray) ++ (⟨(fx n.toNat 7).toArray⟩ : ByteArray)).size ≤ 9223372036854775807) := Lib.hid (by rw [size_len]; simp [fx_length])
  have HE : Hid (((⟨#[192]⟩ : ByteArray) ++ (⟨(fx n.toNat 7).toArray⟩ : ByteArray)).data.toList = 0xc0 :: fx n.toNat 7) := Lib.hid (by simp)
  have hfl : (fx n.toNat 7).length ≤ 7 := by rw [fx_length]; omega
  have HN : Hid ((n.toNat : Int) = n) := Lib.hid (Int.toNat_of_nonneg h0)
  have HG := Lib.hid (long_get n.toNat (by omega))
  go_enter Tryd.func6, Tryd.ntmps6
  go_wp2_with fail
  refine (vput _ _ HT.out h0).mono ?_
  rintro e w1 ⟨rfl, hb1⟩
  rw [(ps_ok HP.out).1, (ps_ok HP.out).2]
  have HT1 := Lib.hid (HT.out.below hb1 hlt)
  have hz1 := hb1.size
  go_wp2_with fail
  refine (shown_any _ HT1.out).mono ?_
  rintro e w2 ⟨rfl, hb2⟩
  have HT2 := Lib.hid (HT1.out.below hb2 (by omega))
  have hz2 := hb2.size
  go_wp2_with fail
  refine (vget _ _ HT2.out (HC.out _ (by omega)).1).mono ?_
  rintro e w3 ⟨rfl, m, rfl⟩
  rw [(HC.out _ (by omega)).2]
  have HT3 := Lib.hid (HT2.out.drewN m)
  go_wp2_with fail
  refine (vfixed' _ _ _ h0 (by omega) (by omega) (by omega)).mono ?_
  rintro e w4 ⟨rfl, hb4⟩
  rw [show (7 : Int).toNat = 7 from rfl]
  have HT4 := Lib.hid (HT3.out.below hb4 (by simp; omega))
  have hz4 : w2.heap.size ≤ w4.heap.size := hb4.size
  go_wp2_with fail
  refine (vget ((⟨#[192]⟩ : ByteArray) ++ (⟨(fx n.toNat 7).toArray⟩ : ByteArray)) _ HT4.out HL.out).mono ?_
  rintro e w5 ⟨rfl, m5, rfl⟩
  rw [HE.out]
  rw [HG.out.1, HG.out.2.1, HG.out.2.2, HN.out]
  go_wp2
  go_ret
  refine ⟨rfl, below_drewN ?_ _⟩
  exact (hb1.trans (hb2.mono hz1)).trans ((below_drewN (Below.refl _ _) m).trans (hb4.mono (by simp; omega)))

set_option maxHeartbeats 1000000 in
theorem short_high (n c : Int) (w : World) (ht : Tab w) (h0 : 0 ≤ n) (hn : n < 4611686018427387904) (hs : 72057594037927936 ≤ n) (hc : 0 ≤ c) (hc2 : c ≤ 255) :
    Calls Tryd.prog 6 #[.int .u64 n, .int .u8 c] w fun e w' => e = .returned (.bool true) ∧ Below w.heap.size w w' := by
  have hlt := ht.lt
  have HT := Lib.hid ht
  clear ht
  have HP := Lib.hid (pl_lt n.toNat (by omega))
  obtain ⟨hp1, hp2⟩ := pt_le n.toNat HP.out
  have hne : ((((pt n.toNat).length : Nat) : Int) == 0) = false := by rw [beq_eq_false_iff_ne]; omega
  have hm1 : 0 ≤ c % ((pt n.toNat).length : Int) := Int.emod_nonneg _ (by omega)
  have hm2 : c % ((pt n.toNat).length : Int) < ((pt n.toNat).length : Int) := Int.emod_lt_of_pos _ (by omega)
  have HC : Hid (∀ k : Nat, k < (pt n.toNat).length → (((⟨(pt n.toNat).toArray⟩ : ByteArray).extract 0 k).size ≤ 9223372036854775807) ∧ gE ((⟨(pt n.toNat).toArray⟩ : ByteArray).extract 0 k).data.toList = 10) := Lib.hid (by
    intro k hk
    have e := take_part (⟨(pt n.toNat).toArray⟩ : ByteArray) k (by rw [size_len]; simpa using Nat.le_of_lt hk)
    refine ⟨by rw [size_len, e, List.length_take]; simp; omega, ?_⟩
    rw [e]
    exact (g_no (cut_short n.toNat k HP.out hk)).2.2)
  have HL : Hid (((⟨#[192]⟩ : ByteArray) ++ (⟨(fx n.toNat 7).toArray⟩ : ByteArray)).size ≤ 9223372036854775807) := Lib.hid (by rw [size_len]; simp [fx_length])
  have HE : Hid (((⟨#[192]⟩ : ByteArray) ++ (⟨(fx n.toNat 7).toArray⟩ : ByteArray)).data.toList = 0xc0 :: fx n.toNat 7) := Lib.hid (by simp)
  have hfl : (fx n.toNat 7).length ≤ 7 := by rw [fx_length]; omega
  have HN : Hid ((n.toNat : Int) = n) := Lib.hid (Int.toNat_of_nonneg h0)
  go_enter Tryd.func6, Tryd.ntmps6
  go_wp2_with fail
  refine (vput _ _ HT.out h0).mono ?_
  rintro e w1 ⟨rfl, hb1⟩
  rw [(ps_ok HP.out).1, (ps_ok HP.out).2]
  have HT1 := Lib.hid (HT.out.below hb1 hlt)
  have hz1 := hb1.size
  go_wp2_with fail
  refine (shown_any _ HT1.out).mono ?_
  rintro e w2 ⟨rfl, hb2⟩
  have HT2 := Lib.hid (HT1.out.below hb2 (by omega))
  have hz2 := hb2.size
  go_wp2_with fail
  refine (vget _ _ HT2.out (HC.out _ (by omega)).1).mono ?_
  rintro e w3 ⟨rfl, m, rfl⟩
  rw [(HC.out _ (by omega)).2]
  have HT3 := Lib.hid (HT2.out.drewN m)
  go_wp2_with fail
  refine (vfixed' _ _ _ h0 (by omega) (by omega) (by omega)).mono ?_
  rintro e w4 ⟨rfl, hb4⟩
  rw [show (7 : Int).toNat = 7 from rfl]
  have HT4 := Lib.hid (HT3.out.below hb4 (by simp; omega))
  have hz4 : w2.heap.size ≤ w4.heap.size := hb4.size
  go_wp2_with fail
  refine (vget ((⟨#[192]⟩ : ByteArray) ++ (⟨(fx n.toNat 7).toArray⟩ : ByteArray)) _ HT4.out HL.out).mono ?_
  rintro e w5 ⟨rfl, m5, rfl⟩
  rw [HE.out]
  go_wp2
  go_ret
  refine ⟨rfl, below_drewN ?_ _⟩
  exact (hb1.trans (hb2.mono hz1)).trans ((below_drewN (Below.refl _ _) m).trans (hb4.mono (by simp; omega)))

theorem short (n c : Int) (w : World) (ht : Tab w) (w0 : (Lit.int .u64 n).wf = true) (w1 : (Lit.int .u8 c).wf = true) :
    Calls Tryd.prog 6 #[.int .u64 n, .int .u8 c] w fun e w' => e = .returned (.bool true) ∧ Below w.heap.size w w' := by
  have hn := bounds_u64 w0
  have hc := bounds_u8 w1
  by_cases h4 : n < 4611686018427387904
  · by_cases h5 : n < 72057594037927936
    · exact short_low n c w ht hn.1 h4 h5 hc.1 hc.2
    · exact short_high n c w ht hn.1 h4 (by omega) hc.1 hc.2
  · exact short_none n c w ht (by omega)
end Go.Proofs.YtppjjpibojilcaaDoor.Vm
