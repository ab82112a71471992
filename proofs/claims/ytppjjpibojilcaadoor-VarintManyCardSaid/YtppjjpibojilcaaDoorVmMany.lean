/- The walk of the law VarintMany. -/
import Derived.Test.YtppjjpibojilcaaDoorVmP
import Derived.OpenShut
namespace Go.Proofs.YtppjjpibojilcaaDoor.Vm
open Go.RowKit
set_option linter.unusedVariables false

def gsA (l : List UInt8) (k : Nat) : List Nat := match gst l k with | some (acc, _) => acc | none => []
def gsR (l : List UInt8) (k : Nat) : List UInt8 := match gst l k with | some (_, r) => r | none => []
def gsE (l : List UInt8) (k : Nat) : Int := match gst l k with | some _ => 0 | none => 10
theorem gets_post {l : List UInt8} {k : Nat} {w w' : World} {e : Ending} (h : GetsPost l k w e w') :
    Below w.heap.size w w' ∧ ∃ v, e = .returned (.tuple #[v, .string ⟨(gsR l k).toArray⟩, .int .i64 (gsE l k)]) ∧ w'.ownsRow w.heap.size 22 1 v (gsA l k).length (numCells (gsA l k)) := by
  obtain ⟨hb, h⟩ := h
  refine ⟨hb, ?_⟩
  unfold gsR gsE gsA
  cases hg : gst l k with
  | none => rw [hg] at h; exact ⟨_, h, World.ownsRow_nil _ _ _ _⟩
  | some x => rw [hg] at h; exact h
theorem gsA_len (l : List UInt8) (k : Nat) : (gsA l k).length ≤ k := by
  unfold gsA
  cases hg : gst l k with
  | none => simp
  | some x => have := (gst_len hg).1; simp; omega

/-- The slice that came in reads as these numbers. -/
def ArgRow (w : World) (a : Option Addr) (n : Nat) (es : List Int) : Prop := es.length = n ∧ (es = [] ∨ ∃ b off, a = some ⟨b, off, none⟩ ∧ NumRow w b off es)
theorem ArgRow.below {w w' : World} {a : Option Addr} {n : Nat} {es : List Int} (h : ArgRow w a n es) (hb : Below w.heap.size w w') : ArgRow w' a n es := by
  obtain ⟨h1, h2⟩ := h
  refine ⟨h1, ?_⟩
  rcases h2 with h2 | ⟨b, off, rfl, h2⟩
  · exact .inl h2
  · exact .inr ⟨b, off, rfl, h2.below hb h2.1⟩
theorem ArgRow.reads {w : World} {a : Option Addr} {n cap : Nat} {es : List Int} (h : ArgRow w a n es) : Reads w (.slice a n cap) (es.map Int.toNat) := by
  obtain ⟨rfl, h2⟩ := h
  rcases h2 with rfl | ⟨b, off, rfl, h2⟩
  · exact .inl ⟨rfl, _, _, rfl⟩
  · refine .inr ⟨b, off, cap, by simp, fun i hi => ?_⟩
    have hi' : i < es.length := by simpa using hi
    obtain ⟨h3, h4⟩ := h2.2 i hi'
    rw [h3]
    have : ((es.map Int.toNat).getD i 0 : Nat) = (es.getD i 0).toNat := by simp [List.getD, List.getElem?_eq_getElem hi']
    rw [this, Int.toNat_of_nonneg h4]
theorem vputs (a : Option Addr) (n cap : Nat) (es : List Int) (w : World) (ht : Tab w) (h : ArgRow w a n es) (hl : n ≤ 1000) :
    Calls Tryd.prog 16 #[.slice a n cap] w (PutsPost es w) := by
  obtain ⟨rfl, h2⟩ := h
  rcases h2 with rfl | ⟨b, off, rfl, h2⟩
  · exact vputs_nil a cap w
  · exact vputs_row b off cap es w ht h2 hl
theorem rputs (a : Option Addr) (n cap : Nat) (es : List Int) (w : World) (h : ArgRow w a n es) (hl : n ≤ 1000) :
    Calls Tryd.prog 17 #[.slice a n cap] w (PutsPost es w) := by
  obtain ⟨rfl, h2⟩ := h
  rcases h2 with rfl | ⟨b, off, rfl, h2⟩
  · exact rputs_nil a cap w
  · exact rputs_row b off cap es w h2 hl

set_option maxHeartbeats 1000000 in
theorem many_out (a : Option Addr) (n cap : Nat) (s : ByteArray) (m : Int) (w : World) (ht : Tab w) (hn : n ≤ 9223372036854775807) (hs : s.size ≤ 9223372036854775807)
    (h : 40 < n ∨ (n ≤ 40 ∧ 200 < s.size) ∨ (n ≤ 40 ∧ s.size ≤ 200 ∧ 100 < m)) :
    Calls Tryd.prog 5 #[.slice a n cap, .string s, .int .i64 m] w fun e w' => e = .returned (.bool true) ∧ Below w.heap.size w w' := by
  have HT := Lib.hid ht
  clear ht
  rcases h with h | ⟨h, h2⟩ | ⟨h, h2, h3⟩
  all_goals
    go_enter Tryd.func5, Tryd.ntmps5
    go_wp2_with fail
    refine (shown_any _ HT.out).mono ?_
    rintro e w1 ⟨rfl, hb1⟩
    go_wp2
    go_ret
    exact ⟨rfl, hb1⟩

set_option maxHeartbeats 2000000 in
theorem many_fit (a : Option Addr) (n cap : Nat) (es : List Int) (s : ByteArray) (m : Int) (w : World) (ht : Tab w) (ha : ArgRow w a n es) (hn : n ≤ 40) (hs : s.size ≤ 200) (hm : m ≤ 100) (hf : allFit es) :
    Calls Tryd.prog 5 #[.slice a n cap, .string s, .int .i64 m] w fun e w' => e = .returned (.bool true) ∧ Below w.heap.size w w' := by
  have hlt := ht.lt
  have HT := Lib.hid ht
  have HA := Lib.hid ha
  have hlen := ha.1
  have HF := Lib.hid hf
  have HLA := Lib.hid hlen
  have hp := pcat_len es
  have hp2 : (pcat es).length ≤ 640 := by omega
  have HZ : Hid (((⟨(pcat es).toArray⟩ : ByteArray) ++ s).size ≤ 4000) := Lib.hid (by rw [size_len, app_data, List.length_append, ← size_len]; omega)
  have HG : Hid (gst ((⟨(pcat es).toArray⟩ : ByteArray) ++ s).data.toList n = some (es.map Int.toNat, s.data.toList)) := Lib.hid (by
    rw [app_data, ← hlen, gst_pcat es s.data.toList hf es.length (Nat.le_refl _)]
    rw [List.take_length, List.drop_length, pcat_nil, List.nil_append])
  have HG2 : Hid (gsA ((⟨(pcat es).toArray⟩ : ByteArray) ++ s).data.toList n = es.map Int.toNat ∧ gsR ((⟨(pcat es).toArray⟩ : ByteArray) ++ s).data.toList n = s.data.toList ∧ gsE ((⟨(pcat es).toArray⟩ : ByteArray) ++ s).data.toList n = 0) := Lib.hid (by
    unfold gsA gsR gsE; rw [HG.out]; exact ⟨rfl, rfl, rfl⟩)
  have hal := gsA_len s.data.toList m.toNat
  clear ht ha hlen hf hp
  go_enter Tryd.func5, Tryd.ntmps5
  go_wp2_with fail
  refine (shown_any _ HT.out).mono ?_
  rintro e w1 ⟨rfl, hb1⟩
  have HT1 := Lib.hid (HT.out.below hb1 hlt)
  have HA1 := Lib.hid (HA.out.below hb1)
  have hz1 := hb1.size
  go_wp2_with fail
  refine (vputs a n cap es _ HT1.out HA1.out (by omega)).mono ?_
  rintro e w2 ⟨hb2, ⟨_, rfl⟩ | ⟨hno, _⟩⟩
  case inr => exact absurd HF.out hno
  have HT2 := Lib.hid (HT1.out.below hb2 (by omega))
  have HA2 := Lib.hid (HA1.out.below hb2)
  have hz2 := hb2.size
  go_wp2_with fail
  refine (rputs a n cap es _ HA2.out (by omega)).mono ?_
  rintro e w3 ⟨hb3, ⟨_, rfl⟩ | ⟨hno, _⟩⟩
  case inr => exact absurd HF.out hno
  have HT3 := Lib.hid (HT2.out.below hb3 (by omega))
  have HA3 := Lib.hid (HA2.out.below hb3)
  have hz3 := hb3.size
  go_wp2_with fail
  refine (vgets s m _ HT3.out (by omega) (by omega)).mono ?_
  intro e w4 hpost
  obtain ⟨hb4, v4, rfl, ho4⟩ := gets_post hpost
  have HO4 := Lib.hid ho4
  clear hpost ho4
  have HT4 := Lib.hid (HT3.out.below hb4 (by omega))
  have HA4 := Lib.hid (HA3.out.below hb4)
  have hz4 := hb4.size
  go_wp2_with fail
  refine (rgets s m _ (by omega) (by omega)).mono ?_
  intro e w5 hpost
  obtain ⟨hb5, v5, rfl, ho5⟩ := gets_post hpost
  have HO5 := Lib.hid ho5
  clear hpost ho5
  have HT5 := Lib.hid (HT4.out.below hb5 (by omega))
  have HA5 := Lib.hid (HA4.out.below hb5)
  have hz5 := hb5.size
  have HO45 := Lib.hid (owns_below HO4.out hb5)
  go_wp2_with fail
  refine (same_any v4 v5 (gsA s.data.toList m.toNat) _ (by omega) (reads_own HO45.out) (reads_own HO5.out)).mono ?_
  rintro e w6 ⟨rfl, k6, rfl⟩
  have HT6 := Lib.hid (HT5.out.drewN k6)
  have HA6 := Lib.hid (HA5.out.below (below_drewN (Below.refl _ _) k6))
  have HW : Hid (Below w.heap.size w (w5.drewN k6)) := Lib.hid (below_drewN (hb1.trans ((hb2.mono (by omega)).trans ((hb3.mono (by omega)).trans ((hb4.mono (by omega)).trans (hb5.mono (by omega)))))) k6)
  generalize w5.drewN k6 = w6 at *
  have hw6 := HW.out.size
  go_wp2_with fail
  refine (vgets ((⟨(pcat es).toArray⟩ : ByteArray) ++ s) n _ HT6.out HZ.out (by omega)).mono ?_
  intro e w7 hpost
  obtain ⟨hb7, v7, rfl, ho7⟩ := gets_post hpost
  rw [show (n : Int).toNat = n from rfl] at ho7 ⊢
  rw [HG2.out.1] at ho7
  rw [HG2.out.2.1, HG2.out.2.2]
  have HO7 := Lib.hid ho7
  clear hpost ho7
  have HA7 := Lib.hid (HA6.out.below hb7)
  go_wp2_with fail
  refine (same_any v7 (.slice a n cap) (es.map Int.toNat) _ (by have := HLA.out; simp; omega) (reads_own HO7.out) HA7.out.reads).mono ?_
  rintro e w8 ⟨rfl, k8, rfl⟩
  go_wp2
  go_ret
  exact ⟨rfl, below_drewN (HW.out.trans (hb7.mono hw6)) _⟩

set_option maxHeartbeats 2000000 in
theorem many_bad (a : Option Addr) (n cap : Nat) (es : List Int) (s : ByteArray) (m : Int) (w : World) (ht : Tab w) (ha : ArgRow w a n es) (hn : n ≤ 40) (hs : s.size ≤ 200) (hm : m ≤ 100) (hf : ¬ allFit es) :
    Calls Tryd.prog 5 #[.slice a n cap, .string s, .int .i64 m] w fun e w' => e = .returned (.bool true) ∧ Below w.heap.size w w' := by
  have hlt := ht.lt
  have HT := Lib.hid ht
  have HA := Lib.hid ha
  have HF := Lib.hid hf
  have hal := gsA_len s.data.toList m.toNat
  clear ht ha hf
  go_enter Tryd.func5, Tryd.ntmps5
  go_wp2_with fail
  refine (shown_any _ HT.out).mono ?_
  rintro e w1 ⟨rfl, hb1⟩
  have HT1 := Lib.hid (HT.out.below hb1 hlt)
  have HA1 := Lib.hid (HA.out.below hb1)
  have hz1 := hb1.size
  go_wp2_with fail
  refine (vputs a n cap es _ HT1.out HA1.out (by omega)).mono ?_
  rintro e w2 ⟨hb2, ⟨hno, _⟩ | ⟨_, rfl⟩⟩
  case inl => exact absurd hno HF.out
  have HT2 := Lib.hid (HT1.out.below hb2 (by omega))
  have HA2 := Lib.hid (HA1.out.below hb2)
  have hz2 := hb2.size
  go_wp2_with fail
  refine (rputs a n cap es _ HA2.out (by omega)).mono ?_
  rintro e w3 ⟨hb3, ⟨hno, _⟩ | ⟨_, rfl⟩⟩
  case inl => exact absurd hno HF.out
  have HT3 := Lib.hid (HT2.out.below hb3 (by omega))
  have hz3 := hb3.size
  go_wp2_with fail
  refine (vgets s m _ HT3.out (by omega) (by omega)).mono ?_
  intro e w4 hpost
  obtain ⟨hb4, v4, rfl, ho4⟩ := gets_post hpost
  have HO4 := Lib.hid ho4
  clear hpost ho4
  have hz4 := hb4.size
  go_wp2_with fail
  refine (rgets s m _ (by omega) (by omega)).mono ?_
  intro e w5 hpost
  obtain ⟨hb5, v5, rfl, ho5⟩ := gets_post hpost
  have HO5 := Lib.hid ho5
  clear hpost ho5
  have hz5 := hb5.size
  have HO45 := Lib.hid (owns_below HO4.out hb5)
  go_wp2_with fail
  refine (same_any v4 v5 (gsA s.data.toList m.toNat) _ (by omega) (reads_own HO45.out) (reads_own HO5.out)).mono ?_
  rintro e w6 ⟨rfl, k6, rfl⟩
  go_wp2
  go_ret
  exact ⟨rfl, below_drewN (hb1.trans ((hb2.mono (by omega)).trans ((hb3.mono (by omega)).trans ((hb4.mono (by omega)).trans (hb5.mono (by omega)))))) k6⟩

theorem arg_row {w : World} {a : Option Addr} {len cap : Nat} {zs : List Int} (h : IsRow .u64 w a len cap zs) : len ≤ maxLen ∧ ArgRow w a len (zs.take len) := by
  rcases h with ⟨rfl, rfl, rfl, rfl⟩ | ⟨x, rfl, hl, hm, hz, hcell, hwz⟩
  · exact ⟨Nat.zero_le _, rfl, .inl rfl⟩
  · refine ⟨by omega, by rw [List.length_take]; omega, ?_⟩
    by_cases h0 : len = 0
    · subst h0; exact .inl rfl
    · obtain ⟨b, off, spot⟩ := x
      have hc := hcell 0 (by omega)
      have hspot : spot = none := by simpa [Addr.add] using World.cell?_spot hc
      subst hspot
      have hplain : ∀ i, (⟨b, off, none⟩ : Addr).add i = ⟨b, off + i, none⟩ := by intro i; unfold Addr.add; split <;> simp_all
      refine .inr ⟨b, off, rfl, ?_, ?_⟩
      · rcases Nat.lt_or_ge b w.heap.size with h1 | h1
        · exact h1
        · rw [hplain] at hc
          simp [World.cell?, Array.getElem?_eq_none h1] at hc
      · intro i hi
        rw [List.length_take] at hi
        have e : (zs.take len).getD i 0 = zs.getD i 0 := by simp only [List.getD]; rw [List.getElem?_take_of_lt (by omega)]
        rw [e, ← hplain]
        refine ⟨hcell i (by omega), ?_⟩
        have hlt : i < zs.length := by omega
        have := bounds_u64 (hwz (zs[i]) (List.getElem_mem _))
        simpa [List.getD, List.getElem?_eq_getElem hlt] using this.1

theorem many (a : Option Addr) (len cap : Nat) (zs : List Int) (s : ByteArray) (m : Int) (w : World) (ht : Tab w) (w0 : IsRow .u64 w a len cap zs) (w1 : s.size ≤ maxLen) (w2 : (Lit.int .i64 m).wf = true) :
    Calls Tryd.prog 5 #[.slice a len cap, .string s, .int .i64 m] w fun e w' => e = .returned (.bool true) ∧ Below w.heap.size w w' := by
  obtain ⟨hl, ha⟩ := arg_row w0
  unfold maxLen at w1 hl
  by_cases h1 : 40 < len
  · exact many_out a len cap s m w ht hl w1 (.inl h1)
  · by_cases h2 : 200 < s.size
    · exact many_out a len cap s m w ht hl w1 (.inr (.inl ⟨by omega, h2⟩))
    · by_cases h3 : 100 < m
      · exact many_out a len cap s m w ht hl w1 (.inr (.inr ⟨by omega, by omega, h3⟩))
      · by_cases hf : allFit (zs.take len)
        · exact many_fit a len cap _ s m w ht ha (by omega) (by omega) (by omega) hf
        · exact many_bad a len cap _ s m w ht ha (by omega) (by omega) (by omega) hf
end Go.Proofs.YtppjjpibojilcaaDoor.Vm
