/- The walk of the law DigestXors. -/
import Derived.Test.YtbomfgcmbcfhoaaDgQ
import Derived.OpenShut
import Derived.Deep.RegionHeld3
namespace Go.Proofs.Ytbomfgcmbcfhoaa.Dg
open Go.RowKit
set_option linter.unusedVariables false
set_option linter.unusedSimpArgs false

theorem xorL_comm (a b : List UInt8) : xorL b a = xorL a b := by
  unfold xorL
  rw [List.zipWith_comm]
  congr 1
  funext x y
  exact UInt8.xor_comm _ _
theorem xorL_back (a b : List UInt8) : xorL (xorL a b) b = a.take (min a.length b.length) := by
  apply List.ext_getElem
  · simp [xorL]
  · intro i h1 h2
    simp only [xorL, List.getElem_zipWith, List.getElem_take]
    rw [UInt8.xor_assoc, UInt8.xor_self, UInt8.xor_zero]
theorem ext_take (a : ByteArray) (M : Nat) : (⟨(a.data.toList.take M).toArray⟩ : ByteArray) = a.extract 0 M := by
  apply ByteArray.ext
  apply Array.toList_inj.1
  rw [Lib.extract_data]
  simp
set_option maxHeartbeats 8000000 in
theorem xors_any (a b : ByteArray) (w : World) :
    Calls Try.prog 6 #[.string a, .string b] w fun e w' => e = .returned (.bool true) ∧ Below w.heap.size w w' := by
  by_cases hs : 300 < a.size ∨ 300 < b.size
  · by_cases ha : 300 < a.size
    · have h1 : (300 : Int) < (a.size : Int) := by omega
      go_enter Try.func6, Try.ntmps6
      go_wp2_with fail
      refine (shown_any _).mono ?_
      rintro e w1 ⟨rfl, hb⟩
      have HB := Lib.hid hb
      clear hb
      go_wp2
      go_ret
      exact ⟨rfl, HB.out⟩
    · have h1 : ¬ (300 : Int) < (a.size : Int) := by omega
      have h2 : (300 : Int) < (b.size : Int) := by omega
      go_enter Try.func6, Try.ntmps6
      go_wp2_with fail
      refine (shown_any _).mono ?_
      rintro e w1 ⟨rfl, hb⟩
      have HB := Lib.hid hb
      clear hb
      go_wp2
      go_ret
      exact ⟨rfl, HB.out⟩
  · have ha : a.size ≤ 300 := by omega
    have hb3 : b.size ≤ 300 := by omega
    have h1 : ¬ (300 : Int) < (a.size : Int) := by omega
    have h2 : ¬ (300 : Int) < (b.size : Int) := by omega
    obtain ⟨M, hM⟩ : ∃ M, min a.size b.size = M := ⟨_, rfl⟩
    have hMa : M ≤ a.size := by omega
    have hrun := min_run (a.size : Nat) (b.size : Nat) (M : Nat) (by omega)
    obtain ⟨X, hX⟩ : ∃ X, xorL a.data.toList b.data.toList = X := ⟨_, rfl⟩
    have hla : a.data.toList.length = a.size := by simp
    have hlb : b.data.toList.length = b.size := by simp
    have hXl : X.length = M := by rw [← hX, xorL_len, hla, hlb, hM]
    have C1 : Hid (∀ W : World, Calls Try.prog 17 #[.string a, .string b] W fun e w' => e = .returned (.string ⟨X.toArray⟩) ∧ Below W.heap.size W w') := Lib.hid (fun W => by rw [← hX]; exact xor_any a b W (by omega) (by omega))
    have C2 : Hid (∀ W : World, Calls Try.prog 18 #[.string a, .string b] W fun e w' => e = .returned (.string ⟨X.toArray⟩) ∧ Below W.heap.size W w') := Lib.hid (fun W => by rw [← hX]; exact xor_ref a b W (by omega) (by omega))
    have C3 : Hid (∀ W : World, Calls Try.prog 17 #[.string b, .string a] W fun e w' => e = .returned (.string ⟨X.toArray⟩) ∧ Below W.heap.size W w') := Lib.hid (fun W => by rw [← hX, ← xorL_comm]; exact xor_any b a W (by omega) (by omega))
    have C4 : Hid (∀ W : World, Calls Try.prog 17 #[.string ⟨X.toArray⟩, .string b] W fun e w' => e = .returned (.string (a.extract 0 M)) ∧ Below W.heap.size W w') := Lib.hid (fun W => by
      have h := xor_any ⟨X.toArray⟩ b W (by show X.length ≤ _; omega) (by omega)
      rw [show (⟨X.toArray⟩ : ByteArray).data.toList = X from rfl, ← hX, xorL_back, hla, hlb, hM, ext_take] at h
      rw [← hX]
      exact h)
    have i1 : (0 : Int) ≤ (M : Int) := by omega
    have i2 : (M : Int) ≤ (a.size : Int) := by omega
    clear hs hX hla hlb hM
    go_enter Try.func6, Try.ntmps6
    go_wp2_with fail
    refine (shown_any _).mono ?_
    rintro e w1 ⟨rfl, hb⟩
    have HB := Lib.hid hb
    have hz1 := hb.size
    clear hb
    go_wp2_with fail
    refine (C1.out _).mono ?_
    rintro e w2 ⟨rfl, hb⟩
    have HB2 := Lib.hid (HB.out.trans (hb.mono hz1))
    have hz2 := HB2.out.size
    clear hb
    go_wp2_with fail
    go_region_held3 (fun w' => Below w.heap.size w w')
      (first | exact HB2.out | exact below_drew HB2.out | (refine Below.trans ?_ (Below.mono hb ?_) <;> first | assumption | (exact Below.size ‹_›)))
      (first | (go_at_call 18; (with_reducible refine (C2.out _).mono ?_); rintro y v1 ⟨rfl, hb⟩) | (go_at_call 17; (with_reducible refine (C3.out _).mono ?_); rintro y v1 ⟨rfl, hb⟩) | (go_at_call 17; (with_reducible refine (C4.out _).mono ?_); rintro y v1 ⟨rfl, hb⟩))
    rename_i hH
    have HBE := Lib.hid hH
    clear hH
    go_wp2
    go_ret
    exact ⟨rfl, HBE.out⟩
theorem law_xors (a b : ByteArray) (w : World) (w0 : a.size ≤ maxLen) (w1 : b.size ≤ maxLen) :
    Calls Try.prog 6 #[.string a, .string b] w fun e w' => e = .returned (.bool true) ∧ Below w.heap.size w w' := xors_any a b w
end Go.Proofs.Ytbomfgcmbcfhoaa.Dg
