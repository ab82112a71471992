/- The walk of the law DigestHex. -/
import Derived.Test.YtbomfgcmbcfhoaaDgT
import Derived.OpenShut
namespace Go.Proofs.Ytbomfgcmbcfhoaa.Dg
open Go.RowKit
set_option linter.unusedVariables false
set_option linter.unusedSimpArgs false

def uxS (o : Option (List UInt8)) : ByteArray := match o with
  | some X => ⟨X.toArray⟩
  | none => ⟨#[]⟩
theorem ux_det {l : List UInt8} {w : World} {e : Ending} {w' : World} (h : UxPost l w e w') : e = .returned (.tuple #[.string (uxS (uxL l)), .bool (uxL l).isSome]) ∧ Below w.heap.size w w' := by
  obtain ⟨h, hb⟩ := h
  refine ⟨?_, hb⟩
  rcases h with ⟨X, h1, h2⟩ | ⟨h1, h2⟩
  · rw [h2, h1]; rfl
  · rw [h2, h1]; rfl
theorem ux_hex (l : List UInt8) : uxL (hexL l) = some l := by
  induction l with
  | nil => rfl
  | cons c l ih =>
    have e : hexL (c :: l) = dg (c.toNat / 16) :: dg (c.toNat % 16) :: hexL l := by simp [hexL]
    have hc := c.toNat_lt
    have h1 : ix (dg (c.toNat / 16)) = ((c.toNat / 16 : Nat) : Int) := (dg_ix _ _ (by omega)).1 rfl
    have h2 : ix (dg (c.toNat % 16)) = ((c.toNat % 16 : Nat) : Int) := (dg_ix _ _ (by omega)).1 rfl
    rw [e, uxL, ih, ux1, h1, h2, if_neg (by omega), Option.bind_some]
    simp only [Int.toNat_natCast, Option.map_some]
    congr 2
    rw [show c.toNat / 16 * 16 + c.toNat % 16 = c.toNat by omega]
    simp
set_option maxHeartbeats 8000000 in
theorem hexes_any (s t : ByteArray) (w : World) :
    Calls Try.prog 5 #[.string s, .string t] w fun e w' => e = .returned (.bool true) ∧ Below w.heap.size w w' := by
  by_cases hs : 300 < s.size ∨ 100 < t.size
  · by_cases ha : 300 < s.size
    · have h1 : (300 : Int) < (s.size : Int) := by omega
      go_enter Try.func5, Try.ntmps5
      go_wp2_with fail
      refine (shown_any _).mono ?_
      rintro e w1 ⟨rfl, hb⟩
      have HB := Lib.hid hb
      clear hb
      go_wp2
      go_ret
      exact ⟨rfl, HB.out⟩
    · have h1 : ¬ (300 : Int) < (s.size : Int) := by omega
      have h2 : (100 : Int) < (t.size : Int) := by omega
      go_enter Try.func5, Try.ntmps5
      go_wp2_with fail
      refine (shown_any _).mono ?_
      rintro e w1 ⟨rfl, hb⟩
      have HB := Lib.hid hb
      clear hb
      go_wp2
      go_ret
      exact ⟨rfl, HB.out⟩
  · have ha : s.size ≤ 300 := by omega
    have hb3 : t.size ≤ 100 := by omega
    have h1 : ¬ (300 : Int) < (s.size : Int) := by omega
    have h2 : ¬ (100 : Int) < (t.size : Int) := by omega
    obtain ⟨U, hU⟩ : ∃ U, uxS (uxL t.data.toList) = U := ⟨_, rfl⟩
    obtain ⟨B, hB⟩ : ∃ B, (uxL t.data.toList).isSome = B := ⟨_, rfl⟩
    obtain ⟨H, hH⟩ : ∃ H : ByteArray, ⟨(hexL s.data.toList).toArray⟩ = H := ⟨_, rfl⟩
    have hls : s.data.toList.length = s.size := by simp
    have C1 : Hid (∀ W : World, Calls Try.prog 13 #[.string t] W fun e w' => e = .returned (.tuple #[.string U, .bool B]) ∧ Below W.heap.size W w') := Lib.hid (fun W => by rw [← hU, ← hB]; exact (unhex_any t W (by omega)).mono fun e w' h => ux_det h)
    have C2 : Hid (∀ W : World, Calls Try.prog 14 #[.string t] W fun e w' => e = .returned (.tuple #[.string U, .bool B]) ∧ Below W.heap.size W w') := Lib.hid (fun W => by rw [← hU, ← hB]; exact (unhex_ref t W (by omega)).mono fun e w' h => ux_det h)
    have C3 : Hid (∀ W : World, Calls Try.prog 15 #[.string s] W fun e w' => e = .returned (.string H) ∧ Below W.heap.size W w') := Lib.hid (fun W => by rw [← hH]; exact hex_any s W (by omega))
    have C4 : Hid (∀ W : World, Calls Try.prog 16 #[.string s] W fun e w' => e = .returned (.string H) ∧ Below W.heap.size W w') := Lib.hid (fun W => by rw [← hH]; exact hex_ref s W (by omega))
    have C5 : Hid (∀ W : World, Calls Try.prog 13 #[.string H] W fun e w' => e = .returned (.tuple #[.string s, .bool true]) ∧ Below W.heap.size W w') := Lib.hid (fun W => by
      have h := (unhex_any H W (by rw [← hH]; show (hexL s.data.toList).length ≤ _; rw [hexL_len, hls]; omega)).mono fun e w' h => ux_det h
      have e1 : H.data.toList = hexL s.data.toList := by rw [← hH]
      rw [e1, ux_hex] at h
      exact h)
    clear hs hU hB hH hls ha hb3
    go_enter Try.func5, Try.ntmps5
    go_wp2_with fail
    refine (shown_any _).mono ?_
    rintro e w1 ⟨rfl, hb⟩
    have HB1 := Lib.hid hb
    have hz1 := hb.size
    clear hb
    go_wp2_with fail
    refine (C1.out _).mono ?_
    rintro e w2 ⟨rfl, hb⟩
    have HB2 := Lib.hid (HB1.out.trans (hb.mono hz1))
    have hz2 := HB2.out.size
    clear hb
    go_wp2_with fail
    refine (C2.out _).mono ?_
    rintro e w3 ⟨rfl, hb⟩
    have HB3 := Lib.hid (HB2.out.trans (hb.mono hz2))
    have hz3 := HB3.out.size
    clear hb
    go_wp2_with fail
    refine (C3.out _).mono ?_
    rintro e w4 ⟨rfl, hb⟩
    have HB4 := Lib.hid (HB3.out.trans (hb.mono hz3))
    have hz4 := HB4.out.size
    clear hb
    go_wp2_with fail
    refine (C5.out _).mono ?_
    rintro e w5 ⟨rfl, hb⟩
    have HB5 := Lib.hid (HB4.out.trans (hb.mono hz4))
    have hz5 := HB5.out.size
    clear hb
    go_wp2_with fail
    refine (C3.out _).mono ?_
    rintro e w6 ⟨rfl, hb⟩
    have HB6 := Lib.hid (HB5.out.trans (hb.mono hz5))
    have hz6 := HB6.out.size
    clear hb
    go_wp2_with fail
    refine (C4.out _).mono ?_
    rintro e w7 ⟨rfl, hb⟩
    have HB7 := Lib.hid (HB6.out.trans (hb.mono hz6))
    clear hb
    go_wp2
    go_ret
    exact ⟨rfl, HB7.out⟩
theorem law_hex (s t : ByteArray) (w : World) (w0 : s.size ≤ maxLen) (w1 : t.size ≤ maxLen) :
    Calls Try.prog 5 #[.string s, .string t] w fun e w' => e = .returned (.bool true) ∧ Below w.heap.size w w' := hexes_any s t w
end Go.Proofs.Ytbomfgcmbcfhoaa.Dg
