/- The walks of layer 8: what is shown; the law KdfBegins. -/
import Derived.Test.YthjphechdhbenaaKdG
namespace Go.Proofs.Ythjphechdhbenaa.Kd
set_option maxRecDepth 20000
open Go.RowKit
open Go.Proofs.Ythjphechdhbenaa.Dg
set_option linter.unusedVariables false
set_option linter.unusedSimpArgs false

theorem jefe : mac [74, 101, 102, 101] ([119, 104, 97, 116, 32, 100, 111, 32, 121, 97, 32, 119, 97, 110, 116, 32] ++ [102, 111, 114, 32, 110, 111, 116, 104, 105, 110, 103, 63]) = [91, 220, 193, 70, 191, 96, 117, 78, 106, 4, 36, 38, 8, 149, 117, 199, 90, 0, 63, 8, 157, 39, 57, 131, 157, 236, 88, 185, 100, 236, 56, 67] := by decide +kernel
theorem jefe_hex : hexL [91, 220, 193, 70, 191, 96, 117, 78, 106, 4, 36, 38, 8, 149, 117, 199, 90, 0, 63, 8, 157, 39, 57, 131, 157, 236, 88, 185, 100, 236, 56, 67] = [53, 98, 100, 99, 99, 49, 52, 54, 98, 102, 54, 48, 55, 53, 52, 101, 54, 97, 48, 52, 50, 52, 50, 54, 48, 56, 57, 53, 55, 53, 99, 55, 53, 97, 48, 48, 51, 102, 48, 56, 57, 100, 50, 55, 51, 57, 56, 51, 57, 100, 101, 99, 53, 56, 98, 57, 54, 52, 101, 99, 51, 56, 52, 51] := by decide +kernel
theorem cat_2 (a b : List UInt8) : cat [⟨a.toArray⟩, ⟨b.toArray⟩] = a ++ b := by simp [cat]
set_option maxHeartbeats 4000000 in
theorem shown8 (w : World) : Calls Try.prog 16 #[] w fun e w' => e = .returned (.bool true) ∧ Below w.heap.size w w' := by
  have CM : Hid (Calls Try.prog 17 #[.string ⟨#[74, 101, 102, 101]⟩, .slice (some ⟨w.heap.size, 0, none⟩) 2 2] (w.alloc (.cells #[.string ⟨#[119, 104, 97, 116, 32, 100, 111, 32, 121, 97, 32, 119, 97, 110, 116, 32]⟩, .string ⟨#[102, 111, 114, 32, 110, 111, 116, 104, 105, 110, 103, 63]⟩] 9)) fun e w' => e = .returned (.string ⟨#[91, 220, 193, 70, 191, 96, 117, 78, 106, 4, 36, 38, 8, 149, 117, 199, 90, 0, 63, 8, 157, 39, 57, 131, 157, 236, 88, 185, 100, 236, 56, 67]⟩) ∧ Below w.heap.size w w') := Lib.hid (by
    have h := mac_of [74, 101, 102, 101] ([119, 104, 97, 116, 32, 100, 111, 32, 121, 97, 32, 119, 97, 110, 116, 32] ++ [102, 111, 114, 32, 110, 111, 116, 104, 105, 110, 103, 63]) (.slice (some ⟨w.heap.size, 0, none⟩) 2 2) (w.alloc (.cells #[.string ⟨#[119, 104, 97, 116, 32, 100, 111, 32, 121, 97, 32, 119, 97, 110, 116, 32]⟩, .string ⟨#[102, 111, 114, 32, 110, 111, 116, 104, 105, 110, 103, 63]⟩] 9)) (by decide) (by decide) (Lib.hid fun W' hW' => join_new [⟨#[119, 104, 97, 116, 32, 100, 111, 32, 121, 97, 32, 119, 97, 110, 116, 32]⟩, ⟨#[102, 111, 114, 32, 110, 111, 116, 104, 105, 110, 103, 63]⟩] _ rfl 2 rfl (by omega) _ (cat_2 [119, 104, 97, 116, 32, 100, 111, 32, 121, 97, 32, 119, 97, 110, 116, 32] [102, 111, 114, 32, 110, 111, 116, 104, 105, 110, 103, 63]) (by decide) w W' w.heap.size rfl hW')
    rw [jefe] at h
    exact h.mono (by rintro e w' ⟨h1, h2⟩; exact ⟨h1, ((Below.refl _ _).alloc (Nat.le_refl _) _).trans (h2.mono (by simp))⟩))
  have CH : Hid (∀ W : World, Calls Try.prog 33 #[.string ⟨#[91, 220, 193, 70, 191, 96, 117, 78, 106, 4, 36, 38, 8, 149, 117, 199, 90, 0, 63, 8, 157, 39, 57, 131, 157, 236, 88, 185, 100, 236, 56, 67]⟩] W fun e w' => e = .returned (.string ⟨#[53, 98, 100, 99, 99, 49, 52, 54, 98, 102, 54, 48, 55, 53, 52, 101, 54, 97, 48, 52, 50, 52, 50, 54, 48, 56, 57, 53, 55, 53, 99, 55, 53, 97, 48, 48, 51, 102, 48, 56, 57, 100, 50, 55, 51, 57, 56, 51, 57, 100, 101, 99, 53, 56, 98, 57, 54, 52, 101, 99, 51, 56, 52, 51]⟩) ∧ Below W.heap.size W w') := Lib.hid (fun W => by
    have h := hex_any ⟨#[91, 220, 193, 70, 191, 96, 117, 78, 106, 4, 36, 38, 8, 149, 117, 199, 90, 0, 63, 8, 157, 39, 57, 131, 157, 236, 88, 185, 100, 236, 56, 67]⟩ W (by decide)
    rw [show (⟨#[91, 220, 193, 70, 191, 96, 117, 78, 106, 4, 36, 38, 8, 149, 117, 199, 90, 0, 63, 8, 157, 39, 57, 131, 157, 236, 88, 185, 100, 236, 56, 67]⟩ : ByteArray).data.toList = [91, 220, 193, 70, 191, 96, 117, 78, 106, 4, 36, 38, 8, 149, 117, 199, 90, 0, 63, 8, 157, 39, 57, 131, 157, 236, 88, 185, 100, 236, 56, 67] from rfl, jefe_hex] at h
    exact h)
  have CN := Lib.hid (fun W => next_any [120] W (by decide))
  obtain ⟨n, hn⟩ : ∃ n : ByteArray, ⟨(nxt [120]).toArray⟩ = n := ⟨_, rfl⟩
  have hnl : n.size = 32 := by rw [← hn]; exact lab_len _ _ _ _ _
  rw [hn] at CN
  have CN2 : Hid (∀ W : World, Calls Try.prog 29 #[.string ⟨#[120]⟩] W fun e w' => e = .returned (.string n) ∧ Below W.heap.size W w') := CN
  clear hn CN
  go_enter Try.func16, Try.ntmps16
  go_wp2_with fail
  with_reducible refine CM.out.mono ?_
  rintro e w1 ⟨rfl, hb⟩
  have HB1 := Lib.hid hb
  clear hb
  go_wp2_with fail
  with_reducible refine (CH.out _).mono ?_
  rintro e w2 ⟨rfl, hb⟩
  have HB2 := Lib.hid (HB1.out.trans (hb.mono HB1.out.size))
  clear hb
  go_wp2_with fail
  with_reducible refine (CN2.out _).mono ?_
  rintro e w3 ⟨rfl, hb⟩
  have HB3 := Lib.hid (HB2.out.trans (hb.mono HB2.out.size))
  clear hb
  go_wp2
  go_ret
  exact ⟨rfl, HB3.out⟩
set_option maxHeartbeats 4000000 in
theorem begins_any (k info : List UInt8) (a b : Int) (w : World) (ha : 0 ≤ a) (ha2 : a ≤ 255) (hb : 0 ≤ b) (hb2 : b ≤ 255) :
    Calls Try.prog 6 #[.string ⟨k.toArray⟩, .string ⟨info.toArray⟩, .int .u8 a, .int .u8 b] w fun e w' => e = .returned (.bool true) ∧ Below w.heap.size w w' := by
  have hks : (⟨k.toArray⟩ : ByteArray).size = k.length := rfl
  have his : (⟨info.toArray⟩ : ByteArray).size = info.length := rfl
  by_cases hg : k.length ≤ 100 ∧ info.length ≤ 100
  · obtain ⟨hk, hi⟩ := hg
    have hki : (k.length : Int) ≤ 100 := by omega
    have hii : (info.length : Int) ≤ 100 := by omega
    obtain ⟨n, hn⟩ : ∃ n : Nat, a % 120 = (n : Int) := ⟨(a % 120).toNat, by omega⟩
    obtain ⟨d, hd⟩ : ∃ d : Nat, b % 60 = (d : Int) := ⟨(b % 60).toNat, by omega⟩
    have hn' : a.tmod 120 = (n : Int) := by rw [Int.tmod_eq_emod_of_nonneg ha]; exact hn
    have hd' : b.tmod 60 = (d : Int) := by rw [Int.tmod_eq_emod_of_nonneg hb]; exact hd
    have hn1 : n < 120 := by omega
    have hd1 : d < 60 := by omega
    obtain ⟨m, hm⟩ : ∃ m, n + d = m := ⟨_, rfl⟩
    have hmi : (n : Int) + (d : Int) = (m : Int) := by omega
    have hm1 : m < 180 := by omega
    have C1 := Lib.hid (fun W => expand_any k info n W (by omega) (by omega))
    have C2 := Lib.hid (fun W => expand_any k info m W (by omega) (by omega))
    have E1 : Hid (exP k info n = .returned (.tuple #[.string ⟨(exq (ko k) (ki k) info n).toArray⟩, .int .i64 0])) := Lib.hid (by unfold exP; rw [if_pos (by omega)]; rfl)
    have E2 : Hid (exP k info m = .returned (.tuple #[.string ⟨(exq (ko k) (ki k) info m).toArray⟩, .int .i64 0])) := Lib.hid (by unfold exP; rw [if_pos (by omega)]; rfl)
    obtain ⟨S, hS⟩ : ∃ S : ByteArray, ⟨(exq (ko k) (ki k) info n).toArray⟩ = S := ⟨_, rfl⟩
    obtain ⟨T, hT⟩ : ∃ T : ByteArray, ⟨(exq (ko k) (ki k) info m).toArray⟩ = T := ⟨_, rfl⟩
    have hSn : S.size = n := by rw [← hS]; exact exq_len _ _ _ _
    have hTm : T.size = m := by rw [← hT]; exact exq_len _ _ _ _
    have hTS : T.extract 0 n = S := by rw [← hT, ← hS, sv_to, ← hm, exq_begins]
    rw [hS] at E1
    rw [hT] at E2
    rw [E1.out] at C1
    rw [E2.out] at C2
    have hnm : (n : Int) ≤ (m : Int) := by omega
    clear hS hT hm E1 E2 hk hi
    go_enter Try.func6, Try.ntmps6
    go_wp2_with fail
    with_reducible refine (shown8 _).mono ?_
    rintro e w1 ⟨rfl, hb⟩
    have HB1 := Lib.hid hb
    clear hb
    go_wp2_with fail
    with_reducible refine (C1.out _).mono ?_
    rintro e w2 ⟨rfl, hb⟩
    have HB2 := Lib.hid (HB1.out.trans (hb.mono HB1.out.size))
    clear hb
    go_wp2_with fail
    with_reducible refine (C2.out _).mono ?_
    rintro e w3 ⟨rfl, hb⟩
    have HB3 := Lib.hid (HB2.out.trans (hb.mono HB2.out.size))
    clear hb
    go_wp2
    go_ret
    exact ⟨rfl, HB3.out⟩
  · by_cases hk : k.length ≤ 100
    · have hki : (k.length : Int) ≤ 100 := by omega
      have hii : ¬ (info.length : Int) ≤ 100 := by omega
      go_enter Try.func6, Try.ntmps6
      go_wp2_with fail
      with_reducible refine (shown8 _).mono ?_
      rintro e w1 ⟨rfl, hb⟩
      have HB1 := Lib.hid hb
      clear hb
      go_wp2
      go_ret
      exact ⟨rfl, HB1.out⟩
    · have hki : ¬ (k.length : Int) ≤ 100 := by omega
      go_enter Try.func6, Try.ntmps6
      go_wp2_with fail
      with_reducible refine (shown8 _).mono ?_
      rintro e w1 ⟨rfl, hb⟩
      have HB1 := Lib.hid hb
      clear hb
      go_wp2
      go_ret
      exact ⟨rfl, HB1.out⟩
theorem law_begins (k info : ByteArray) (a b : Int) (w : World) (w0 : k.size ≤ maxLen) (w1 : info.size ≤ maxLen) (w2 : (Lit.int .u8 a).wf = true) (w3 : (Lit.int .u8 b).wf = true) :
    Calls Try.prog 6 #[.string k, .string info, .int .u8 a, .int .u8 b] w fun e w' => e = .returned (.bool true) ∧ Below w.heap.size w w' :=
  begins_any k.data.toList info.data.toList a b w (bounds_u8 w2).1 (bounds_u8 w2).2 (bounds_u8 w3).1 (bounds_u8 w3).2
end Go.Proofs.Ythjphechdhbenaa.Kd
