/- The law KdfLengths, walked. -/
import Derived.Test.YthjphechdhbenaaKdBegins
import Derived.Test.YthjphechdhbenaaKdLengthsP
import Derived.BigGuard
namespace Go.Proofs.Ythjphechdhbenaa.Kd
set_option maxRecDepth 20000
open Go.RowKit
open Go.Proofs.Ythjphechdhbenaa.Dg
set_option linter.unusedVariables false
set_option linter.unusedSimpArgs false

set_option maxHeartbeats 8000000 in
theorem lengths_any (k label : List UInt8) (n : Int) (w : World) :
    Calls Try.prog 8 #[.string ⟨k.toArray⟩, .string ⟨label.toArray⟩, .int .i64 n] w fun e w' => e = .returned (.bool true) ∧ Below w.heap.size w w' := by
  obtain ⟨ks, hks0⟩ : ∃ ks : ByteArray, ⟨k.toArray⟩ = ks := ⟨_, rfl⟩
  obtain ⟨ls, hls0⟩ : ∃ ls : ByteArray, ⟨label.toArray⟩ = ls := ⟨_, rfl⟩
  have hks : ks.size = k.length := by rw [← hks0]; rfl
  have hls : ls.size = label.length := by rw [← hls0]; rfl
  rw [hks0, hls0]
  by_cases hk : k.length ≤ 100
  rotate_left
  · have hki : ¬ (k.length : Int) ≤ 100 := by omega
    clear hks0 hls0
    go_enter Try.func8, Try.ntmps8
    go_wp2_with fail
    with_reducible refine (shown8 _).mono ?_
    rintro e w1 ⟨rfl, hb⟩
    have HB1 := Lib.hid hb
    clear hb
    go_wp2
    go_ret
    exact ⟨rfl, HB1.out⟩
  have hki : (k.length : Int) ≤ 100 := by omega
  by_cases hl : label.length ≤ 300
  rotate_left
  · have hli : ¬ (label.length : Int) ≤ 300 := by omega
    clear hks0 hls0
    go_enter Try.func8, Try.ntmps8
    go_wp2_with fail
    with_reducible refine (shown8 _).mono ?_
    rintro e w1 ⟨rfl, hb⟩
    have HB1 := Lib.hid hb
    clear hb
    go_wp2
    go_ret
    exact ⟨rfl, HB1.out⟩
  have hli : (label.length : Int) ≤ 300 := by omega
  by_cases hn : 500 < n ∧ n ≤ 8160
  · obtain ⟨n1, n2⟩ := hn
    clear hks0 hls0
    go_enter Try.func8, Try.ntmps8
    go_wp2_with fail
    with_reducible refine (shown8 _).mono ?_
    rintro e w1 ⟨rfl, hb⟩
    have HB1 := Lib.hid hb
    clear hb
    go_wp2
    go_ret
    exact ⟨rfl, HB1.out⟩
  have hki2 : ¬ (100 : Int) < (k.length : Int) := by omega
  have hli2 : ¬ (300 : Int) < (label.length : Int) := by omega
  have C3 := Lib.hid (fun W => of_any k W (by omega))
  have C4 := Lib.hid (fun W => reset_any k label W (by omega) (by omega))
  obtain ⟨K1, hK1⟩ : ∃ K1 : ByteArray, ⟨(kKey k).toArray⟩ = K1 := ⟨_, rfl⟩
  obtain ⟨K2, hK2⟩ : ∃ K2 : ByteArray, ⟨(kIv k).toArray⟩ = K2 := ⟨_, rfl⟩
  obtain ⟨K3, hK3⟩ : ∃ K3 : ByteArray, ⟨(kMask k).toArray⟩ = K3 := ⟨_, rfl⟩
  obtain ⟨R, hR⟩ : ∃ R : ByteArray, ⟨((mac k label).take 16).toArray⟩ = R := ⟨_, rfl⟩
  have z1 : K1.size = 32 := by rw [← hK1]; exact lab_len _ _ _ _ _
  have z2 : K2.size = 12 := by rw [← hK2]; exact lab_len _ _ _ _ _
  have z3 : K3.size = 32 := by rw [← hK3]; exact lab_len _ _ _ _ _
  have z4 : R.size = 16 := by
    rw [← hR]
    show ((mac k label).take 16).length = 16
    rw [List.length_take, mac_len]
    rfl
  rw [hK1, hK2, hK3, hks0] at C3
  rw [hR, hks0, hls0] at C4
  clear hK1 hK2 hK3 hR
  have C1 := Lib.hid (fun W => expand_any k label n W (by omega) (by omega))
  have C2 := Lib.hid (fun W => label_any k label [] n W (by omega) (by omega) (by decide))
  rw [hks0, hls0] at C1 C2
  by_cases hg : 0 ≤ n ∧ n ≤ 500
  · obtain ⟨m, rfl⟩ : ∃ m : Nat, n = (m : Int) := ⟨n.toNat, by omega⟩
    have hm : m ≤ 500 := by omega
    have hmi : (m : Int) ≤ 500 := by omega
    have hmi2 : ¬ (500 : Int) < (m : Int) := by omega
    have hmi3 : (m : Int) ≤ 8160 := by omega
    have hmi4 : (0 : Int) ≤ (m : Int) := by omega
    obtain ⟨S, hS⟩ : ∃ S : ByteArray, ⟨(exq (ko k) (ki k) label m).toArray⟩ = S := ⟨_, rfl⟩
    have hSn : S.size = m := by rw [← hS]; exact exq_len _ _ _ _
    rw [exP_yes k label m (by omega), hS] at C1
    clear hS hg hn
    by_cases hl2 : label.length ≤ 249
    · have hl2i : (label.length : Int) ≤ 249 := by omega
      obtain ⟨T, hT⟩ : ∃ T : ByteArray, ⟨(lab (ko k) (ki k) label [] m).toArray⟩ = T := ⟨_, rfl⟩
      have hTn : T.size = m := by rw [← hT]; exact lab_len _ _ _ _ _
      rw [lbP_yes k label [] m (by omega) hl2 (by decide), hT] at C2
      have C2' : Hid (∀ W : World, Calls Try.prog 23 #[.string ks, .string ls, .string ⟨#[]⟩, .int .i64 m] W fun e w' => e = .returned (.tuple #[.string T, .int .i64 0]) ∧ Below W.heap.size W w') := C2
      clear hT C2 hks0 hls0 hl hk hm
      have C2 := C2'
      clear C2'
      go_enter Try.func8, Try.ntmps8
      go_wp2_with fail
      with_reducible refine (shown8 _).mono ?_
      rintro e w1 ⟨rfl, hb⟩
      have HB1 := Lib.hid hb
      clear hb
      go_wp2_with fail
      with_reducible refine (C1.out _).mono ?_
      rintro e w2 ⟨rfl, hb⟩
      have HB2 := Lib.hid (HB1.out.trans (hb.mono HB1.out.size))
      clear hb
      go_wp2_with fail
      with_reducible refine (C2.out _).mono ?_
      rintro e w3 ⟨rfl, hb⟩
      have HB3 := Lib.hid (HB2.out.trans (hb.mono HB2.out.size))
      clear hb
      go_wp2_with fail
      with_reducible refine (C3.out _).mono ?_
      rintro e w4 ⟨rfl, hb⟩
      have HB4 := Lib.hid (HB3.out.trans (hb.mono HB3.out.size))
      have HB5 := Lib.hid (HB4.out.alloc (B := w.heap.size) HB4.out.size (.cells #[.string K1, .string K2, .string K3] 41))
      clear hb
      go_upto_region 7 with (fail)
      refine wp_region_lit ?_
      simp only [List.append_eq, List.cons_append, List.nil_append]
      go_wp2_with fail
      with_reducible refine (C4.out _).mono ?_
      rintro e w6 ⟨rfl, hb⟩
      have HB6 := Lib.hid (HB5.out.trans (hb.mono HB5.out.size))
      clear hb
      go_wp2
      go_ret
      exact ⟨rfl, HB6.out⟩
    · have hl2i : ¬ (label.length : Int) ≤ 249 := by omega
      rw [lbP_no k label [] m (by omega)] at C2
      have C2' : Hid (∀ W : World, Calls Try.prog 23 #[.string ks, .string ls, .string ⟨#[]⟩, .int .i64 m] W fun e w' => e = .returned (.tuple #[.string ⟨#[]⟩, .int .i64 1]) ∧ Below W.heap.size W w') := C2
      clear C2 hks0 hls0 hl hk hm
      have C2 := C2'
      clear C2'
      go_enter Try.func8, Try.ntmps8
      go_wp2_with fail
      with_reducible refine (shown8 _).mono ?_
      rintro e w1 ⟨rfl, hb⟩
      have HB1 := Lib.hid hb
      clear hb
      go_wp2_with fail
      with_reducible refine (C1.out _).mono ?_
      rintro e w2 ⟨rfl, hb⟩
      have HB2 := Lib.hid (HB1.out.trans (hb.mono HB1.out.size))
      clear hb
      go_wp2_with fail
      with_reducible refine (C2.out _).mono ?_
      rintro e w3 ⟨rfl, hb⟩
      have HB3 := Lib.hid (HB2.out.trans (hb.mono HB2.out.size))
      clear hb
      go_wp2_with fail
      with_reducible refine (C3.out _).mono ?_
      rintro e w4 ⟨rfl, hb⟩
      have HB4 := Lib.hid (HB3.out.trans (hb.mono HB3.out.size))
      have HB5 := Lib.hid (HB4.out.alloc (B := w.heap.size) HB4.out.size (.cells #[.string K1, .string K2, .string K3] 41))
      clear hb
      go_upto_region 7 with (fail)
      refine wp_region_lit ?_
      simp only [List.append_eq, List.cons_append, List.nil_append]
      go_wp2_with fail
      with_reducible refine (C4.out _).mono ?_
      rintro e w6 ⟨rfl, hb⟩
      have HB6 := Lib.hid (HB5.out.trans (hb.mono HB5.out.size))
      clear hb
      go_wp2
      go_ret
      exact ⟨by first | rfl | (simp [hl2i]), HB6.out⟩
  · have hbad : ¬ (0 ≤ n ∧ n ≤ 8160) := by omega
    rw [exP_no k label n hbad] at C1
    rw [lbP_no k label [] n (fun h => hbad h.1)] at C2
    have C2' : Hid (∀ W : World, Calls Try.prog 23 #[.string ks, .string ls, .string ⟨#[]⟩, .int .i64 n] W fun e w' => e = .returned (.tuple #[.string ⟨#[]⟩, .int .i64 1]) ∧ Below W.heap.size W w') := C2
    clear C2 hks0 hls0 hl hk
    have C2 := C2'
    clear C2' hg
    by_cases h0 : 0 ≤ n
    · have h8 : ¬ n ≤ 8160 := by omega
      have h5 : 500 < n := by omega
      clear hn hbad
      go_enter Try.func8, Try.ntmps8
      go_wp2_with fail
      with_reducible refine (shown8 _).mono ?_
      rintro e w1 ⟨rfl, hb⟩
      have HB1 := Lib.hid hb
      clear hb
      go_wp2_with fail
      with_reducible refine (C1.out _).mono ?_
      rintro e w2 ⟨rfl, hb⟩
      have HB2 := Lib.hid (HB1.out.trans (hb.mono HB1.out.size))
      clear hb
      go_wp2_with fail
      with_reducible refine (C2.out _).mono ?_
      rintro e w3 ⟨rfl, hb⟩
      have HB3 := Lib.hid (HB2.out.trans (hb.mono HB2.out.size))
      clear hb
      go_wp2_with fail
      with_reducible refine (C3.out _).mono ?_
      rintro e w4 ⟨rfl, hb⟩
      have HB4 := Lib.hid (HB3.out.trans (hb.mono HB3.out.size))
      have HB5 := Lib.hid (HB4.out.alloc (B := w.heap.size) HB4.out.size (.cells #[.string K1, .string K2, .string K3] 41))
      clear hb
      go_upto_region 7 with (fail)
      refine wp_region_lit ?_
      simp only [List.append_eq, List.cons_append, List.nil_append]
      go_wp2_with fail
      with_reducible refine (C4.out _).mono ?_
      rintro e w6 ⟨rfl, hb⟩
      have HB6 := Lib.hid (HB5.out.trans (hb.mono HB5.out.size))
      clear hb
      go_wp2
      go_ret
      exact ⟨rfl, HB6.out⟩
    · have h5 : ¬ 500 < n := by omega
      clear hn hbad
      go_enter Try.func8, Try.ntmps8
      go_wp2_with fail
      with_reducible refine (shown8 _).mono ?_
      rintro e w1 ⟨rfl, hb⟩
      have HB1 := Lib.hid hb
      clear hb
      go_wp2_with fail
      with_reducible refine (C1.out _).mono ?_
      rintro e w2 ⟨rfl, hb⟩
      have HB2 := Lib.hid (HB1.out.trans (hb.mono HB1.out.size))
      clear hb
      go_wp2_with fail
      with_reducible refine (C2.out _).mono ?_
      rintro e w3 ⟨rfl, hb⟩
      have HB3 := Lib.hid (HB2.out.trans (hb.mono HB2.out.size))
      clear hb
      go_wp2_with fail
      with_reducible refine (C3.out _).mono ?_
      rintro e w4 ⟨rfl, hb⟩
      have HB4 := Lib.hid (HB3.out.trans (hb.mono HB3.out.size))
      have HB5 := Lib.hid (HB4.out.alloc (B := w.heap.size) HB4.out.size (.cells #[.string K1, .string K2, .string K3] 41))
      clear hb
      go_upto_region 7 with (fail)
      refine wp_region_lit ?_
      simp only [List.append_eq, List.cons_append, List.nil_append]
      go_wp2_with fail
      with_reducible refine (C4.out _).mono ?_
      rintro e w6 ⟨rfl, hb⟩
      have HB6 := Lib.hid (HB5.out.trans (hb.mono HB5.out.size))
      clear hb
      go_wp2
      go_ret
      exact ⟨rfl, HB6.out⟩
theorem law_lengths (k label : ByteArray) (n : Int) (w : World) (w0 : k.size ≤ maxLen) (w1 : label.size ≤ maxLen) (w2 : (Lit.int .i64 n).wf = true) :
    Calls Try.prog 8 #[.string k, .string label, .int .i64 n] w fun e w' => e = .returned (.bool true) ∧ Below w.heap.size w w' :=
  lengths_any k.data.toList label.data.toList n w
end Go.Proofs.Ythjphechdhbenaa.Kd
