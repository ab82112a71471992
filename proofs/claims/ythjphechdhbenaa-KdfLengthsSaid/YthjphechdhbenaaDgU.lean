/- The walks of layer 7: the document's powers, words turned, Join; what is bounded. -/
import Derived.Test.YthjphechdhbenaaDgO
namespace Go.Proofs.Ythjphechdhbenaa.Dg
set_option maxRecDepth 20000
open Go.RowKit
set_option linter.unusedVariables false
set_option linter.unusedSimpArgs false

theorem pow_step (k : Nat) (hk : k ≤ 62) : ((2 ^ k : Nat) : Int) * 2 = ((2 ^ (k + 1) : Nat) : Int) := by rw [Nat.pow_succ]; push_cast; rfl
theorem pow_le (k : Nat) (hk : k ≤ 62) : ((2 ^ k : Nat) : Int) ≤ 4611686018427387904 := by
  have : 2 ^ k ≤ 2 ^ 62 := Nat.pow_le_pow_right (by decide) hk
  omega
set_option maxHeartbeats 1000000 in
theorem power_ref (n : Nat) (w : World) (hn : n ≤ 63) : Calls Try.prog 42 #[.int .i64 n] w fun e w' => e = .returned (.int .u64 (2 ^ n : Nat)) ∧ w' = w := by
  go_enter Try.func42, Try.ntmps42
  go_wp2
  go_loop [3, 4] (fun x i => ∃ k : Nat, k ≤ n ∧ i = .int .i64 k ∧ x = .int .u64 (2 ^ k : Nat)) (fun _ i => n - (intOf i).toNat)
  case atStart => exact ⟨0, Nat.zero_le _, rfl, rfl⟩
  case round =>
    obtain ⟨k, hk, rfl, rfl⟩ := hrel
    by_cases hlt : k < n
    · have hp := pow_le k (by omega)
      have hp0 : (1 : Int) ≤ ((2 ^ k : Nat) : Int) := by have := Nat.one_le_two_pow (n := k); omega
      have HS := Lib.hid (pow_step k (by omega))
      obtain ⟨K, hK⟩ : ∃ K : Nat, 2 ^ k = K := ⟨_, rfl⟩
      rw [hK] at hp hp0 HS ⊢
      clear hK
      go_wp2
      go_round
      case rel => exact ⟨k + 1, by omega, by go_num, by rw [← HS.out]⟩
      case measure => simp [intOf]; omega
    · obtain rfl : k = n := by omega
      go_wp2
      go_ret
      exact ⟨rfl, rfl⟩
set_option maxHeartbeats 2000000 in
theorem turn_ref (x n : Nat) (w : World) (hx : x < 4294967296) (h1 : 1 ≤ n) (h2 : n ≤ 31) : Calls Try.prog 65 #[.int .u64 x, .int .i64 n] w fun e w' => e = .returned (.int .u64 (rr x n : Nat)) ∧ ∃ m, w' = w.drewN m := by
  obtain ⟨m, hm⟩ : ∃ m, 32 - n = m := ⟨_, rfl⟩
  have CA := Lib.hid (fun w => power_ref n w (by omega))
  have CB := Lib.hid (fun w => power_ref m w (by omega))
  have hr := rr_lt hx (show n ≤ 32 by omega)
  obtain ⟨R, hR⟩ : ∃ R, rr x n = R := ⟨_, rfl⟩
  rw [hR] at hr ⊢
  unfold rr at hR
  rw [hm] at hR
  have hA0 : 1 ≤ 2 ^ n := Nat.one_le_two_pow
  generalize 2 ^ n = A at *
  generalize 2 ^ m = B at *
  obtain ⟨d, hd⟩ : ∃ d, x / A = d := ⟨_, rfl⟩
  obtain ⟨r, hr2⟩ : ∃ r, x % A = r := ⟨_, rfl⟩
  obtain ⟨M, hM⟩ : ∃ M, r * B = M := ⟨_, rfl⟩
  rw [hd, hr2, hM] at hR
  have e0 : IntKind.i64.wrap ((32 : Int) - (n : Int)) = (m : Int) := by rw [IntWalk.i64_in _ (by omega)]; omega
  have e0' : (32 : Int) - (n : Int) = (m : Int) := by omega
  have e1 : (x : Int) / (A : Int) = (d : Int) := by rw [← hd]; push_cast; rfl
  have e1' : (x : Int).tdiv (A : Int) = (d : Int) := by rw [Int.tdiv_eq_ediv_of_nonneg (by omega)]; exact e1
  have e2 : (x : Int) % (A : Int) = (r : Int) := by rw [← hr2]; push_cast; rfl
  have e2' : (x : Int).tmod (A : Int) = (r : Int) := by rw [Int.tmod_eq_emod_of_nonneg (by omega)]; exact e2
  have e3 : (r : Int) * (B : Int) = (M : Int) := by rw [← hM]; push_cast; rfl
  have e3' : IntKind.u64.wrap (M : Int) = (M : Int) := by rw [IntKind.wrap_u64]; omega
  have e4 : IntKind.u64.wrap ((d : Int) + (M : Int)) = (R : Int) := by rw [IntKind.wrap_u64]; omega
  have e5 : IntKind.u64.wrap (d : Int) = (d : Int) := by rw [IntKind.wrap_u64]; omega
  have hA : ((A : Int) == 0) = false := by rw [beq_eq_false_iff_ne]; omega
  have hA1 : (1 : Int) ≤ (A : Int) := by omega
  have hx1 : (x : Int) ≤ 4294967295 := by omega
  clear hd hr2 hM hx hr hR hA0 hm
  go_enter Try.func65, Try.ntmps65
  go_wp2
  go_quiet (first | (go_at_call 42; with_reducible exact Calls.quiet_of_same (CA.out _)) | (go_at_call 42; with_reducible exact Calls.quiet_of_same (CB.out _)))
  go_wp2
  go_ret
  exact ⟨rfl, _, rfl⟩
theorem app_list (a : List UInt8) (s : ByteArray) : ((⟨a.toArray⟩ : ByteArray) ++ s) = ⟨(a ++ s.data.toList).toArray⟩ := by
  apply ByteArray.ext
  simp
theorem cat_take (xs : List ByteArray) (k : Nat) (s : ByteArray) (h : xs[k]? = some s) : cat (xs.take (k + 1)) = cat (xs.take k) ++ s.data.toList := by
  obtain ⟨h1, e1⟩ := List.getElem?_eq_some_iff.1 h
  unfold cat
  rw [List.take_succ_eq_append_getElem h1, e1]
  simp only [List.map_append, List.flatten_append, List.map_cons, List.map_nil, List.flatten_cons, List.flatten_nil, List.append_nil]
theorem cat_le (xs : List ByteArray) (k : Nat) : (cat (xs.take k)).length ≤ (cat xs).length := by
  have : cat xs = cat (xs.take k) ++ cat (xs.drop k) := by
    unfold cat
    rw [← List.flatten_append, ← List.map_append, List.take_append_drop]
  rw [this, List.length_append]
  omega
set_option maxHeartbeats 2000000 in
theorem join_ref (b o c : Nat) (xs : List ByteArray) (w : World) (hr : RowS w b o xs) (hn : xs.length ≤ 100000) (hl : (cat xs).length ≤ 100000) :
    Calls Try.prog 14 #[.slice (some ⟨b, o, none⟩) xs.length c] w fun e w' => e = .returned (.string ⟨(cat xs).toArray⟩) ∧ w' = w := by
  have HR := Lib.hid hr
  have HL := Lib.hid hl
  have hni : (xs.length : Int) ≤ 100000 := by omega
  clear hr hl hn
  go_enter Try.func14, Try.ntmps14
  go_wp2
  go_loop [3, 4] (fun x i => ∃ k : Nat, k ≤ xs.length ∧ i = .int .i64 k ∧ x = .string ⟨(cat (xs.take k)).toArray⟩) (fun _ i => xs.length - (intOf i).toNat)
  case atStart => exact ⟨0, Nat.zero_le _, rfl, rfl⟩
  case round =>
    obtain ⟨k, hk, rfl, rfl⟩ := hrel
    by_cases hlt : k < xs.length
    · obtain ⟨s, hs⟩ : ∃ s, xs[k]? = some s := ⟨_, List.getElem?_eq_getElem hlt⟩
      have hc := HR.out.2 k s hs
      have HT := Lib.hid (cat_take xs k s hs)
      have h1 := cat_le xs k
      have h2 := cat_le xs (k + 1)
      rw [HT.out, List.length_append] at h2
      have h3 : s.data.toList.length = s.size := by simp
      have HA := Lib.hid (app_list (cat (xs.take k)) s)
      have hsz : (⟨(cat (xs.take k)).toArray⟩ : ByteArray).size = (cat (xs.take k)).length := rfl
      have g1 : ¬ 9223372036854775807 < (cat (xs.take k)).length + s.size := by have := HL.out; omega
      clear hs h1 h2 h3 hsz
      go_wp2
      go_round
      case rel => exact ⟨k + 1, by omega, by go_num, by rw [HT.out, ← HA.out]⟩
      case measure => simp [intOf]; omega
    · obtain rfl : k = xs.length := by omega
      rw [List.take_length]
      go_wp2
      go_ret
      exact ⟨rfl, rfl⟩
end Go.Proofs.Ythjphechdhbenaa.Dg
