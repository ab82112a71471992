/- The document's functions of layer 6: in, shape, May of a set. By tools/gen-frame-30.py. -/
import Derived.Test.YtpdfdhmhfdogcaaDoorFpM
import Derived.Deep.QuietTactic
import Derived.BigQuiet
namespace Go.Proofs.YtpdfdhmhfdogcaaDoor.Fm
set_option maxRecDepth 20000
open Go.RowKit Vm
set_option linter.unusedVariables false
set_option linter.unusedSimpArgs false

theorem take_has {l : List UInt8} {k : Nat} (h : k < l.length) (c : UInt8) : (l.take (k + 1)).contains c = ((l.take k).contains c || l[k] == c) := by
  rw [List.take_add_one, List.getElem?_eq_getElem h]
  simp only [Option.toList_some, List.contains_append, List.contains_cons, List.contains_nil, Bool.or_false]
  rw [Bool.beq_comm]
set_option maxHeartbeats 1000000 in
theorem in_any (l : List UInt8) (c : UInt8) (w : World) (hl : l.length ≤ 1000) : Calls Tryd.prog 33 #[.string ⟨l.toArray⟩, .int .u8 c.toNat] w fun e w' => e = .returned (.bool (l.contains c)) ∧ w' = w := by
  obtain ⟨n, hn⟩ : ∃ n, l.length = n := ⟨_, rfl⟩
  have HN := Lib.hid hn
  have hsz : (⟨l.toArray⟩ : ByteArray).size = n := hn
  have hn1 : n ≤ 1000 := by omega
  obtain ⟨R, hR⟩ : ∃ R, l.contains c = R := ⟨_, rfl⟩
  have HR := Lib.hid hR
  rw [hR]
  clear hR
  go_enter Tryd.func33, Tryd.ntmps33
  go_wp2
  go_loop [5] (fun i => ∃ k : Nat, k ≤ n ∧ i = .int .i64 k ∧ Hid ((l.take k).contains c = false)) (fun i => n - (intOf i).toNat)
  case atStart => exact ⟨0, Nat.zero_le _, rfl, Lib.hid rfl⟩
  case round =>
    obtain ⟨k, hk, rfl, hno⟩ := hrel
    by_cases hlt : k < n
    · have hk2 : k < l.length := by omega
      obtain ⟨b, hb⟩ : ∃ b, l[k] = b := ⟨_, rfl⟩
      have hbt := b.toNat_lt
      have hct := c.toNat_lt
      have hget : (⟨l.toArray⟩ : ByteArray)[k]'(by rw [hsz]; exact hlt) = b := hb
      have hs := take_has hk2 c
      rw [hno.out, hb, Bool.false_or] at hs
      by_cases hbc : b = c
      · have e1 : ((b.toNat : Int) == (c.toNat : Int)) = true := by rw [hbc]; simp
        have HY : Hid (R = true) := Lib.hid (by
          rw [← HR.out, List.contains_iff_mem]
          exact hbc ▸ hb ▸ List.getElem_mem hk2)
        clear hno hs hb
        go_wp2
        go_ret
        exact ⟨by rw [HY.out]; rfl, rfl⟩
      · have hne : b.toNat ≠ c.toNat := fun h => hbc (UInt8.toNat_inj.1 h)
        have e1 : ((b.toNat : Int) == (c.toNat : Int)) = false := beq_eq_false_iff_ne.2 (by omega)
        have HS : Hid ((l.take (k + 1)).contains c = false) := Lib.hid (by rw [hs]; exact beq_eq_false_iff_ne.2 hbc)
        clear hno hs hb hbc
        go_wp2
        go_round
        case rel => exact ⟨k + 1, by omega, by go_num, HS⟩
        case measure => simp [intOf]; omega
    · have HY : Hid (R = false) := Lib.hid (by
        have h2 := hno.out
        rwa [List.take_of_length_le (by omega), HR.out] at h2)
      clear hno
      go_wp2
      go_ret
      exact ⟨by rw [HY.out]; rfl, rfl⟩
set_option maxHeartbeats 1000000 in
theorem shape_0 (w : World) : Calls Tryd.prog 32 #[.int .u64 0] w fun e w' => e = .returned (.string ⟨#[45]⟩) ∧ w' = w := by
  go_enter Tryd.func32, Tryd.ntmps32
  go_wp2
  go_ret
  exact ⟨rfl, rfl⟩
set_option maxHeartbeats 1000000 in
theorem shape_1 (w : World) : Calls Tryd.prog 32 #[.int .u64 1] w fun e w' => e = .returned (.string ⟨#[45]⟩) ∧ w' = w := by
  go_enter Tryd.func32, Tryd.ntmps32
  go_wp2
  go_ret
  exact ⟨rfl, rfl⟩
set_option maxHeartbeats 1000000 in
theorem shape_2 (w : World) : Calls Tryd.prog 32 #[.int .u64 2] w fun e w' => e = .returned (.string ⟨#[101, 115]⟩) ∧ w' = w := by
  go_enter Tryd.func32, Tryd.ntmps32
  go_wp2
  go_ret
  exact ⟨rfl, rfl⟩
set_option maxHeartbeats 1000000 in
theorem shape_3 (w : World) : Calls Tryd.prog 32 #[.int .u64 3] w fun e w' => e = .returned (.string ⟨#[]⟩) ∧ w' = w := by
  go_enter Tryd.func32, Tryd.ntmps32
  go_wp2
  go_ret
  exact ⟨rfl, rfl⟩
set_option maxHeartbeats 1000000 in
theorem shape_4 (w : World) : Calls Tryd.prog 32 #[.int .u64 4] w fun e w' => e = .returned (.string ⟨#[105, 99, 109]⟩) ∧ w' = w := by
  go_enter Tryd.func32, Tryd.ntmps32
  go_wp2
  go_ret
  exact ⟨rfl, rfl⟩
set_option maxHeartbeats 1000000 in
theorem shape_5 (w : World) : Calls Tryd.prog 32 #[.int .u64 5] w fun e w' => e = .returned (.string ⟨#[105, 99]⟩) ∧ w' = w := by
  go_enter Tryd.func32, Tryd.ntmps32
  go_wp2
  go_ret
  exact ⟨rfl, rfl⟩
set_option maxHeartbeats 1000000 in
theorem shape_6 (w : World) : Calls Tryd.prog 32 #[.int .u64 6] w fun e w' => e = .returned (.string ⟨#[111, 100]⟩) ∧ w' = w := by
  go_enter Tryd.func32, Tryd.ntmps32
  go_wp2
  go_ret
  exact ⟨rfl, rfl⟩
set_option maxHeartbeats 1000000 in
theorem shape_7 (w : World) : Calls Tryd.prog 32 #[.int .u64 7] w fun e w' => e = .returned (.string ⟨#[]⟩) ∧ w' = w := by
  go_enter Tryd.func32, Tryd.ntmps32
  go_wp2
  go_ret
  exact ⟨rfl, rfl⟩
set_option maxHeartbeats 1000000 in
theorem shape_8 (w : World) : Calls Tryd.prog 32 #[.int .u64 8] w fun e w' => e = .returned (.string ⟨#[105, 111, 102, 100]⟩) ∧ w' = w := by
  go_enter Tryd.func32, Tryd.ntmps32
  go_wp2
  go_ret
  exact ⟨rfl, rfl⟩
set_option maxHeartbeats 1000000 in
theorem shape_9 (w : World) : Calls Tryd.prog 32 #[.int .u64 9] w fun e w' => e = .returned (.string ⟨#[]⟩) ∧ w' = w := by
  go_enter Tryd.func32, Tryd.ntmps32
  go_wp2
  go_ret
  exact ⟨rfl, rfl⟩
set_option maxHeartbeats 1000000 in
theorem shape_10 (w : World) : Calls Tryd.prog 32 #[.int .u64 10] w fun e w' => e = .returned (.string ⟨#[]⟩) ∧ w' = w := by
  go_enter Tryd.func32, Tryd.ntmps32
  go_wp2
  go_ret
  exact ⟨rfl, rfl⟩
set_option maxHeartbeats 1000000 in
theorem shape_11 (w : World) : Calls Tryd.prog 32 #[.int .u64 11] w fun e w' => e = .returned (.string ⟨#[]⟩) ∧ w' = w := by
  go_enter Tryd.func32, Tryd.ntmps32
  go_wp2
  go_ret
  exact ⟨rfl, rfl⟩
set_option maxHeartbeats 1000000 in
theorem shape_12 (w : World) : Calls Tryd.prog 32 #[.int .u64 12] w fun e w' => e = .returned (.string ⟨#[]⟩) ∧ w' = w := by
  go_enter Tryd.func32, Tryd.ntmps32
  go_wp2
  go_ret
  exact ⟨rfl, rfl⟩
set_option maxHeartbeats 1000000 in
theorem shape_13 (w : World) : Calls Tryd.prog 32 #[.int .u64 13] w fun e w' => e = .returned (.string ⟨#[]⟩) ∧ w' = w := by
  go_enter Tryd.func32, Tryd.ntmps32
  go_wp2
  go_ret
  exact ⟨rfl, rfl⟩
set_option maxHeartbeats 1000000 in
theorem shape_14 (w : World) : Calls Tryd.prog 32 #[.int .u64 14] w fun e w' => e = .returned (.string ⟨#[]⟩) ∧ w' = w := by
  go_enter Tryd.func32, Tryd.ntmps32
  go_wp2
  go_ret
  exact ⟨rfl, rfl⟩
set_option maxHeartbeats 1000000 in
theorem shape_15 (w : World) : Calls Tryd.prog 32 #[.int .u64 15] w fun e w' => e = .returned (.string ⟨#[]⟩) ∧ w' = w := by
  go_enter Tryd.func32, Tryd.ntmps32
  go_wp2
  go_ret
  exact ⟨rfl, rfl⟩
set_option maxHeartbeats 1000000 in
theorem shape_16 (w : World) : Calls Tryd.prog 32 #[.int .u64 16] w fun e w' => e = .returned (.string ⟨#[109]⟩) ∧ w' = w := by
  go_enter Tryd.func32, Tryd.ntmps32
  go_wp2
  go_ret
  exact ⟨rfl, rfl⟩
set_option maxHeartbeats 1000000 in
theorem shape_17 (w : World) : Calls Tryd.prog 32 #[.int .u64 17] w fun e w' => e = .returned (.string ⟨#[105, 109]⟩) ∧ w' = w := by
  go_enter Tryd.func32, Tryd.ntmps32
  go_wp2
  go_ret
  exact ⟨rfl, rfl⟩
set_option maxHeartbeats 1000000 in
theorem shape_18 (w : World) : Calls Tryd.prog 32 #[.int .u64 18] w fun e w' => e = .returned (.string ⟨#[109]⟩) ∧ w' = w := by
  go_enter Tryd.func32, Tryd.ntmps32
  go_wp2
  go_ret
  exact ⟨rfl, rfl⟩
set_option maxHeartbeats 1000000 in
theorem shape_19 (w : World) : Calls Tryd.prog 32 #[.int .u64 19] w fun e w' => e = .returned (.string ⟨#[109]⟩) ∧ w' = w := by
  go_enter Tryd.func32, Tryd.ntmps32
  go_wp2
  go_ret
  exact ⟨rfl, rfl⟩
set_option maxHeartbeats 1000000 in
theorem shape_20 (w : World) : Calls Tryd.prog 32 #[.int .u64 20] w fun e w' => e = .returned (.string ⟨#[109]⟩) ∧ w' = w := by
  go_enter Tryd.func32, Tryd.ntmps32
  go_wp2
  go_ret
  exact ⟨rfl, rfl⟩
set_option maxHeartbeats 1000000 in
theorem shape_21 (w : World) : Calls Tryd.prog 32 #[.int .u64 21] w fun e w' => e = .returned (.string ⟨#[105, 109]⟩) ∧ w' = w := by
  go_enter Tryd.func32, Tryd.ntmps32
  go_wp2
  go_ret
  exact ⟨rfl, rfl⟩
set_option maxHeartbeats 1000000 in
theorem shape_22 (w : World) : Calls Tryd.prog 32 #[.int .u64 22] w fun e w' => e = .returned (.string ⟨#[109]⟩) ∧ w' = w := by
  go_enter Tryd.func32, Tryd.ntmps32
  go_wp2
  go_ret
  exact ⟨rfl, rfl⟩
set_option maxHeartbeats 1000000 in
theorem shape_23 (w : World) : Calls Tryd.prog 32 #[.int .u64 23] w fun e w' => e = .returned (.string ⟨#[109]⟩) ∧ w' = w := by
  go_enter Tryd.func32, Tryd.ntmps32
  go_wp2
  go_ret
  exact ⟨rfl, rfl⟩
set_option maxHeartbeats 1000000 in
theorem shape_24 (w : World) : Calls Tryd.prog 32 #[.int .u64 24] w fun e w' => e = .returned (.string ⟨#[113, 112, 110, 116]⟩) ∧ w' = w := by
  go_enter Tryd.func32, Tryd.ntmps32
  go_wp2
  go_ret
  exact ⟨rfl, rfl⟩
set_option maxHeartbeats 1000000 in
theorem shape_25 (w : World) : Calls Tryd.prog 32 #[.int .u64 25] w fun e w' => e = .returned (.string ⟨#[113]⟩) ∧ w' = w := by
  go_enter Tryd.func32, Tryd.ntmps32
  go_wp2
  go_ret
  exact ⟨rfl, rfl⟩
set_option maxHeartbeats 1000000 in
theorem shape_26 (w : World) : Calls Tryd.prog 32 #[.int .u64 26] w fun e w' => e = .returned (.string ⟨#[116]⟩) ∧ w' = w := by
  go_enter Tryd.func32, Tryd.ntmps32
  go_wp2
  go_ret
  exact ⟨rfl, rfl⟩
set_option maxHeartbeats 1000000 in
theorem shape_27 (w : World) : Calls Tryd.prog 32 #[.int .u64 27] w fun e w' => e = .returned (.string ⟨#[116]⟩) ∧ w' = w := by
  go_enter Tryd.func32, Tryd.ntmps32
  go_wp2
  go_ret
  exact ⟨rfl, rfl⟩
set_option maxHeartbeats 1000000 in
theorem shape_28 (w : World) : Calls Tryd.prog 32 #[.int .u64 28] w fun e w' => e = .returned (.string ⟨#[99, 101, 100]⟩) ∧ w' = w := by
  go_enter Tryd.func32, Tryd.ntmps32
  go_wp2
  go_ret
  exact ⟨rfl, rfl⟩
set_option maxHeartbeats 1000000 in
theorem shape_29 (w : World) : Calls Tryd.prog 32 #[.int .u64 29] w fun e w' => e = .returned (.string ⟨#[99, 100]⟩) ∧ w' = w := by
  go_enter Tryd.func32, Tryd.ntmps32
  go_wp2
  go_ret
  exact ⟨rfl, rfl⟩
set_option maxHeartbeats 1000000 in
theorem shape_30 (w : World) : Calls Tryd.prog 32 #[.int .u64 30] w fun e w' => e = .returned (.string ⟨#[45]⟩) ∧ w' = w := by
  go_enter Tryd.func32, Tryd.ntmps32
  go_wp2
  go_ret
  exact ⟨rfl, rfl⟩
set_option maxHeartbeats 2000000 in
theorem shape_big (n : Int) (h : 31 ≤ n) (w : World) : Calls Tryd.prog 32 #[.int .u64 n] w fun e w' => e = .returned (.string ⟨#[]⟩) ∧ w' = w := by
  have e0 : (n == 0) = false := beq_eq_false_iff_ne.2 (by omega)
  have e1 : (n == 1) = false := beq_eq_false_iff_ne.2 (by omega)
  have e2 : (n == 2) = false := beq_eq_false_iff_ne.2 (by omega)
  have e4 : (n == 4) = false := beq_eq_false_iff_ne.2 (by omega)
  have e5 : (n == 5) = false := beq_eq_false_iff_ne.2 (by omega)
  have e6 : (n == 6) = false := beq_eq_false_iff_ne.2 (by omega)
  have e8 : (n == 8) = false := beq_eq_false_iff_ne.2 (by omega)
  have e16 : (n == 16) = false := beq_eq_false_iff_ne.2 (by omega)
  have e17 : (n == 17) = false := beq_eq_false_iff_ne.2 (by omega)
  have e18 : (n == 18) = false := beq_eq_false_iff_ne.2 (by omega)
  have e19 : (n == 19) = false := beq_eq_false_iff_ne.2 (by omega)
  have e20 : (n == 20) = false := beq_eq_false_iff_ne.2 (by omega)
  have e21 : (n == 21) = false := beq_eq_false_iff_ne.2 (by omega)
  have e22 : (n == 22) = false := beq_eq_false_iff_ne.2 (by omega)
  have e23 : (n == 23) = false := beq_eq_false_iff_ne.2 (by omega)
  have e24 : (n == 24) = false := beq_eq_false_iff_ne.2 (by omega)
  have e25 : (n == 25) = false := beq_eq_false_iff_ne.2 (by omega)
  have e26 : (n == 26) = false := beq_eq_false_iff_ne.2 (by omega)
  have e27 : (n == 27) = false := beq_eq_false_iff_ne.2 (by omega)
  have e28 : (n == 28) = false := beq_eq_false_iff_ne.2 (by omega)
  have e29 : (n == 29) = false := beq_eq_false_iff_ne.2 (by omega)
  have e30 : (n == 30) = false := beq_eq_false_iff_ne.2 (by omega)
  clear h
  go_enter Tryd.func32, Tryd.ntmps32
  go_wp2
  go_ret
  exact ⟨rfl, rfl⟩
theorem shape_any (k : Nat) (w : World) : Calls Tryd.prog 32 #[.int .u64 (k : Nat)] w fun e w' => e = .returned (.string ⟨(shpN k).toArray⟩) ∧ w' = w := by
  match k with
  | 0 => exact shape_0 w
  | 1 => exact shape_1 w
  | 2 => exact shape_2 w
  | 3 => exact shape_3 w
  | 4 => exact shape_4 w
  | 5 => exact shape_5 w
  | 6 => exact shape_6 w
  | 7 => exact shape_7 w
  | 8 => exact shape_8 w
  | 9 => exact shape_9 w
  | 10 => exact shape_10 w
  | 11 => exact shape_11 w
  | 12 => exact shape_12 w
  | 13 => exact shape_13 w
  | 14 => exact shape_14 w
  | 15 => exact shape_15 w
  | 16 => exact shape_16 w
  | 17 => exact shape_17 w
  | 18 => exact shape_18 w
  | 19 => exact shape_19 w
  | 20 => exact shape_20 w
  | 21 => exact shape_21 w
  | 22 => exact shape_22 w
  | 23 => exact shape_23 w
  | 24 => exact shape_24 w
  | 25 => exact shape_25 w
  | 26 => exact shape_26 w
  | 27 => exact shape_27 w
  | 28 => exact shape_28 w
  | 29 => exact shape_29 w
  | 30 => exact shape_30 w
  | k + 31 =>
    rw [shp_big (by omega)]
    exact shape_big _ (by omega) w
set_option maxHeartbeats 1000000 in
theorem rmay_nil (a : Option Addr) (cap : Nat) (w : World) : Calls Tryd.prog 34 #[.slice a 0 cap] w fun e w' => e = .returned (.bool true) ∧ Below w.heap.size w w' := by
  go_enter Tryd.func34, Tryd.ntmps34
  go_wp2
  refine wp_loop_rounds 1 ?_
  rw [rounds_succ]
  go_wp2
  go_ret
  exact ⟨rfl, Below.refl _ _⟩

set_option maxHeartbeats 4000000 in
theorem rmay_row (b off n cap : Nat) (l : List Ran) (hln : l.length = n) (hl : n ≤ 1000) (w : World)
    (hc : ∀ i, i < n → w.cell? ⟨b, off + i * 2, none⟩ = some (.int .u64 (l.getD i (0, 0)).1) ∧ w.cell? ⟨b, off + i * 2 + 1, none⟩ = some (.int .u64 (l.getD i (0, 0)).2))
    (hu : ∀ x ∈ l, 0 ≤ x.1 ∧ 0 ≤ x.2) :
    Calls Tryd.prog 34 #[.slice (some ⟨b, off, none⟩) n cap] w fun e w' => e = .returned (.bool (mayB l)) ∧ Below w.heap.size w w' := by
  have HC := Lib.hid hc
  have HU := Lib.hid hu
  clear hc hu
  go_enter Tryd.func34, Tryd.ntmps34
  go_wp2
  go_loopw [3] (fun iv wr => ∃ k m : Nat, k ≤ n ∧ iv = .int .i64 k ∧ Hid (MayTo l k) ∧ wr = w.drewN m) (fun iv _ => n - (intOf iv).toNat)
  case atStart => exact ⟨0, 0, Nat.zero_le _, rfl, Lib.hid (fun i hi => by omega), rfl⟩
  case round =>
    obtain ⟨k, m, hk, rfl, HM, rfl⟩ := hrel
    by_cases hlt : k < n
    · obtain ⟨hc1, hc2⟩ := HC.out k hlt
      have hux := HU.out (l.getD k (0, 0)) (by rw [getD_get (by omega)]; exact List.getElem_mem _)
      have hux1 := hux.1
      have hux2 := hux.2
      obtain ⟨x, hx⟩ : ∃ x, l.getD k (0, 0) = x := ⟨_, rfl⟩
      rw [hx] at hc1 hc2 hux1 hux2
      have HX := Lib.hid hx
      have hcp : 0 < k → w.cell? ⟨b, off + (k - 1) * 2 + 1, none⟩ = some (.int .u64 (l.getD (k - 1) (0, 0)).2) := fun h => (HC.out (k - 1) (by omega)).2
      have hpp : 0 < k → 0 ≤ (l.getD (k - 1) (0, 0)).2 ∧ (l.getD (k - 1) (0, 0)).2 < 9223372036854775808 := fun h => ⟨(HU.out (l.getD (k - 1) (0, 0)) (by rw [getD_get (by omega)]; exact List.getElem_mem _)).2, (HM.out (k - 1) (by omega)).2.1⟩
      obtain ⟨lo, hi⟩ := x
      simp only at hc1 hc2 hux1 hux2
      have HNO : Hid (¬ (lo ≤ hi ∧ hi < 9223372036854775808 ∧ (0 < k → (l.getD (k - 1) (0, 0)).2 + 2 ≤ lo)) → mayB l = false) := Lib.hid (fun h => mayB_no (fun hm => h (by have := hm k (by omega); rw [HX.out] at this; exact this)))
      have HYES : Hid (lo ≤ hi → hi < 9223372036854775808 → (0 < k → (l.getD (k - 1) (0, 0)).2 + 2 ≤ lo) → MayTo l (k + 1)) := Lib.hid (fun h1 h2 h3 => mayTo_succ HM.out HX.out h1 h2 h3)
      have hi0 : (0 : Int) ≤ (k : Int) := by omega
      have hi1 : (k : Int) < (n : Int) := by omega
      clear hx hux
      by_cases hok : hi < lo
      · have d1 : decide (hi < lo) = true := decide_eq_true hok
        have hn := Lib.hid (HNO.out (fun h => by omega))
        clear hcp hpp
        go_wp2_with fail
        go_quiet (fail)
        go_wp2
        go_ret
        exact ⟨by rw [hn.out]; rfl, below_drewN (below_drewN (Below.refl _ _) _) _⟩
      · have d1 : decide (hi < lo) = false := decide_eq_false hok
        by_cases hbig : 9223372036854775808 ≤ hi
        · have hn := Lib.hid (HNO.out (fun h => by omega))
          have d2 : decide (9223372036854775808 ≤ hi) = true := decide_eq_true hbig
          clear hcp hpp
          go_wp2_with fail
          go_quiet (fail)
          go_wp2
          go_ret
          exact ⟨by rw [hn.out]; rfl, below_drewN (below_drewN (Below.refl _ _) _) _⟩
        · have d2 : decide (9223372036854775808 ≤ hi) = false := decide_eq_false hbig
          rcases Nat.eq_zero_or_pos k with hk0 | hk0
          · have hy := Lib.hid (HYES.out (by omega) (by omega) (fun h => by omega))
            have d4 : decide (0 < k) = false := decide_eq_false (by omega)
            have HK0 := Lib.hid hk0
            clear hcp hpp hk0
            go_wp2_with fail
            go_quiet (fail)
            go_wp2
            go_roundw
            case rel => exact ⟨k + 1, _, by omega, by go_num, hy, rfl⟩
            case measure => simp [intOf]; omega
          · obtain ⟨j, rfl⟩ : ∃ j, k = j + 1 := ⟨k - 1, by omega⟩
            have hcr := hcp hk0
            have hpr := hpp hk0
            clear hcp hpp
            rw [show j + 1 - 1 = j by omega] at *
            generalize (l.getD j (0, 0)).2 = p at *
            by_cases hgap : lo < p + 2
            · have d3 : decide (lo < p + 2) = true := decide_eq_true hgap
              have hn := Lib.hid (HNO.out (fun h => by have := h.2.2 (by omega); omega))
              go_wp2_with fail
              go_quiet (fail)
              go_wp2
              go_ret
              exact ⟨by rw [hn.out]; rfl, below_drewN (below_drewN (Below.refl _ _) _) _⟩
            · have d3 : decide (lo < p + 2) = false := decide_eq_false hgap
              have hy := Lib.hid (HYES.out (by omega) (by omega) (fun h => by omega))
              go_wp2_with fail
              go_quiet (fail)
              go_wp2
              go_roundw
              case rel => exact ⟨j + 1 + 1, _, by omega, by go_num, hy, rfl⟩
              case measure => simp [intOf]; omega
    · obtain rfl : k = n := by omega
      have hy := Lib.hid (mayB_yes (l := l) (fun i hi => HM.out i (by omega)))
      go_wp2
      go_ret
      exact ⟨by rw [hy.out]; rfl, below_drewN (Below.refl _ _) _⟩
theorem rmay_any (v : Value) (l : List Ran) (w : World) (hl : l.length ≤ 1000) (hrd : Rd w v l) (hu : ∀ x ∈ l, 0 ≤ x.1 ∧ 0 ≤ x.2) :
    Calls Tryd.prog 34 #[v] w fun e w' => e = .returned (.bool (mayB l)) ∧ Below w.heap.size w w' := by
  obtain ⟨a, cap, rfl, hcap, hrow⟩ := hrd
  by_cases hnil : l = []
  · subst hnil
    refine (rmay_nil a cap w).mono ?_
    rintro e w' ⟨rfl, hb⟩
    exact ⟨by rw [mayB_yes (fun i hi => by simp at hi)], hb⟩
  · obtain ⟨b, off, rfl, hc⟩ := hrow hnil
    exact rmay_row b off l.length cap l rfl hl w hc hu
end Go.Proofs.YtpdfdhmhfdogcaaDoor.Fm
