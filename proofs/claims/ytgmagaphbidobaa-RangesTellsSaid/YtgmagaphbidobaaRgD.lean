/- The walks of layer 3's document functions: its, Same, Has, Count, May. -/
import Derived.Test.YtgmagaphbidobaaRgW
namespace Go.Proofs.Ytgmagaphbidobaa.Rg
open Go.RowKit Go.Shelf
set_option linter.unusedVariables false

theorem infoD : (Try.prog.info? 28).map (fun i => (i.zero, i.size, i.bytes)) = some (some (.agg #[.int .u64 0, .int .u64 0]), 2, 16) := by kernel_rfl

set_option maxHeartbeats 1000000 in
theorem its_nil (a : Option Addr) (cap : Nat) (w : World) : Calls Try.prog 8 #[.slice a 0 cap] w fun e w' => ∃ v, e = .returned v ∧ Rd w' v [] ∧ Below w.heap.size w w' := by
  go_enter Try.func8, Try.ntmps8
  go_wp2
  refine wp_loop_rounds 1 ?_
  rw [rounds_succ]
  go_wp2
  go_ret
  exact ⟨_, rfl, ⟨_, _, rfl, Nat.le_refl _, fun h => absurd rfl h⟩, (Below.refl _ _).alloc (Nat.le_refl _) _⟩

def ItsRel (l : List Ran) (w : World) (n : Nat) (sv iv : Value) (wr : World) : Prop :=
  ∃ k : Nat, k ≤ n ∧ iv = .int .i64 k ∧ Ow wr w.heap.size 28 sv (l.take k) ∧ Below w.heap.size w wr
theorem ow_made (w : World) (e : TypeId) : Ow (w.alloc (.cells #[] e)) w.heap.size e (.slice (some ⟨w.heap.size, 0, none⟩) 0 0) [] := World.ownsRow_made w #[] 0 (Nat.le_refl _) (by unfold maxLen; omega) rfl

set_option maxHeartbeats 2000000 in
theorem its_row (b off n cap : Nat) (l : List Ran) (hln : l.length = n) (hl : n ≤ 1000) (w : World) (hb : b < w.heap.size)
    (hc : ∀ i, i < n → w.cell? ⟨b, off + i * 2, none⟩ = some (.int .u64 (l.getD i (0, 0)).1) ∧ w.cell? ⟨b, off + i * 2 + 1, none⟩ = some (.int .u64 (l.getD i (0, 0)).2)) :
    Calls Try.prog 8 #[.slice (some ⟨b, off, none⟩) n cap] w fun e w' => ∃ v, e = .returned v ∧ Rd w' v l ∧ Below w.heap.size w w' := by
  obtain ⟨i0, hi, hz0, hz1, hz2⟩ := info_parts infoD
  have hz1 := Lib.hid hz1; have hz2 := Lib.hid hz2; have hz0 := Lib.hid hz0; have hi := Lib.hid hi
  have HC := Lib.hid hc
  clear hc
  go_enter Try.func8, Try.ntmps8
  go_wp2
  go_loopw [3, 4] (fun sv iv wr => ItsRel l w n sv iv wr) (fun _ iv _ => n - (intOf iv).toNat)
  case atStart => exact ⟨0, Nat.zero_le _, rfl, ow_made w _, (Below.refl _ _).alloc (Nat.le_refl _) _⟩
  case round =>
    obtain ⟨k, hk, rfl, hown, hbl⟩ := hrel
    have hsz := hbl.size
    by_cases hlt : k < n
    · have hcx := HC.out k hlt
      have hc1 := cell_below hbl hcx.1 hb
      have hc2 := cell_below hbl hcx.2 hb
      have HT := Lib.hid (take_succ_getD l (0, 0) (by omega : k < l.length))
      clear hcx
      generalize l.getD k (0, 0) = x at *
      obtain ⟨lo, hj⟩ := x
      have hkl : (l.take k).length = k := by rw [List.length_take]; omega
      have HOW : Hid (wr.ownsRow w.heap.size 28 2 _ k (cellsOf (l.take k))) := Lib.hid (by have h := hown; unfold Ow at h; rwa [hkl] at h)
      have HB := Lib.hid hbl
      have HKL := Lib.hid hkl
      clear hown hbl hkl
      go_wp2_with (at_builtin; refine wpList_append_own _ rfl _ _ 32 rfl w.heap.size 28 i0 (.agg #[.int .u64 0, .int .u64 0]) 2 16 Try.underlying32 hi.out hz0.out hz1.out hz2.out rfl (by decide) _ k (cellsOf (l.take k)) rfl (World.ownsRow.alloc HOW.out _) ⟨wr.heap.size, 0, none⟩ 1 1 [.int .u64 lo, .int .u64 hj] rfl rfl (cell_two_new _ _ _ _) (by simp [Value.oneCell']) (by unfold maxLen; omega) (by omega) (by simp; omega) ?_)
      intro v' w3 hown' hgrow _
      have hb3 : Hid (Below w.heap.size w w3) := Lib.hid ((HB.out.alloc (by omega) _).grown hgrow (by simp; omega) (fun j hj' => (World.ownsRow.lt HOW.out j hj').1))
      have hO3 : Hid (Ow w3 w.heap.size 28 v' (l.take (k + 1))) := Lib.hid (by
        rw [HT.out]
        unfold Ow
        rw [List.length_append, HKL.out, cellsOf_append]
        exact hown')
      clear hown' hgrow
      go_wp2
      go_roundw
      case rel => exact ⟨k + 1, by omega, by go_num, hO3.out, hb3.out⟩
      case measure => simp [intOf]; omega
    · obtain rfl : k = n := by omega
      rw [← hln, List.take_length] at hown
      have HOW := Lib.hid hown
      have HB := Lib.hid hbl
      obtain ⟨a3, c3, rfl⟩ := hown.form
      clear hown hbl
      go_wp2
      go_ret
      exact ⟨_, rfl, HOW.out.rd, HB.out⟩
theorem its_any (v : Value) (l : List Ran) (w : World) (hl : l.length ≤ 1000) (hrd : Rd w v l) :
    Calls Try.prog 8 #[v] w fun e w' => ∃ v, e = .returned v ∧ Rd w' v l ∧ Below w.heap.size w w' := by
  obtain ⟨a, cap, rfl, hcap, hrow⟩ := hrd
  by_cases hnil : l = []
  · subst hnil
    exact its_nil a cap w
  · obtain ⟨b, off, rfl, hc⟩ := hrow hnil
    exact its_row b off l.length cap l rfl hl w (World.block_lt_of_cell? w ⟨b, off + 0 * 2, none⟩ (hc 0 (List.length_pos_iff.2 hnil)).1) hc

set_option maxHeartbeats 1000000 in
theorem same_nil (a1 a2 : Option Addr) (c1 c2 : Nat) (w : World) :
    Calls Try.prog 9 #[.slice a1 0 c1, .slice a2 0 c2] w fun e w' => e = .returned (.bool true) ∧ Below w.heap.size w w' := by
  go_enter Try.func9, Try.ntmps9
  go_wp2
  refine wp_loop_rounds 1 ?_
  rw [rounds_succ]
  go_wp2
  go_ret
  exact ⟨rfl, Below.refl _ _⟩
set_option maxHeartbeats 2000000 in
theorem same_row (b1 o1 b2 o2 c1 c2 n : Nat) (l : List Ran) (w : World) (hn : l.length = n) (hl : n ≤ 1000)
    (h1 : ∀ i, i < n → w.cell? ⟨b1, o1 + i * 2, none⟩ = some (.int .u64 (l.getD i (0, 0)).1) ∧ w.cell? ⟨b1, o1 + i * 2 + 1, none⟩ = some (.int .u64 (l.getD i (0, 0)).2))
    (h2 : ∀ i, i < n → w.cell? ⟨b2, o2 + i * 2, none⟩ = some (.int .u64 (l.getD i (0, 0)).1) ∧ w.cell? ⟨b2, o2 + i * 2 + 1, none⟩ = some (.int .u64 (l.getD i (0, 0)).2)) :
    Calls Try.prog 9 #[.slice (some ⟨b1, o1, none⟩) n c1, .slice (some ⟨b2, o2, none⟩) n c2] w fun e w' => e = .returned (.bool true) ∧ Below w.heap.size w w' := by
  have H1 := Lib.hid h1
  have H2 := Lib.hid h2
  clear h1 h2 hn
  go_enter Try.func9, Try.ntmps9
  go_wp2
  go_loopw [5] (fun i wr => ∃ k m : Nat, k ≤ n ∧ i = .int .i64 k ∧ wr = w.drewN m) (fun i _ => n - (intOf i).toNat)
  case atStart => exact ⟨0, 0, Nat.zero_le _, rfl, rfl⟩
  case round =>
    obtain ⟨k, m, hk, rfl, rfl⟩ := hrel
    by_cases hlt : k < n
    · obtain ⟨q1, q2⟩ := H1.out k hlt
      obtain ⟨q3, q4⟩ := H2.out k hlt
      generalize l.getD k (0, 0) = x at *
      obtain ⟨lo, hi⟩ := x
      have hi0 : (0 : Int) ≤ (k : Int) := by omega
      have hi1 : (k : Int) < (n : Int) := by omega
      go_wp2_with fail
      go_quiet (fail)
      go_wp2
      go_roundw
      case rel => exact ⟨k + 1, _, by omega, by go_num, rfl⟩
      case measure => simp [intOf]; omega
    · go_wp2
      go_ret
      exact ⟨rfl, below_drewN (Below.refl _ _) m⟩
theorem same_any (v u : Value) (l : List Ran) (w : World) (hl : l.length ≤ 1000) (h1 : Rd w v l) (h2 : Rd w u l) :
    Calls Try.prog 9 #[v, u] w fun e w' => e = .returned (.bool true) ∧ Below w.heap.size w w' := by
  obtain ⟨a1, c1, rfl, _, r1⟩ := h1
  obtain ⟨a2, c2, rfl, _, r2⟩ := h2
  by_cases hnil : l = []
  · subst hnil
    exact same_nil a1 a2 c1 c2 w
  · obtain ⟨b1, o1, rfl, q1⟩ := r1 hnil
    obtain ⟨b2, o2, rfl, q2⟩ := r2 hnil
    exact same_row b1 o1 b2 o2 c1 c2 l.length l w rfl hl q1 q2

set_option maxHeartbeats 1000000 in
theorem rhas_nil (a : Option Addr) (c : Nat) (y : Int) (w : World) : Calls Try.prog 13 #[.slice a 0 c, .int .u64 y] w fun e w' => e = .returned (.bool false) ∧ Below w.heap.size w w' := by
  go_enter Try.func13, Try.ntmps13
  go_wp2
  refine wp_loop_rounds 1 ?_
  rw [rounds_succ]
  go_wp2
  go_ret
  exact ⟨rfl, Below.refl _ _⟩
theorem hasB_no {l : List Ran} {y : Int} (h : ∀ i, i < l.length → ¬ inn (l.getD i (0, 0)) y) : hasB l y = false := by
  rw [← Bool.not_eq_true, hasB_iff]
  rintro ⟨x, hx, hn⟩
  obtain ⟨i, hi, rfl⟩ := List.getElem_of_mem hx
  exact h i hi (by rw [getD_get hi]; exact hn)
theorem hasB_at {l : List Ran} {y : Int} {i : Nat} (hi : i < l.length) (h : inn (l.getD i (0, 0)) y) : hasB l y = true := by
  rw [hasB_iff]
  rw [getD_get hi] at h
  exact ⟨l[i], List.getElem_mem _, h⟩
set_option maxHeartbeats 2000000 in
theorem rhas_row (b off n cap : Nat) (l : List Ran) (y : Int) (hln : l.length = n) (hl : n ≤ 1000) (w : World)
    (hc : ∀ i, i < n → w.cell? ⟨b, off + i * 2, none⟩ = some (.int .u64 (l.getD i (0, 0)).1) ∧ w.cell? ⟨b, off + i * 2 + 1, none⟩ = some (.int .u64 (l.getD i (0, 0)).2)) :
    Calls Try.prog 13 #[.slice (some ⟨b, off, none⟩) n cap, .int .u64 y] w fun e w' => e = .returned (.bool (hasB l y)) ∧ Below w.heap.size w w' := by
  have HC := Lib.hid hc
  clear hc
  go_enter Try.func13, Try.ntmps13
  go_wp2
  go_loopw [5] (fun i wr => ∃ k : Nat, k ≤ n ∧ i = .int .i64 k ∧ wr = w ∧ Hid (∀ j, j < k → ¬ inn (l.getD j (0, 0)) y)) (fun i _ => n - (intOf i).toNat)
  case atStart => exact ⟨0, Nat.zero_le _, rfl, rfl, Lib.hid (fun j hj => by omega)⟩
  case round =>
    obtain ⟨k, hk, rfl, rfl, HN⟩ := hrel
    by_cases hlt : k < n
    · obtain ⟨q1, q2⟩ := HC.out k hlt
      have HA : Hid (inn (l.getD k (0, 0)) y → hasB l y = true) := Lib.hid (fun h => hasB_at (by omega) h)
      have HS : Hid (¬ inn (l.getD k (0, 0)) y → ∀ j, j < k + 1 → ¬ inn (l.getD j (0, 0)) y) := Lib.hid (fun h j hj => by
        rcases Nat.lt_or_ge j k with h' | h'
        · exact HN.out j h'
        · obtain rfl : j = k := by omega
          exact h)
      generalize l.getD k (0, 0) = x at *
      obtain ⟨lo, hi⟩ := x
      simp only at q1 q2
      by_cases h1 : lo ≤ y
      · by_cases h2 : y ≤ hi
        · have he := Lib.hid (HA.out ⟨h1, h2⟩)
          go_wp2
          go_ret
          exact ⟨by rw [he.out]; rfl, Below.refl _ _⟩
        · have he := Lib.hid (HS.out (fun h => h2 h.2))
          have d2 : decide (y ≤ hi) = false := decide_eq_false h2
          go_wp2
          go_roundw
          case rel => exact ⟨k + 1, by omega, by go_num, by first | rfl | trivial, he⟩
          case measure => simp [intOf]; omega
      · have he := Lib.hid (HS.out (fun h => h1 h.1))
        have d1 : decide (lo ≤ y) = false := decide_eq_false h1
        go_wp2
        go_roundw
        case rel => exact ⟨k + 1, by omega, by go_num, by first | rfl | trivial, he⟩
        case measure => simp [intOf]; omega
    · obtain rfl : k = n := by omega
      have he := Lib.hid (hasB_no (l := l) (y := y) (fun i hi => HN.out i (by omega)))
      go_wp2
      go_ret
      exact ⟨by rw [he.out]; rfl, Below.refl _ _⟩
theorem rhas_any (v : Value) (l : List Ran) (y : Int) (w : World) (hl : l.length ≤ 1000) (hrd : Rd w v l) :
    Calls Try.prog 13 #[v, .int .u64 y] w fun e w' => e = .returned (.bool (hasB l y)) ∧ Below w.heap.size w w' := by
  obtain ⟨a, cap, rfl, hcap, hrow⟩ := hrd
  by_cases hnil : l = []
  · subst hnil
    exact rhas_nil a cap y w
  · obtain ⟨b, off, rfl, hc⟩ := hrow hnil
    exact rhas_row b off l.length cap l y rfl hl w hc

set_option maxHeartbeats 1000000 in
theorem rcount_nil (a : Option Addr) (c : Nat) (w : World) : Calls Try.prog 23 #[.slice a 0 c] w fun e w' => e = .returned (.int .u64 0) ∧ Below w.heap.size w w' := by
  go_enter Try.func23, Try.ntmps23
  go_wp2
  refine wp_loop_rounds 1 ?_
  rw [rounds_succ]
  go_wp2
  go_ret
  exact ⟨rfl, Below.refl _ _⟩
set_option maxHeartbeats 2000000 in
theorem rcount_row (b off n cap : Nat) (l : List Ran) (hcan : Can l) (hln : l.length = n) (hl : n ≤ 1000) (w : World)
    (hc : ∀ i, i < n → w.cell? ⟨b, off + i * 2, none⟩ = some (.int .u64 (l.getD i (0, 0)).1) ∧ w.cell? ⟨b, off + i * 2 + 1, none⟩ = some (.int .u64 (l.getD i (0, 0)).2)) :
    Calls Try.prog 23 #[.slice (some ⟨b, off, none⟩) n cap] w fun e w' => e = .returned (.int .u64 (size l)) ∧ Below w.heap.size w w' := by
  have HC := Lib.hid hc
  clear hc
  go_enter Try.func23, Try.ntmps23
  go_wp2
  go_loopw [3, 4] (fun nv i wr => ∃ k m : Nat, k ≤ n ∧ i = .int .i64 k ∧ nv = .int .u64 (size (l.take k)) ∧ wr = w.drewN m) (fun _ i _ => n - (intOf i).toNat)
  case atStart => exact ⟨0, 0, Nat.zero_le _, rfl, rfl, rfl⟩
  case round =>
    obtain ⟨k, m, hk, rfl, rfl, rfl⟩ := hrel
    by_cases hlt : k < n
    · obtain ⟨q1, q2⟩ := HC.out k hlt
      have hT := take_succ_getD l (0, 0) (by omega : k < l.length)
      have hcp : Can (l.take k ++ [l.getD k (0, 0)]) := by rw [← hT]; exact hcan.prefix (List.take_prefix _ _)
      have hxg := hcp.good (l.getD k (0, 0)) (by simp)
      have hsp := size_bound (l.take k) 0 (l.getD k (0, 0)).1 hcp.left (fun y hy => ⟨(hcp.left.good y hy).1, by have := (List.pairwise_append.1 hcp.rise).2.2 y hy _ (List.mem_singleton.2 rfl); omega⟩) hxg.1
      have hS : size (l.take (k + 1)) = size (l.take k) + size [l.getD k (0, 0)] := by rw [hT, size_append]
      generalize l.getD k (0, 0) = x at *
      obtain ⟨lo, hi⟩ := x
      simp only [size] at hS hxg hsp q1 q2
      have HS := Lib.hid hS
      clear hT hcp hS
      generalize size (l.take k) = c at *
      have hi0 : (0 : Int) ≤ (k : Int) := by omega
      have hi1 : (k : Int) < (n : Int) := by omega
      have e1 : IntKind.u64.wrap (c + hi) = c + hi := by simp [IntKind.wrap, IntKind.bits, IntKind.signed]; omega
      have e2 : IntKind.u64.wrap (c + hi - lo) = c + hi - lo := by simp [IntKind.wrap, IntKind.bits, IntKind.signed]; omega
      have e3 : IntKind.u64.wrap (c + hi - lo + 1) = c + hi - lo + 1 := by simp [IntKind.wrap, IntKind.bits, IntKind.signed]; omega
      go_wp2_with fail
      go_quiet (fail)
      go_wp2
      go_roundw
      case rel => exact ⟨k + 1, _, by omega, by go_num, by rw [HS.out]; congr 1; omega, rfl⟩
      case measure => simp [intOf]; omega
    · obtain rfl : k = n := by omega
      rw [← hln, List.take_length]
      go_wp2
      go_ret
      exact ⟨rfl, below_drewN (Below.refl _ _) m⟩
theorem rcount_any (v : Value) (l : List Ran) (w : World) (hl : l.length ≤ 1000) (hcan : Can l) (hrd : Rd w v l) :
    Calls Try.prog 23 #[v] w fun e w' => e = .returned (.int .u64 (size l)) ∧ Below w.heap.size w w' := by
  obtain ⟨a, cap, rfl, hcap, hrow⟩ := hrd
  by_cases hnil : l = []
  · subst hnil
    exact rcount_nil a cap w
  · obtain ⟨b, off, rfl, hc⟩ := hrow hnil
    exact rcount_row b off l.length cap l hcan rfl hl w hc
end Go.Proofs.Ytgmagaphbidobaa.Rg
