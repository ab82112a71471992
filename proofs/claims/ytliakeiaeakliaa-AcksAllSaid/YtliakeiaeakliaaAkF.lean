/- Layer 13: the law's set; Got where what it answers is known. By tools/gen-acks-5.py. -/
import Derived.Test.YtliakeiaeakliaaAkE
import Derived.Test.YtliakeiaeakliaaRgD
namespace Go.Proofs.Ytliakeiaeakliaa.Rg
set_option maxRecDepth 20000
open Go.RowKit Go.Shelf
set_option linter.unusedVariables false
set_option linter.unusedSimpArgs false

set_option maxHeartbeats 1000000 in
theorem set13_nil (a : Option Addr) (cap : Nat) (w : World) : Calls Try.prog 13 #[.slice a 0 cap] w fun e w' => ∃ v, e = .returned v ∧ Rd w' v [] ∧ Below w.heap.size w w' := by
  go_enter Try.func13, Try.ntmps13
  go_wp2
  refine wp_loop_rounds 1 ?_
  rw [rounds_succ]
  go_wp2
  go_ret
  exact ⟨_, rfl, ⟨_, _, rfl, Nat.le_refl _, fun h => absurd rfl h⟩, (Below.refl _ _).alloc (Nat.le_refl _) _⟩

set_option maxHeartbeats 2000000 in
theorem set13_row (b off n cap : Nat) (l : List Ran) (hln : l.length = n) (hl : n ≤ 1000) (w : World) (hb : b < w.heap.size)
    (hc : ∀ i, i < n → w.cell? ⟨b, off + i * 2, none⟩ = some (.int .u64 (l.getD i (0, 0)).1) ∧ w.cell? ⟨b, off + i * 2 + 1, none⟩ = some (.int .u64 (l.getD i (0, 0)).2)) :
    Calls Try.prog 13 #[.slice (some ⟨b, off, none⟩) n cap] w fun e w' => ∃ v, e = .returned v ∧ Rd w' v l ∧ Below w.heap.size w w' := by
  obtain ⟨i0, hi, hz0, hz1, hz2⟩ := info_parts infoD
  have hz1 := Lib.hid hz1; have hz2 := Lib.hid hz2; have hz0 := Lib.hid hz0; have hi := Lib.hid hi
  have HC := Lib.hid hc
  clear hc
  go_enter Try.func13, Try.ntmps13
  go_wp2
  go_loopw [3, 4] (fun sv iv wr => ItsRel l w n sv iv wr) (fun _ iv _ => n - (intOf iv).toNat)
  case atStart => exact ⟨0, Nat.zero_le _, rfl, ow_made w _, (Below.refl _ _).alloc (Nat.le_refl _) _⟩
  case round =>
    obtain ⟨k, hk, rfl, hown, hbl⟩ := hrel
    have hsz := hbl.size
    by_cases hlt : k < n
    · have hcx := HC.out k hlt
      have hc1 := cell_below hbl hcx.1 hb
      have hc2 := cell_below hbl hcx.2 hb
      have HT := Lib.hid (take_succ_getD l (0, 0) (by omega : k < l.length))
      clear hcx
      generalize l.getD k (0, 0) = x at *
      obtain ⟨lo, hj⟩ := x
      have hkl : (l.take k).length = k := by rw [List.length_take]; omega
      have HOW : Hid (wr.ownsRow w.heap.size 71 2 _ k (cellsOf (l.take k))) := Lib.hid (by have h := hown; unfold Ow at h; rwa [hkl] at h)
      have HB := Lib.hid hbl
      have HKL := Lib.hid hkl
      clear hown hbl hkl
      go_wp2_with (at_builtin; refine wpList_append_own _ rfl _ _ 47 rfl w.heap.size 71 i0 (.agg #[.int .u64 0, .int .u64 0]) 2 16 Try.underlying47 hi.out hz0.out hz1.out hz2.out rfl (by decide) _ k (cellsOf (l.take k)) rfl (World.ownsRow.alloc HOW.out _) ⟨wr.heap.size, 0, none⟩ 1 1 [.int .u64 lo, .int .u64 hj] rfl rfl (cell_two_new _ _ _ _) (by simp [Value.oneCell']) (by unfold maxLen; omega) (by omega) (by simp; omega) ?_)
      intro v' w3 hown' hgrow _
      have hb3 : Hid (Below w.heap.size w w3) := Lib.hid ((HB.out.alloc (by omega) _).grown hgrow (by simp; omega) (fun j hj' => (World.ownsRow.lt HOW.out j hj').1))
      have hO3 : Hid (Ow w3 w.heap.size 71 v' (l.take (k + 1))) := Lib.hid (by
        rw [HT.out]
        unfold Ow
        rw [List.length_append, HKL.out, cellsOf_append]
        exact hown')
      clear hown' hgrow
      go_wp2
      go_roundw
      case rel => exact ⟨k + 1, by omega, by go_num, hO3.out, hb3.out⟩
      case measure => simp [intOf]; omega
    · obtain rfl : k = n := by omega
      rw [← hln, List.take_length] at hown
      have HOW := Lib.hid hown
      have HB := Lib.hid hbl
      obtain ⟨a3, c3, rfl⟩ := hown.form
      clear hown hbl
      go_wp2
      go_ret
      exact ⟨_, rfl, HOW.out.rd, HB.out⟩
theorem set13_any (v : Value) (l : List Ran) (w : World) (hl : l.length ≤ 1000) (hrd : Rd w v l) :
    Calls Try.prog 13 #[v] w fun e w' => ∃ v, e = .returned v ∧ Rd w' v l ∧ Below w.heap.size w w' := by
  obtain ⟨a, cap, rfl, hcap, hrow⟩ := hrd
  by_cases hnil : l = []
  · subst hnil
    exact set13_nil a cap w
  · obtain ⟨b, off, rfl, hc⟩ := hrow hnil
    exact set13_row b off l.length cap l rfl hl w (World.block_lt_of_cell? w ⟨b, off + 0 * 2, none⟩ (hc 0 (List.length_pos_iff.2 hnil)).1) hc


theorem got_is (a : Option Addr) (m c : Nat) (s R : St) (n : Int) (el : Bool) (t : Int) (w : World) (hm : s.l.length = m) (hl : m ≤ 100) (hcan : Can s.l) (hrd : Rd w (.slice a m c) s.l) (hs : shut s n = false) (h0 : 0 ≤ n) (h1 : n < 9223372036854775808) (ho0 : 0 ≤ s.ow) (ho1 : s.ow ≤ 1000000)
    (hR : ∀ s' l1, GotR s n el t s' l1 → s' = R) :
    Calls Try.prog 8 #[.agg #[.slice a m c, .int .u64 s.fl, .int .i64 s.tp, .int .i64 s.ow, .int .i64 s.si], .int .u64 n, .bool el, .int .i64 t] w fun e w' => ∃ u, e = .returned (.tuple #[.agg #[u, .int .u64 R.fl, .int .i64 R.tp, .int .i64 R.ow, .int .i64 R.si], .bool true]) ∧ Rd w' u R.l ∧ (∀ k, Blk u k → w.heap.size ≤ k) ∧ Below w.heap.size w w' := by
  refine (got_yes a m c s n el t w hm hl hcan hrd hs h0 h1 ho0 ho1).mono ?_
  rintro e w1 ⟨u, s', l1, rfl, hg, hr, hq, hb⟩
  obtain rfl := hR s' l1 hg
  exact ⟨u, rfl, hr, hq, hb⟩
theorem gotr_first {n t : Int} {el : Bool} {s' : St} {l1 : List Ran} (h : GotR ⟨[], 0, 0, 0, 0⟩ n el t s' l1) (h0 : 0 ≤ n) (h1 : n < 9223372036854775808) : s' = ⟨[(n, n)], 0, t, if el = true then 1 else 0, if el = true then t else 0⟩ := by
  have e : l1 = [(n, n)] := h.is (Can.single ⟨h0, Int.le_refl _, h1⟩) (fun x => by
    rw [mem_single]
    unfold inn
    simp only
    exact ⟨fun h => .inr (by omega), fun h => by rcases h with h | h; exact absurd h (mem_nil x); omega⟩)
  subst e
  obtain ⟨l, fl, tp, ow, si⟩ := s'
  have h2 := h.tp
  have h3 := h.ow
  have h4 := h.si
  rcases h.set with ⟨_, h5, h6⟩ | ⟨h5, _⟩
  · simp only at h2 h3 h4 h5 h6
    rw [h5, h6, h2, h3, h4, show lastHi [(n, n)] = n from rfl]
    cases el <;> simp
  · simp at h5
theorem gotr_shown {s' : St} {l1 : List Ran} (h : GotR ⟨[(3, 3)], 0, 5, 1, 5⟩ 2 true 6 s' l1) : s' = ⟨[(2, 3)], 0, 5, 2, 5⟩ := by
  have e : l1 = [(2, 3)] := h.is (Can.single ⟨by decide, by decide, by decide⟩) (fun x => by
    rw [mem_single, mem_single]
    unfold inn
    simp only
    omega)
  subst e
  obtain ⟨l, fl, tp, ow, si⟩ := s'
  have h2 := h.tp
  have h3 := h.ow
  have h4 := h.si
  rcases h.set with ⟨_, h5, h6⟩ | ⟨h5, _⟩
  · simp only at h2 h3 h4 h5 h6
    rw [h5, h6, h2, h3, h4, show lastHi [((2 : Int), (3 : Int))] = 3 from rfl]
    simp
  · simp at h5
end Go.Proofs.Ytliakeiaeakliaa.Rg
