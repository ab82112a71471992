/- The walks of layer 6: arrays compared. By hand. -/
import Derived.Test.YtfeecfdbncjmnaaDoorFmV
import Derived.Deep.QuietTactic
import Derived.BigQuiet
import Derived.Test.YtfeecfdbncjmnaaDoorFmY
import Derived.ChangeKeysEq
namespace Go.Proofs.YtfeecfdbncjmnaaDoor.Fm
set_option maxRecDepth 20000
open Go.RowKit Vm
set_option linter.unusedVariables false
set_option linter.unusedSimpArgs false

theorem drewN_below {k : Nat} {a w : World} (h : Below k a w) (n : Nat) : Below k a (w.drewN n) := h.trans ⟨rfl, rfl, rfl, Nat.le_refl _, fun _ _ => rfl⟩
theorem take_eq_succ {l1 l2 : List Ran} {k : Nat} (h : l1.take k = l2.take k) (h1 : k < l1.length) (h2 : k < l2.length) (he : l1.getD k (0, 0) = l2.getD k (0, 0)) : l1.take (k + 1) = l2.take (k + 1) := by
  rw [List.take_add_one, List.take_add_one, h]
  rw [List.getD_eq_getElem?_getD, List.getD_eq_getElem?_getD, List.getElem?_eq_getElem h1, List.getElem?_eq_getElem h2] at he
  simp only [Option.getD_some] at he
  rw [List.getElem?_eq_getElem h1, List.getElem?_eq_getElem h2, he]
set_option maxHeartbeats 4000000 in
theorem equal_any (v1 v2 : Value) (l1 l2 : List Ran) (w : World) (h1 : Rd w v1 l1) (h2 : Rd w v2 l2) (hl1 : l1.length ≤ 1000) (hl2 : l2.length ≤ 1000) :
    Calls Tryd.prog 29 #[v1, v2] w fun e w' => e = .returned (.bool (decide (l1 = l2))) ∧ Below w.heap.size w w' := by
  obtain ⟨a1, cap1, rfl, hcap1, hrow1⟩ := h1
  obtain ⟨a2, cap2, rfl, hcap2, hrow2⟩ := h2
  obtain ⟨n, hn⟩ : ∃ n, l1.length = n := ⟨_, rfl⟩
  obtain ⟨m, hm⟩ : ∃ m, l2.length = m := ⟨_, rfl⟩
  have hni : (n : Int) ≤ 1000 := by omega
  rw [hn, hm]
  by_cases hnm : n = m
  · subst hnm
    have HR1 : Hid (∀ k, k < n → ∃ b off, a1 = some ⟨b, off, none⟩ ∧ b < w.heap.size ∧ w.cell? ⟨b, off + k * 2, none⟩ = some (.int .u64 (l1.getD k (0, 0)).1) ∧ w.cell? ⟨b, off + k * 2 + 1, none⟩ = some (.int .u64 (l1.getD k (0, 0)).2)) := Lib.hid (fun k hk => by
      obtain ⟨b, off, ha, hc⟩ := hrow1 (by intro e; rw [e] at hn; simp at hn; omega)
      obtain ⟨c1, c2⟩ := hc k (by omega)
      exact ⟨b, off, ha, World.block_lt_of_cell? _ _ c1, c1, c2⟩)
    have HR2 : Hid (∀ k, k < n → ∃ b off, a2 = some ⟨b, off, none⟩ ∧ b < w.heap.size ∧ w.cell? ⟨b, off + k * 2, none⟩ = some (.int .u64 (l2.getD k (0, 0)).1) ∧ w.cell? ⟨b, off + k * 2 + 1, none⟩ = some (.int .u64 (l2.getD k (0, 0)).2)) := Lib.hid (fun k hk => by
      obtain ⟨b, off, ha, hc⟩ := hrow2 (by intro e; rw [e] at hm; simp at hm; omega)
      obtain ⟨c1, c2⟩ := hc k (by omega)
      exact ⟨b, off, ha, World.block_lt_of_cell? _ _ c1, c1, c2⟩)
    have HN1 := Lib.hid hn
    have HN2 := Lib.hid hm
    have HD : Hid (∀ k, k < n → l1.getD k (0, 0) ≠ l2.getD k (0, 0) → decide (l1 = l2) = false) := Lib.hid (fun k _ h => decide_eq_false (fun e => h (by rw [e])))
    have HE : Hid (l1.take n = l2.take n → decide (l1 = l2) = true) := Lib.hid (fun h => decide_eq_true (by rwa [List.take_of_length_le (by omega), List.take_of_length_le (by omega)] at h))
    have HS : Hid (∀ k, k < n → l1.take k = l2.take k → l1.getD k (0, 0) = l2.getD k (0, 0) → l1.take (k + 1) = l2.take (k + 1)) := Lib.hid (fun k hk h he => take_eq_succ h (by omega) (by omega) he)
    clear hrow1 hrow2 hn hm hcap1 hcap2 hl1 hl2
    generalize decide (l1 = l2) = R at *
    go_enter Tryd.func29, Tryd.ntmps29
    go_wp2
    go_loopw [13] (fun iv wr => ∃ k : Nat, k ≤ n ∧ iv = .int .i64 (k : Nat) ∧ l1.take k = l2.take k ∧ Below w.heap.size w wr) (fun iv _ => n - (intOf iv).toNat)
    case atStart => exact ⟨0, Nat.zero_le _, rfl, rfl, Below.refl _ _⟩
    case round =>
      obtain ⟨k, hk, rfl, hpre, hb⟩ := hrel
      have HP := Lib.hid hpre
      have HB := Lib.hid hb
      have hk1 : (k : Int) ≤ (n : Int) := by omega
      have hk0 : (0 : Int) ≤ (k : Int) := by omega
      by_cases hkn : (k : Int) < (n : Int)
      · have hkn2 : k < n := by omega
        obtain ⟨b1, o1, rfl, g1, c1, c2⟩ := HR1.out k hkn2
        obtain ⟨b2, o2, rfl, g2, c3, c4⟩ := HR2.out k hkn2
        have c1 := cell_below hb c1 g1
        have c2 := cell_below hb c2 g1
        have c3 := cell_below hb c3 g2
        have c4 := cell_below hb c4 g2
        have HD2 := Lib.hid (HD.out k hkn2)
        have HS2 := Lib.hid (HS.out k hkn2 hpre)
        clear hpre hb HR1 HR2 HE HD HS
        obtain ⟨⟨x1, x2⟩, hx⟩ : ∃ x, l1.getD k (0, 0) = x := ⟨_, rfl⟩
        obtain ⟨⟨y1, y2⟩, hy⟩ : ∃ x, l2.getD k (0, 0) = x := ⟨_, rfl⟩
        rw [hx] at c1 c2
        rw [hy] at c3 c4
        rw [hx, hy] at HD2 HS2
        clear hx hy
        simp only at c1 c2 c3 c4
        have hmeas : k ≤ 1000 := by omega
        cases e1 : (x1 == y1) with
        | true =>
          cases e2 : (x2 == y2) with
          | true =>
            go_wp2_with fail
            go_quiet (fail)
            go_wp2
            go_roundw
            case rel => exact ⟨k + 1, by omega, rfl, HS2.out (by rw [eq_of_beq e1, eq_of_beq e2]), drewN_below HB.out _⟩
            case measure => simp [intOf]; omega
          | false =>
            go_wp2_with fail
            go_quiet (fail)
            go_wp2
            go_ret
            exact ⟨by rw [HD2.out (by intro h; injection h with h1 h2; rw [h2] at e2; simp at e2)]; rfl, drewN_below HB.out _⟩
        | false =>
          go_wp2_with fail
          go_quiet (fail)
          go_wp2
          go_ret
          exact ⟨by rw [HD2.out (by intro h; injection h with h1 h2; rw [h1] at e1; simp at e1)]; rfl, drewN_below HB.out _⟩
      · have hkn3 : k = n := by omega
        subst hkn3
        have HE2 := Lib.hid (HE.out hpre)
        clear hpre hb
        go_wp2
        go_ret
        exact ⟨by rw [HE2.out]; rfl, HB.out⟩
  · have hnm1 : ((n : Int) == (m : Int)) = false := by simp; omega
    have HD : Hid (decide (l1 = l2) = false) := Lib.hid (decide_eq_false (fun e => hnm (by rw [← hn, ← hm, e])))
    generalize decide (l1 = l2) = R at *
    clear hrow1 hrow2 hn hm hnm
    go_enter Tryd.func29, Tryd.ntmps29
    go_wp2
    go_ret
    exact ⟨by rw [HD.out]; rfl, Below.refl _ _⟩

theorem infoS : (Tryd.prog.info? 9).map (fun i => i.size) = some 1 := by kernel_rfl
theorem cells_u : Tryd.prog.cellsOf 23 = 1 := by kernel_rfl
theorem cells_s : Tryd.prog.cellsOf 9 = 1 := by kernel_rfl
theorem agg_u (w : World) : (isAgg 23).run Tryd.prog w = .ok false w := by kernel_rfl
theorem agg_s (w : World) : (isAgg 9).run Tryd.prog w = .ok false w := by kernel_rfl
theorem part_1 (e : TypeId) (xs : Array Value) (i : Nat) (v : Value) (w : World) (ha : (isAgg e).run Tryd.prog w = .ok false w) (hv : xs[i]? = some v) : (part e xs i).run Tryd.prog w = .ok v w := by
  simp [part, go_sem, hv, ha]
theorem items_cons (d : Nat) (e : TypeId) (xs ys : Array Value) (i : Nat) (is : List Nat) (a b : Value) (r : Bool) (w : World) (ha : (part e xs (i * 1)).run Tryd.prog w = .ok a w) (hb : (part e ys (i * 1)).run Tryd.prog w = .ok b w) (hr : (Op.equalIn d e a b).run Tryd.prog w = .ok r w) :
    (Op.eqItems d e 1 xs ys (i :: is)).run Tryd.prog w = if r = true then (Op.eqItems d e 1 xs ys is).run Tryd.prog w else .ok false w := by
  simp only [Op.eqItems, Sem.run_bind, ha, hb, hr, Result.andThen_ok]
  cases r <;> rfl
theorem items_nil (d : Nat) (e : TypeId) (xs ys : Array Value) (w : World) : (Op.eqItems d e 1 xs ys []).run Tryd.prog w = .ok true w := rfl
theorem if_and (a b : Bool) (w : World) : (if a = true then Result.ok b w else Result.ok false w) = (.ok (a && b) w : Result Bool) := by cases a <;> rfl
set_option maxHeartbeats 2000000 in
theorem eq7 (a0 a1 a2 a3 a4 a5 a6 b0 b1 b2 b3 b4 b5 b6 : Int) (w : World) :
    (Op.equalIn 10000 77 (.agg #[.int .u64 a0, .int .u64 a1, .int .u64 a2, .int .u64 a3, .int .u64 a4, .int .u64 a5, .int .u64 a6]) (.agg #[.int .u64 b0, .int .u64 b1, .int .u64 b2, .int .u64 b3, .int .u64 b4, .int .u64 b5, .int .u64 b6])).run Tryd.prog w = .ok (a0 == b0 && (a1 == b1 && (a2 == b2 && (a3 == b3 && (a4 == b4 && (a5 == b5 && (a6 == b6))))))) w := by
  obtain ⟨i0, hi, _, _, _⟩ := info_parts infoW
  have E : ∀ (x y : Int), (Op.equalIn 9999 23 (.int .u64 x) (.int .u64 y)).run Tryd.prog w = .ok (x == y) w := fun x y => run_equalIn_int w 9998 23 .u64 .u64 x y (by kernel_rfl)
  rw [show (10000 : Nat) = 9999 + 1 from rfl, run_equalIn_array w 9999 (e := 23) (n := 7) _ _ (by kernel_rfl) hi, cells_u, show List.range 7 = [0, 1, 2, 3, 4, 5, 6] from rfl]
  rw [items_cons 9999 _ _ _ 0 _ _ _ _ w (part_1 _ _ _ _ w (agg_u w) rfl) (part_1 _ _ _ _ w (agg_u w) rfl) (E _ _),
    items_cons 9999 _ _ _ 1 _ _ _ _ w (part_1 _ _ _ _ w (agg_u w) rfl) (part_1 _ _ _ _ w (agg_u w) rfl) (E _ _),
    items_cons 9999 _ _ _ 2 _ _ _ _ w (part_1 _ _ _ _ w (agg_u w) rfl) (part_1 _ _ _ _ w (agg_u w) rfl) (E _ _),
    items_cons 9999 _ _ _ 3 _ _ _ _ w (part_1 _ _ _ _ w (agg_u w) rfl) (part_1 _ _ _ _ w (agg_u w) rfl) (E _ _),
    items_cons 9999 _ _ _ 4 _ _ _ _ w (part_1 _ _ _ _ w (agg_u w) rfl) (part_1 _ _ _ _ w (agg_u w) rfl) (E _ _),
    items_cons 9999 _ _ _ 5 _ _ _ _ w (part_1 _ _ _ _ w (agg_u w) rfl) (part_1 _ _ _ _ w (agg_u w) rfl) (E _ _),
    items_cons 9999 _ _ _ 6 _ _ _ _ w (part_1 _ _ _ _ w (agg_u w) rfl) (part_1 _ _ _ _ w (agg_u w) rfl) (E _ _), items_nil]
  rw [if_and, Bool.and_true, if_and, if_and, if_and, if_and, if_and, if_and]
theorem eq_bytes (a b : List UInt8) : ((⟨a.toArray⟩ : ByteArray).toList == (⟨b.toArray⟩ : ByteArray).toList) = (a == b) := by
  rw [ByteArray.toList_eq, ByteArray.toList_eq]
set_option maxHeartbeats 2000000 in
theorem eq3 (a0 a1 a2 b0 b1 b2 : List UInt8) (w : World) :
    (Op.equalIn 10000 79 (.agg #[.string ⟨a0.toArray⟩, .string ⟨a1.toArray⟩, .string ⟨a2.toArray⟩]) (.agg #[.string ⟨b0.toArray⟩, .string ⟨b1.toArray⟩, .string ⟨b2.toArray⟩])).run Tryd.prog w = .ok ((a0 == b0) && ((a1 == b1) && (a2 == b2))) w := by
  obtain ⟨i0, hi, _⟩ := Option.map_eq_some_iff.1 infoS
  have E : ∀ (x y : List UInt8), (Op.equalIn 9999 9 (.string ⟨x.toArray⟩) (.string ⟨y.toArray⟩)).run Tryd.prog w = .ok (x == y) w := fun x y => by
    rw [← eq_bytes]
    exact run_equalIn_string w 9998 9 _ _ (by kernel_rfl)
  rw [show (10000 : Nat) = 9999 + 1 from rfl, run_equalIn_array w 9999 (e := 9) (n := 3) _ _ (by kernel_rfl) hi, cells_s, show List.range 3 = [0, 1, 2] from rfl]
  rw [items_cons 9999 _ _ _ 0 _ _ _ _ w (part_1 _ _ _ _ w (agg_s w) rfl) (part_1 _ _ _ _ w (agg_s w) rfl) (E _ _),
    items_cons 9999 _ _ _ 1 _ _ _ _ w (part_1 _ _ _ _ w (agg_s w) rfl) (part_1 _ _ _ _ w (agg_s w) rfl) (E _ _),
    items_cons 9999 _ _ _ 2 _ _ _ _ w (part_1 _ _ _ _ w (agg_s w) rfl) (part_1 _ _ _ _ w (agg_s w) rfl) (E _ _), items_nil]
  rw [if_and, Bool.and_true, if_and, if_and]
end Go.Proofs.YtfeecfdbncjmnaaDoor.Fm
