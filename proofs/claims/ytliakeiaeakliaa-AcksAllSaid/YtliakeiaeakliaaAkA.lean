/- Layer 13: a set cloned, a number added to it; the walks of what a state tells. By hand. -/
import Derived.Test.YtliakeiaeakliaaAkM
import Derived.Test.YtliakeiaeakliaaRgT2
import Derived.WalkSpells
import Derived.Lib.SliceRun
namespace Go.Proofs.Ytliakeiaeakliaa.Rg
set_option maxRecDepth 20000
open Go.RowKit Go.Shelf
set_option linter.unusedVariables false
set_option linter.unusedSimpArgs false

theorem ow_blk {w : World} {base : Nat} {e : TypeId} {v : Value} {l : List Ran} (h : Ow w base e v l) (k : Nat) (hk : Blk v k) : base ≤ k := by
  rcases h.2 with ⟨rfl, _⟩ | ⟨g, cap, cur, rfl, hb, _⟩
  · exact hk.elim
  · have : g = k := hk.2
    omega
set_option maxHeartbeats 1000000 in
theorem clone_nil (c : Nat) (w : World) :
    Calls Try.prog 28 #[.slice none 0 c] w fun e w' => ∃ v, e = .returned v ∧ Rd w' v [] ∧ (∀ k, Blk v k → w.heap.size ≤ k) ∧ Below w.heap.size w w' := by
  have qT : ∀ (w : World) (a : Option Addr) (n c n' c' : Nat), (binOp .eql 25 (.slice a n c) (.slice none n' c')).run Try.prog w = .ok (.bool a.isNone) w := fun w a n c n' c' => Lib.run_eql_slice_nil w _ _ a n c n' c' Try.underlying25
  go_enter Try.func28, Try.ntmps28
  go_wp2
  go_ret
  exact ⟨_, rfl, ⟨none, 0, rfl, Nat.le_refl _, fun h => absurd rfl h⟩, fun k h => h.elim, Below.refl _ _⟩
set_option maxHeartbeats 2000000 in
theorem clone_row (a : Addr) (n c : Nat) (l : List Ran) (w : World) (hn : l.length = n) (hl : n ≤ 1000) (hrd : Rd w (.slice (some a) n c) l) :
    Calls Try.prog 28 #[.slice (some a) n c] w fun e w' => ∃ v, e = .returned v ∧ Rd w' v l ∧ (∀ k, Blk v k → w.heap.size ≤ k) ∧ Below w.heap.size w w' := by
  have qT : ∀ (w : World) (a : Option Addr) (n c n' c' : Nat), (binOp .eql 25 (.slice a n c) (.slice none n' c')).run Try.prog w = .ok (.bool a.isNone) w := fun w a n c n' c' => Lib.run_eql_slice_nil w _ _ a n c n' c' Try.underlying25
  obtain ⟨i0, hi, hz0, hz1, hz2⟩ := info_parts infoR
  have hz1 := Lib.hid hz1; have hz2 := Lib.hid hz2; have hz0 := Lib.hid hz0; have hi := Lib.hid hi
  subst hn
  have HB0 := Lib.hid ((Below.refl w.heap.size w).alloc (Nat.le_refl _) (.cells #[] 52))
  have HR := Lib.hid (hrd.below HB0.out (Nat.le_refl _))
  have HO := Lib.hid (ow_made w 52)
  clear hrd
  go_enter Try.func28, Try.ntmps28
  go_wp2_with (at_builtin; refine wpList_append_rd _ rfl _ _ 25 rfl w.heap.size 52 i0 (.agg #[.int .u64 0, .int .u64 0]) Try.underlying25 hi.out hz0.out hz1.out hz2.out rfl _ rfl [] HO.out (.slice (some a) l.length c) rfl l HR.out (by simp; omega) (by simp) ?_)
  intro a4 n4 c4 w2 o2 g2 _
  have B2 := Lib.hid (HB0.out.grown g2 (by simp) (fun k hk => (HO.out.lt hk).1))
  have O2 := Lib.hid o2
  clear o2 g2
  go_wp2_with fail
  go_ret
  exact ⟨_, rfl, O2.out.rd, ow_blk O2.out, B2.out⟩
theorem clone_any (a : Option Addr) (n c : Nat) (l : List Ran) (w : World) (hn : l.length = n) (hl : n ≤ 1000) (hrd : Rd w (.slice a n c) l) :
    Calls Try.prog 28 #[.slice a n c] w fun e w' => ∃ v, e = .returned v ∧ Rd w' v l ∧ (∀ k, Blk v k → w.heap.size ≤ k) ∧ Below w.heap.size w w' := by
  cases a with
  | some a => exact clone_row a n c l w hn hl hrd
  | none =>
    obtain ⟨a', cap, e, _, h⟩ := hrd
    have : l = [] := by
      apply Classical.byContradiction
      intro hne
      obtain ⟨b, off, e2, _⟩ := h hne
      rw [e2] at e
      cases e
    subst this
    obtain rfl : n = 0 := hn.symm
    exact clone_nil c w

set_option maxHeartbeats 2000000 in
theorem add_fresh (a : Option Addr) (n cap : Nat) (l : List Ran) (lo hi' : Int) (w : World) (hl : l.length ≤ 200) (hcan : Can l) (h0 : 0 ≤ lo) (h1 : hi' < 9223372036854775808) (hrd : Rd w (.slice a n cap) l) :
    Calls Try.prog 30 #[.slice a n cap, .agg #[.int .u64 lo, .int .u64 hi']] w fun e w' => ∃ v l', e = .returned v ∧ Can l' ∧ (∀ n, mem l' n ↔ mem l n ∨ inn (lo, hi') n) ∧ l'.length ≤ l.length + 1 ∧ Rd w' v l' ∧ (∀ k, Blk v k → w.heap.size ≤ k) ∧ Below w.heap.size w w' := by
  obtain rfl : n = l.length := by obtain ⟨_, _, e, _⟩ := hrd; cases e; rfl
  have HRD := Lib.hid hrd
  clear hrd
  go_enter Try.func30, Try.ntmps30
  go_wp2_with fail
  have hb0 : Below w.heap.size w (((w.alloc (.cells #[.int .u64 lo, .int .u64 hi'] 52)).alloc (.cells #[.int .u64 lo, .int .u64 hi'] 52)).alloc (.cells #[.slice a l.length cap, .slice (some ⟨w.heap.size + 1, 0, none⟩) 1 1] 25)) := (((Below.refl _ w).alloc (Nat.le_refl _) _).alloc (by simp) _).alloc (by simp; omega) _
  have hrg : Rd (((w.alloc (.cells #[.int .u64 lo, .int .u64 hi'] 52)).alloc (.cells #[.int .u64 lo, .int .u64 hi'] 52)).alloc (.cells #[.slice a l.length cap, .slice (some ⟨w.heap.size + 1, 0, none⟩) 1 1] 25)) (.slice (some ⟨w.heap.size + 1, 0, none⟩) [(lo, hi')].length 1) [(lo, hi')] :=
    ⟨_, 1, rfl, Nat.le_refl _, fun _ => ⟨_, 0, rfl, fun i hi => by
      obtain rfl : i = 0 := by simp at hi; omega
      simp [go_sem]⟩⟩
  refine (concat_any (w.heap.size + 1 + 1) a cap l (some ⟨w.heap.size + 1, 0, none⟩) 1 [(lo, hi')] _ (by simp) (by simp [go_sem]) (by simp [go_sem]) (HRD.out.below hb0 (Nat.le_refl _)) hrg (by omega) (by simp)).mono ?_
  rintro e w4 ⟨v, rfl, r4, b4⟩
  obtain ⟨a4, c4, rfl, -, -⟩ := id r4
  have hz4 := b4.size
  have B4 : Hid (Below w.heap.size w w4) := Lib.hid (hb0.trans (b4.mono (by simp; omega)))
  have hok : ∀ x ∈ l ++ [(lo, hi')], 0 ≤ x.1 ∧ x.2 < 9223372036854775808 := by
    intro x hx
    rcases List.mem_append.1 hx with hx | hx
    · have := hcan.good x hx; exact ⟨this.1, this.2.2⟩
    · rw [List.mem_singleton.1 hx]; exact ⟨h0, h1⟩
  have HO := Lib.hid (of_fresh a4 _ c4 (l ++ [(lo, hi')]) (by simp; omega) hok w4 r4)
  clear r4 b4 hb0 hrg
  go_wp2_with fail
  have ho := HO.out
  rw [List.length_append, List.length_singleton] at ho
  refine ho.mono ?_
  rintro e w5 ⟨v5, l', rfl, q1, q2, q3, q4, qf, q5⟩
  have Q1 := Lib.hid q1
  have Q2 := Lib.hid q2
  have Q3 := Lib.hid q3
  have Q4 := Lib.hid q4
  have Q6 := Lib.hid qf
  have Q5 := Lib.hid (B4.out.trans (q5.mono B4.out.size))
  clear q1 q2 q3 q4 q5 qf ho
  go_wp2
  go_ret
  exact ⟨_, l', rfl, Q1.out, fun n => by rw [Q2.out, mem_append, mem_single], Q3.out, Q4.out, fun k hk => Nat.le_trans B4.out.size (Q6.out k hk), Q5.out⟩

theorem ret_i64 {a b : Int} (h : a = b) : Ending.returned (.int .i64 a) = .returned (.int .i64 b) := by rw [h]
theorem ret_bool {a b : Bool} (h : a = b) : Ending.returned (.bool a) = .returned (.bool b) := by rw [h]
set_option maxHeartbeats 1000000 in
theorem held_any (v : Value) (fl tp ow si t : Int) (w : World) (h0 : 0 ≤ tp) (h1 : tp ≤ 1099511627776) (h2 : 0 ≤ t) (h3 : t ≤ 1099511627776) :
    Calls Try.prog 23 #[.agg #[v, .int .u64 fl, .int .i64 tp, .int .i64 ow, .int .i64 si], .int .i64 t] w fun e w' => e = .returned (.int .i64 (max (t - tp) 0)) ∧ Below w.heap.size w w' := by
  go_enter Try.func23, Try.ntmps23
  go_wp2
  all_goals (go_ret; exact ⟨ret_i64 (by omega), (Below.refl _ _).alloc (Nat.le_refl _) _⟩)
/-- The greatest number, and whether there is one. -/
def gr (l : List Ran) : Value := .tuple #[.int .u64 (if l = [] then 0 else lastHi l), .bool (!l.isEmpty)]
set_option maxHeartbeats 1000000 in
theorem greatest_none (a : Option Addr) (c : Nat) (fl tp ow si : Int) (w : World) :
    Calls Try.prog 21 #[.agg #[.slice a 0 c, .int .u64 fl, .int .i64 tp, .int .i64 ow, .int .i64 si]] w fun e w' => e = .returned (.tuple #[.int .u64 0, .bool false]) ∧ Below w.heap.size w w' := by
  go_enter Try.func21, Try.ntmps21
  go_wp2
  go_ret2
  exact ⟨rfl, (Below.refl _ _).alloc (Nat.le_refl _) _⟩
set_option maxHeartbeats 1000000 in
theorem greatest_row (b off m c : Nat) (x : Int) (fl tp ow si : Int) (w : World) (hc : m + 1 ≤ c) (hm : m ≤ 1000) (hx : w.cell? ⟨b, off + m * 2 + 1, none⟩ = some (.int .u64 x)) :
    Calls Try.prog 21 #[.agg #[.slice (some ⟨b, off, none⟩) (m + 1) c, .int .u64 fl, .int .i64 tp, .int .i64 ow, .int .i64 si]] w fun e w' => e = .returned (.tuple #[.int .u64 x, .bool true]) ∧ Below w.heap.size w w' := by
  have hb := block_lt_of_cell hx
  have v1 : IntKind.i64.wrap (((m + 1 : Nat) : Int) - 1) = m := by rw [show ((m + 1 : Nat) : Int) - 1 = m by omega]; exact IntWalk.i64_in _ (by omega)
  have d1 : (((m + 1 : Nat) : Int) == 0) = false := by rw [beq_eq_false_iff_ne]; omega
  go_enter Try.func21, Try.ntmps21
  go_wp2
  go_ret2
  exact ⟨rfl, (Below.refl _ _).alloc (Nat.le_refl _) _⟩
theorem greatest_any (v : Value) (l : List Ran) (fl tp ow si : Int) (w : World) (hl : l.length ≤ 1000) (hrd : Rd w v l) :
    Calls Try.prog 21 #[.agg #[v, .int .u64 fl, .int .i64 tp, .int .i64 ow, .int .i64 si]] w fun e w' => e = .returned (.tuple #[.int .u64 (if l = [] then 0 else lastHi l), .bool (!l.isEmpty)]) ∧ Below w.heap.size w w' := by
  obtain ⟨a, c, rfl, hc, hrow⟩ := hrd
  by_cases hn : l = []
  · subst hn
    exact greatest_none a c fl tp ow si w
  · obtain ⟨b, off, rfl, h⟩ := hrow hn
    obtain ⟨m, hm⟩ : ∃ m, l.length = m + 1 := ⟨l.length - 1, by have := List.length_pos_iff.2 hn; omega⟩
    have h1 := (h m (by omega)).2
    rw [if_neg hn, show (!l.isEmpty) = true by cases l with | nil => exact absurd rfl hn | cons => rfl]
    unfold lastHi
    rw [hm] at hc ⊢
    exact greatest_row b off m c _ fl tp ow si w hc (by omega) h1
set_option maxHeartbeats 1000000 in
theorem closed_any (v : Value) (s : St) (n : Int) (w : World) (hl : s.l.length ≤ 1000) (hcan : Can s.l) (hrd : Rd w v s.l) :
    Calls Try.prog 17 #[.agg #[v, .int .u64 s.fl, .int .i64 s.tp, .int .i64 s.ow, .int .i64 s.si], .int .u64 n] w fun e w' => e = .returned (.bool (shut s n)) ∧ Below w.heap.size w w' := by
  obtain ⟨l, fl, tp, ow, si⟩ := s
  simp only at hl hcan hrd ⊢
  have HB0 := Lib.hid ((Below.refl w.heap.size w).alloc (Nat.le_refl _) (.cells #[v, .int .u64 fl, .int .i64 tp, .int .i64 ow, .int .i64 si] 28))
  have CH := Lib.hid (fun W (h : Rd W v l) => has' v l n W hl hcan h)
  have HR := Lib.hid (hrd.go HB0.out)
  clear hrd hcan
  unfold shut
  simp only
  by_cases hf : n < fl
  · have d1 : decide (n < fl) = true := decide_eq_true hf
    go_enter Try.func17, Try.ntmps17
    go_wp2
    go_ret
    exact ⟨by simp [hf], HB0.out⟩
  · have d1 : decide (n < fl) = false := decide_eq_false hf
    go_enter Try.func17, Try.ntmps17
    go_wp2_with fail
    refine (CH.out _ HR.out).mono ?_
    rintro e w1 ⟨rfl, hb⟩
    have HB1 := Lib.hid (next HB0.out hb)
    clear hb
    go_wp2_with fail
    go_ret
    exact ⟨ret_bool (by rw [decide_eq_false (by omega), Bool.false_or]), HB1.out⟩
end Go.Proofs.Ytliakeiaeakliaa.Rg
