/- The walks of layer 3: appending a slice of ranges; Grow, Concat, Add; May. -/
import Derived.Test.YtedijfcagkedaaaRgV
import Derived.Lib.AppendZeros
import Derived.Laws.OwnMore
namespace Go.Proofs.Ytedijfcagkedaaa.Rg
set_option maxRecDepth 20000
open Go.RowKit Go.Shelf
set_option linter.unusedVariables false

theorem run_append_none {P : Program} {w : World} (base : Nat) (t ty e : TypeId) (i : TypeInfo) (size c : Nat) (ht : P.underlying t = some (.slice e)) (hi : P.info? e = some i)
    (v : Value) (n : Nat) (xs : List Value) (hown : w.ownsRow base e size v n xs) :
    (Builtin.append_ #[t, t] ty #[v, .slice none 0 c]).run P w = .ok v w := by
  rcases hown.2 with ⟨rfl, rfl⟩ | ⟨g, cap, cur, rfl, _, _, hnc, _⟩
  · simp [Builtin.append_, run_underlying ht, sizeOf, typeInfo, hi, Builtin.lenOf, Builtin.firstCells]
  · simp [Builtin.append_, run_underlying ht, sizeOf, typeInfo, hi, Builtin.lenOf, Builtin.firstCells, hnc, storeCells]

theorem cellsOf_one (l : List Ran) : ∀ u ∈ cellsOf l, u.oneCell' = true := by
  intro u hu
  obtain ⟨x, _, hx⟩ := List.mem_flatMap.1 hu
  simp at hx
  rcases hx with rfl | rfl <;> rfl
/-- Every cell of ranges that are read. -/
theorem rd_cells {w : World} {b off : Nat} {l : List Ran} (h : ∀ i, i < l.length → w.cell? ⟨b, off + i * 2, none⟩ = some (.int .u64 (l.getD i (0, 0)).1) ∧ w.cell? ⟨b, off + i * 2 + 1, none⟩ = some (.int .u64 (l.getD i (0, 0)).2)) :
    ∀ j u, (cellsOf l)[j]? = some u → w.cell? ((⟨b, off, none⟩ : Addr).add j) = some u := by
  intro j u hu
  have hj : j < l.length * 2 := by rw [← cellsOf_length]; exact (List.getElem?_eq_some_iff.1 hu).1
  have hq : j / 2 < l.length := by omega
  have h1 := h (j / 2) hq
  have h2 := cellsOf_get l (j / 2) hq
  rw [Addr.add_lit]
  rcases Nat.mod_two_eq_zero_or_one j with hm | hm
  · have e2 : j / 2 * 2 = j := by omega
    rw [e2] at h1 h2
    rw [h1.1, ← h2.1, hu]
  · have e2 : j / 2 * 2 + 1 = j := by omega
    have e3 : off + j / 2 * 2 + 1 = off + j := by omega
    rw [e3] at h1
    rw [e2] at h2
    rw [h1.2, ← h2.2, hu]

/-- APPENDING RANGES THAT ARE READ to a slice of our own. -/
theorem run_append_rd {P : Program} (w : World) (base : Nat) (t ty e : TypeId) (i : TypeInfo) (z : Value) (ht : P.underlying t = some (.slice e)) (hi : P.info? e = some i) (hz : i.zero = some z)
    (hsize : i.size = 2) (hby : i.bytes = 16) (hzs : z.cells.size = 2) (v : Value) (l : List Ran) (hown : Ow w base e v l) (u : Value) (m : List Ran) (hr : Rd w u m) (hlen : l.length + m.length ≤ 100000) (hbase : base ≤ w.heap.size) :
    ∃ v' w', (Builtin.append_ #[t, t] ty #[v, u]).run P w = .ok v' w' ∧ Ow w' base e v' (l ++ m) ∧ w.grownBy w' v.ownBlock ∧ (v'.ownBlock = v.ownBlock ∨ v'.ownBlock = some w.heap.size) := by
  obtain ⟨a, cap, rfl, hcap, hrow⟩ := hr
  have fin : ∀ (ad : Addr), a = some ad → (∀ j u, (cellsOf m)[j]? = some u → w.cell? (ad.add j) = some u) →
      ∃ v' w', (Builtin.append_ #[t, t] ty #[v, .slice a m.length cap]).run P w = .ok v' w' ∧ Ow w' base e v' (l ++ m) ∧ w.grownBy w' v.ownBlock ∧ (v'.ownBlock = v.ownBlock ∨ v'.ownBlock = some w.heap.size) := by
    intro ad ha hc
    obtain ⟨v', w', h1, h2, h3, _, h4⟩ := run_append_own_at (P := P) w base t ty e i z 2 16 ht hi hz hsize hby hzs (by omega) v l.length (cellsOf l) hown ad m.length cap (cellsOf m) (cellsOf_length m) hc (cellsOf_one m) (by unfold maxLen; omega) (by omega) hbase
    refine ⟨v', w', by rw [ha]; exact h1, ?_, h3, h4⟩
    unfold Ow
    rw [List.length_append, cellsOf_append]
    exact h2
  by_cases hnil : m = []
  · subst hnil
    cases a with
    | none => exact ⟨v, w, run_append_none base t ty e i 2 cap ht hi v l.length (cellsOf l) hown, by rw [List.append_nil]; exact hown, ⟨rfl, rfl, rfl, Nat.le_refl _, fun _ _ _ => rfl⟩, .inl rfl⟩
    | some ad => exact fin ad rfl (fun j u h => by simp [cellsOf] at h)
  · obtain ⟨b, off, rfl, hc⟩ := hrow hnil
    exact fin _ rfl (rd_cells hc)
theorem wpList_append_rd {P : Program} (w : World) {ops : Array Oper} {rest : List Oper} {o : Oper} {a : Act} {Q : Exit → Act → World → Prop} (hgd : o.guard = none) (s x : Operand) (t : TypeId)
    (ho : o.op = .call { callee := .builtin .append, args := #[s, x], argTypes := #[t, t] })
    (base : Nat) (e : TypeId) (i : TypeInfo) (z : Value) (ht : P.underlying t = some (.slice e)) (hi : P.info? e = some i) (hz : i.zero = some z)
    (hsize : i.size = 2) (hby : i.bytes = 16) (hzs : z.cells.size = 2) (v : Value) (hs : a.eval s = v) (l : List Ran) (hown : Ow w base e v l) (u : Value) (hx : a.eval x = u) (m : List Ran) (hr : Rd w u m) (hlen : l.length + m.length ≤ 100000) (hbase : base ≤ w.heap.size)
    (h : ∀ a' n' c' w', Ow w' base e (.slice a' n' c') (l ++ m) → w.grownBy w' v.ownBlock → ((Value.slice a' n' c').ownBlock = v.ownBlock ∨ (Value.slice a' n' c').ownBlock = some w.heap.size) → wpList P ops Q rest (a.put o.dst (.slice a' n' c')) w') :
    wpList P ops Q (o :: rest) a w := by
  obtain ⟨v', w', hrun, h1, h2, h3⟩ := run_append_rd (P := P) w base t o.type e i z ht hi hz hsize hby hzs v l hown u m hr hlen hbase
  obtain ⟨a', c', rfl⟩ := h1.form
  exact Lib.wpList_append_run w hgd s x t t ho v u hs hx _ w' hrun (h _ _ _ _ h1 h2 h3)

set_option maxHeartbeats 1000000 in
theorem grow_zero (w : World) : Calls Try.prog 62 #[.slice none 0 0, .int .i64 0] w fun e w' => ∃ v, e = .returned v ∧ Ow w' w.heap.size 68 v [] ∧ Below w.heap.size w w' := by
  go_enter Try.func62, Try.ntmps62
  go_wp2
  go_ret
  exact ⟨_, rfl, Ow.nil _ _ _, Below.refl _ _⟩
set_option maxHeartbeats 1000000 in
theorem grow_some (n : Nat) (hn : n ≤ 1000) (h0 : 0 < n) (w : World) : Calls Try.prog 62 #[.slice none 0 0, .int .i64 n] w fun e w' => ∃ v, e = .returned v ∧ Ow w' w.heap.size 68 v [] ∧ Below w.heap.size w w' := by
  obtain ⟨i0, hi, hz0, hz1, hz2⟩ := info_parts infoR
  have hrun := Lib.run_append_nil_zeros (P := Try.prog) w 27 3 27 68 i0 (.agg #[.int .u64 0, .int .u64 0]) .i64 .i64 Try.underlying27 Try.underlying3 hi hz0 n h0 (by omega) (by omega) (by rw [hz2]; omega)
  have HR := Lib.hid hrun
  have hcg := grownCap_ge w n 0 68
  have hcm := grownCap_le_maxLen w n 0 68 (by unfold maxLen; omega)
  clear hrun hi hz0 hz1 hz2
  generalize hcap : grownCap w n 0 68 = cap at *
  have HCM := Lib.hid hcm
  have hcm2 : (cap : Int) ≤ 9223372036854775807 := by unfold maxLen at hcm; omega
  have hn0 : ¬ n = 0 := by omega
  clear hcm hcap
  go_enter Try.func62, Try.ntmps62
  go_wp2_with (at_builtin; refine Lib.wpList_append_run _ rfl _ _ _ _ rfl _ _ rfl rfl _ _ HR.out ?_)
  go_ret
  refine ⟨_, rfl, ?_, ((Below.refl w.heap.size w).drew).alloc (Nat.le_refl _) _⟩
  have := World.ownsRow_made (base := w.heap.size) (e := 68) (size := 2) w.drew (Builtin.zeroCells (Value.agg #[.int .u64 0, .int .u64 0]).cells n ++ Builtin.zeroCells (Value.agg #[.int .u64 0, .int .u64 0]).cells (cap - n)) cap (Nat.le_refl _) HCM.out (by rw [Array.size_append, size_zeroCells, size_zeroCells]; simp [Value.cells]; omega)
  exact this
theorem grow_any (n : Nat) (hn : n ≤ 1000) (w : World) : Calls Try.prog 62 #[.slice none 0 0, .int .i64 n] w fun e w' => ∃ v, e = .returned v ∧ Ow w' w.heap.size 68 v [] ∧ Below w.heap.size w w' := by
  rcases Nat.eq_zero_or_pos n with rfl | h
  · exact grow_zero w
  · exact grow_some n hn h w

set_option maxHeartbeats 2000000 in
theorem concat_any (bb : Nat) (a1 : Option Addr) (c1 : Nat) (l1 : List Ran) (a2 : Option Addr) (c2 : Nat) (l2 : List Ran) (w : World) (hbb : bb < w.heap.size)
    (h1 : w.cell? ⟨bb, 0, none⟩ = some (.slice a1 l1.length c1)) (h2 : w.cell? ⟨bb, 1, none⟩ = some (.slice a2 l2.length c2)) (hr1 : Rd w (.slice a1 l1.length c1) l1) (hr2 : Rd w (.slice a2 l2.length c2) l2) (hl1 : l1.length ≤ 300) (hl2 : l2.length ≤ 300) :
    Calls Try.prog 41 #[.slice (some ⟨bb, 0, none⟩) 2 2] w fun e w' => ∃ v, e = .returned v ∧ Rd w' v (l1 ++ l2) ∧ Below w.heap.size w w' := by
  obtain ⟨i0, hi, hz0, hz1, hz2⟩ := info_parts infoR
  have hz1 := Lib.hid hz1; have hz2 := Lib.hid hz2; have hz0 := Lib.hid hz0; have hi := Lib.hid hi
  have HR1 := Lib.hid hr1
  have HR2 := Lib.hid hr2
  clear hr1 hr2
  go_enter Try.func41, Try.ntmps41
  go_wp2
  refine wp_loop_rounds 3 ?_
  rw [rounds_succ]
  go_wp2_with fail
  rw [rounds_succ]
  go_wp2_with fail
  rw [rounds_succ]
  go_wp2_with fail
  have hg := grow_any (l1.length + l2.length) (by omega) w
  rw [show ((l1.length + l2.length : Nat) : Int) = (l1.length : Int) + l2.length by omega] at hg
  refine hg.mono ?_
  rintro e w1 ⟨v0, rfl, o1, b1⟩
  obtain ⟨a3, c3, rfl⟩ := o1.form
  have hz1' := b1.size
  have k1 := cell_below b1 h1 hbb
  have k2 := cell_below b1 h2 hbb
  have O1 := Lib.hid o1
  have B1 := Lib.hid b1
  have R1 := Lib.hid (HR1.out.below b1 (Nat.le_refl _))
  clear o1 b1 hg h1 h2
  go_wp2
  refine wp_loop_rounds 3 ?_
  rw [rounds_succ]
  go_wp2_with (at_builtin; refine wpList_append_rd _ rfl _ _ 27 rfl w.heap.size 68 i0 (.agg #[.int .u64 0, .int .u64 0]) Try.underlying27 hi.out hz0.out hz1.out hz2.out rfl (.slice a3 0 c3) rfl [] O1.out (.slice a1 l1.length c1) rfl l1 R1.out (by simp; omega) (by omega) ?_)
  intro a4 n4 c4 w2 o2 g2 _
  have B2 := Lib.hid (B1.out.grown g2 (by omega) (fun k hk => (O1.out.lt hk).1))
  have O2 := Lib.hid o2
  have R2 := Lib.hid (HR2.out.below B2.out (Nat.le_refl _))
  have hz2' := B2.out.size
  have hbb1 : bb < w1.heap.size := by omega
  have k3 : w2.cell? ⟨bb, 1, none⟩ = some (.slice a2 l2.length c2) := g2.cell k2 (fun h => by have := (O1.out.lt h.symm).1; simp only at this; omega)
  clear o2 g2 k1 k2
  go_wp2_with fail
  rw [rounds_succ]
  go_wp2_with (at_builtin; refine wpList_append_rd _ rfl _ _ 27 rfl w.heap.size 68 i0 (.agg #[.int .u64 0, .int .u64 0]) Try.underlying27 hi.out hz0.out hz1.out hz2.out rfl (.slice a4 n4 c4) rfl ([] ++ l1) O2.out (.slice a2 l2.length c2) rfl l2 R2.out (by simp; omega) (by omega) ?_)
  intro a5 n5 c5 w3 o3 g3 _
  have B3 := Lib.hid (B2.out.grown g3 (by omega) (fun k hk => (O2.out.lt hk).1))
  have O3 := Lib.hid o3
  clear o3 g3 k3
  go_wp2_with fail
  rw [rounds_succ]
  go_wp2
  go_ret
  exact ⟨_, rfl, O3.out.rd, B3.out⟩

set_option maxHeartbeats 2000000 in
theorem add_any (a : Option Addr) (n cap : Nat) (l : List Ran) (lo hi' : Int) (w : World) (hl : l.length ≤ 200) (hcan : Can l) (h0 : 0 ≤ lo) (h1 : hi' < 9223372036854775808) (hrd : Rd w (.slice a n cap) l) :
    Calls Try.prog 44 #[.slice a n cap, .agg #[.int .u64 lo, .int .u64 hi']] w fun e w' => ∃ v l', e = .returned v ∧ Can l' ∧ (∀ n, mem l' n ↔ mem l n ∨ inn (lo, hi') n) ∧ l'.length ≤ l.length + 1 ∧ Rd w' v l' ∧ Below w.heap.size w w' := by
  obtain rfl : n = l.length := by obtain ⟨_, _, e, _⟩ := hrd; cases e; rfl
  have HRD := Lib.hid hrd
  clear hrd
  go_enter Try.func44, Try.ntmps44
  go_wp2_with fail
  have hb0 : Below w.heap.size w (((w.alloc (.cells #[.int .u64 lo, .int .u64 hi'] 68)).alloc (.cells #[.int .u64 lo, .int .u64 hi'] 68)).alloc (.cells #[.slice a l.length cap, .slice (some ⟨w.heap.size + 1, 0, none⟩) 1 1] 27)) := (((Below.refl _ w).alloc (Nat.le_refl _) _).alloc (by simp) _).alloc (by simp; omega) _
  have hrg : Rd (((w.alloc (.cells #[.int .u64 lo, .int .u64 hi'] 68)).alloc (.cells #[.int .u64 lo, .int .u64 hi'] 68)).alloc (.cells #[.slice a l.length cap, .slice (some ⟨w.heap.size + 1, 0, none⟩) 1 1] 27)) (.slice (some ⟨w.heap.size + 1, 0, none⟩) [(lo, hi')].length 1) [(lo, hi')] :=
    ⟨_, 1, rfl, Nat.le_refl _, fun _ => ⟨_, 0, rfl, fun i hi => by
      obtain rfl : i = 0 := by simp at hi; omega
      simp [go_sem]⟩⟩
  refine (concat_any (w.heap.size + 1 + 1) a cap l (some ⟨w.heap.size + 1, 0, none⟩) 1 [(lo, hi')] _ (by simp) (by simp [go_sem]) (by simp [go_sem]) (HRD.out.below hb0 (Nat.le_refl _)) hrg (by omega) (by simp)).mono ?_
  rintro e w4 ⟨v, rfl, r4, b4⟩
  obtain ⟨a4, c4, rfl, -, -⟩ := id r4
  have hz4 := b4.size
  have B4 : Hid (Below w.heap.size w w4) := Lib.hid (hb0.trans (b4.mono (by simp; omega)))
  have hok : ∀ x ∈ l ++ [(lo, hi')], 0 ≤ x.1 ∧ x.2 < 9223372036854775808 := by
    intro x hx
    rcases List.mem_append.1 hx with hx | hx
    · have := hcan.good x hx; exact ⟨this.1, this.2.2⟩
    · rw [List.mem_singleton.1 hx]; exact ⟨h0, h1⟩
  have HO := Lib.hid (of_loop a4 _ c4 (l ++ [(lo, hi')]) (by simp; omega) hok w4 r4)
  clear r4 b4 hb0 hrg
  go_wp2_with fail
  have ho := HO.out
  rw [List.length_append, List.length_singleton] at ho
  refine ho.mono ?_
  rintro e w5 ⟨v5, l', rfl, q1, q2, q3, q4, q5⟩
  have Q1 := Lib.hid q1
  have Q2 := Lib.hid q2
  have Q3 := Lib.hid q3
  have Q4 := Lib.hid q4
  have Q5 := Lib.hid (B4.out.trans (q5.mono B4.out.size))
  clear q1 q2 q3 q4 q5 ho
  go_wp2
  go_ret
  exact ⟨_, l', rfl, Q1.out, fun n => by rw [Q2.out, mem_append, mem_single], Q3.out, Q4.out, Q5.out⟩

/-- May it be a set? -/
def MayP (l : List Ran) : Prop := ∀ i, i < l.length → (l.getD i (0, 0)).1 ≤ (l.getD i (0, 0)).2 ∧ (l.getD i (0, 0)).2 < 9223372036854775808 ∧ (0 < i → (l.getD (i - 1) (0, 0)).2 + 2 ≤ (l.getD i (0, 0)).1)
instance (l : List Ran) : Decidable (MayP l) := inferInstanceAs (Decidable (∀ i, i < l.length → _))
theorem Can.may {l : List Ran} (h : Can l) : MayP l := by
  intro i hi
  rw [getD_get hi]
  have h1 := h.good l[i] (List.getElem_mem _)
  refine ⟨h1.2.1, h1.2.2, fun h0 => ?_⟩
  rw [getD_get (by omega)]
  exact (List.pairwise_iff_getElem.1 h.rise) (i - 1) i (by omega) hi (by omega)
def MayTo (l : List Ran) (k : Nat) : Prop := ∀ i, i < k → (l.getD i (0, 0)).1 ≤ (l.getD i (0, 0)).2 ∧ (l.getD i (0, 0)).2 < 9223372036854775808 ∧ (0 < i → (l.getD (i - 1) (0, 0)).2 + 2 ≤ (l.getD i (0, 0)).1)
def mayB (l : List Ran) : Bool := decide (MayP l)
theorem mayB_no {l : List Ran} (h : ¬ MayP l) : mayB l = false := decide_eq_false h
theorem mayB_yes {l : List Ran} (h : MayP l) : mayB l = true := decide_eq_true h
theorem mayTo_succ {l : List Ran} {k : Nat} (h : MayTo l k) {x : Ran} (hx : l.getD k (0, 0) = x) (h1 : x.1 ≤ x.2) (h2 : x.2 < 9223372036854775808) (h3 : 0 < k → (l.getD (k - 1) (0, 0)).2 + 2 ≤ x.1) : MayTo l (k + 1) := by
  intro i hi
  rcases Nat.lt_or_ge i k with h' | h'
  · exact h i h'
  · obtain rfl : i = k := by omega
    rw [hx]
    exact ⟨h1, h2, h3⟩

end Go.Proofs.Ytedijfcagkedaaa.Rg
