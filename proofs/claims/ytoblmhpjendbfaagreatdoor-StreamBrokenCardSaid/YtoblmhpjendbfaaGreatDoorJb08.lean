/- The walks of layer 3: appending a slice of ranges; Grow, Concat, Add; May. · Layer 14: the walks of what is had, and lacking; of what is refused; a cursor -/
import Derived.Test.YtoblmhpjendbfaaGreatDoorJb07
import Derived.Lib.AppendZeros
import Derived.Laws.OwnMore
import Derived.Test.YtoblmhpjendbfaaGreatDoorJb06
namespace Go.Proofs.YtoblmhpjendbfaaGreatDoor.Rg
set_option maxRecDepth 20000
open Go.RowKit Go.Shelf
set_option linter.unusedVariables false

theorem run_append_none {P : Program} {w : World} (base : Nat) (t ty e : TypeId) (i : TypeInfo) (size c : Nat) (ht : P.underlying t = some (.slice e)) (hi : P.info? e = some i)
    (v : Value) (n : Nat) (xs : List Value) (hown : w.ownsRow base e size v n xs) :
    (Builtin.append_ #[t, t] ty #[v, .slice none 0 c]).run P w = .ok v w := by
  rcases hown.2 with ⟨rfl, rfl⟩ | ⟨g, cap, cur, rfl, _, _, hnc, _⟩
  · simp [Builtin.append_, run_underlying ht, sizeOf, typeInfo, hi, Builtin.lenOf, Builtin.firstCells]
  · simp [Builtin.append_, run_underlying ht, sizeOf, typeInfo, hi, Builtin.lenOf, Builtin.firstCells, hnc, storeCells]

theorem cellsOf_one (l : List Ran) : ∀ u ∈ cellsOf l, u.oneCell' = true := by
  intro u hu
  obtain ⟨x, _, hx⟩ := List.mem_flatMap.1 hu
  simp at hx
  rcases hx with rfl | rfl <;> rfl
/-- Every cell of ranges that are read. -/
theorem rd_cells {w : World} {b off : Nat} {l : List Ran} (h : ∀ i, i < l.length → w.cell? ⟨b, off + i * 2, none⟩ = some (.int .u64 (l.getD i (0, 0)).1) ∧ w.cell? ⟨b, off + i * 2 + 1, none⟩ = some (.int .u64 (l.getD i (0, 0)).2)) :
    ∀ j u, (cellsOf l)[j]? = some u → w.cell? ((⟨b, off, none⟩ : Addr).add j) = some u := by
  intro j u hu
  have hj : j < l.length * 2 := by rw [← cellsOf_length]; exact (List.getElem?_eq_some_iff.1 hu).1
  have hq : j / 2 < l.length := by omega
  have h1 := h (j / 2) hq
  have h2 := cellsOf_get l (j / 2) hq
  rw [Addr.add_lit]
  rcases Nat.mod_two_eq_zero_or_one j with hm | hm
  · have e2 : j / 2 * 2 = j := by omega
    rw [e2] at h1 h2
    rw [h1.1, ← h2.1, hu]
  · have e2 : j / 2 * 2 + 1 = j := by omega
    have e3 : off + j / 2 * 2 + 1 = off + j := by omega
    rw [e3] at h1
    rw [e2] at h2
    rw [h1.2, ← h2.2, hu]

/-- APPENDING RANGES THAT ARE READ to a slice of our own. -/
theorem run_append_rd {P : Program} (w : World) (base : Nat) (t ty e : TypeId) (i : TypeInfo) (z : Value) (ht : P.underlying t = some (.slice e)) (hi : P.info? e = some i) (hz : i.zero = some z)
    (hsize : i.size = 2) (hby : i.bytes = 16) (hzs : z.cells.size = 2) (v : Value) (l : List Ran) (hown : Ow w base e v l) (u : Value) (m : List Ran) (hr : Rd w u m) (hlen : l.length + m.length ≤ 100000) (hbase : base ≤ w.heap.size) :
    ∃ v' w', (Builtin.append_ #[t, t] ty #[v, u]).run P w = .ok v' w' ∧ Ow w' base e v' (l ++ m) ∧ w.grownBy w' v.ownBlock ∧ (v'.ownBlock = v.ownBlock ∨ v'.ownBlock = some w.heap.size) := by
  obtain ⟨a, cap, rfl, hcap, hrow⟩ := hr
  have fin : ∀ (ad : Addr), a = some ad → (∀ j u, (cellsOf m)[j]? = some u → w.cell? (ad.add j) = some u) →
      ∃ v' w', (Builtin.append_ #[t, t] ty #[v, .slice a m.length cap]).run P w = .ok v' w' ∧ Ow w' base e v' (l ++ m) ∧ w.grownBy w' v.ownBlock ∧ (v'.ownBlock = v.ownBlock ∨ v'.ownBlock = some w.heap.size) := by
    intro ad ha hc
    obtain ⟨v', w', h1, h2, h3, _, h4⟩ := run_append_own_at (P := P) w base t ty e i z 2 16 ht hi hz hsize hby hzs (by omega) v l.length (cellsOf l) hown ad m.length cap (cellsOf m) (cellsOf_length m) hc (cellsOf_one m) (by unfold maxLen; omega) (by omega) hbase
    refine ⟨v', w', by rw [ha]; exact h1, ?_, h3, h4⟩
    unfold Ow
    rw [List.length_append, cellsOf_append]
    exact h2
  by_cases hnil : m = []
  · subst hnil
    cases a with
    | none => exact ⟨v, w, run_append_none base t ty e i 2 cap ht hi v l.length (cellsOf l) hown, by rw [List.append_nil]; exact hown, ⟨rfl, rfl, rfl, Nat.le_refl _, fun _ _ _ => rfl⟩, .inl rfl⟩
    | some ad => exact fin ad rfl (fun j u h => by simp [cellsOf] at h)
  · obtain ⟨b, off, rfl, hc⟩ := hrow hnil
    exact fin _ rfl (rd_cells hc)
theorem wpList_append_rd {P : Program} (w : World) {ops : Array Oper} {rest : List Oper} {o : Oper} {a : Act} {Q : Exit → Act → World → Prop} (hgd : o.guard = none) (s x : Operand) (t : TypeId)
    (ho : o.op = .call { callee := .builtin .append, args := #[s, x], argTypes := #[t, t] })
    (base : Nat) (e : TypeId) (i : TypeInfo) (z : Value) (ht : P.underlying t = some (.slice e)) (hi : P.info? e = some i) (hz : i.zero = some z)
    (hsize : i.size = 2) (hby : i.bytes = 16) (hzs : z.cells.size = 2) (v : Value) (hs : a.eval s = v) (l : List Ran) (hown : Ow w base e v l) (u : Value) (hx : a.eval x = u) (m : List Ran) (hr : Rd w u m) (hlen : l.length + m.length ≤ 100000) (hbase : base ≤ w.heap.size)
    (h : ∀ a' n' c' w', Ow w' base e (.slice a' n' c') (l ++ m) → w.grownBy w' v.ownBlock → ((Value.slice a' n' c').ownBlock = v.ownBlock ∨ (Value.slice a' n' c').ownBlock = some w.heap.size) → wpList P ops Q rest (a.put o.dst (.slice a' n' c')) w') :
    wpList P ops Q (o :: rest) a w := by
  obtain ⟨v', w', hrun, h1, h2, h3⟩ := run_append_rd (P := P) w base t o.type e i z ht hi hz hsize hby hzs v l hown u m hr hlen hbase
  obtain ⟨a', c', rfl⟩ := h1.form
  exact Lib.wpList_append_run w hgd s x t t ho v u hs hx _ w' hrun (h _ _ _ _ h1 h2 h3)

set_option maxHeartbeats 1000000 in
theorem grow_zero (w : World) : Calls Tryz.prog 175 #[.slice none 0 0, .int .i64 0] w fun e w' => ∃ v, e = .returned v ∧ Ow w' w.heap.size 153 v [] ∧ Below w.heap.size w w' := by
  go_enter Tryz.func175, Tryz.ntmps175
  go_wp2
  go_ret
  exact ⟨_, rfl, Ow.nil _ _ _, Below.refl _ _⟩
set_option maxHeartbeats 1000000 in
theorem grow_some (n : Nat) (hn : n ≤ 1000) (h0 : 0 < n) (w : World) : Calls Tryz.prog 175 #[.slice none 0 0, .int .i64 n] w fun e w' => ∃ v, e = .returned v ∧ Ow w' w.heap.size 153 v [] ∧ Below w.heap.size w w' := by
  obtain ⟨i0, hi, hz0, hz1, hz2⟩ := info_parts infoR
  have hrun := Lib.run_append_nil_zeros (P := Tryz.prog) w 28 3 28 153 i0 (.agg #[.int .u64 0, .int .u64 0]) .i64 .i64 Tryz.underlying28 Tryz.underlying3 hi hz0 n h0 (by omega) (by omega) (by rw [hz2]; omega)
  have HR := Lib.hid hrun
  have hcg := grownCap_ge w n 0 153
  have hcm := grownCap_le_maxLen w n 0 153 (by unfold maxLen; omega)
  clear hrun hi hz0 hz1 hz2
  generalize hcap : grownCap w n 0 153 = cap at *
  have HCM := Lib.hid hcm
  have hcm2 : (cap : Int) ≤ 9223372036854775807 := by unfold maxLen at hcm; omega
  have hn0 : ¬ n = 0 := by omega
  clear hcm hcap
  go_enter Tryz.func175, Tryz.ntmps175
  go_wp2_with (at_builtin; refine Lib.wpList_append_run _ rfl _ _ _ _ rfl _ _ rfl rfl _ _ HR.out ?_)
  go_ret
  refine ⟨_, rfl, ?_, ((Below.refl w.heap.size w).drew).alloc (Nat.le_refl _) _⟩
  have := World.ownsRow_made (base := w.heap.size) (e := 153) (size := 2) w.drew (Builtin.zeroCells (Value.agg #[.int .u64 0, .int .u64 0]).cells n ++ Builtin.zeroCells (Value.agg #[.int .u64 0, .int .u64 0]).cells (cap - n)) cap (Nat.le_refl _) HCM.out (by rw [Array.size_append, size_zeroCells, size_zeroCells]; simp [Value.cells]; omega)
  exact this
theorem grow_any (n : Nat) (hn : n ≤ 1000) (w : World) : Calls Tryz.prog 175 #[.slice none 0 0, .int .i64 n] w fun e w' => ∃ v, e = .returned v ∧ Ow w' w.heap.size 153 v [] ∧ Below w.heap.size w w' := by
  rcases Nat.eq_zero_or_pos n with rfl | h
  · exact grow_zero w
  · exact grow_some n hn h w

set_option maxHeartbeats 2000000 in
theorem concat_any (bb : Nat) (a1 : Option Addr) (c1 : Nat) (l1 : List Ran) (a2 : Option Addr) (c2 : Nat) (l2 : List Ran) (w : World) (hbb : bb < w.heap.size)
    (h1 : w.cell? ⟨bb, 0, none⟩ = some (.slice a1 l1.length c1)) (h2 : w.cell? ⟨bb, 1, none⟩ = some (.slice a2 l2.length c2)) (hr1 : Rd w (.slice a1 l1.length c1) l1) (hr2 : Rd w (.slice a2 l2.length c2) l2) (hl1 : l1.length ≤ 300) (hl2 : l2.length ≤ 300) :
    Calls Tryz.prog 149 #[.slice (some ⟨bb, 0, none⟩) 2 2] w fun e w' => ∃ v, e = .returned v ∧ Rd w' v (l1 ++ l2) ∧ Below w.heap.size w w' := by
  obtain ⟨i0, hi, hz0, hz1, hz2⟩ := info_parts infoR
  have hz1 := Lib.hid hz1; have hz2 := Lib.hid hz2; have hz0 := Lib.hid hz0; have hi := Lib.hid hi
  have HR1 := Lib.hid hr1
  have HR2 := Lib.hid hr2
  clear hr1 hr2
  go_enter Tryz.func149, Tryz.ntmps149
  go_wp2
  refine wp_loop_rounds 3 ?_
  rw [rounds_succ]
  go_wp2_with fail
  rw [rounds_succ]
  go_wp2_with fail
  rw [rounds_succ]
  go_wp2_with fail
  have hg := grow_any (l1.length + l2.length) (by omega) w
  rw [show ((l1.length + l2.length : Nat) : Int) = (l1.length : Int) + l2.length by omega] at hg
  refine hg.mono ?_
  rintro e w1 ⟨v0, rfl, o1, b1⟩
  obtain ⟨a3, c3, rfl⟩ := o1.form
  have hz1' := b1.size
  have k1 := cell_below b1 h1 hbb
  have k2 := cell_below b1 h2 hbb
  have O1 := Lib.hid o1
  have B1 := Lib.hid b1
  have R1 := Lib.hid (HR1.out.below b1 (Nat.le_refl _))
  clear o1 b1 hg h1 h2
  go_wp2
  refine wp_loop_rounds 3 ?_
  rw [rounds_succ]
  go_wp2_with (at_builtin; refine wpList_append_rd _ rfl _ _ 28 rfl w.heap.size 153 i0 (.agg #[.int .u64 0, .int .u64 0]) Tryz.underlying28 hi.out hz0.out hz1.out hz2.out rfl (.slice a3 0 c3) rfl [] O1.out (.slice a1 l1.length c1) rfl l1 R1.out (by simp; omega) (by omega) ?_)
  intro a4 n4 c4 w2 o2 g2 _
  have B2 := Lib.hid (B1.out.grown g2 (by omega) (fun k hk => (O1.out.lt hk).1))
  have O2 := Lib.hid o2
  have R2 := Lib.hid (HR2.out.below B2.out (Nat.le_refl _))
  have hz2' := B2.out.size
  have hbb1 : bb < w1.heap.size := by omega
  have k3 : w2.cell? ⟨bb, 1, none⟩ = some (.slice a2 l2.length c2) := g2.cell k2 (fun h => by have := (O1.out.lt h.symm).1; simp only at this; omega)
  clear o2 g2 k1 k2
  go_wp2_with fail
  rw [rounds_succ]
  go_wp2_with (at_builtin; refine wpList_append_rd _ rfl _ _ 28 rfl w.heap.size 153 i0 (.agg #[.int .u64 0, .int .u64 0]) Tryz.underlying28 hi.out hz0.out hz1.out hz2.out rfl (.slice a4 n4 c4) rfl ([] ++ l1) O2.out (.slice a2 l2.length c2) rfl l2 R2.out (by simp; omega) (by omega) ?_)
  intro a5 n5 c5 w3 o3 g3 _
  have B3 := Lib.hid (B2.out.grown g3 (by omega) (fun k hk => (O2.out.lt hk).1))
  have O3 := Lib.hid o3
  clear o3 g3 k3
  go_wp2_with fail
  rw [rounds_succ]
  go_wp2
  go_ret
  exact ⟨_, rfl, O3.out.rd, B3.out⟩

/-- May it be a set? -/
def MayP (l : List Ran) : Prop := ∀ i, i < l.length → (l.getD i (0, 0)).1 ≤ (l.getD i (0, 0)).2 ∧ (l.getD i (0, 0)).2 < 9223372036854775808 ∧ (0 < i → (l.getD (i - 1) (0, 0)).2 + 2 ≤ (l.getD i (0, 0)).1)
instance (l : List Ran) : Decidable (MayP l) := inferInstanceAs (Decidable (∀ i, i < l.length → _))
theorem Can.may {l : List Ran} (h : Can l) : MayP l := by
  intro i hi
  rw [getD_get hi]
  have h1 := h.good l[i] (List.getElem_mem _)
  refine ⟨h1.2.1, h1.2.2, fun h0 => ?_⟩
  rw [getD_get (by omega)]
  exact (List.pairwise_iff_getElem.1 h.rise) (i - 1) i (by omega) hi (by omega)
def MayTo (l : List Ran) (k : Nat) : Prop := ∀ i, i < k → (l.getD i (0, 0)).1 ≤ (l.getD i (0, 0)).2 ∧ (l.getD i (0, 0)).2 < 9223372036854775808 ∧ (0 < i → (l.getD (i - 1) (0, 0)).2 + 2 ≤ (l.getD i (0, 0)).1)
def mayB (l : List Ran) : Bool := decide (MayP l)
theorem mayB_no {l : List Ran} (h : ¬ MayP l) : mayB l = false := decide_eq_false h
theorem mayB_yes {l : List Ran} (h : MayP l) : mayB l = true := decide_eq_true h
theorem mayTo_succ {l : List Ran} {k : Nat} (h : MayTo l k) {x : Ran} (hx : l.getD k (0, 0) = x) (h1 : x.1 ≤ x.2) (h2 : x.2 < 9223372036854775808) (h3 : 0 < k → (l.getD (k - 1) (0, 0)).2 + 2 ≤ x.1) : MayTo l (k + 1) := by
  intro i hi
  rcases Nat.lt_or_ge i k with h' | h'
  · exact h i h'
  · obtain rfl : i = k := by omega
    rw [hx]
    exact ⟨h1, h2, h3⟩

set_option maxHeartbeats 1000000 in
theorem may_nil (a : Option Addr) (cap : Nat) (w : World) : Calls Tryz.prog 179 #[.slice a 0 cap] w fun e w' => e = .returned (.bool true) ∧ Below w.heap.size w w' := by
  go_enter Tryz.func179, Tryz.ntmps179
  go_wp2
  refine wp_loop_rounds 1 ?_
  rw [rounds_succ]
  go_wp2
  go_ret
  exact ⟨rfl, Below.refl _ _⟩

set_option maxHeartbeats 2000000 in
theorem may_row (b off n cap : Nat) (l : List Ran) (hln : l.length = n) (hl : n ≤ 1000) (w : World) (hb : b < w.heap.size)
    (hc : ∀ i, i < n → w.cell? ⟨b, off + i * 2, none⟩ = some (.int .u64 (l.getD i (0, 0)).1) ∧ w.cell? ⟨b, off + i * 2 + 1, none⟩ = some (.int .u64 (l.getD i (0, 0)).2))
    (hu : ∀ x ∈ l, 0 ≤ x.1 ∧ 0 ≤ x.2) :
    Calls Tryz.prog 179 #[.slice (some ⟨b, off, none⟩) n cap] w fun e w' => e = .returned (.bool (mayB l)) ∧ Below w.heap.size w w' := by
  have HC := Lib.hid hc
  have HU := Lib.hid hu
  clear hc hu
  go_enter Tryz.func179, Tryz.ntmps179
  go_wp2
  go_loopw [3, 4, 7] (fun _ _ iv wr => ∃ k : Nat, k ≤ n ∧ iv = .int .i64 k ∧ Hid (MayTo l k) ∧ Below w.heap.size w wr) (fun _ _ iv _ => n - (intOf iv).toNat)
  case atStart => exact ⟨0, Nat.zero_le _, rfl, Lib.hid (fun i hi => by omega), Below.refl _ _⟩
  case round =>
    obtain ⟨k, hk, rfl, HM, hbl⟩ := hrel
    have hsz := hbl.size
    by_cases hlt : k < n
    · have hcx := HC.out k hlt
      have hc1 := cell_below hbl hcx.1 hb
      have hc2 := cell_below hbl hcx.2 hb
      have hux := HU.out (l.getD k (0, 0)) (by rw [getD_get (by omega)]; exact List.getElem_mem _)
      have hux1 := hux.1
      have hux2 := hux.2
      obtain ⟨x, hx⟩ : ∃ x, l.getD k (0, 0) = x := ⟨_, rfl⟩
      rw [hx] at hc1 hc2 hux1 hux2
      have HX := Lib.hid hx
      have hcp : 0 < k → wr.cell? ⟨b, off + (k - 1) * 2 + 1, none⟩ = some (.int .u64 (l.getD (k - 1) (0, 0)).2) := fun h => cell_below hbl (HC.out (k - 1) (by omega)).2 hb
      have hpp : 0 < k → 0 ≤ (l.getD (k - 1) (0, 0)).2 ∧ (l.getD (k - 1) (0, 0)).2 < 9223372036854775808 := fun h => ⟨(HU.out (l.getD (k - 1) (0, 0)) (by rw [getD_get (by omega)]; exact List.getElem_mem _)).2, (HM.out (k - 1) (by omega)).2.1⟩
      obtain ⟨lo, hi⟩ := x
      simp only at hc1 hc2 hux1 hux2
      have HNO : Hid (¬ (lo ≤ hi ∧ hi < 9223372036854775808 ∧ (0 < k → (l.getD (k - 1) (0, 0)).2 + 2 ≤ lo)) → mayB l = false) := Lib.hid (fun h => mayB_no (fun hm => h (by have := hm k (by omega); rw [HX.out] at this; exact this)))
      have HYES : Hid (lo ≤ hi → hi < 9223372036854775808 → (0 < k → (l.getD (k - 1) (0, 0)).2 + 2 ≤ lo) → MayTo l (k + 1)) := Lib.hid (fun h1 h2 h3 => mayTo_succ HM.out HX.out h1 h2 h3)
      have hblt : b < wr.heap.size := by omega
      have hbla : Hid (Below w.heap.size w wr) := Lib.hid hbl
      clear hcx hx hux hbl
      go_wp2_with fail
      refine (none_any lo hi _).mono ?_
      rintro e w1 ⟨rfl, hb1⟩
      have hz1 := hb1.size
      rw [World.size_alloc] at hz1 hb1
      have k1 : w1.cell? ⟨wr.heap.size, 0, none⟩ = some (.int .u64 lo) := cell_below hb1 (by simp [go_sem]) (by omega)
      have k2 : w1.cell? ⟨wr.heap.size, 1, none⟩ = some (.int .u64 hi) := cell_below hb1 (by simp [go_sem]) (by omega)
      have hcq : 0 < k → w1.cell? ⟨b, off + (k - 1) * 2 + 1, none⟩ = some (.int .u64 (l.getD (k - 1) (0, 0)).2) := fun h => cell_below hb1 ((World.cell?_alloc_past _ _ _ hblt).trans (hcp h)) (by omega)
      have HB1 : Hid (Below w.heap.size w w1) := Lib.hid ((hbla.out.alloc hsz _).trans (hb1.mono (by omega)))
      clear hb1 hcp hc1 hc2
      by_cases hok : hi < lo
      · have d1 : decide (hi < lo) = true := decide_eq_true hok
        have hn := Lib.hid (HNO.out (fun h => by omega))
        clear hcq hpp
        go_wp2
        go_ret
        exact ⟨by rw [hn.out]; rfl, HB1.out⟩
      · have d1 : decide (hi < lo) = false := decide_eq_false hok
        by_cases hbig : 9223372036854775808 ≤ hi
        · have hn := Lib.hid (HNO.out (fun h => by omega))
          clear hcq hpp
          go_wp2
          go_ret
          exact ⟨by rw [hn.out]; rfl, HB1.out⟩
        · rcases Nat.eq_zero_or_pos k with rfl | hk0
          · have hy := Lib.hid (HYES.out (by omega) (by omega) (fun h => by omega))
            clear hcq hpp
            go_wp2_with fail
            go_quiet (fail)
            go_wp2
            go_roundw
            case rel => exact ⟨0 + 1, by omega, by simp, hy, below_drewN HB1.out _⟩
            case measure => simp [intOf]; omega
          · obtain ⟨j, rfl⟩ : ∃ j, k = j + 1 := ⟨k - 1, by omega⟩
            have hcr := hcq hk0
            have hpr := hpp hk0
            clear hcq hpp
            rw [show j + 1 - 1 = j by omega] at *
            generalize (l.getD j (0, 0)).2 = p at *
            by_cases hgap : lo < p + 2
            · have d2 : decide (lo < p + 2) = true := decide_eq_true hgap
              have hn := Lib.hid (HNO.out (fun h => by have := h.2.2 (by omega); omega))
              go_wp2_with fail
              go_quiet (fail)
              go_wp2
              go_ret
              exact ⟨by rw [hn.out]; rfl, below_drewN HB1.out _⟩
            · have d2 : decide (lo < p + 2) = false := decide_eq_false hgap
              have hy := Lib.hid (HYES.out (by omega) (by omega) (fun h => by omega))
              go_wp2_with fail
              go_quiet (fail)
              go_wp2
              go_roundw
              case rel => exact ⟨j + 1 + 1, by omega, by go_num, hy, below_drewN HB1.out _⟩
              case measure => simp [intOf]; omega
    · obtain rfl : k = n := by omega
      go_wp2
      go_ret
      refine ⟨?_, hbl⟩
      rw [mayB_yes (fun i hi => HM.out i (by omega))]
      rfl
theorem may_any (v : Value) (l : List Ran) (w : World) (hl : l.length ≤ 1000) (hrd : Rd w v l) (hu : ∀ x ∈ l, 0 ≤ x.1 ∧ 0 ≤ x.2) :
    Calls Tryz.prog 179 #[v] w fun e w' => e = .returned (.bool (mayB l)) ∧ Below w.heap.size w w' := by
  obtain ⟨a, cap, rfl, hcap, hrow⟩ := hrd
  by_cases hnil : l = []
  · subst hnil
    refine (may_nil a cap w).mono ?_
    rintro e w' ⟨rfl, hb⟩
    exact ⟨by rw [mayB_yes (fun i hi => by simp at hi)], hb⟩
  · obtain ⟨b, off, rfl, hc⟩ := hrow hnil
    exact may_row b off l.length cap l rfl hl w (World.block_lt_of_cell? w ⟨b, off + 0 * 2, none⟩ (hc 0 (List.length_pos_iff.2 hnil)).1) hc hu
end Go.Proofs.YtoblmhpjendbfaaGreatDoor.Rg
namespace Go.Proofs.YtoblmhpjendbfaaGreatDoor.Rg.Gt
set_option maxRecDepth 20000
open Go.RowKit Go.Shelf
set_option linter.unusedVariables false
set_option linter.unusedSimpArgs false

/-! ### The highest place -/
set_option maxHeartbeats 1000000 in
theorem high_nil (rd fin : Int) (kn : Bool) (a : Option Addr) (c : Nat) (w : World) (h0 : kn = true → rd ≤ fin) :
    Calls Tryz.prog 87 #[.agg #[.int .u64 rd, .slice a 0 c, .int .u64 fin, .bool kn]] w fun e w' => e = .returned (.int .u64 (if kn then fin else rd)) ∧ Below w.heap.size w w' := by
  cases kn with
  | true =>
    have h1 := h0 rfl
    clear h0
    go_enter Tryz.func87, Tryz.ntmps87
    go_wp2_with fail
    go_ret
    exact ⟨ret_u64 (by show _ = fin; omega), (Below.refl _ _).alloc (Nat.le_refl _) _⟩
  | false =>
    clear h0
    go_enter Tryz.func87, Tryz.ntmps87
    go_wp2_with fail
    go_ret
    exact ⟨rfl, (Below.refl _ _).alloc (Nat.le_refl _) _⟩
set_option maxHeartbeats 1000000 in
theorem high_row (rd fin x y : Int) (kn : Bool) (D : ByteArray) (b off m c : Nat) (w : World) (hm : m ≤ 1000) (hc : m + 1 ≤ c) (h1 : w.cell? ⟨b, off + m * 2, none⟩ = some (.int .u64 x)) (h2 : w.cell? ⟨b, off + m * 2 + 1, none⟩ = some (.string D))
    (hx : 0 ≤ x) (hD : (D.size : Int) ≤ 4611686018427387903) (hx1 : x ≤ 4611686018427387903) (hy : x + (D.size : Int) = y) (hr : rd ≤ y) (h0 : kn = true → rd ≤ fin ∧ y ≤ fin) :
    Calls Tryz.prog 87 #[.agg #[.int .u64 rd, .slice (some ⟨b, off, none⟩) (m + 1) c, .int .u64 fin, .bool kn]] w fun e w' => e = .returned (.int .u64 (if kn then fin else y)) ∧ Below w.heap.size w w' := by
  have hb := block_lt_of_cell h1
  have CE := Lib.hid (fun W => end_any x D W hx (by omega) (by omega))
  rw [hy] at CE
  have v1 : IntKind.i64.wrap (((m + 1 : Nat) : Int) - 1) = m := by rw [show ((m + 1 : Nat) : Int) - 1 = m by omega]; exact IntWalk.i64_in _ (by omega)
  have d1 : decide ((0 : Int) < ((m + 1 : Nat) : Int)) = true := decide_eq_true (by omega)
  have HB := Lib.hid ((Below.refl w.heap.size w).alloc (Nat.le_refl _) (.cells #[.int .u64 rd, .slice (some ⟨b, off, none⟩) (m + 1) c, .int .u64 fin, .bool kn] 33))
  have HH := Lib.hid (And.intro hr h0)
  clear hx hD hx1 hy hr h0
  cases kn with
  | true =>
    go_enter Tryz.func87, Tryz.ntmps87
    go_wp2_with fail
    refine (CE.out _).mono ?_
    rintro e w1 ⟨rfl, hb⟩
    have HB1 := Lib.hid (nextG HB.out hb)
    clear hb
    go_wp2_with fail
    go_ret
    exact ⟨ret_u64 (by have := HH.out.1; have := HH.out.2 (by simp); show _ = fin; omega), HB1.out⟩
  | false =>
    go_enter Tryz.func87, Tryz.ntmps87
    go_wp2_with fail
    refine (CE.out _).mono ?_
    rintro e w1 ⟨rfl, hb⟩
    have HB1 := Lib.hid (nextG HB.out hb)
    clear hb
    go_wp2_with fail
    go_ret
    exact ⟨ret_u64 (by have := HH.out.1; show _ = y; omega), HB1.out⟩
/-- The highest place that is known of. -/
def hiS (s : GS) : Int := if s.kn then s.fin else if s.l = [] then s.rd else (s.l.getD (s.l.length - 1) (0, 0)).2 + 1
theorem hiS_le {T : ByteArray} {s : GS} (h : GsOk T s) : s.rd ≤ hiS s ∧ hiS s ≤ (T.size : Int) := by
  unfold hiS
  have := h.r1
  by_cases hk : s.kn = true
  · rw [if_pos hk, h.kn hk]
    omega
  · rw [if_neg hk]
    by_cases hl : s.l = []
    · rw [if_pos hl]; omega
    · rw [if_neg hl]
      have hn := List.length_pos_iff.2 hl
      have hx : s.l.getD (s.l.length - 1) (0, 0) ∈ s.l := by rw [getD_get (by omega)]; exact List.getElem_mem _
      have h1 := h.inn _ hx
      have h2 := h.inns _ hx
      unfold Inn at h2
      omega
theorem highest_any (T : ByteArray) (s : GS) (v : Value) (w : World) (hok : GsOk T s) (hT : (T.size : Int) ≤ 4611686018427387903) (hL : s.l.length ≤ 900) (hr : RowG w v T s.l) :
    Calls Tryz.prog 87 #[.agg #[.int .u64 s.rd, v, .int .u64 s.fin, .bool s.kn]] w fun e w' => e = .returned (.int .u64 (hiS s)) ∧ Below w.heap.size w w' := by
  have hlen : (s.l.length : Int) ≤ 900 := by omega
  have hin := hok.inn
  have hins := hok.inns
  have hkn := hok.kn
  have hr1 := hok.r1
  obtain ⟨rd, l, fin, kn⟩ := s
  obtain ⟨a, c, rfl, hc, hrow⟩ := hr
  simp only at hc hrow hlen hin hins hkn hr1 ⊢
  unfold hiS
  simp only
  by_cases hl : l = []
  · subst hl
    have := high_nil rd fin kn a c w (fun h => by rw [hkn h]; exact hr1)
    simpa using this
  · obtain ⟨b, off, rfl, hb, hcell⟩ := hrow hl
    obtain ⟨m, hm⟩ : ∃ m, l.length = m + 1 := ⟨l.length - 1, by have := List.length_pos_iff.2 hl; omega⟩
    have h1 := hcell m (by omega) 0 (by decide)
    have h2 := hcell m (by omega) 1 (by decide)
    have hx : l.getD m (0, 0) ∈ l := by rw [getD_get (by omega)]; exact List.getElem_mem _
    have i1 := hin _ hx
    have i2 := hins _ hx
    have i3 := bt_size i2
    obtain ⟨p0, p1, p2⟩ := i2
    rw [if_neg hl, hm, show m + 1 - 1 = m from rfl]
    rw [hm] at hc
    exact high_row rd fin _ _ kn (bt T (l.getD m (0, 0))) b off m c w (by omega) hc (by simpa [gcs] using h1) (by rw [Nat.add_assoc]; simpa [gcs] using h2) p0 (by omega) (by omega) (by omega) (by omega) (fun h => by rw [hkn h]; exact ⟨hr1, by omega⟩)
theorem highV {T : ByteArray} {s : GS} (h : GsOk T s) (hk : s.kn = true) : hiS s = (T.size : Int) := by unfold hiS; rw [if_pos hk, h.kn hk]
set_option maxHeartbeats 1000000 in
theorem Highest_any (T : ByteArray) (s : GS) (a : Option Addr) (n c : Nat) (w : World) (hok : GsOk T s) (hT : (T.size : Int) ≤ 4611686018427387903) (hL : s.l.length ≤ 900) (hr : RowG w (.slice a n c) T s.l) :
    Calls Tryz.prog 42 #[.agg #[.int .u64 s.rd, .slice a n c, .int .u64 s.fin, .bool s.kn]] w fun e w' => e = .returned (.int .u64 (hiS s)) ∧ Below w.heap.size w w' := by
  have CH := Lib.hid (fun W h => highest_any T s (.slice a n c) W hok hT hL h)
  have HB := Lib.hid ((Below.refl w.heap.size w).alloc (Nat.le_refl _) (.cells #[.int .u64 s.rd, .slice a n c, .int .u64 s.fin, .bool s.kn] 33))
  have HR := Lib.hid (hr.go HB.out)
  clear hr hok
  go_enter Tryz.func42, Tryz.ntmps42
  go_wp2_with fail
  refine (CH.out _ HR.out).mono ?_
  rintro e w1 ⟨rfl, hb⟩
  have HB1 := Lib.hid (nextG HB.out hb)
  clear hb
  go_wp2_with fail
  go_ret
  exact ⟨rfl, HB1.out⟩
/-! ### What is had -/
theorem rd_one (W : World) (Y : TypeId) (lo hi : Int) : Rd (W.alloc (.cells #[.int .u64 lo, .int .u64 hi] Y)) (.slice (some ⟨W.heap.size, 0, none⟩) 1 1) [(lo, hi)] :=
  ⟨_, 1, rfl, Nat.le_refl _, fun _ => ⟨_, 0, rfl, fun i hi => by
    obtain rfl : i = 0 := by simp at hi; omega
    simp [go_sem]⟩⟩
def HadRel (L : List Ran) (r : Ran) (B : Nat) (w1 : World) (n : Nat) (sv iv : Value) (wr : World) : Prop :=
  ∃ k : Nat, k ≤ n ∧ iv = .int .i64 k ∧ Ow wr B 153 sv ([r] ++ L.take k) ∧ Below w1.heap.size w1 wr ∧ B ≤ wr.heap.size
set_option maxHeartbeats 2000000 in
theorem had_any (T : ByteArray) (s : GS) (a : Option Addr) (n c : Nat) (w : World) (hok : GsOk T s) (hT : (T.size : Int) ≤ 4611686018427387903) (hL : s.l.length ≤ 900) (hn : s.l.length = n) (hr : RowG w (.slice a n c) T s.l) :
    Calls Tryz.prog 139 #[.agg #[.int .u64 s.rd, .slice a n c, .int .u64 s.fin, .bool s.kn]] w fun e w' => ∃ u H, e = .returned u ∧ Can H ∧ (∀ k, mem H k ↔ (0 ≤ k ∧ k < s.rd) ∨ mem s.l k) ∧ H.length ≤ n + 1 ∧ Rd w' u H ∧ Below w.heap.size w w' := by
  have hlen : (s.l.length : Int) ≤ 900 := by omega
  have hins := hok.inns
  have hcan := hok.can
  have r0 := hok.r0
  have r1 := hok.r1
  obtain ⟨rd, l, fin, kn⟩ := s
  simp only at hn hr hlen hins hcan r0 r1 ⊢
  have CS := Lib.hid (fun W => span_any 0 rd W (Int.le_refl _) (by omega))
  have CP : Hid (∀ k, k < n → ∀ W, Calls Tryz.prog 140 #[.agg #[.int .u64 (l.getD k (0, 0)).1, .string (bt T (l.getD k (0, 0)))]] W fun e w' => e = .returned (.agg #[.int .u64 (l.getD k (0, 0)).1, .int .u64 (l.getD k (0, 0)).2]) ∧ Below W.heap.size W w') := Lib.hid (fun k hk W => by
    have hx : l.getD k (0, 0) ∈ l := by rw [getD_get (by omega)]; exact List.getElem_mem _
    have hi := hins _ hx
    have hz := bt_size hi
    have hp := spn_part hi
    obtain ⟨p0, p1, p2⟩ := hi
    have := places_any (l.getD k (0, 0)).1 (bt T (l.getD k (0, 0))) W p0 (by omega) (by omega)
    rw [hp] at this
    exact this)
  have CO : Hid (∀ (a : Option Addr) (m c : Nat) W, m = n + 1 → Rd W (.slice a m c) ([spn 0 rd] ++ l) → Calls Tryz.prog 148 #[.slice a m c] W fun e w' => ∃ v l', e = .returned v ∧ Can l' ∧ (∀ k, mem l' k ↔ mem ([spn 0 rd] ++ l) k) ∧ l'.length ≤ ([spn 0 rd] ++ l).length ∧ Rd w' v l' ∧ Below W.heap.size W w') := Lib.hid (fun a m c W hm h => of_loop a m c ([spn 0 rd] ++ l) (by simp; omega) (fun x hx => by
    rcases List.mem_append.1 hx with hx | hx
    · rw [List.mem_singleton.1 hx]; exact spn_good (Int.le_refl _) (by omega)
    · have := hcan.good x hx; omega) W h)
  have HB0 := Lib.hid ((Below.refl w.heap.size w).alloc (Nat.le_refl _) (.cells #[.int .u64 rd, .slice a n c, .int .u64 fin, .bool kn] 33))
  have HG0 := Lib.hid (gb_made w 33 ⟨rd, l, fin, kn⟩ (.slice a n c))
  have HN := Lib.hid hn
  have HROW : Hid (∀ i, i < n → ∃ b off, a = some ⟨b, off, none⟩ ∧ n ≤ c ∧ ∀ V, Below w.heap.size w V → V.cell? ⟨b, off + i * 2, none⟩ = some (.int .u64 (l.getD i (0, 0)).1) ∧ V.cell? ⟨b, off + i * 2 + 1, none⟩ = some (.string (bt T (l.getD i (0, 0))))) := Lib.hid (fun i hi => by
    obtain ⟨a', c', e, hc, hrow⟩ := hr
    cases e
    obtain ⟨g, off, ha, hg, hcl⟩ := hrow (fun h => by subst h; simp at hi)
    refine ⟨g, off, ha, by omega, fun V hV => ?_⟩
    have hh := fun j hj => (hV.cell (p := ⟨g, off + (i * 2 + j), none⟩) hg).trans (hcl i (by omega) j hj)
    exact ⟨by simpa [gcs] using hh 0 (by decide), by rw [Nat.add_assoc]; simpa [gcs] using hh 1 (by decide)⟩)
  have hn0 : (n : Int) ≤ 900 := by omega
  obtain ⟨i0, hi, hz0, hz1, hz2⟩ := info_parts infoR
  have hz1 := Lib.hid hz1; have hz2 := Lib.hid hz2; have hz0 := Lib.hid hz0; have hi := Lib.hid hi
  obtain ⟨r, hrr⟩ : ∃ r, spn 0 rd = r := ⟨_, rfl⟩
  have HRR := Lib.hid hrr
  rw [hrr] at CS CO
  clear hr hlen hins hcan r0 r1 hrr hn
  obtain ⟨rl, rh⟩ := r
  simp only at CS
  go_enter Tryz.func139, Tryz.ntmps139
  go_wp2_with fail
  refine (CS.out _).mono ?_
  rintro e w1 ⟨rfl, hb⟩
  have HB1 := Lib.hid (nextG HB0.out hb)
  have HG1 := Lib.hid (HG0.out.go hb)
  have y1 := HG1.out.c1
  have HBL : Hid (w.heap.size < w1.heap.size) := Lib.hid HG1.out.lt
  have hbl := HBL.out
  clear hb CS
  go_wp2_with fail
  have HG2 := Lib.hid (HG1.out.go ((Below.refl _ _).alloc (Nat.le_refl _) (.cells #[.int .u64 rl, .int .u64 rh] 153)))
  have y2 := HG2.out.c1
  have HOW0 : Hid (Ow (w1.alloc (.cells #[.int .u64 rl, .int .u64 rh] 153)) w1.heap.size 153 (.slice (some ⟨w1.heap.size, 0, none⟩) 1 1) ([(rl, rh)] ++ l.take 0)) := Lib.hid ⟨rfl, .inr ⟨w1.heap.size, 1, #[.int .u64 rl, .int .u64 rh], rfl, Nat.le_refl _, heap_alloc_new w1 _, Nat.le_refl _, by unfold maxLen; omega, rfl, rfl⟩⟩
  have HB2 : Hid (Below w.heap.size w (w1.alloc (.cells #[.int .u64 rl, .int .u64 rh] 153))) := Lib.hid (HB1.out.alloc HB1.out.size _)
  have HSZ : Hid (w1.heap.size ≤ (w1.alloc (.cells #[.int .u64 rl, .int .u64 rh] 153)).heap.size) := Lib.hid (by simp)
  go_wp2_with fail
  generalize hw2 : w1.alloc (.cells #[.int .u64 rl, .int .u64 rh] 153) = w2 at *
  go_loopw [3, 5, 13] (fun sv _ iv wr => HadRel l (rl, rh) w1.heap.size w n sv iv wr) (fun _ _ iv _ => n - (intOf iv).toNat)
  case atStart => exact ⟨0, Nat.zero_le _, rfl, HOW0.out, HB2.out, HSZ.out⟩
  case round =>
    obtain ⟨k, hk, rfl, hown, hb, hsw⟩ := hrel
    have HOW := Lib.hid hown
    have HSR := Lib.hid hsw
    have HB := Lib.hid hb
    obtain ⟨a3, cap3, rfl⟩ := hown.form
    rw [show ([(rl, rh)] ++ l.take k).length = k + 1 by simp [HN.out]; omega] at HOW ⊢
    clear hown hb hsw
    by_cases hlt : k < n
    · obtain ⟨b, off, rfl, hnc, hc⟩ := HROW.out k hlt
      obtain ⟨hc1, hc2⟩ := hc wr HB.out
      have CPk := Lib.hid (CP.out k hlt)
      have HT := Lib.hid (take_succ_getD l (0, 0) (by have := HN.out; omega : k < l.length))
      clear hc
      generalize l.getD k (0, 0) = x at *
      obtain ⟨lo, hj⟩ := x
      generalize hD : bt T (lo, hj) = D at *
      simp only at hc1 hc2 CPk
      have HBa := Lib.hid (HB.out.alloc HB.out.size (.cells #[.int .u64 lo, .string D] 137))
      go_wp2_with fail
      refine (CPk.out _).mono ?_
      rintro e w3 ⟨rfl, hb⟩
      have HB3 := Lib.hid (nextG HBa.out hb)
      have HOW3 := Lib.hid (HOW.out.only ((Only.alloc (fun _ => False) wr (.cells #[.int .u64 lo, .string D] 137)).trans (Only.of_all hb _)) (fun _ _ h => h))
      have HSW : Hid (w1.heap.size ≤ w3.heap.size) := Lib.hid (by have h1 := hb.size; have h2 := HSR.out; rw [World.size_alloc] at h1; omega)
      have HOWx := Lib.hid (HOW3.out.only (Only.alloc (fun _ => False) w3 (.cells #[.int .u64 lo, .int .u64 hj] 153)) (fun _ _ h => h))
      have HRX := Lib.hid (rd_one w3 153 lo hj)
      have HB4 := Lib.hid (HB3.out.alloc HB3.out.size (.cells #[.int .u64 lo, .int .u64 hj] 153))
      have HL : Hid (([(rl, rh)] ++ l.take k).length + [(lo, hj)].length ≤ 100000) := Lib.hid (by simp; have := HN.out; omega)
      clear hb HB0 HG0 HG1 HG2 y1 y2
      go_wp2_with (at_builtin; refine wpList_append_rd _ rfl _ _ 27 rfl w1.heap.size 153 i0 (.agg #[.int .u64 0, .int .u64 0]) Tryz.underlying27 hi.out hz0.out hz1.out hz2.out rfl (.slice a3 (k + 1) cap3) rfl ([(rl, rh)] ++ l.take k) HOWx.out (.slice (some ⟨w3.heap.size, 0, none⟩) 1 1) rfl [(lo, hj)] HRX.out HL.out (by have := HSW.out; simp; omega) ?_)
      intro a5 n5 c5 w5 o5 g5 _
      have O5 : Hid (Ow w5 w1.heap.size 153 (.slice a5 n5 c5) ([(rl, rh)] ++ l.take (k + 1))) := Lib.hid (by rw [HT.out, ← List.append_assoc]; exact o5)
      have B5 := Lib.hid (HB4.out.grown g5 (HB4.out.size) (fun q hq => by have := (HOWx.out.lt hq).1; have := HBL.out; omega))
      have S5 : Hid (w1.heap.size ≤ w5.heap.size) := Lib.hid (by have h1 := g5.size; have h2 := HSW.out; rw [World.size_alloc] at h1; omega)
      clear o5 g5
      go_wp2_with fail
      go_roundw
      case rel => exact ⟨k + 1, by omega, by go_num, O5.out, B5.out, S5.out⟩
      case measure => simp [intOf]; omega
    · obtain rfl : k = n := by omega
      have HOF : Hid (Ow wr w1.heap.size 153 (.slice a3 (k + 1) cap3) ([(rl, rh)] ++ l)) := Lib.hid (by
        have h := HOW.out
        rw [List.take_of_length_le (by have := HN.out; omega)] at h
        exact h)
      have HRF := Lib.hid HOF.out.rd
      clear HB0 HG0 HG1 HG2 y1 y2
      go_wp2_with fail
      refine (CO.out _ _ _ _ rfl HRF.out).mono ?_
      rintro e w6 ⟨u, H, rfl, q1, q2, q3, q4, q5⟩
      have Q1 := Lib.hid q1
      have Q2 := Lib.hid q2
      have Q3 := Lib.hid q3
      have Q4 := Lib.hid q4
      have Q5 := Lib.hid (nextG HB.out q5)
      clear q1 q2 q3 q4 q5
      go_wp2_with fail
      go_ret
      refine ⟨_, H, rfl, Q1.out, fun x => ?_, ?_, Q4.out, Q5.out⟩
      · rw [Q2.out, mem_append, mem_single, ← HRR.out, inn_spn]
      · have := Q3.out; simp at this; have := HN.out; omega
end Go.Proofs.YtoblmhpjendbfaaGreatDoor.Rg.Gt
