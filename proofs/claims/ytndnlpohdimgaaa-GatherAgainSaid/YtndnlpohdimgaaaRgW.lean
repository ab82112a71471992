/- The walks of layer 3: appending a slice of ranges; Grow, Concat, Add; May. -/
import Derived.Test.YtndnlpohdimgaaaRgV
import Derived.Lib.AppendZeros
import Derived.Laws.OwnMore
namespace Go.Proofs.Ytndnlpohdimgaaa.Rg
set_option maxRecDepth 20000
open Go.RowKit Go.Shelf
set_option linter.unusedVariables false

theorem run_append_none {P : Program} {w : World} (base : Nat) (t ty e : TypeId) (i : TypeInfo) (size c : Nat) (ht : P.underlying t = some (.slice e)) (hi : P.info? e = some i)
    (v : Value) (n : Nat) (xs : List Value) (hown : w.ownsRow base e size v n xs) :
    (Builtin.append_ #[t, t] ty #[v, .slice none 0 c]).run P w = .ok v w := by
  rcases hown.2 with ⟨rfl, rfl⟩ | ⟨g, cap, cur, rfl, _, _, hnc, _⟩
  · simp [Builtin.append_, run_underlying ht, sizeOf, typeInfo, hi, Builtin.lenOf, Builtin.firstCells]
  · simp [Builtin.append_, run_underlying ht, sizeOf, typeInfo, hi, Builtin.lenOf, Builtin.firstCells, hnc, storeCells]

theorem cellsOf_one (l : List Ran) : ∀ u ∈ cellsOf l, u.oneCell' = true := by
  intro u hu
  obtain ⟨x, _, hx⟩ := List.mem_flatMap.1 hu
  simp at hx
  rcases hx with rfl | rfl <;> rfl
/-- Every cell of ranges that are read. -/
theorem rd_cells {w : World} {b off : Nat} {l : List Ran} (h : ∀ i, i < l.length → w.cell? ⟨b, off + i * 2, none⟩ = some (.int .u64 (l.getD i (0, 0)).1) ∧ w.cell? ⟨b, off + i * 2 + 1, none⟩ = some (.int .u64 (l.getD i (0, 0)).2)) :
    ∀ j u, (cellsOf l)[j]? = some u → w.cell? ((⟨b, off, none⟩ : Addr).add j) = some u := by
  intro j u hu
  have hj : j < l.length * 2 := by rw [← cellsOf_length]; exact (List.getElem?_eq_some_iff.1 hu).1
  have hq : j / 2 < l.length := by omega
  have h1 := h (j / 2) hq
  have h2 := cellsOf_get l (j / 2) hq
  rw [Addr.add_lit]
  rcases Nat.mod_two_eq_zero_or_one j with hm | hm
  · have e2 : j / 2 * 2 = j := by omega
    rw [e2] at h1 h2
    rw [h1.1, ← h2.1, hu]
  · have e2 : j / 2 * 2 + 1 = j := by omega
    have e3 : off + j / 2 * 2 + 1 = off + j := by omega
    rw [e3] at h1
    rw [e2] at h2
    rw [h1.2, ← h2.2, hu]

/-- APPENDING RANGES THAT ARE READ to a slice of our own. -/
theorem run_append_rd {P : Program} (w : World) (base : Nat) (t ty e : TypeId) (i : TypeInfo) (z : Value) (ht : P.underlying t = some (.slice e)) (hi : P.info? e = some i) (hz : i.zero = some z)
    (hsize : i.size = 2) (hby : i.bytes = 16) (hzs : z.cells.size = 2) (v : Value) (l : List Ran) (hown : Ow w base e v l) (u : Value) (m : List Ran) (hr : Rd w u m) (hlen : l.length + m.length ≤ 100000) (hbase : base ≤ w.heap.size) :
    ∃ v' w', (Builtin.append_ #[t, t] ty #[v, u]).run P w = .ok v' w' ∧ Ow w' base e v' (l ++ m) ∧ w.grownBy w' v.ownBlock ∧ (v'.ownBlock = v.ownBlock ∨ v'.ownBlock = some w.heap.size) := by
  obtain ⟨a, cap, rfl, hcap, hrow⟩ := hr
  have fin : ∀ (ad : Addr), a = some ad → (∀ j u, (cellsOf m)[j]? = some u → w.cell? (ad.add j) = some u) →
      ∃ v' w', (Builtin.append_ #[t, t] ty #[v, .slice a m.length cap]).run P w = .ok v' w' ∧ Ow w' base e v' (l ++ m) ∧ w.grownBy w' v.ownBlock ∧ (v'.ownBlock = v.ownBlock ∨ v'.ownBlock = some w.heap.size) := by
    intro ad ha hc
    obtain ⟨v', w', h1, h2, h3, _, h4⟩ := run_append_own_at (P := P) w base t ty e i z 2 16 ht hi hz hsize hby hzs (by omega) v l.length (cellsOf l) hown ad m.length cap (cellsOf m) (cellsOf_length m) hc (cellsOf_one m) (by unfold maxLen; omega) (by omega) hbase
    refine ⟨v', w', by rw [ha]; exact h1, ?_, h3, h4⟩
    unfold Ow
    rw [List.length_append, cellsOf_append]
    exact h2
  by_cases hnil : m = []
  · subst hnil
    cases a with
    | none => exact ⟨v, w, run_append_none base t ty e i 2 cap ht hi v l.length (cellsOf l) hown, by rw [List.append_nil]; exact hown, ⟨rfl, rfl, rfl, Nat.le_refl _, fun _ _ _ => rfl⟩, .inl rfl⟩
    | some ad => exact fin ad rfl (fun j u h => by simp [cellsOf] at h)
  · obtain ⟨b, off, rfl, hc⟩ := hrow hnil
    exact fin _ rfl (rd_cells hc)
theorem wpList_append_rd {P : Program} (w : World) {ops : Array Oper} {rest : List Oper} {o : Oper} {a : Act} {Q : Exit → Act → World → Prop} (hgd : o.guard = none) (s x : Operand) (t : TypeId)
    (ho : o.op = .call { callee := .builtin .append, args := #[s, x], argTypes := #[t, t] })
    (base : Nat) (e : TypeId) (i : TypeInfo) (z : Value) (ht : P.underlying t = some (.slice e)) (hi : P.info? e = some i) (hz : i.zero = some z)
    (hsize : i.size = 2) (hby : i.bytes = 16) (hzs : z.cells.size = 2) (v : Value) (hs : a.eval s = v) (l : List Ran) (hown : Ow w base e v l) (u : Value) (hx : a.eval x = u) (m : List Ran) (hr : Rd w u m) (hlen : l.length + m.length ≤ 100000) (hbase : base ≤ w.heap.size)
    (h : ∀ a' n' c' w', Ow w' base e (.slice a' n' c') (l ++ m) → w.grownBy w' v.ownBlock → ((Value.slice a' n' c').ownBlock = v.ownBlock ∨ (Value.slice a' n' c').ownBlock = some w.heap.size) → wpList P ops Q rest (a.put o.dst (.slice a' n' c')) w') :
    wpList P ops Q (o :: rest) a w := by
  obtain ⟨v', w', hrun, h1, h2, h3⟩ := run_append_rd (P := P) w base t o.type e i z ht hi hz hsize hby hzs v l hown u m hr hlen hbase
  obtain ⟨a', c', rfl⟩ := h1.form
  exact Lib.wpList_append_run w hgd s x t t ho v u hs hx _ w' hrun (h _ _ _ _ h1 h2 h3)

/-- May it be a set? -/
def MayP (l : List Ran) : Prop := ∀ i, i < l.length → (l.getD i (0, 0)).1 ≤ (l.getD i (0, 0)).2 ∧ (l.getD i (0, 0)).2 < 9223372036854775808 ∧ (0 < i → (l.getD (i - 1) (0, 0)).2 + 2 ≤ (l.getD i (0, 0)).1)
instance (l : List Ran) : Decidable (MayP l) := inferInstanceAs (Decidable (∀ i, i < l.length → _))
theorem Can.may {l : List Ran} (h : Can l) : MayP l := by
  intro i hi
  rw [getD_get hi]
  have h1 := h.good l[i] (List.getElem_mem _)
  refine ⟨h1.2.1, h1.2.2, fun h0 => ?_⟩
  rw [getD_get (by omega)]
  exact (List.pairwise_iff_getElem.1 h.rise) (i - 1) i (by omega) hi (by omega)
def MayTo (l : List Ran) (k : Nat) : Prop := ∀ i, i < k → (l.getD i (0, 0)).1 ≤ (l.getD i (0, 0)).2 ∧ (l.getD i (0, 0)).2 < 9223372036854775808 ∧ (0 < i → (l.getD (i - 1) (0, 0)).2 + 2 ≤ (l.getD i (0, 0)).1)
def mayB (l : List Ran) : Bool := decide (MayP l)
theorem mayB_no {l : List Ran} (h : ¬ MayP l) : mayB l = false := decide_eq_false h
theorem mayB_yes {l : List Ran} (h : MayP l) : mayB l = true := decide_eq_true h
theorem mayTo_succ {l : List Ran} {k : Nat} (h : MayTo l k) {x : Ran} (hx : l.getD k (0, 0) = x) (h1 : x.1 ≤ x.2) (h2 : x.2 < 9223372036854775808) (h3 : 0 < k → (l.getD (k - 1) (0, 0)).2 + 2 ≤ x.1) : MayTo l (k + 1) := by
  intro i hi
  rcases Nat.lt_or_ge i k with h' | h'
  · exact h i h'
  · obtain rfl : i = k := by omega
    rw [hx]
    exact ⟨h1, h2, h3⟩

end Go.Proofs.Ytndnlpohdimgaaa.Rg
