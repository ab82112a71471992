/- The walks of layer 7: what is bounded; the document's constants, its text with what stands behind it. -/
import Derived.Test.YthjphechdhbenaaDgV
namespace Go.Proofs.Ythjphechdhbenaa.Dg
set_option maxRecDepth 20000
open Go.RowKit
set_option linter.unusedVariables false
set_option linter.unusedSimpArgs false

theorem wpList_built {P : Program} {ops : Array Oper} {rest : List Oper} {o : Oper} {a : Act} {w : World} {Q : Exit → Act → World → Prop} (hg : o.guard = none) (t : TypeId) (parts : Array (Nat × Operand)) (ho : o.op = .build t parts)
    (cells : Array Value) (hf : P.built t (parts.map fun (i, x) => (i, a.eval x)).toList = some cells)
    (h : wpList P ops Q rest (a.put o.dst (.agg cells)) w) : wpList P ops Q (o :: rest) a w :=
  wpList_build hg t parts ho (by rw [hf]; rfl) (by rw [hf]; exact h)
/-- A block of 64-bit words. -/
def AQ (T : TypeId) (w : World) (b : Nat) (l : List Nat) : Prop := w.heap[b]? = some (.cells (l.map fun x : Nat => Value.int .u64 x).toArray T (0, 0))
theorem AQ.lt {T : TypeId} {w : World} {b : Nat} {l : List Nat} (h : AQ T w b l) : b < w.heap.size := by
  rcases Nat.lt_or_ge b w.heap.size with h1 | h1
  · exact h1
  · unfold AQ at h; rw [Array.getElem?_eq_none h1] at h; cases h
theorem AQ.keep {T : TypeId} {w w' : World} {b : Nat} {l : List Nat} (h : AQ T w b l) (hb : Below w.heap.size w w') : AQ T w' b l := by
  have hlt := h.lt
  unfold AQ at *
  rw [hb.block b hlt]; exact h
theorem AQ.cell {T : TypeId} {w : World} {b : Nat} {l : List Nat} (h : AQ T w b l) (j : Nat) (hj : j < l.length) : w.cell? ⟨b, j, none⟩ = some (.int .u64 (l.getD j 0 : Nat)) := by
  rw [Lib.cell_of_heap h]
  simp [List.getD, List.getElem?_eq_getElem hj]
theorem AQ.fz {T : TypeId} {w : World} {b : Nat} {l : List Nat} (h : AQ T w b l) (j : Nat) : w.frozen? ⟨b, j, none⟩ = false := Lib.frozen_of_heap h j
theorem AQ.set {T : TypeId} {w : World} {b : Nat} {l : List Nat} (h : AQ T w b l) (j x : Nat) : AQ T (w.setCell ⟨b, j, none⟩ (.int .u64 x)) b (l.set j x) := by
  have := Joins.block_setCell (i := j) h (.int .u64 (x : Int))
  unfold AQ
  rw [this]
  simp [List.map_set]
theorem AQ.other {T : TypeId} {w : World} {b c : Nat} {l : List Nat} (h : AQ T w b l) (hc : b ≠ c) (j : Nat) (v : Value) : AQ T (w.setCell ⟨c, j, none⟩ v) b l := by
  unfold AQ at *
  rw [heap_setCell_other _ _ _ _ hc]
  exact h
theorem AQ.drew {T : TypeId} {w : World} {b : Nat} {l : List Nat} (h : AQ T w b l) : AQ T w.drew b l := h
theorem AQ.drewN {T : TypeId} {w : World} {b n : Nat} {l : List Nat} (h : AQ T w b l) : AQ T (w.drewN n) b l := h
theorem all_words64 (l : List Nat) : (l.map fun x : Nat => Value.int .u64 x).toArray.all (·.oneCell') = true := by
  refine all_oneCell_toArray ?_
  intro v hv
  obtain ⟨x, _, rfl⟩ := List.mem_map.1 hv
  rfl
theorem infQ64 : (Try.prog.info? 96).map (·.size) = some 64 := by kernel_rfl
theorem infQ8 : (Try.prog.info? 58).map (·.size) = some 8 := by kernel_rfl
theorem w64_len (l : List Nat) : (l.map fun x : Nat => Value.int .u64 x).toArray.size = l.length := by simp
set_option maxHeartbeats 4000000 in
theorem constants_ref (w : World) : Calls Try.prog 64 #[] w fun e w' => e = .returned (.agg (K0.map fun x : Nat => Value.int .u64 x).toArray) ∧ Below w.heap.size w w' := by
  obtain ⟨K, hK⟩ : ∃ K, K0 = K := ⟨_, rfl⟩
  have hl : K.length = 64 := by rw [← hK]; rfl
  rw [hK]
  have HK := Lib.hid hK
  clear hK
  go_enter Try.func64, Try.ntmps64
  go_upto_region 1 with (fail)
  refine wp_region_lit ?_
  refine (fun (h : ∀ W0 : World, AQ 96 W0 w.heap.size (List.replicate 64 0) → Below w.heap.size w W0 → wpList _ _ _ _ _ W0) => h _ (heap_alloc_new w _) ((Below.refl _ _).alloc (Nat.le_refl _) _)) ?_
  intro W0 HA HB0
  refine wpList_built rfl _ _ rfl (K.map fun x : Nat => Value.int .u64 x).toArray (by rw [← HK.out]; kernel_rfl) ?_
  refine wpList_store_row rfl _ _ _ rfl w.heap.size _ rfl rfl _ _ HA (by rw [infQ64, w64_len, hl]) (by rw [w64_len, w64_len, hl, List.length_replicate]) (all_words64 _) ?_
  have HRW : Hid (AQ 96 (W0.setRow w.heap.size (K.map fun x : Nat => Value.int .u64 x).toArray) w.heap.size K) := Lib.hid (setRow_heap _ w.heap.size _ _ _ _ HA)
  have HBW := Lib.hid (below_setRow HB0 (Nat.le_refl _) (K.map fun x : Nat => Value.int .u64 x).toArray)
  clear HA HB0
  generalize W0.setRow w.heap.size (K.map fun x : Nat => Value.int .u64 x).toArray = W at *
  go_wp2
  exact bodyPost_ret (v := .agg (K.map fun x : Nat => Value.int .u64 x).toArray) (results_cell_row Try.results64 _ W w.heap.size _ _ _ _ rfl HRW.out Try.underlying96 rfl (by rw [infQ64, w64_len, hl])) rfl ⟨rfl, HBW.out⟩
/-- What 'bounded' answers. -/
def BdP (xs : List ByteArray) (L T : Nat) (e : Ending) : Prop := ∃ y, e = .returned (.bool y) ∧ (y = true → xs.length ≤ L ∧ (cat xs).length ≤ T)
theorem all_le (xs : List ByteArray) (k : Nat) (s : ByteArray) (hs : xs[k]? = some s) (hz : ∀ s ∈ xs, s.size ≤ 140737488355328) (T : Nat) (hT : (cat (xs.take k)).length ≤ k * 140737488355328) : (cat (xs.take (k + 1))).length ≤ (k + 1) * 140737488355328 := by
  rw [cat_take _ _ _ hs, List.length_append]
  have h1 : s.data.toList.length = s.size := by simp
  have h2 := hz s (List.mem_of_getElem? hs)
  omega
set_option maxHeartbeats 2000000 in
theorem bounded_07 (b o c : Nat) (xs : List ByteArray) (w : World) (hr : RowS w b o xs) (hz : ∀ s ∈ xs, s.size ≤ 140737488355328) (hn : xs.length ≤ 4611686018427387904) :
    Calls Try.prog 10 #[.slice (some ⟨b, o, none⟩) xs.length c] w fun e w' => BdP xs 30 2000 e ∧ w' = w := by
  have HR := Lib.hid hr
  have HZ := Lib.hid hz
  have hni : (xs.length : Int) ≤ 4611686018427387904 := by omega
  clear hr hz hn
  go_enter Try.func10, Try.ntmps10
  go_wp2
  go_loop [3, 4] (fun nv iv => ∃ (k : Nat) (N : Int), k ≤ xs.length ∧ iv = .int .i64 k ∧ nv = .int .i64 N ∧ (k ≤ 30 → N = ((cat (xs.take k)).length : Nat) ∧ (cat (xs.take k)).length ≤ k * 140737488355328)) (fun _ i => xs.length - (intOf i).toNat)
  case atStart => exact ⟨0, 0, Nat.zero_le _, rfl, rfl, fun _ => ⟨rfl, Nat.le_refl _⟩⟩
  case round =>
    obtain ⟨k, N, hk, rfl, rfl, hN⟩ := hrel
    have HN := Lib.hid hN
    clear hN
    by_cases hlt : k < xs.length
    · obtain ⟨s, hs⟩ : ∃ s, xs[k]? = some s := ⟨_, List.getElem?_eq_getElem hlt⟩
      have hc := HR.out.2 k s hs
      have HT := Lib.hid (cat_take xs k s hs)
      have HS := Lib.hid hs
      have HM := Lib.hid (HZ.out s (List.mem_of_getElem? hs))
      clear hs
      go_wp2
      go_round
      case rel =>
        refine ⟨k + 1, _, by omega, by go_num, rfl, fun h30 => ?_⟩
        obtain ⟨e1, e2⟩ := HN.out (by omega)
        have h3 : s.data.toList.length = s.size := by simp
        have hm := HM.out
        rw [HT.out, List.length_append, e1]
        refine ⟨?_, by omega⟩
        unfold wrap64
        rw [h3]
        omega
      case measure => simp [intOf]; omega
    · obtain rfl : k = xs.length := by omega
      rw [List.take_length] at HN
      by_cases h30 : xs.length ≤ 30
      · have hN := (HN.out (by omega)).1
        have h30i : (xs.length : Int) ≤ 30 := by omega
        by_cases h20 : N ≤ 2000
        all_goals
          go_wp2
          go_ret
          exact ⟨⟨_, rfl, by intro h; first | (cases h; done) | (have h2 := of_decide_eq_true h; constructor <;> omega) | (constructor <;> omega)⟩, rfl⟩
      · have h30i : ¬ (xs.length : Int) ≤ 30 := by omega
        go_wp2
        go_ret
        exact ⟨⟨_, rfl, by intro h; first | (cases h; done) | (have h2 := of_decide_eq_true h; constructor <;> omega) | (constructor <;> omega)⟩, rfl⟩
set_option maxHeartbeats 2000000 in
theorem bounded_08 (b o c : Nat) (xs : List ByteArray) (w : World) (hr : RowS w b o xs) (hz : ∀ s ∈ xs, s.size ≤ 140737488355328) (hn : xs.length ≤ 4611686018427387904) :
    Calls Try.prog 15 #[.slice (some ⟨b, o, none⟩) xs.length c] w fun e w' => BdP xs 20 600 e ∧ w' = w := by
  have HR := Lib.hid hr
  have HZ := Lib.hid hz
  have hni : (xs.length : Int) ≤ 4611686018427387904 := by omega
  clear hr hz hn
  go_enter Try.func15, Try.ntmps15
  go_wp2
  go_loop [3, 4] (fun nv iv => ∃ (k : Nat) (N : Int), k ≤ xs.length ∧ iv = .int .i64 k ∧ nv = .int .i64 N ∧ (k ≤ 30 → N = ((cat (xs.take k)).length : Nat) ∧ (cat (xs.take k)).length ≤ k * 140737488355328)) (fun _ i => xs.length - (intOf i).toNat)
  case atStart => exact ⟨0, 0, Nat.zero_le _, rfl, rfl, fun _ => ⟨rfl, Nat.le_refl _⟩⟩
  case round =>
    obtain ⟨k, N, hk, rfl, rfl, hN⟩ := hrel
    have HN := Lib.hid hN
    clear hN
    by_cases hlt : k < xs.length
    · obtain ⟨s, hs⟩ : ∃ s, xs[k]? = some s := ⟨_, List.getElem?_eq_getElem hlt⟩
      have hc := HR.out.2 k s hs
      have HT := Lib.hid (cat_take xs k s hs)
      have HS := Lib.hid hs
      have HM := Lib.hid (HZ.out s (List.mem_of_getElem? hs))
      clear hs
      go_wp2
      go_round
      case rel =>
        refine ⟨k + 1, _, by omega, by go_num, rfl, fun h30 => ?_⟩
        obtain ⟨e1, e2⟩ := HN.out (by omega)
        have h3 : s.data.toList.length = s.size := by simp
        have hm := HM.out
        rw [HT.out, List.length_append, e1]
        refine ⟨?_, by omega⟩
        unfold wrap64
        rw [h3]
        omega
      case measure => simp [intOf]; omega
    · obtain rfl : k = xs.length := by omega
      rw [List.take_length] at HN
      by_cases h30 : xs.length ≤ 20
      · have hN := (HN.out (by omega)).1
        have h30i : (xs.length : Int) ≤ 20 := by omega
        by_cases h20 : N ≤ 600
        all_goals
          go_wp2
          go_ret
          exact ⟨⟨_, rfl, by intro h; first | (cases h; done) | (have h2 := of_decide_eq_true h; constructor <;> omega) | (constructor <;> omega)⟩, rfl⟩
      · have h30i : ¬ (xs.length : Int) ≤ 20 := by omega
        go_wp2
        go_ret
        exact ⟨⟨_, rfl, by intro h; first | (cases h; done) | (have h2 := of_decide_eq_true h; constructor <;> omega) | (constructor <;> omega)⟩, rfl⟩
end Go.Proofs.Ythjphechdhbenaa.Dg
