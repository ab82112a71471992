/- The walks of layer 6: where a frame's numbers stand, the numbers, the texts. By tools/gen-frame-3.py. -/
import Derived.Test.YtfeecfdbncjmnaaDoorFmB
import Derived.BigRegion
namespace Go.Proofs.YtfeecfdbncjmnaaDoor.Fm
set_option maxRecDepth 20000
open Go.RowKit Vm
set_option linter.unusedVariables false
set_option linter.unusedSimpArgs false

/-- An array by value, at an index that fits: its cell. -/
theorem run_index_ptr7 (cs : Array Value) (i : Nat) (v : Value) (w : World) (hn : i < 7) (hv : cs[i]? = some v) : (Instr.index 116 (.agg cs) (.int .i64 (i : Nat))).run Tryd.prog w = .ok v w := by
  have h : ((i : Nat) : Int) < 7 := by omega
  have hsz : (Tryd.prog.info? 115).isSome = true := by kernel_rfl
  obtain ⟨inf, hinf⟩ := Option.isSome_iff_exists.1 hsz
  have hc : Tryd.prog.cellsOf 115 = 1 := by kernel_rfl
  simp [Instr.index, run_underlying Tryd.underlying116, asIntOf, h, run_sizeOf (w := w) hinf, hc, part, isAgg, run_underlying Tryd.underlying115, hv, go_sem]
  intro h2
  omega
theorem run_index_num7 (cs : Array Value) (i : Nat) (v : Value) (w : World) (hn : i < 7) (hv : cs[i]? = some v) : (Instr.index 77 (.agg cs) (.int .i64 (i : Nat))).run Tryd.prog w = .ok v w := by
  have h : ((i : Nat) : Int) < 7 := by omega
  have hsz : (Tryd.prog.info? 23).isSome = true := by kernel_rfl
  obtain ⟨inf, hinf⟩ := Option.isSome_iff_exists.1 hsz
  have hc : Tryd.prog.cellsOf 23 = 1 := by kernel_rfl
  simp [Instr.index, run_underlying Tryd.underlying77, asIntOf, h, run_sizeOf (w := w) hinf, hc, part, isAgg, run_underlying Tryd.underlying23, hv, go_sem]
  intro h2
  omega
set_option maxHeartbeats 4000000 in
theorem places_0 (b : Nat) (w : World) (hb : b < w.heap.size) : Calls Tryd.prog 51 #[.pointer (some ⟨b, 0, none⟩)] w fun e w' => e = .returned (.agg #[.pointer (some ⟨b, 1, none⟩), .pointer (some ⟨b, 2, none⟩), .pointer (some ⟨b, 4, none⟩), .pointer (some ⟨b, 3, none⟩), .pointer (some ⟨b, 5, none⟩), .pointer (some ⟨b, 6, none⟩), .pointer (some ⟨b, 7, none⟩)]) ∧ Below w.heap.size w w' := by
  go_enter Tryd.func51, Tryd.ntmps51
  go_wp2
  go_region
  go_wp2
  refine bodyPost_ret (v := .agg #[.pointer (some ⟨b, 1, none⟩), .pointer (some ⟨b, 2, none⟩), .pointer (some ⟨b, 4, none⟩), .pointer (some ⟨b, 3, none⟩), .pointer (some ⟨b, 5, none⟩), .pointer (some ⟨b, 6, none⟩), .pointer (some ⟨b, 7, none⟩)]) (by simp [results, Tryd.results51, go_sem, *]) rfl ⟨rfl, ?_⟩
  exact (Below.refl _ _).trans (((Below.refl _ _).alloc (Nat.le_refl _) _).trans ((Below.refl _ _).trans ⟨rfl, rfl, rfl, Nat.le_refl _, fun _ _ => rfl⟩))
set_option maxHeartbeats 4000000 in
theorem places_1 (b : Nat) (w : World) (hb : b < w.heap.size) : Calls Tryd.prog 51 #[.pointer (some ⟨b, 1, none⟩)] w fun e w' => e = .returned (.agg #[.pointer (some ⟨b, 2, none⟩), .pointer (some ⟨b, 3, none⟩), .pointer (some ⟨b, 5, none⟩), .pointer (some ⟨b, 4, none⟩), .pointer (some ⟨b, 6, none⟩), .pointer (some ⟨b, 7, none⟩), .pointer (some ⟨b, 8, none⟩)]) ∧ Below w.heap.size w w' := by
  go_enter Tryd.func51, Tryd.ntmps51
  go_wp2
  go_region
  go_wp2
  refine bodyPost_ret (v := .agg #[.pointer (some ⟨b, 2, none⟩), .pointer (some ⟨b, 3, none⟩), .pointer (some ⟨b, 5, none⟩), .pointer (some ⟨b, 4, none⟩), .pointer (some ⟨b, 6, none⟩), .pointer (some ⟨b, 7, none⟩), .pointer (some ⟨b, 8, none⟩)]) (by simp [results, Tryd.results51, go_sem, *]) rfl ⟨rfl, ?_⟩
  exact (Below.refl _ _).trans (((Below.refl _ _).alloc (Nat.le_refl _) _).trans ((Below.refl _ _).trans ⟨rfl, rfl, rfl, Nat.le_refl _, fun _ _ => rfl⟩))
/-- The numbers that are told so far. -/
def numA (f : Frm) (i : Nat) : Array Value := #[.int .u64 (if 0 < i then f.id else 0), .int .u64 (if 1 < i then f.off else 0), .int .u64 (if 2 < i then f.code else 0), .int .u64 (if 3 < i then f.max else 0), .int .u64 (if 4 < i then f.seq else 0), .int .u64 (if 5 < i then f.prior else 0), .int .u64 (if 6 < i then f.delay else 0)]
/-- A frame, as a value. -/
def fv (f : Frm) : Value := .agg #[.int .u64 f.kind, .int .u64 f.id, .int .u64 f.off, .int .u64 f.max, .int .u64 f.code, .int .u64 f.seq, .int .u64 f.prior, .int .u64 f.delay, .bool f.fin, .string ⟨f.data.toArray⟩, .string ⟨f.cid.toArray⟩, .string ⟨f.token.toArray⟩, .slice f.set.a f.set.n f.set.c]
set_option maxHeartbeats 8000000 in
theorem numbers_any (f : Frm) (w : World) : Calls Tryd.prog 27 #[.agg #[.int .u64 f.kind, .int .u64 f.id, .int .u64 f.off, .int .u64 f.max, .int .u64 f.code, .int .u64 f.seq, .int .u64 f.prior, .int .u64 f.delay, .bool f.fin, .string ⟨f.data.toArray⟩, .string ⟨f.cid.toArray⟩, .string ⟨f.token.toArray⟩, .slice f.set.a f.set.n f.set.c]] w fun e w' => e = .returned (.agg #[.int .u64 f.id, .int .u64 f.off, .int .u64 f.code, .int .u64 f.max, .int .u64 f.seq, .int .u64 f.prior, .int .u64 f.delay]) ∧ Below w.heap.size w w' := by
  have hI0 := fun (u : World) => run_index_ptr7 #[.pointer (some ⟨w.heap.size, 1, none⟩), .pointer (some ⟨w.heap.size, 2, none⟩), .pointer (some ⟨w.heap.size, 4, none⟩), .pointer (some ⟨w.heap.size, 3, none⟩), .pointer (some ⟨w.heap.size, 5, none⟩), .pointer (some ⟨w.heap.size, 6, none⟩), .pointer (some ⟨w.heap.size, 7, none⟩)] 0 (.pointer (some ⟨w.heap.size, 1, none⟩)) u (by decide) rfl
  have hI1 := fun (u : World) => run_index_ptr7 #[.pointer (some ⟨w.heap.size, 1, none⟩), .pointer (some ⟨w.heap.size, 2, none⟩), .pointer (some ⟨w.heap.size, 4, none⟩), .pointer (some ⟨w.heap.size, 3, none⟩), .pointer (some ⟨w.heap.size, 5, none⟩), .pointer (some ⟨w.heap.size, 6, none⟩), .pointer (some ⟨w.heap.size, 7, none⟩)] 1 (.pointer (some ⟨w.heap.size, 2, none⟩)) u (by decide) rfl
  have hI2 := fun (u : World) => run_index_ptr7 #[.pointer (some ⟨w.heap.size, 1, none⟩), .pointer (some ⟨w.heap.size, 2, none⟩), .pointer (some ⟨w.heap.size, 4, none⟩), .pointer (some ⟨w.heap.size, 3, none⟩), .pointer (some ⟨w.heap.size, 5, none⟩), .pointer (some ⟨w.heap.size, 6, none⟩), .pointer (some ⟨w.heap.size, 7, none⟩)] 2 (.pointer (some ⟨w.heap.size, 4, none⟩)) u (by decide) rfl
  have hI3 := fun (u : World) => run_index_ptr7 #[.pointer (some ⟨w.heap.size, 1, none⟩), .pointer (some ⟨w.heap.size, 2, none⟩), .pointer (some ⟨w.heap.size, 4, none⟩), .pointer (some ⟨w.heap.size, 3, none⟩), .pointer (some ⟨w.heap.size, 5, none⟩), .pointer (some ⟨w.heap.size, 6, none⟩), .pointer (some ⟨w.heap.size, 7, none⟩)] 3 (.pointer (some ⟨w.heap.size, 3, none⟩)) u (by decide) rfl
  have hI4 := fun (u : World) => run_index_ptr7 #[.pointer (some ⟨w.heap.size, 1, none⟩), .pointer (some ⟨w.heap.size, 2, none⟩), .pointer (some ⟨w.heap.size, 4, none⟩), .pointer (some ⟨w.heap.size, 3, none⟩), .pointer (some ⟨w.heap.size, 5, none⟩), .pointer (some ⟨w.heap.size, 6, none⟩), .pointer (some ⟨w.heap.size, 7, none⟩)] 4 (.pointer (some ⟨w.heap.size, 5, none⟩)) u (by decide) rfl
  have hI5 := fun (u : World) => run_index_ptr7 #[.pointer (some ⟨w.heap.size, 1, none⟩), .pointer (some ⟨w.heap.size, 2, none⟩), .pointer (some ⟨w.heap.size, 4, none⟩), .pointer (some ⟨w.heap.size, 3, none⟩), .pointer (some ⟨w.heap.size, 5, none⟩), .pointer (some ⟨w.heap.size, 6, none⟩), .pointer (some ⟨w.heap.size, 7, none⟩)] 5 (.pointer (some ⟨w.heap.size, 6, none⟩)) u (by decide) rfl
  have hI6 := fun (u : World) => run_index_ptr7 #[.pointer (some ⟨w.heap.size, 1, none⟩), .pointer (some ⟨w.heap.size, 2, none⟩), .pointer (some ⟨w.heap.size, 4, none⟩), .pointer (some ⟨w.heap.size, 3, none⟩), .pointer (some ⟨w.heap.size, 5, none⟩), .pointer (some ⟨w.heap.size, 6, none⟩), .pointer (some ⟨w.heap.size, 7, none⟩)] 6 (.pointer (some ⟨w.heap.size, 7, none⟩)) u (by decide) rfl
  go_enter Tryd.func27, Tryd.ntmps27
  go_wp2_with fail
  refine (places_0 _ _ (by simp; omega)).mono ?_
  rintro e w1 ⟨rfl, hb⟩
  have hl := hb.size
  simp at hl
  have hN : w1.heap[w.heap.size]? = some (.cells #[.int .u64 f.kind, .int .u64 f.id, .int .u64 f.off, .int .u64 f.max, .int .u64 f.code, .int .u64 f.seq, .int .u64 f.prior, .int .u64 f.delay, .bool f.fin, .string ⟨f.data.toArray⟩, .string ⟨f.cid.toArray⟩, .string ⟨f.token.toArray⟩, .slice f.set.a f.set.n f.set.c] 27 (0, 0)) := (hb.block _ (by simp; omega)).trans (by
    rw [Below.heap_alloc _ _ _ (by simp; omega), Below.heap_alloc _ _ _ (by simp)]
    exact World.alloc_heap_new w _)
  have hR : w1.heap[w.heap.size + 1]? = some (.cells #[.int .u64 0, .int .u64 0, .int .u64 0, .int .u64 0, .int .u64 0, .int .u64 0, .int .u64 0] 77 (0, 0)) := (hb.block _ (by simp)).trans (by
    rw [Below.heap_alloc _ _ _ (by simp)]
    have := World.alloc_heap_new (w.alloc (.cells #[.int .u64 f.kind, .int .u64 f.id, .int .u64 f.off, .int .u64 f.max, .int .u64 f.code, .int .u64 f.seq, .int .u64 f.prior, .int .u64 f.delay, .bool f.fin, .string ⟨f.data.toArray⟩, .string ⟨f.cid.toArray⟩, .string ⟨f.token.toArray⟩, .slice f.set.a f.set.n f.set.c] 27)) (.cells #[.int .u64 0, .int .u64 0, .int .u64 0, .int .u64 0, .int .u64 0, .int .u64 0, .int .u64 0] 77)
    rwa [World.size_alloc] at this)
  have hL : w1.heap[w.heap.size + 1 + 1]? = some (.cells (numA f 0) 77 (0, 0)) := (hb.block _ (by simp)).trans (by
    have := World.alloc_heap_new ((w.alloc (.cells #[.int .u64 f.kind, .int .u64 f.id, .int .u64 f.off, .int .u64 f.max, .int .u64 f.code, .int .u64 f.seq, .int .u64 f.prior, .int .u64 f.delay, .bool f.fin, .string ⟨f.data.toArray⟩, .string ⟨f.cid.toArray⟩, .string ⟨f.token.toArray⟩, .slice f.set.a f.set.n f.set.c] 27)).alloc (.cells #[.int .u64 0, .int .u64 0, .int .u64 0, .int .u64 0, .int .u64 0, .int .u64 0, .int .u64 0] 77)) (.cells #[.int .u64 0, .int .u64 0, .int .u64 0, .int .u64 0, .int .u64 0, .int .u64 0, .int .u64 0] 77)
    rw [World.size_alloc, World.size_alloc] at this
    exact this)
  have HB1 := Lib.hid ((((Below.refl w.heap.size w).alloc (Nat.le_refl _) _).alloc (by simp) _ |>.alloc (by simp; omega) _).trans (hb.mono (by simp; omega)))
  have HN := Lib.hid hN
  have HR := Lib.hid hR
  have HL := Lib.hid hL
  clear hb hN hR hL hl
  go_wp2
  go_loopw [7] (fun iv wr => ∃ i : Nat, i ≤ 7 ∧ iv = .int .i64 (i : Nat) ∧ wr.heap[w.heap.size]? = some (.cells #[.int .u64 f.kind, .int .u64 f.id, .int .u64 f.off, .int .u64 f.max, .int .u64 f.code, .int .u64 f.seq, .int .u64 f.prior, .int .u64 f.delay, .bool f.fin, .string ⟨f.data.toArray⟩, .string ⟨f.cid.toArray⟩, .string ⟨f.token.toArray⟩, .slice f.set.a f.set.n f.set.c] 27 (0, 0)) ∧ wr.heap[w.heap.size + 1]? = some (.cells #[.int .u64 0, .int .u64 0, .int .u64 0, .int .u64 0, .int .u64 0, .int .u64 0, .int .u64 0] 77 (0, 0)) ∧ wr.heap[w.heap.size + 1 + 1]? = some (.cells (numA f i) 77 (0, 0)) ∧ Below w.heap.size w wr) (fun iv _ => 7 - (intOf iv).toNat)
  case atStart => exact ⟨0, by decide, rfl, HN.out, HR.out, HL.out, HB1.out⟩
  case round =>
    obtain ⟨i, hi, rfl, hN, hR, hL, hb⟩ := hrel
    have HN := Lib.hid hN
    have HR := Lib.hid hR
    have HL := Lib.hid hL
    have HB := Lib.hid hb
    clear hN hR hL hb
    match i, hi with
    | 0, _ =>
      have c : wr.cell? ⟨w.heap.size, 1, none⟩ = some (.int .u64 f.id) := Lib.cell_of_heap HN.out 1
      have d : wr.cell? ⟨w.heap.size + 1 + 1, 0, none⟩ = some (.int .u64 0) := Lib.cell_of_heap HL.out 0
      have g : wr.frozen? ⟨w.heap.size + 1 + 1, 0, none⟩ = false := Lib.frozen_of_heap HL.out 0
      go_wp2_with fail
      erw [hI0]
      go_wp2
      go_roundw
      case rel =>
        refine ⟨1, by decide, rfl, ?_, ?_, Joins.block_setCell (i := 0) HL.out _, ?_⟩
        · exact (Below.heap_setCell _ _ _ _ (by simp only; omega)).trans HN.out
        · exact (Below.heap_setCell _ _ _ _ (by simp only; omega)).trans HR.out
        · exact HB.out.setCell (p := ⟨w.heap.size + 1 + 1, 0, none⟩) (by simp only; omega) _
      case measure => simp [intOf]
    | 1, _ =>
      have c : wr.cell? ⟨w.heap.size, 2, none⟩ = some (.int .u64 f.off) := Lib.cell_of_heap HN.out 2
      have d : wr.cell? ⟨w.heap.size + 1 + 1, 1, none⟩ = some (.int .u64 0) := Lib.cell_of_heap HL.out 1
      have g : wr.frozen? ⟨w.heap.size + 1 + 1, 1, none⟩ = false := Lib.frozen_of_heap HL.out 1
      go_wp2_with fail
      erw [hI1]
      go_wp2
      go_roundw
      case rel =>
        refine ⟨2, by decide, rfl, ?_, ?_, Joins.block_setCell (i := 1) HL.out _, ?_⟩
        · exact (Below.heap_setCell _ _ _ _ (by simp only; omega)).trans HN.out
        · exact (Below.heap_setCell _ _ _ _ (by simp only; omega)).trans HR.out
        · exact HB.out.setCell (p := ⟨w.heap.size + 1 + 1, 1, none⟩) (by simp only; omega) _
      case measure => simp [intOf]
    | 2, _ =>
      have c : wr.cell? ⟨w.heap.size, 4, none⟩ = some (.int .u64 f.code) := Lib.cell_of_heap HN.out 4
      have d : wr.cell? ⟨w.heap.size + 1 + 1, 2, none⟩ = some (.int .u64 0) := Lib.cell_of_heap HL.out 2
      have g : wr.frozen? ⟨w.heap.size + 1 + 1, 2, none⟩ = false := Lib.frozen_of_heap HL.out 2
      go_wp2_with fail
      erw [hI2]
      go_wp2
      go_roundw
      case rel =>
        refine ⟨3, by decide, rfl, ?_, ?_, Joins.block_setCell (i := 2) HL.out _, ?_⟩
        · exact (Below.heap_setCell _ _ _ _ (by simp only; omega)).trans HN.out
        · exact (Below.heap_setCell _ _ _ _ (by simp only; omega)).trans HR.out
        · exact HB.out.setCell (p := ⟨w.heap.size + 1 + 1, 2, none⟩) (by simp only; omega) _
      case measure => simp [intOf]
    | 3, _ =>
      have c : wr.cell? ⟨w.heap.size, 3, none⟩ = some (.int .u64 f.max) := Lib.cell_of_heap HN.out 3
      have d : wr.cell? ⟨w.heap.size + 1 + 1, 3, none⟩ = some (.int .u64 0) := Lib.cell_of_heap HL.out 3
      have g : wr.frozen? ⟨w.heap.size + 1 + 1, 3, none⟩ = false := Lib.frozen_of_heap HL.out 3
      go_wp2_with fail
      erw [hI3]
      go_wp2
      go_roundw
      case rel =>
        refine ⟨4, by decide, rfl, ?_, ?_, Joins.block_setCell (i := 3) HL.out _, ?_⟩
        · exact (Below.heap_setCell _ _ _ _ (by simp only; omega)).trans HN.out
        · exact (Below.heap_setCell _ _ _ _ (by simp only; omega)).trans HR.out
        · exact HB.out.setCell (p := ⟨w.heap.size + 1 + 1, 3, none⟩) (by simp only; omega) _
      case measure => simp [intOf]
    | 4, _ =>
      have c : wr.cell? ⟨w.heap.size, 5, none⟩ = some (.int .u64 f.seq) := Lib.cell_of_heap HN.out 5
      have d : wr.cell? ⟨w.heap.size + 1 + 1, 4, none⟩ = some (.int .u64 0) := Lib.cell_of_heap HL.out 4
      have g : wr.frozen? ⟨w.heap.size + 1 + 1, 4, none⟩ = false := Lib.frozen_of_heap HL.out 4
      go_wp2_with fail
      erw [hI4]
      go_wp2
      go_roundw
      case rel =>
        refine ⟨5, by decide, rfl, ?_, ?_, Joins.block_setCell (i := 4) HL.out _, ?_⟩
        · exact (Below.heap_setCell _ _ _ _ (by simp only; omega)).trans HN.out
        · exact (Below.heap_setCell _ _ _ _ (by simp only; omega)).trans HR.out
        · exact HB.out.setCell (p := ⟨w.heap.size + 1 + 1, 4, none⟩) (by simp only; omega) _
      case measure => simp [intOf]
    | 5, _ =>
      have c : wr.cell? ⟨w.heap.size, 6, none⟩ = some (.int .u64 f.prior) := Lib.cell_of_heap HN.out 6
      have d : wr.cell? ⟨w.heap.size + 1 + 1, 5, none⟩ = some (.int .u64 0) := Lib.cell_of_heap HL.out 5
      have g : wr.frozen? ⟨w.heap.size + 1 + 1, 5, none⟩ = false := Lib.frozen_of_heap HL.out 5
      go_wp2_with fail
      erw [hI5]
      go_wp2
      go_roundw
      case rel =>
        refine ⟨6, by decide, rfl, ?_, ?_, Joins.block_setCell (i := 5) HL.out _, ?_⟩
        · exact (Below.heap_setCell _ _ _ _ (by simp only; omega)).trans HN.out
        · exact (Below.heap_setCell _ _ _ _ (by simp only; omega)).trans HR.out
        · exact HB.out.setCell (p := ⟨w.heap.size + 1 + 1, 5, none⟩) (by simp only; omega) _
      case measure => simp [intOf]
    | 6, _ =>
      have c : wr.cell? ⟨w.heap.size, 7, none⟩ = some (.int .u64 f.delay) := Lib.cell_of_heap HN.out 7
      have d : wr.cell? ⟨w.heap.size + 1 + 1, 6, none⟩ = some (.int .u64 0) := Lib.cell_of_heap HL.out 6
      have g : wr.frozen? ⟨w.heap.size + 1 + 1, 6, none⟩ = false := Lib.frozen_of_heap HL.out 6
      go_wp2_with fail
      erw [hI6]
      go_wp2
      go_roundw
      case rel =>
        refine ⟨7, by decide, rfl, ?_, ?_, Joins.block_setCell (i := 6) HL.out _, ?_⟩
        · exact (Below.heap_setCell _ _ _ _ (by simp only; omega)).trans HN.out
        · exact (Below.heap_setCell _ _ _ _ (by simp only; omega)).trans HR.out
        · exact HB.out.setCell (p := ⟨w.heap.size + 1 + 1, 6, none⟩) (by simp only; omega) _
      case measure => simp [intOf]
    | 7, _ =>
      have d0 : wr.cell? ⟨w.heap.size + 1 + 1, 0, none⟩ = some (.int .u64 f.id) := Lib.cell_of_heap HL.out 0
      have r0 : wr.cell? ⟨w.heap.size + 1, 0, none⟩ = some (.int .u64 0) := Lib.cell_of_heap HR.out 0
      have d1 : wr.cell? ⟨w.heap.size + 1 + 1, 1, none⟩ = some (.int .u64 f.off) := Lib.cell_of_heap HL.out 1
      have r1 : wr.cell? ⟨w.heap.size + 1, 1, none⟩ = some (.int .u64 0) := Lib.cell_of_heap HR.out 1
      have d2 : wr.cell? ⟨w.heap.size + 1 + 1, 2, none⟩ = some (.int .u64 f.code) := Lib.cell_of_heap HL.out 2
      have r2 : wr.cell? ⟨w.heap.size + 1, 2, none⟩ = some (.int .u64 0) := Lib.cell_of_heap HR.out 2
      have d3 : wr.cell? ⟨w.heap.size + 1 + 1, 3, none⟩ = some (.int .u64 f.max) := Lib.cell_of_heap HL.out 3
      have r3 : wr.cell? ⟨w.heap.size + 1, 3, none⟩ = some (.int .u64 0) := Lib.cell_of_heap HR.out 3
      have d4 : wr.cell? ⟨w.heap.size + 1 + 1, 4, none⟩ = some (.int .u64 f.seq) := Lib.cell_of_heap HL.out 4
      have r4 : wr.cell? ⟨w.heap.size + 1, 4, none⟩ = some (.int .u64 0) := Lib.cell_of_heap HR.out 4
      have d5 : wr.cell? ⟨w.heap.size + 1 + 1, 5, none⟩ = some (.int .u64 f.prior) := Lib.cell_of_heap HL.out 5
      have r5 : wr.cell? ⟨w.heap.size + 1, 5, none⟩ = some (.int .u64 0) := Lib.cell_of_heap HR.out 5
      have d6 : wr.cell? ⟨w.heap.size + 1 + 1, 6, none⟩ = some (.int .u64 f.delay) := Lib.cell_of_heap HL.out 6
      have r6 : wr.cell? ⟨w.heap.size + 1, 6, none⟩ = some (.int .u64 0) := Lib.cell_of_heap HR.out 6
      have g : ∀ j, wr.frozen? ⟨w.heap.size + 1, j, none⟩ = false := fun j => Lib.frozen_of_heap HR.out j
      go_wp2
      refine bodyPost_ret (v := .agg #[.int .u64 f.id, .int .u64 f.off, .int .u64 f.code, .int .u64 f.max, .int .u64 f.seq, .int .u64 f.prior, .int .u64 f.delay]) (by simp [results, Tryd.results27, go_sem, *]) rfl ⟨rfl, ?_⟩
      iterate 7 (with_reducible refine Below.setCell ?_ ?hc _; case hc => simp; done)
      exact HB.out
end Go.Proofs.YtfeecfdbncjmnaaDoor.Fm
