/- The walks of layer 6: read, with what its reader answers. By tools/gen-frame-5.py. -/
import Derived.Test.YtfeecfdbncjmnaaDoorFmC
import Derived.Tactics
import Derived.Tactics2
import Derived.Defers
import Derived.Recover
import Derived.Laws.Pointers
namespace Go.Proofs.YtfeecfdbncjmnaaDoor.Fm
set_option maxRecDepth 20000
open Go.RowKit Vm
set_option linter.unusedVariables false
set_option linter.unusedSimpArgs false

theorem assertGU (w : World) : (Instr.typeAssert (.iface 83 (.agg #[])) 20 83 true).run Tryd.prog w = .ok (.tuple #[.agg #[], .bool true]) w := by
  simp [Instr.typeAssert, run_underlying Tryd.underlying83, go_sem, Result.andThen]
/-- The zero frame. -/
def frZ : Frm := ⟨0, 0, 0, 0, 0, 0, 0, 0, false, [], [], [], ⟨none, 0, 0⟩⟩
set_option maxHeartbeats 2000000 in
theorem catch_idle (p q : Addr) (w : World) :
    CallsD Tryd.prog 30 #[.pointer (some p), .pointer (some q)] .returning w fun e u' w' => e = .returned (.tuple #[]) ∧ u' = .returning ∧ w' = w := by
  refine callsD_of_wpS Tryd.func30 rfl fun c₀ cs hu => ?_
  apply wpS_seq
  apply wpS_region
  simp [wpOpsS, go_sem, recoverD, hu, Tryd.ntmps30, Exit.thenS]
  refine wpS_of_wp ?_
  simp only [Array.replicate_succ, Array.replicate_zero, List.push_toArray, List.append_toArray, List.setIfInBounds_toArray, List.set_cons_zero, List.set_cons_succ, List.cons_append, List.nil_append]
  go_wp2
  cases c₀
  simp_all [bodyPostS, results, Tryd.results30]
set_option maxHeartbeats 2000000 in
theorem catch_panicking (N : Nat) (l : List UInt8) (f : Frm) (u : Bool) (older : List PanicEntry) (w : World) (h : FBk N l f w) (h1 : w.heap[N + 1]? = some (.cells #[.bool u] 4 (0, 0))) :
    CallsD Tryd.prog 30 #[.pointer (some ⟨N, 0, none⟩), .pointer (some ⟨N + 1, 0, none⟩)] (.panicking ({ v := .iface 83 (.agg #[]), recovered := false } :: older)) w fun e u' w' =>
      e = .returned (.tuple #[]) ∧ u' = .panicking ({ v := .iface 83 (.agg #[]), recovered := true } :: older) ∧ FBk N [] frZ w' ∧ w'.heap[N + 1]? = some (.cells #[.bool false] 4 (0, 0)) ∧ It.Only (fun k => k = N ∨ k = N + 1) w w' := by
  have c0 := h.cell0
  have c1 := h.cell1
  have c2 := h.cell2
  have c3 := h.cell3
  have c4 := h.cell4
  have c5 := h.cell5
  have c6 := h.cell6
  have c7 := h.cell7
  have c8 := h.cell8
  have c9 := h.cell9
  have c10 := h.cell10
  have c11 := h.cell11
  have c12 := h.cell12
  have c13 := h.cell13
  have f0 := h.fz
  have d0 : w.cell? ⟨N + 1, 0, none⟩ = some (.bool u) := Lib.cell_of_heap h1 0
  have d1 : w.frozen? ⟨N + 1, 0, none⟩ = false := Lib.frozen_of_heap h1 0
  have hl0 := h.lt
  have hl1 : N + 1 < w.heap.size := World.block_lt_of_cell? w _ d0
  have HH := Lib.hid h
  have H1 := Lib.hid h1
  clear h h1
  have hta := assertGU
  refine callsD_of_wpS Tryd.func30 rfl fun c₀ cs hu => ?_
  apply wpS_seq
  apply wpS_region
  simp [wpOpsS, go_sem, recoverD, hu, Tryd.ntmps30, Exit.thenS]
  refine wpS_of_wp ?_
  simp only [Array.replicate_succ, Array.replicate_zero, List.push_toArray, List.append_toArray, List.setIfInBounds_toArray, List.set_cons_zero, List.set_cons_succ, List.cons_append, List.nil_append]
  go_wp2
  have HF : FBk N [] frZ ((((((((((((((w.setCell ⟨N, 0, none⟩ (.string ⟨#[]⟩)).setCell ⟨N, 1, none⟩ (.int .u64 0)).setCell ⟨N, 2, none⟩ (.int .u64 0)).setCell ⟨N, 3, none⟩ (.int .u64 0)).setCell ⟨N, 4, none⟩ (.int .u64 0)).setCell ⟨N, 5, none⟩ (.int .u64 0)).setCell ⟨N, 6, none⟩ (.int .u64 0)).setCell ⟨N, 7, none⟩ (.int .u64 0)).setCell ⟨N, 8, none⟩ (.int .u64 0)).setCell ⟨N, 9, none⟩ (.bool false)).setCell ⟨N, 10, none⟩ (.string ⟨#[]⟩)).setCell ⟨N, 11, none⟩ (.string ⟨#[]⟩)).setCell ⟨N, 12, none⟩ (.string ⟨#[]⟩)).setCell ⟨N, 13, none⟩ (.slice none 0 0)) := (((((((((((((HH.out.set0 []).set1 0).set2 0).set3 0).set4 0).set5 0).set6 0).set7 0).set8 0).set9 false).set10 []).set11 []).set12 []).set13 ⟨none, 0, 0⟩
  have HO : It.Only (fun k => k = N ∨ k = N + 1) w ((((((((((((((w.setCell ⟨N, 0, none⟩ (.string ⟨#[]⟩)).setCell ⟨N, 1, none⟩ (.int .u64 0)).setCell ⟨N, 2, none⟩ (.int .u64 0)).setCell ⟨N, 3, none⟩ (.int .u64 0)).setCell ⟨N, 4, none⟩ (.int .u64 0)).setCell ⟨N, 5, none⟩ (.int .u64 0)).setCell ⟨N, 6, none⟩ (.int .u64 0)).setCell ⟨N, 7, none⟩ (.int .u64 0)).setCell ⟨N, 8, none⟩ (.int .u64 0)).setCell ⟨N, 9, none⟩ (.bool false)).setCell ⟨N, 10, none⟩ (.string ⟨#[]⟩)).setCell ⟨N, 11, none⟩ (.string ⟨#[]⟩)).setCell ⟨N, 12, none⟩ (.string ⟨#[]⟩)).setCell ⟨N, 13, none⟩ (.slice none 0 0)) := by
    iterate 14 (refine It.Only.trans ?_ (It.Only.setCell (O := fun k => k = N ∨ k = N + 1) (.inl rfl) _ _))
    exact It.Only.refl _ _
  have HO2 : It.Only (fun k => k = N) w ((((((((((((((w.setCell ⟨N, 0, none⟩ (.string ⟨#[]⟩)).setCell ⟨N, 1, none⟩ (.int .u64 0)).setCell ⟨N, 2, none⟩ (.int .u64 0)).setCell ⟨N, 3, none⟩ (.int .u64 0)).setCell ⟨N, 4, none⟩ (.int .u64 0)).setCell ⟨N, 5, none⟩ (.int .u64 0)).setCell ⟨N, 6, none⟩ (.int .u64 0)).setCell ⟨N, 7, none⟩ (.int .u64 0)).setCell ⟨N, 8, none⟩ (.int .u64 0)).setCell ⟨N, 9, none⟩ (.bool false)).setCell ⟨N, 10, none⟩ (.string ⟨#[]⟩)).setCell ⟨N, 11, none⟩ (.string ⟨#[]⟩)).setCell ⟨N, 12, none⟩ (.string ⟨#[]⟩)).setCell ⟨N, 13, none⟩ (.slice none 0 0)) := by
    iterate 14 (refine It.Only.trans ?_ (It.Only.setCell (O := fun k => k = N) rfl _ _))
    exact It.Only.refl _ _
  have HW : FBk N [] frZ ((((((((((((((((w.setCell ⟨N, 0, none⟩ (.string ⟨#[]⟩)).setCell ⟨N, 1, none⟩ (.int .u64 0)).setCell ⟨N, 2, none⟩ (.int .u64 0)).setCell ⟨N, 3, none⟩ (.int .u64 0)).setCell ⟨N, 4, none⟩ (.int .u64 0)).setCell ⟨N, 5, none⟩ (.int .u64 0)).setCell ⟨N, 6, none⟩ (.int .u64 0)).setCell ⟨N, 7, none⟩ (.int .u64 0)).setCell ⟨N, 8, none⟩ (.int .u64 0)).setCell ⟨N, 9, none⟩ (.bool false)).setCell ⟨N, 10, none⟩ (.string ⟨#[]⟩)).setCell ⟨N, 11, none⟩ (.string ⟨#[]⟩)).setCell ⟨N, 12, none⟩ (.string ⟨#[]⟩)).setCell ⟨N, 13, none⟩ (.slice none 0 0)).setCell ⟨N + 1, 0, none⟩ (.bool false)).alloc (.cells #[] 83)) ∧ ((((((((((((((((w.setCell ⟨N, 0, none⟩ (.string ⟨#[]⟩)).setCell ⟨N, 1, none⟩ (.int .u64 0)).setCell ⟨N, 2, none⟩ (.int .u64 0)).setCell ⟨N, 3, none⟩ (.int .u64 0)).setCell ⟨N, 4, none⟩ (.int .u64 0)).setCell ⟨N, 5, none⟩ (.int .u64 0)).setCell ⟨N, 6, none⟩ (.int .u64 0)).setCell ⟨N, 7, none⟩ (.int .u64 0)).setCell ⟨N, 8, none⟩ (.int .u64 0)).setCell ⟨N, 9, none⟩ (.bool false)).setCell ⟨N, 10, none⟩ (.string ⟨#[]⟩)).setCell ⟨N, 11, none⟩ (.string ⟨#[]⟩)).setCell ⟨N, 12, none⟩ (.string ⟨#[]⟩)).setCell ⟨N, 13, none⟩ (.slice none 0 0)).setCell ⟨N + 1, 0, none⟩ (.bool false)).alloc (.cells #[] 83)).heap[N + 1]? = some (.cells #[.bool false] 4 (0, 0)) ∧ It.Only (fun k => k = N ∨ k = N + 1) w ((((((((((((((((w.setCell ⟨N, 0, none⟩ (.string ⟨#[]⟩)).setCell ⟨N, 1, none⟩ (.int .u64 0)).setCell ⟨N, 2, none⟩ (.int .u64 0)).setCell ⟨N, 3, none⟩ (.int .u64 0)).setCell ⟨N, 4, none⟩ (.int .u64 0)).setCell ⟨N, 5, none⟩ (.int .u64 0)).setCell ⟨N, 6, none⟩ (.int .u64 0)).setCell ⟨N, 7, none⟩ (.int .u64 0)).setCell ⟨N, 8, none⟩ (.int .u64 0)).setCell ⟨N, 9, none⟩ (.bool false)).setCell ⟨N, 10, none⟩ (.string ⟨#[]⟩)).setCell ⟨N, 11, none⟩ (.string ⟨#[]⟩)).setCell ⟨N, 12, none⟩ (.string ⟨#[]⟩)).setCell ⟨N, 13, none⟩ (.slice none 0 0)).setCell ⟨N + 1, 0, none⟩ (.bool false)).alloc (.cells #[] 83)) := by
    refine ⟨?_, ?_, ?_⟩
    · exact (HF.only (It.Only.setCell (O := fun k => k = N + 1) (p := ⟨N + 1, 0, none⟩) rfl _ _) (by omega)).only (It.Only.alloc (fun _ => False) _ _) (fun h => h)
    · refine (It.Only.alloc (fun _ => False) _ _).heap ?_ (fun h => h)
      exact Joins.block_setCell (i := 0) (HO2.heap H1.out (by omega)) _
    · exact (HO.trans (It.Only.setCell (O := fun k => k = N ∨ k = N + 1) (p := ⟨N + 1, 0, none⟩) (.inr rfl) _ _)).trans (It.Only.alloc _ _ _)
  clear HF HO HO2
  generalize ((((((((((((((((w.setCell ⟨N, 0, none⟩ (.string ⟨#[]⟩)).setCell ⟨N, 1, none⟩ (.int .u64 0)).setCell ⟨N, 2, none⟩ (.int .u64 0)).setCell ⟨N, 3, none⟩ (.int .u64 0)).setCell ⟨N, 4, none⟩ (.int .u64 0)).setCell ⟨N, 5, none⟩ (.int .u64 0)).setCell ⟨N, 6, none⟩ (.int .u64 0)).setCell ⟨N, 7, none⟩ (.int .u64 0)).setCell ⟨N, 8, none⟩ (.int .u64 0)).setCell ⟨N, 9, none⟩ (.bool false)).setCell ⟨N, 10, none⟩ (.string ⟨#[]⟩)).setCell ⟨N, 11, none⟩ (.string ⟨#[]⟩)).setCell ⟨N, 12, none⟩ (.string ⟨#[]⟩)).setCell ⟨N, 13, none⟩ (.slice none 0 0)).setCell ⟨N + 1, 0, none⟩ (.bool false)).alloc (.cells #[] 83)) = X at HW ⊢
  simp [bodyPostS, results, Tryd.results30, HW]

set_option maxHeartbeats 8000000 in
theorem read_yes (l l2 : List UInt8) (f2 : Frm) (w : World) (ht : Tab w)
    (CF : Hid (∀ b W, Tab W → FBk b l frZ W → Calls Tryd.prog 31 #[.pointer (some ⟨b, 0, none⟩)] W fun e W' => e = .returned (.tuple #[]) ∧ FBk b l2 f2 W' ∧ It.Only (fun k => k = b) W W')) :
    Calls Tryd.prog 18 #[.string ⟨l.toArray⟩] w fun e w' => e = .returned (.tuple #[.agg #[.string ⟨l2.toArray⟩, .int .u64 f2.kind, .int .u64 f2.id, .int .u64 f2.off, .int .u64 f2.max, .int .u64 f2.code, .int .u64 f2.seq, .int .u64 f2.prior, .int .u64 f2.delay, .bool f2.fin, .string ⟨f2.data.toArray⟩, .string ⟨f2.cid.toArray⟩, .string ⟨f2.token.toArray⟩, .slice f2.set.a f2.set.n f2.set.c], .bool true]) ∧ Below w.heap.size w w' := by
  have hmf : ∀ (fn : Fn) (first cap : Array Value) (w : World), (Instr.makeFunc fn first cap).run Tryd.prog w = .ok (.func fn first cap) w := fun _ _ _ _ => rfl
  have hlt := ht.lt
  have HB0 : Hid (Below w.heap.size w ((w.alloc (.cells #[.string ⟨l.toArray⟩, .int .u64 0, .int .u64 0, .int .u64 0, .int .u64 0, .int .u64 0, .int .u64 0, .int .u64 0, .int .u64 0, .bool false, .string ⟨#[]⟩, .string ⟨#[]⟩, .string ⟨#[]⟩, .slice none 0 0] 59)).alloc (.cells #[.bool false] 4))) := Lib.hid (((Below.refl _ _).alloc (Nat.le_refl _) _).alloc (by simp) _)
  have HT := Lib.hid (ht.below HB0.out ht.lt)
  have HF0 : Hid (FBk w.heap.size l frZ ((w.alloc (.cells #[.string ⟨l.toArray⟩, .int .u64 0, .int .u64 0, .int .u64 0, .int .u64 0, .int .u64 0, .int .u64 0, .int .u64 0, .int .u64 0, .bool false, .string ⟨#[]⟩, .string ⟨#[]⟩, .string ⟨#[]⟩, .slice none 0 0] 59)).alloc (.cells #[.bool false] 4))) := Lib.hid (by
    unfold FBk
    rw [Below.heap_alloc _ _ _ (by simp)]
    exact World.alloc_heap_new w _)
  have H10 : Hid (((w.alloc (.cells #[.string ⟨l.toArray⟩, .int .u64 0, .int .u64 0, .int .u64 0, .int .u64 0, .int .u64 0, .int .u64 0, .int .u64 0, .int .u64 0, .bool false, .string ⟨#[]⟩, .string ⟨#[]⟩, .string ⟨#[]⟩, .slice none 0 0] 59)).alloc (.cells #[.bool false] 4)).heap[w.heap.size + 1]? = some (.cells #[.bool false] 4 (0, 0))) := Lib.hid (by
    have := World.alloc_heap_new (w.alloc (.cells #[.string ⟨l.toArray⟩, .int .u64 0, .int .u64 0, .int .u64 0, .int .u64 0, .int .u64 0, .int .u64 0, .int .u64 0, .int .u64 0, .bool false, .string ⟨#[]⟩, .string ⟨#[]⟩, .string ⟨#[]⟩, .slice none 0 0] 59)) (.cells #[.bool false] 4)
    rwa [World.size_alloc] at this)
  clear ht
  go_enter_defers Tryd.func18, Tryd.ntmps18
  go_wp2_with fail
  refine (CF.out _ _ HT.out HF0.out).mono ?_
  rintro e w2 ⟨rfl, hf, ho⟩
  have HF2 := Lib.hid hf
  have h1 := ho.heap H10.out (by omega)
  have H12 := Lib.hid h1
  have hB2 : Below w.heap.size w w2 := HB0.out.trans (ho.below HB0.out.size (fun k hk => by omega))
  have HB2 := Lib.hid hB2
  have c0 := hf.cell0
  have c1 := hf.cell1
  have c2 := hf.cell2
  have c3 := hf.cell3
  have c4 := hf.cell4
  have c5 := hf.cell5
  have c6 := hf.cell6
  have c7 := hf.cell7
  have c8 := hf.cell8
  have c9 := hf.cell9
  have c10 := hf.cell10
  have c11 := hf.cell11
  have c12 := hf.cell12
  have c13 := hf.cell13
  have g0 := hf.fz
  have d0 : w2.cell? ⟨w.heap.size + 1, 0, none⟩ = some (.bool false) := Lib.cell_of_heap h1 0
  have d1 : w2.frozen? ⟨w.heap.size + 1, 0, none⟩ = false := Lib.frozen_of_heap h1 0
  clear hf ho h1 hB2
  go_wp2
  have HX : FBk w.heap.size l2 f2 (((((((((((((((w2.setCell ⟨w.heap.size, 0, none⟩ (.string ⟨l2.toArray⟩)).setCell ⟨w.heap.size, 1, none⟩ (.int .u64 f2.kind)).setCell ⟨w.heap.size, 2, none⟩ (.int .u64 f2.id)).setCell ⟨w.heap.size, 3, none⟩ (.int .u64 f2.off)).setCell ⟨w.heap.size, 4, none⟩ (.int .u64 f2.max)).setCell ⟨w.heap.size, 5, none⟩ (.int .u64 f2.code)).setCell ⟨w.heap.size, 6, none⟩ (.int .u64 f2.seq)).setCell ⟨w.heap.size, 7, none⟩ (.int .u64 f2.prior)).setCell ⟨w.heap.size, 8, none⟩ (.int .u64 f2.delay)).setCell ⟨w.heap.size, 9, none⟩ (.bool f2.fin)).setCell ⟨w.heap.size, 10, none⟩ (.string ⟨f2.data.toArray⟩)).setCell ⟨w.heap.size, 11, none⟩ (.string ⟨f2.cid.toArray⟩)).setCell ⟨w.heap.size, 12, none⟩ (.string ⟨f2.token.toArray⟩)).setCell ⟨w.heap.size, 13, none⟩ (.slice f2.set.a f2.set.n f2.set.c)).setCell ⟨w.heap.size + 1, 0, none⟩ (.bool true)) := ((((((((((((((HF2.out.set0 l2).set1 f2.kind).set2 f2.id).set3 f2.off).set4 f2.max).set5 f2.code).set6 f2.seq).set7 f2.prior).set8 f2.delay).set9 f2.fin).set10 f2.data).set11 f2.cid).set12 f2.token).set13 f2.set).only (It.Only.setCell (O := fun k => k = w.heap.size + 1) (p := ⟨w.heap.size + 1, 0, none⟩) rfl _ _) (by omega)
  have HO2 : It.Only (fun k => k = w.heap.size ∨ k = w.heap.size + 1) w2 (((((((((((((((w2.setCell ⟨w.heap.size, 0, none⟩ (.string ⟨l2.toArray⟩)).setCell ⟨w.heap.size, 1, none⟩ (.int .u64 f2.kind)).setCell ⟨w.heap.size, 2, none⟩ (.int .u64 f2.id)).setCell ⟨w.heap.size, 3, none⟩ (.int .u64 f2.off)).setCell ⟨w.heap.size, 4, none⟩ (.int .u64 f2.max)).setCell ⟨w.heap.size, 5, none⟩ (.int .u64 f2.code)).setCell ⟨w.heap.size, 6, none⟩ (.int .u64 f2.seq)).setCell ⟨w.heap.size, 7, none⟩ (.int .u64 f2.prior)).setCell ⟨w.heap.size, 8, none⟩ (.int .u64 f2.delay)).setCell ⟨w.heap.size, 9, none⟩ (.bool f2.fin)).setCell ⟨w.heap.size, 10, none⟩ (.string ⟨f2.data.toArray⟩)).setCell ⟨w.heap.size, 11, none⟩ (.string ⟨f2.cid.toArray⟩)).setCell ⟨w.heap.size, 12, none⟩ (.string ⟨f2.token.toArray⟩)).setCell ⟨w.heap.size, 13, none⟩ (.slice f2.set.a f2.set.n f2.set.c)).setCell ⟨w.heap.size + 1, 0, none⟩ (.bool true)) := by
    refine It.Only.trans ?_ (It.Only.setCell (O := fun k => k = w.heap.size ∨ k = w.heap.size + 1) (.inr rfl) _ _)
    iterate 14 (refine It.Only.trans ?_ (It.Only.setCell (O := fun k => k = w.heap.size ∨ k = w.heap.size + 1) (.inl rfl) _ _))
    exact It.Only.refl _ _
  have HX1 : ((((((((((((((((w2.setCell ⟨w.heap.size, 0, none⟩ (.string ⟨l2.toArray⟩)).setCell ⟨w.heap.size, 1, none⟩ (.int .u64 f2.kind)).setCell ⟨w.heap.size, 2, none⟩ (.int .u64 f2.id)).setCell ⟨w.heap.size, 3, none⟩ (.int .u64 f2.off)).setCell ⟨w.heap.size, 4, none⟩ (.int .u64 f2.max)).setCell ⟨w.heap.size, 5, none⟩ (.int .u64 f2.code)).setCell ⟨w.heap.size, 6, none⟩ (.int .u64 f2.seq)).setCell ⟨w.heap.size, 7, none⟩ (.int .u64 f2.prior)).setCell ⟨w.heap.size, 8, none⟩ (.int .u64 f2.delay)).setCell ⟨w.heap.size, 9, none⟩ (.bool f2.fin)).setCell ⟨w.heap.size, 10, none⟩ (.string ⟨f2.data.toArray⟩)).setCell ⟨w.heap.size, 11, none⟩ (.string ⟨f2.cid.toArray⟩)).setCell ⟨w.heap.size, 12, none⟩ (.string ⟨f2.token.toArray⟩)).setCell ⟨w.heap.size, 13, none⟩ (.slice f2.set.a f2.set.n f2.set.c)).setCell ⟨w.heap.size + 1, 0, none⟩ (.bool true))).cell? ⟨w.heap.size + 1, 0, none⟩ = some (.bool true) := by simp [go_sem, d0]
  have HXB : Below w.heap.size w (((((((((((((((w2.setCell ⟨w.heap.size, 0, none⟩ (.string ⟨l2.toArray⟩)).setCell ⟨w.heap.size, 1, none⟩ (.int .u64 f2.kind)).setCell ⟨w.heap.size, 2, none⟩ (.int .u64 f2.id)).setCell ⟨w.heap.size, 3, none⟩ (.int .u64 f2.off)).setCell ⟨w.heap.size, 4, none⟩ (.int .u64 f2.max)).setCell ⟨w.heap.size, 5, none⟩ (.int .u64 f2.code)).setCell ⟨w.heap.size, 6, none⟩ (.int .u64 f2.seq)).setCell ⟨w.heap.size, 7, none⟩ (.int .u64 f2.prior)).setCell ⟨w.heap.size, 8, none⟩ (.int .u64 f2.delay)).setCell ⟨w.heap.size, 9, none⟩ (.bool f2.fin)).setCell ⟨w.heap.size, 10, none⟩ (.string ⟨f2.data.toArray⟩)).setCell ⟨w.heap.size, 11, none⟩ (.string ⟨f2.cid.toArray⟩)).setCell ⟨w.heap.size, 12, none⟩ (.string ⟨f2.token.toArray⟩)).setCell ⟨w.heap.size, 13, none⟩ (.slice f2.set.a f2.set.n f2.set.c)).setCell ⟨w.heap.size + 1, 0, none⟩ (.bool true)) := HB2.out.trans (HO2.below HB2.out.size (fun k hk => by omega))
  clear HO2 c0 c1 c2 c3 c4 c5 c6 c7 c8 c9 c10 c11 c12 c13 g0 d0 d1
  generalize (((((((((((((((w2.setCell ⟨w.heap.size, 0, none⟩ (.string ⟨l2.toArray⟩)).setCell ⟨w.heap.size, 1, none⟩ (.int .u64 f2.kind)).setCell ⟨w.heap.size, 2, none⟩ (.int .u64 f2.id)).setCell ⟨w.heap.size, 3, none⟩ (.int .u64 f2.off)).setCell ⟨w.heap.size, 4, none⟩ (.int .u64 f2.max)).setCell ⟨w.heap.size, 5, none⟩ (.int .u64 f2.code)).setCell ⟨w.heap.size, 6, none⟩ (.int .u64 f2.seq)).setCell ⟨w.heap.size, 7, none⟩ (.int .u64 f2.prior)).setCell ⟨w.heap.size, 8, none⟩ (.int .u64 f2.delay)).setCell ⟨w.heap.size, 9, none⟩ (.bool f2.fin)).setCell ⟨w.heap.size, 10, none⟩ (.string ⟨f2.data.toArray⟩)).setCell ⟨w.heap.size, 11, none⟩ (.string ⟨f2.cid.toArray⟩)).setCell ⟨w.heap.size, 12, none⟩ (.string ⟨f2.token.toArray⟩)).setCell ⟨w.heap.size, 13, none⟩ (.slice f2.set.a f2.set.n f2.set.c)).setCell ⟨w.heap.size + 1, 0, none⟩ (.bool true)) = X at HX HX1 HXB ⊢
  refine leaves_cons (f := 30) (args := #[.pointer (some ⟨w.heap.size, 0, none⟩), .pointer (some ⟨w.heap.size + 1, 0, none⟩)]) (by simp) (by simp [go_sem]) ?_
  refine (catch_idle ⟨w.heap.size, 0, none⟩ ⟨w.heap.size + 1, 0, none⟩ X).mono ?_
  rintro e u' w'' ⟨rfl, rfl, rfl⟩
  have c0 := HX.cell0
  have c1 := HX.cell1
  have c2 := HX.cell2
  have c3 := HX.cell3
  have c4 := HX.cell4
  have c5 := HX.cell5
  have c6 := HX.cell6
  have c7 := HX.cell7
  have c8 := HX.cell8
  have c9 := HX.cell9
  have c10 := HX.cell10
  have c11 := HX.cell11
  have c12 := HX.cell12
  have c13 := HX.cell13
  simp [Leaves, settle, results, Tryd.results18, go_sem, *]
set_option maxHeartbeats 8000000 in
theorem read_no (l : List UInt8) (w : World) (ht : Tab w)
    (CF : Hid (∀ b W, Tab W → FBk b l frZ W → Calls Tryd.prog 31 #[.pointer (some ⟨b, 0, none⟩)] W fun e W' => e = .panicked GU ∧ (∃ l2 f2, FBk b l2 f2 W') ∧ It.Only (fun k => k = b) W W')) :
    Calls Tryd.prog 18 #[.string ⟨l.toArray⟩] w fun e w' => e = .returned (.tuple #[.agg #[.string ⟨#[]⟩, .int .u64 0, .int .u64 0, .int .u64 0, .int .u64 0, .int .u64 0, .int .u64 0, .int .u64 0, .int .u64 0, .bool false, .string ⟨#[]⟩, .string ⟨#[]⟩, .string ⟨#[]⟩, .slice none 0 0], .bool false]) ∧ Below w.heap.size w w' := by
  have hmf : ∀ (fn : Fn) (first cap : Array Value) (w : World), (Instr.makeFunc fn first cap).run Tryd.prog w = .ok (.func fn first cap) w := fun _ _ _ _ => rfl
  have hlt := ht.lt
  have HB0 : Hid (Below w.heap.size w ((w.alloc (.cells #[.string ⟨l.toArray⟩, .int .u64 0, .int .u64 0, .int .u64 0, .int .u64 0, .int .u64 0, .int .u64 0, .int .u64 0, .int .u64 0, .bool false, .string ⟨#[]⟩, .string ⟨#[]⟩, .string ⟨#[]⟩, .slice none 0 0] 59)).alloc (.cells #[.bool false] 4))) := Lib.hid (((Below.refl _ _).alloc (Nat.le_refl _) _).alloc (by simp) _)
  have HT := Lib.hid (ht.below HB0.out ht.lt)
  have HF0 : Hid (FBk w.heap.size l frZ ((w.alloc (.cells #[.string ⟨l.toArray⟩, .int .u64 0, .int .u64 0, .int .u64 0, .int .u64 0, .int .u64 0, .int .u64 0, .int .u64 0, .int .u64 0, .bool false, .string ⟨#[]⟩, .string ⟨#[]⟩, .string ⟨#[]⟩, .slice none 0 0] 59)).alloc (.cells #[.bool false] 4))) := Lib.hid (by
    unfold FBk
    rw [Below.heap_alloc _ _ _ (by simp)]
    exact World.alloc_heap_new w _)
  have H10 : Hid (((w.alloc (.cells #[.string ⟨l.toArray⟩, .int .u64 0, .int .u64 0, .int .u64 0, .int .u64 0, .int .u64 0, .int .u64 0, .int .u64 0, .int .u64 0, .bool false, .string ⟨#[]⟩, .string ⟨#[]⟩, .string ⟨#[]⟩, .slice none 0 0] 59)).alloc (.cells #[.bool false] 4)).heap[w.heap.size + 1]? = some (.cells #[.bool false] 4 (0, 0))) := Lib.hid (by
    have := World.alloc_heap_new (w.alloc (.cells #[.string ⟨l.toArray⟩, .int .u64 0, .int .u64 0, .int .u64 0, .int .u64 0, .int .u64 0, .int .u64 0, .int .u64 0, .int .u64 0, .bool false, .string ⟨#[]⟩, .string ⟨#[]⟩, .string ⟨#[]⟩, .slice none 0 0] 59)) (.cells #[.bool false] 4)
    rwa [World.size_alloc] at this)
  clear ht
  go_enter_defers Tryd.func18, Tryd.ntmps18
  go_wp2_with fail
  refine (CF.out _ _ HT.out HF0.out).mono ?_
  rintro e w2 ⟨rfl, ⟨l2, f2, hf⟩, ho⟩
  have h1 := ho.heap H10.out (by omega)
  have hB2 : Below w.heap.size w w2 := HB0.out.trans (ho.below HB0.out.size (fun k hk => by omega))
  go_wp2
  refine leaves_cons (f := 30) (args := #[.pointer (some ⟨w.heap.size, 0, none⟩), .pointer (some ⟨w.heap.size + 1, 0, none⟩)]) (by simp) (by simp [go_sem]) ?_
  refine (catch_panicking w.heap.size l2 f2 false [] w2 hf h1).mono ?_
  rintro e u' w'' ⟨rfl, rfl, HX, hx1, hxo⟩
  have HX1 : w''.cell? ⟨w.heap.size + 1, 0, none⟩ = some (.bool false) := Lib.cell_of_heap hx1 0
  have HXB : Below w.heap.size w w'' := hB2.trans (hxo.below hB2.size (fun k hk => by omega))
  have c0 := HX.cell0
  have c1 := HX.cell1
  have c2 := HX.cell2
  have c3 := HX.cell3
  have c4 := HX.cell4
  have c5 := HX.cell5
  have c6 := HX.cell6
  have c7 := HX.cell7
  have c8 := HX.cell8
  have c9 := HX.cell9
  have c10 := HX.cell10
  have c11 := HX.cell11
  have c12 := HX.cell12
  have c13 := HX.cell13
  unfold frZ at c0 c1 c2 c3 c4 c5 c6 c7 c8 c9 c10 c11 c12 c13
  simp [Leaves, settle, results, Tryd.results18, go_sem, *]
end Go.Proofs.YtfeecfdbncjmnaaDoor.Fm
