/- The walks of layer 7: what is bounded; the document's constants, its text with what stands behind it. -/
import Derived.Test.YthjphechdhbenaaDgU
import Derived.Lib.AppendZeros
import Derived.Laws.Tables
import Derived.Lib.FrozenHead
namespace Go.Proofs.Ythjphechdhbenaa.Dg
set_option maxRecDepth 20000
open Go.RowKit
set_option linter.unusedVariables false
set_option linter.unusedSimpArgs false

/-- A slice of bytes of the call's own, whose row may bear the mark of a conversion. -/
def OwnM (w : World) (B : Nat) (v : Value) (l : List UInt8) : Prop :=
  ∃ g cap cur fz, v = .slice (some ⟨g, 0, none⟩) l.length cap ∧ B ≤ g ∧ w.heap[g]? = some (.cells cur 5 fz) ∧ (cur.size ≤ fz.1 ∨ fz.2 = 0) ∧ l.length ≤ cap ∧ cap ≤ maxLen ∧ cur.size = cap ∧ cur.toList.take l.length = Lib.byteCells l
theorem OwnM.form {w : World} {B : Nat} {v : Value} {l : List UInt8} (h : OwnM w B v l) : ∃ g c, v = .slice (some ⟨g, 0, none⟩) l.length c := by
  obtain ⟨g, cap, _, _, hv, _⟩ := h
  exact ⟨g, cap, hv⟩
theorem OwnM.lt {w : World} {B g c : Nat} {l : List UInt8} (h : OwnM w B (.slice (some ⟨g, 0, none⟩) l.length c) l) : B ≤ g ∧ g < w.heap.size := by
  obtain ⟨g', cap, cur, fz, hv, hb, hg, _⟩ := h
  simp only [Value.slice.injEq, Option.some.injEq, Addr.mk.injEq, and_true, true_and] at hv
  obtain ⟨rfl, rfl⟩ := hv
  exact ⟨hb, (Array.getElem?_eq_some_iff.1 hg).1⟩
theorem OwnM.keep {w w' : World} {B : Nat} {v : Value} {l : List UInt8} (h : OwnM w B v l) (hb : Below w.heap.size w w') : OwnM w' B v l := by
  obtain ⟨g, cap, cur, fz, hv, hbg, hg, r⟩ := h
  exact ⟨g, cap, cur, fz, hv, hbg, by rw [hb.block g (Array.getElem?_eq_some_iff.1 hg).1]; exact hg, r⟩
theorem OwnM.cell {w : World} {B g c : Nat} {l : List UInt8} (h : OwnM w B (.slice (some ⟨g, 0, none⟩) l.length c) l) (j : Nat) (hj : j < l.length) : w.cell? ⟨g, j, none⟩ = (Lib.byteCells l)[j]? := by
  obtain ⟨g', cap, cur, fz, hv, hb, hg, _, _, _, _, ht⟩ := h
  simp only [Value.slice.injEq, Option.some.injEq, Addr.mk.injEq, and_true, true_and] at hv
  obtain ⟨rfl, rfl⟩ := hv
  rw [cell_of_row w g j cur _ fz hg, ← ht, List.getElem?_take, if_pos hj]
  simp
theorem run_storeCells_atM (P : Program) (g o : Nat) (t : TypeId) (fz : Nat × Nat) : ∀ (vs : List Value) (i : Nat) (cur : Array Value) (w : World), w.heap[g]? = some (.cells cur t fz) → (cur.size ≤ fz.1 ∨ fz.2 = 0) → o + i + vs.length ≤ cur.size → (∀ v ∈ vs, v.oneCell' = true) →
    (storeCells ⟨g, o, none⟩ vs i).run P w = .ok () (w.setRow g (cur.toList.take (o + i) ++ vs ++ cur.toList.drop (o + i + vs.length)).toArray)
  | [], i, cur, w, hg, _, _, _ => by
    simp only [storeCells, List.append_nil, List.length_nil, Nat.add_zero, List.take_append_drop, Array.toArray_toList]
    rw [setRow_self w g cur t fz hg]
    rfl
  | v :: rest, i, cur, w, hg, hfz, hl, h1 => by
    have hi : o + i < cur.size := by simp at hl; omega
    have hadd : (⟨g, o, none⟩ : Addr).add i = ⟨g, o + i, none⟩ := by unfold Addr.add; split <;> simp_all
    have hcell : w.cell? ⟨g, o + i, none⟩ = some cur[o + i] := by simp [World.cell?, hg, hi]
    have hfro : w.frozen? ⟨g, o + i, none⟩ = false := by
      obtain ⟨lo, hi'⟩ := fz
      simp only [World.frozen?, hg, Bool.and_eq_false_iff, decide_eq_false_iff_not]
      simp only at hfz
      omega
    have hst : (store ((⟨g, o, none⟩ : Addr).add i) v).run P w = .ok () (w.setRow g (cur.setIfInBounds (o + i) v)) := by
      rw [hadd, run_store P w _ v _ (h1 v (by simp)), hcell]
      simp [hfro, setCell_eq_setRow w g (o + i) cur t fz v hg]
    have ih := run_storeCells_atM P g o t fz rest (i + 1) (cur.setIfInBounds (o + i) v) (w.setRow g (cur.setIfInBounds (o + i) v)) (setRow_heap w g cur _ t _ hg) (by simpa using hfz) (by simp at hl ⊢; omega) (fun x hx => h1 x (by simp [hx]))
    simp only [storeCells, Sem.run_bind, hst, Result.andThen_ok, ih, setRow_setRow]
    congr 3
    have e := list_seg_step cur.toList (o + i) v rest (by simp at hl ⊢; omega)
    simpa [Array.toList_setIfInBounds, Nat.add_assoc] using e
theorem run_append_M (w : World) (B : Nat) (i : TypeInfo) (ty : TypeId) (hi : Try.prog.info? 5 = some i) (hz : i.zero = some (.int .u8 0)) (hs : i.size = 1) (hby : i.bytes = 1)
    (g n c : Nat) (l m : List UInt8) (hn : n = l.length) (h : OwnM w B (.slice (some ⟨g, 0, none⟩) n c) l) (a : Addr) (k ca : Nat) (hk : k = m.length) (hnews : ∀ j u, (Lib.byteCells m)[j]? = some u → w.cell? (a.add j) = some u)
    (h63 : l.length + m.length ≤ 1000000) (hbase : B ≤ w.heap.size) :
    ∃ g' c' w', (Builtin.append_ #[60, 60] ty #[.slice (some ⟨g, 0, none⟩) n c, .slice (some a) k ca]).run Try.prog w = .ok (.slice (some ⟨g', 0, none⟩) (l ++ m).length c') w' ∧ OwnM w' B (.slice (some ⟨g', 0, none⟩) (l ++ m).length c') (l ++ m) ∧ w.grownBy w' (some g) := by
  subst hn hk
  have hmx : l.length + m.length ≤ maxLen := by unfold maxLen; omega
  have h1 : ∀ u ∈ Lib.byteCells m, u.oneCell' = true := by
    intro u hu
    obtain ⟨x, _, rfl⟩ := List.mem_map.1 hu
    rfl
  have hcl := h.cell
  obtain ⟨g', cap, cur, fz, hv, hb, hg, hfz, hnc, hcm, hcs, ht⟩ := h
  simp only [Value.slice.injEq, Option.some.injEq, Addr.mk.injEq, and_true, true_and] at hv
  obtain ⟨rfl, rfl⟩ := hv
  rw [List.length_append]
  by_cases hroom : l.length + m.length ≤ c
  · have hf := run_firstCells_some (P := Try.prog) w i.size m.length a m.length ca (Lib.byteCells m) (by rw [byteCells_len, hs, Nat.mul_one]) hnews
    have hst := run_storeCells_atM Try.prog g l.length 5 fz (Lib.byteCells m) 0 cur w hg hfz (by rw [byteCells_len]; omega) h1
    simp only [Nat.add_zero] at hst
    refine ⟨g, c, w.setRow g (cur.toList.take l.length ++ Lib.byteCells m ++ cur.toList.drop (l.length + (Lib.byteCells m).length)).toArray, ?_, ⟨g, c, _, fz, by rw [List.length_append], hb, setRow_heap w g cur _ _ fz hg, ?_, by rw [List.length_append]; exact hroom, hcm, ?_, ?_⟩, ⟨rfl, rfl, rfl, by simp, fun k _ hk => setRow_other w g k _ (fun e => hk (by rw [e]))⟩⟩
    · rw [hs] at hf
      simp [Builtin.append_, run_underlying Try.underlying60, sizeOf, typeInfo, hi, hs, Builtin.lenOf, hroom, hf, Addr.add_lit, hst]
    · refine hfz.imp ?_ id
      intro h
      simp only [List.size_toArray, List.length_append, List.length_take, List.length_drop, Array.length_toList, byteCells_len]
      omega
    · simp only [List.size_toArray, List.length_append, List.length_take, List.length_drop, Array.length_toList, byteCells_len]
      omega
    · rw [ht, byteCells_app]
      refine (List.take_append_of_le_length ?_).trans (List.take_of_length_le ?_)
      · simp [byteCells_len]
      · simp [byteCells_len]
  · have hr := run_append_grow (P := Try.prog) w 60 ty 5 i (.int .u8 0) Try.underlying60 hi hz ⟨g, 0, none⟩ l.length c (Lib.byteCells l) (by rw [byteCells_len, hs, Nat.mul_one])
      (by
        intro j u hu
        have hj : j < l.length := by
          have := (List.getElem?_eq_some_iff.1 hu).1
          rwa [byteCells_len] at this
        have e : (⟨g, 0, none⟩ : Addr).add j = ⟨g, j, none⟩ := by unfold Addr.add; split <;> simp_all
        rw [e, hcl j hj, hu]) a m.length ca (Lib.byteCells m) (by rw [byteCells_len, hs, Nat.mul_one]) hnews (by omega) (by omega) (by rw [hby]; exact growslice_fits (by omega) (by omega))
    have hge := grownCap_ge w (l.length + m.length) c 5
    have hcm2 : grownCap w (l.length + m.length) c 5 ≤ maxLen := grownCap_le_maxLen w (l.length + m.length) c 5 hmx
    refine ⟨w.heap.size, _, _, hr, ⟨w.heap.size, _, _, (0, 0), by rw [List.length_append], hbase, heap_alloc_new w.drew _, .inr rfl, by rw [List.length_append]; exact hge, hcm2, ?_, ?_⟩, ⟨rfl, rfl, rfl, by simp, fun k hk _ => World.grownBy.block (World.grownBy_alloc w.drew _ none) k hk (by simp)⟩⟩
    · have hz1 : (Value.int IntKind.u8 0).cells.size = 1 := rfl
      simp only [Array.size_append, List.size_toArray, size_zeroCells, hz1, byteCells_len]
      omega
    · rw [byteCells_app]
      simp only [Array.toList_append]
      refine (List.take_append_of_le_length ?_).trans (List.take_of_length_le ?_)
      · simp [byteCells_len]
      · simp [byteCells_len]
theorem bytes_own (W : World) (s : ByteArray) (hs : s.size ≤ 1000000) : ∃ c W', (convert 9 60 (.string s)).run Try.prog W = .ok (.slice (some ⟨W.heap.size, 0, none⟩) s.size c) W' ∧ Below W.heap.size W W' ∧ OwnM W' W.heap.size (.slice (some ⟨W.heap.size, 0, none⟩) s.size c) s.data.toList := by
  have h := Lib.run_convert_string_bytes (P := Try.prog) W 9 60 5 s Try.underlying9 Try.underlying60 Try.underlying5
  have hl : s.data.toList.length = s.size := by simp
  refine ⟨_, _, h, ⟨rfl, rfl, rfl, by rw [Lib.bytesWorld_size]; omega, fun k hk => Lib.bytesWorld_at_old _ _ _ _ hk⟩, W.heap.size, _, _, _, by rw [hl], Nat.le_refl _, Lib.bytesWorld_at_new _ _ _, .inl (Nat.le_refl _), ?_, ?_, ?_, ?_⟩
  · rw [hl]; exact grownCap_ge _ _ _ _
  · exact grownCap_le_maxLen _ _ _ _ (by unfold maxLen; omega)
  · have := grownCap_ge W s.size 0 5
    have h2 : s.data.size = s.size := rfl
    simp only [Lib.bytesCells, Array.size_append, Array.size_map, Array.size_replicate, h2]
    omega
  · unfold Lib.bytesCells Lib.byteCells
    rw [Array.toList_append, Array.toList_map, List.take_append_of_le_length (by simp), List.take_of_length_le (by simp)]
theorem conv_ownM {wr : World} {B g n c : Nat} (l : List UInt8) (hn : n = l.length) (h : OwnM wr B (.slice (some ⟨g, 0, none⟩) n c) l) :
    (convert 60 9 (.slice (some ⟨g, 0, none⟩) n c)).run Try.prog wr = .ok (.string ⟨l.toArray⟩) wr := by
  subst hn
  refine run_convert_bytes_back (P := Try.prog) wr 60 9 5 _ c l Try.underlying60 Try.underlying5 Try.underlying9 ?_
  intro j hj
  have e : (⟨g, 0, none⟩ : Addr).add j = ⟨g, j, none⟩ := by unfold Addr.add; split <;> simp_all
  rw [e, h.cell j hj]
  simp [Lib.byteCells, List.getElem?_eq_getElem hj]
end Go.Proofs.Ythjphechdhbenaa.Dg
