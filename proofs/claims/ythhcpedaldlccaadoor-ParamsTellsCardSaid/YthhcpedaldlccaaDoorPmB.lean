/- The walks of layer 5: a block of parameters, its values as bytes. By tools/gen-params-2.py. -/
import Derived.Test.YthhcpedaldlccaaDoorPmA
import Derived.Test.YthhcpedaldlccaaDoorVmG
namespace Go.Proofs.YthhcpedaldlccaaDoor.Pm
open Go.RowKit Vm
set_option linter.unusedVariables false
set_option linter.unusedSimpArgs false

/-- A block that holds parameters. -/
def PBk (b : Nat) (p : Prm) (w : World) : Prop := w.heap[b]? = some (.cells #[.int .u64 p.idle, .int .u64 p.size, .int .u64 p.data, .int .u64 p.bl, .int .u64 p.br, .int .u64 p.uni, .int .u64 p.bidis, .int .u64 p.unis, .int .u64 p.expo, .int .u64 p.delay, .int .u64 p.ids, .string ⟨p.tok.toArray⟩] 24 (0, 0))
theorem PBk.made (w : World) (p : Prm) : PBk w.heap.size p (w.alloc (.cells #[.int .u64 p.idle, .int .u64 p.size, .int .u64 p.data, .int .u64 p.bl, .int .u64 p.br, .int .u64 p.uni, .int .u64 p.bidis, .int .u64 p.unis, .int .u64 p.expo, .int .u64 p.delay, .int .u64 p.ids, .string ⟨p.tok.toArray⟩] 24)) := by
  unfold PBk World.alloc
  simp
theorem PBk.up {b : Nat} {p : Prm} {w w' : World} (h : PBk b p w) {n : Nat} (hb : Below n w w') (hn : b < n) : PBk b p w' := by
  unfold PBk at *
  rw [hb.block b hn]; exact h
theorem PBk.lt {b : Nat} {p : Prm} {w : World} (h : PBk b p w) : b < w.heap.size := by
  rcases Nat.lt_or_ge b w.heap.size with h1 | h1
  · exact h1
  · unfold PBk at h; rw [Array.getElem?_eq_none h1] at h; cases h
theorem PBk.keep {b : Nat} {p : Prm} {w w' : World} (h : PBk b p w) (hb : Below w.heap.size w w') : PBk b p w' := h.up hb h.lt
theorem PBk.cell {b : Nat} {p : Prm} {w : World} (h : PBk b p w) (j : Nat) : w.cell? ⟨b, j, none⟩ = (#[.int .u64 p.idle, .int .u64 p.size, .int .u64 p.data, .int .u64 p.bl, .int .u64 p.br, .int .u64 p.uni, .int .u64 p.bidis, .int .u64 p.unis, .int .u64 p.expo, .int .u64 p.delay, .int .u64 p.ids, .string ⟨p.tok.toArray⟩] : Array Value)[j]? := Lib.cell_of_heap h j
theorem PBk.fz {b : Nat} {p : Prm} {w : World} (h : PBk b p w) (j : Nat) : w.frozen? ⟨b, j, none⟩ = false := Lib.frozen_of_heap h j
theorem PBk.set0 {b : Nat} {p : Prm} {w : World} (h : PBk b p w) (v : Int) : PBk b { p with idle := v } (w.setCell ⟨b, 0, none⟩ (.int .u64 v)) := Joins.block_setCell (i := 0) h _
theorem PBk.cell0 {b : Nat} {p : Prm} {w : World} (h : PBk b p w) : w.cell? ⟨b, 0, none⟩ = some (.int .u64 p.idle) := h.cell 0
theorem PBk.set1 {b : Nat} {p : Prm} {w : World} (h : PBk b p w) (v : Int) : PBk b { p with size := v } (w.setCell ⟨b, 1, none⟩ (.int .u64 v)) := Joins.block_setCell (i := 1) h _
theorem PBk.cell1 {b : Nat} {p : Prm} {w : World} (h : PBk b p w) : w.cell? ⟨b, 1, none⟩ = some (.int .u64 p.size) := h.cell 1
theorem PBk.set2 {b : Nat} {p : Prm} {w : World} (h : PBk b p w) (v : Int) : PBk b { p with data := v } (w.setCell ⟨b, 2, none⟩ (.int .u64 v)) := Joins.block_setCell (i := 2) h _
theorem PBk.cell2 {b : Nat} {p : Prm} {w : World} (h : PBk b p w) : w.cell? ⟨b, 2, none⟩ = some (.int .u64 p.data) := h.cell 2
theorem PBk.set3 {b : Nat} {p : Prm} {w : World} (h : PBk b p w) (v : Int) : PBk b { p with bl := v } (w.setCell ⟨b, 3, none⟩ (.int .u64 v)) := Joins.block_setCell (i := 3) h _
theorem PBk.cell3 {b : Nat} {p : Prm} {w : World} (h : PBk b p w) : w.cell? ⟨b, 3, none⟩ = some (.int .u64 p.bl) := h.cell 3
theorem PBk.set4 {b : Nat} {p : Prm} {w : World} (h : PBk b p w) (v : Int) : PBk b { p with br := v } (w.setCell ⟨b, 4, none⟩ (.int .u64 v)) := Joins.block_setCell (i := 4) h _
theorem PBk.cell4 {b : Nat} {p : Prm} {w : World} (h : PBk b p w) : w.cell? ⟨b, 4, none⟩ = some (.int .u64 p.br) := h.cell 4
theorem PBk.set5 {b : Nat} {p : Prm} {w : World} (h : PBk b p w) (v : Int) : PBk b { p with uni := v } (w.setCell ⟨b, 5, none⟩ (.int .u64 v)) := Joins.block_setCell (i := 5) h _
theorem PBk.cell5 {b : Nat} {p : Prm} {w : World} (h : PBk b p w) : w.cell? ⟨b, 5, none⟩ = some (.int .u64 p.uni) := h.cell 5
theorem PBk.set6 {b : Nat} {p : Prm} {w : World} (h : PBk b p w) (v : Int) : PBk b { p with bidis := v } (w.setCell ⟨b, 6, none⟩ (.int .u64 v)) := Joins.block_setCell (i := 6) h _
theorem PBk.cell6 {b : Nat} {p : Prm} {w : World} (h : PBk b p w) : w.cell? ⟨b, 6, none⟩ = some (.int .u64 p.bidis) := h.cell 6
theorem PBk.set7 {b : Nat} {p : Prm} {w : World} (h : PBk b p w) (v : Int) : PBk b { p with unis := v } (w.setCell ⟨b, 7, none⟩ (.int .u64 v)) := Joins.block_setCell (i := 7) h _
theorem PBk.cell7 {b : Nat} {p : Prm} {w : World} (h : PBk b p w) : w.cell? ⟨b, 7, none⟩ = some (.int .u64 p.unis) := h.cell 7
theorem PBk.set8 {b : Nat} {p : Prm} {w : World} (h : PBk b p w) (v : Int) : PBk b { p with expo := v } (w.setCell ⟨b, 8, none⟩ (.int .u64 v)) := Joins.block_setCell (i := 8) h _
theorem PBk.cell8 {b : Nat} {p : Prm} {w : World} (h : PBk b p w) : w.cell? ⟨b, 8, none⟩ = some (.int .u64 p.expo) := h.cell 8
theorem PBk.set9 {b : Nat} {p : Prm} {w : World} (h : PBk b p w) (v : Int) : PBk b { p with delay := v } (w.setCell ⟨b, 9, none⟩ (.int .u64 v)) := Joins.block_setCell (i := 9) h _
theorem PBk.cell9 {b : Nat} {p : Prm} {w : World} (h : PBk b p w) : w.cell? ⟨b, 9, none⟩ = some (.int .u64 p.delay) := h.cell 9
theorem PBk.set10 {b : Nat} {p : Prm} {w : World} (h : PBk b p w) (v : Int) : PBk b { p with ids := v } (w.setCell ⟨b, 10, none⟩ (.int .u64 v)) := Joins.block_setCell (i := 10) h _
theorem PBk.cell10 {b : Nat} {p : Prm} {w : World} (h : PBk b p w) : w.cell? ⟨b, 10, none⟩ = some (.int .u64 p.ids) := h.cell 10
theorem PBk.set11 {b : Nat} {p : Prm} {w : World} (h : PBk b p w) (l : List UInt8) : PBk b { p with tok := l } (w.setCell ⟨b, 11, none⟩ (.string ⟨l.toArray⟩)) := Joins.block_setCell (i := 11) h _
theorem PBk.cell11 {b : Nat} {p : Prm} {w : World} (h : PBk b p w) : w.cell? ⟨b, 11, none⟩ = some (.string ⟨p.tok.toArray⟩) := h.cell 11
/-- A parameter's bytes, by its number. -/
def valL (p : Prm) (n : Nat) : List UInt8 := if n = 2 then p.tok else match fld p n with
  | some v => ps v.toNat
  | none => []
set_option maxHeartbeats 1000000 in
theorem value_0 (b : Nat) (p : Prm) (w : World) (ht : Tab w) (h0 : PBk b p w) (hw : Wf p) : Calls Tryd.prog 17 #[.pointer (some ⟨b, 0, none⟩), .int .u64 0] w fun e w' => e = .returned (.string ⟨#[]⟩) ∧ Below w.heap.size w w' := by
  have hlt := h0.lt
  have hlt2 := ht.lt
  have HB := Lib.hid h0
  have HT := Lib.hid ht
  have c11 := h0.cell11
  clear h0 ht
  go_enter Tryd.func17, Tryd.ntmps17
  go_wp2_with fail
  refine (place_0 b _ hlt).mono ?_
  rintro e w1 ⟨rfl, hb1⟩
  go_wp2
  go_ret
  exact ⟨rfl, hb1⟩
set_option maxHeartbeats 1000000 in
theorem value_1 (b : Nat) (p : Prm) (w : World) (ht : Tab w) (h0 : PBk b p w) (hw : Wf p) : Calls Tryd.prog 17 #[.pointer (some ⟨b, 0, none⟩), .int .u64 1] w fun e w' => e = .returned (.string ⟨(ps p.idle.toNat).toArray⟩) ∧ Below w.heap.size w w' := by
  have hlt := h0.lt
  have hlt2 := ht.lt
  have HB := Lib.hid h0
  have HT := Lib.hid ht
  have c11 := h0.cell11
  clear h0 ht
  go_enter Tryd.func17, Tryd.ntmps17
  go_wp2_with fail
  refine (place_1 b _ hlt).mono ?_
  rintro e w1 ⟨rfl, hb1⟩
  have H1 := Lib.hid (HB.out.keep hb1)
  have c0 := H1.out.cell0
  replace HT := Lib.hid (HT.out.below hb1 hlt2)
  go_wp2_with fail
  refine (vput p.idle _ HT.out (hw.idle).1).mono ?_
  rintro e w2 ⟨rfl, hb2⟩
  go_wp2
  go_ret
  exact ⟨rfl, hb1.trans (hb2.mono hb1.size)⟩
set_option maxHeartbeats 1000000 in
theorem value_2 (b : Nat) (p : Prm) (w : World) (ht : Tab w) (h0 : PBk b p w) (hw : Wf p) : Calls Tryd.prog 17 #[.pointer (some ⟨b, 0, none⟩), .int .u64 2] w fun e w' => e = .returned (.string ⟨p.tok.toArray⟩) ∧ Below w.heap.size w w' := by
  have hlt := h0.lt
  have hlt2 := ht.lt
  have HB := Lib.hid h0
  have HT := Lib.hid ht
  have c11 := h0.cell11
  clear h0 ht
  go_enter Tryd.func17, Tryd.ntmps17
  go_wp2
  go_ret
  exact ⟨rfl, Below.refl _ _⟩
set_option maxHeartbeats 1000000 in
theorem value_3 (b : Nat) (p : Prm) (w : World) (ht : Tab w) (h0 : PBk b p w) (hw : Wf p) : Calls Tryd.prog 17 #[.pointer (some ⟨b, 0, none⟩), .int .u64 3] w fun e w' => e = .returned (.string ⟨(ps p.size.toNat).toArray⟩) ∧ Below w.heap.size w w' := by
  have hlt := h0.lt
  have hlt2 := ht.lt
  have HB := Lib.hid h0
  have HT := Lib.hid ht
  have c11 := h0.cell11
  clear h0 ht
  go_enter Tryd.func17, Tryd.ntmps17
  go_wp2_with fail
  refine (place_3 b _ hlt).mono ?_
  rintro e w1 ⟨rfl, hb1⟩
  have H1 := Lib.hid (HB.out.keep hb1)
  have c1 := H1.out.cell1
  replace HT := Lib.hid (HT.out.below hb1 hlt2)
  go_wp2_with fail
  refine (vput p.size _ HT.out (hw.size).1).mono ?_
  rintro e w2 ⟨rfl, hb2⟩
  go_wp2
  go_ret
  exact ⟨rfl, hb1.trans (hb2.mono hb1.size)⟩
set_option maxHeartbeats 1000000 in
theorem value_4 (b : Nat) (p : Prm) (w : World) (ht : Tab w) (h0 : PBk b p w) (hw : Wf p) : Calls Tryd.prog 17 #[.pointer (some ⟨b, 0, none⟩), .int .u64 4] w fun e w' => e = .returned (.string ⟨(ps p.data.toNat).toArray⟩) ∧ Below w.heap.size w w' := by
  have hlt := h0.lt
  have hlt2 := ht.lt
  have HB := Lib.hid h0
  have HT := Lib.hid ht
  have c11 := h0.cell11
  clear h0 ht
  go_enter Tryd.func17, Tryd.ntmps17
  go_wp2_with fail
  refine (place_4 b _ hlt).mono ?_
  rintro e w1 ⟨rfl, hb1⟩
  have H1 := Lib.hid (HB.out.keep hb1)
  have c2 := H1.out.cell2
  replace HT := Lib.hid (HT.out.below hb1 hlt2)
  go_wp2_with fail
  refine (vput p.data _ HT.out (hw.data).1).mono ?_
  rintro e w2 ⟨rfl, hb2⟩
  go_wp2
  go_ret
  exact ⟨rfl, hb1.trans (hb2.mono hb1.size)⟩
set_option maxHeartbeats 1000000 in
theorem value_5 (b : Nat) (p : Prm) (w : World) (ht : Tab w) (h0 : PBk b p w) (hw : Wf p) : Calls Tryd.prog 17 #[.pointer (some ⟨b, 0, none⟩), .int .u64 5] w fun e w' => e = .returned (.string ⟨(ps p.bl.toNat).toArray⟩) ∧ Below w.heap.size w w' := by
  have hlt := h0.lt
  have hlt2 := ht.lt
  have HB := Lib.hid h0
  have HT := Lib.hid ht
  have c11 := h0.cell11
  clear h0 ht
  go_enter Tryd.func17, Tryd.ntmps17
  go_wp2_with fail
  refine (place_5 b _ hlt).mono ?_
  rintro e w1 ⟨rfl, hb1⟩
  have H1 := Lib.hid (HB.out.keep hb1)
  have c3 := H1.out.cell3
  replace HT := Lib.hid (HT.out.below hb1 hlt2)
  go_wp2_with fail
  refine (vput p.bl _ HT.out (hw.bl).1).mono ?_
  rintro e w2 ⟨rfl, hb2⟩
  go_wp2
  go_ret
  exact ⟨rfl, hb1.trans (hb2.mono hb1.size)⟩
set_option maxHeartbeats 1000000 in
theorem value_6 (b : Nat) (p : Prm) (w : World) (ht : Tab w) (h0 : PBk b p w) (hw : Wf p) : Calls Tryd.prog 17 #[.pointer (some ⟨b, 0, none⟩), .int .u64 6] w fun e w' => e = .returned (.string ⟨(ps p.br.toNat).toArray⟩) ∧ Below w.heap.size w w' := by
  have hlt := h0.lt
  have hlt2 := ht.lt
  have HB := Lib.hid h0
  have HT := Lib.hid ht
  have c11 := h0.cell11
  clear h0 ht
  go_enter Tryd.func17, Tryd.ntmps17
  go_wp2_with fail
  refine (place_6 b _ hlt).mono ?_
  rintro e w1 ⟨rfl, hb1⟩
  have H1 := Lib.hid (HB.out.keep hb1)
  have c4 := H1.out.cell4
  replace HT := Lib.hid (HT.out.below hb1 hlt2)
  go_wp2_with fail
  refine (vput p.br _ HT.out (hw.br).1).mono ?_
  rintro e w2 ⟨rfl, hb2⟩
  go_wp2
  go_ret
  exact ⟨rfl, hb1.trans (hb2.mono hb1.size)⟩
set_option maxHeartbeats 1000000 in
theorem value_7 (b : Nat) (p : Prm) (w : World) (ht : Tab w) (h0 : PBk b p w) (hw : Wf p) : Calls Tryd.prog 17 #[.pointer (some ⟨b, 0, none⟩), .int .u64 7] w fun e w' => e = .returned (.string ⟨(ps p.uni.toNat).toArray⟩) ∧ Below w.heap.size w w' := by
  have hlt := h0.lt
  have hlt2 := ht.lt
  have HB := Lib.hid h0
  have HT := Lib.hid ht
  have c11 := h0.cell11
  clear h0 ht
  go_enter Tryd.func17, Tryd.ntmps17
  go_wp2_with fail
  refine (place_7 b _ hlt).mono ?_
  rintro e w1 ⟨rfl, hb1⟩
  have H1 := Lib.hid (HB.out.keep hb1)
  have c5 := H1.out.cell5
  replace HT := Lib.hid (HT.out.below hb1 hlt2)
  go_wp2_with fail
  refine (vput p.uni _ HT.out (hw.uni).1).mono ?_
  rintro e w2 ⟨rfl, hb2⟩
  go_wp2
  go_ret
  exact ⟨rfl, hb1.trans (hb2.mono hb1.size)⟩
set_option maxHeartbeats 1000000 in
theorem value_8 (b : Nat) (p : Prm) (w : World) (ht : Tab w) (h0 : PBk b p w) (hw : Wf p) : Calls Tryd.prog 17 #[.pointer (some ⟨b, 0, none⟩), .int .u64 8] w fun e w' => e = .returned (.string ⟨(ps p.bidis.toNat).toArray⟩) ∧ Below w.heap.size w w' := by
  have hlt := h0.lt
  have hlt2 := ht.lt
  have HB := Lib.hid h0
  have HT := Lib.hid ht
  have c11 := h0.cell11
  clear h0 ht
  go_enter Tryd.func17, Tryd.ntmps17
  go_wp2_with fail
  refine (place_8 b _ hlt).mono ?_
  rintro e w1 ⟨rfl, hb1⟩
  have H1 := Lib.hid (HB.out.keep hb1)
  have c6 := H1.out.cell6
  replace HT := Lib.hid (HT.out.below hb1 hlt2)
  go_wp2_with fail
  refine (vput p.bidis _ HT.out (hw.bidis).1).mono ?_
  rintro e w2 ⟨rfl, hb2⟩
  go_wp2
  go_ret
  exact ⟨rfl, hb1.trans (hb2.mono hb1.size)⟩
set_option maxHeartbeats 1000000 in
theorem value_9 (b : Nat) (p : Prm) (w : World) (ht : Tab w) (h0 : PBk b p w) (hw : Wf p) : Calls Tryd.prog 17 #[.pointer (some ⟨b, 0, none⟩), .int .u64 9] w fun e w' => e = .returned (.string ⟨(ps p.unis.toNat).toArray⟩) ∧ Below w.heap.size w w' := by
  have hlt := h0.lt
  have hlt2 := ht.lt
  have HB := Lib.hid h0
  have HT := Lib.hid ht
  have c11 := h0.cell11
  clear h0 ht
  go_enter Tryd.func17, Tryd.ntmps17
  go_wp2_with fail
  refine (place_9 b _ hlt).mono ?_
  rintro e w1 ⟨rfl, hb1⟩
  have H1 := Lib.hid (HB.out.keep hb1)
  have c7 := H1.out.cell7
  replace HT := Lib.hid (HT.out.below hb1 hlt2)
  go_wp2_with fail
  refine (vput p.unis _ HT.out (hw.unis).1).mono ?_
  rintro e w2 ⟨rfl, hb2⟩
  go_wp2
  go_ret
  exact ⟨rfl, hb1.trans (hb2.mono hb1.size)⟩
set_option maxHeartbeats 1000000 in
theorem value_10 (b : Nat) (p : Prm) (w : World) (ht : Tab w) (h0 : PBk b p w) (hw : Wf p) : Calls Tryd.prog 17 #[.pointer (some ⟨b, 0, none⟩), .int .u64 10] w fun e w' => e = .returned (.string ⟨(ps p.expo.toNat).toArray⟩) ∧ Below w.heap.size w w' := by
  have hlt := h0.lt
  have hlt2 := ht.lt
  have HB := Lib.hid h0
  have HT := Lib.hid ht
  have c11 := h0.cell11
  clear h0 ht
  go_enter Tryd.func17, Tryd.ntmps17
  go_wp2_with fail
  refine (place_10 b _ hlt).mono ?_
  rintro e w1 ⟨rfl, hb1⟩
  have H1 := Lib.hid (HB.out.keep hb1)
  have c8 := H1.out.cell8
  replace HT := Lib.hid (HT.out.below hb1 hlt2)
  go_wp2_with fail
  refine (vput p.expo _ HT.out (hw.expo).1).mono ?_
  rintro e w2 ⟨rfl, hb2⟩
  go_wp2
  go_ret
  exact ⟨rfl, hb1.trans (hb2.mono hb1.size)⟩
set_option maxHeartbeats 1000000 in
theorem value_11 (b : Nat) (p : Prm) (w : World) (ht : Tab w) (h0 : PBk b p w) (hw : Wf p) : Calls Tryd.prog 17 #[.pointer (some ⟨b, 0, none⟩), .int .u64 11] w fun e w' => e = .returned (.string ⟨(ps p.delay.toNat).toArray⟩) ∧ Below w.heap.size w w' := by
  have hlt := h0.lt
  have hlt2 := ht.lt
  have HB := Lib.hid h0
  have HT := Lib.hid ht
  have c11 := h0.cell11
  clear h0 ht
  go_enter Tryd.func17, Tryd.ntmps17
  go_wp2_with fail
  refine (place_11 b _ hlt).mono ?_
  rintro e w1 ⟨rfl, hb1⟩
  have H1 := Lib.hid (HB.out.keep hb1)
  have c9 := H1.out.cell9
  replace HT := Lib.hid (HT.out.below hb1 hlt2)
  go_wp2_with fail
  refine (vput p.delay _ HT.out (hw.delay).1).mono ?_
  rintro e w2 ⟨rfl, hb2⟩
  go_wp2
  go_ret
  exact ⟨rfl, hb1.trans (hb2.mono hb1.size)⟩
set_option maxHeartbeats 1000000 in
theorem value_12 (b : Nat) (p : Prm) (w : World) (ht : Tab w) (h0 : PBk b p w) (hw : Wf p) : Calls Tryd.prog 17 #[.pointer (some ⟨b, 0, none⟩), .int .u64 12] w fun e w' => e = .returned (.string ⟨#[]⟩) ∧ Below w.heap.size w w' := by
  have hlt := h0.lt
  have hlt2 := ht.lt
  have HB := Lib.hid h0
  have HT := Lib.hid ht
  have c11 := h0.cell11
  clear h0 ht
  go_enter Tryd.func17, Tryd.ntmps17
  go_wp2_with fail
  refine (place_12 b _ hlt).mono ?_
  rintro e w1 ⟨rfl, hb1⟩
  go_wp2
  go_ret
  exact ⟨rfl, hb1⟩
set_option maxHeartbeats 1000000 in
theorem value_13 (b : Nat) (p : Prm) (w : World) (ht : Tab w) (h0 : PBk b p w) (hw : Wf p) : Calls Tryd.prog 17 #[.pointer (some ⟨b, 0, none⟩), .int .u64 13] w fun e w' => e = .returned (.string ⟨#[]⟩) ∧ Below w.heap.size w w' := by
  have hlt := h0.lt
  have hlt2 := ht.lt
  have HB := Lib.hid h0
  have HT := Lib.hid ht
  have c11 := h0.cell11
  clear h0 ht
  go_enter Tryd.func17, Tryd.ntmps17
  go_wp2_with fail
  refine (place_13 b _ hlt).mono ?_
  rintro e w1 ⟨rfl, hb1⟩
  go_wp2
  go_ret
  exact ⟨rfl, hb1⟩
set_option maxHeartbeats 1000000 in
theorem value_14 (b : Nat) (p : Prm) (w : World) (ht : Tab w) (h0 : PBk b p w) (hw : Wf p) : Calls Tryd.prog 17 #[.pointer (some ⟨b, 0, none⟩), .int .u64 14] w fun e w' => e = .returned (.string ⟨(ps p.ids.toNat).toArray⟩) ∧ Below w.heap.size w w' := by
  have hlt := h0.lt
  have hlt2 := ht.lt
  have HB := Lib.hid h0
  have HT := Lib.hid ht
  have c11 := h0.cell11
  clear h0 ht
  go_enter Tryd.func17, Tryd.ntmps17
  go_wp2_with fail
  refine (place_14 b _ hlt).mono ?_
  rintro e w1 ⟨rfl, hb1⟩
  have H1 := Lib.hid (HB.out.keep hb1)
  have c10 := H1.out.cell10
  replace HT := Lib.hid (HT.out.below hb1 hlt2)
  go_wp2_with fail
  refine (vput p.ids _ HT.out (hw.ids).1).mono ?_
  rintro e w2 ⟨rfl, hb2⟩
  go_wp2
  go_ret
  exact ⟨rfl, hb1.trans (hb2.mono hb1.size)⟩
set_option maxHeartbeats 1000000 in
theorem value_15 (b : Nat) (p : Prm) (n : Int) (h : 15 ≤ n) (w : World) (ht : Tab w) (h0 : PBk b p w) (hw : Wf p) : Calls Tryd.prog 17 #[.pointer (some ⟨b, 0, none⟩), .int .u64 n] w fun e w' => e = .returned (.string ⟨#[]⟩) ∧ Below w.heap.size w w' := by
  have hlt := h0.lt
  have hlt2 := ht.lt
  have HB := Lib.hid h0
  have HT := Lib.hid ht
  have c11 := h0.cell11
  clear h0 ht
  go_enter Tryd.func17, Tryd.ntmps17
  go_wp2_with fail
  refine (place_great b n _ h).mono ?_
  rintro e w1 ⟨rfl, hb1⟩
  go_wp2
  go_ret
  exact ⟨rfl, hb1⟩
theorem value_any (b : Nat) (p : Prm) (n : Nat) (w : World) (ht : Tab w) (h0 : PBk b p w) (hw : Wf p) : Calls Tryd.prog 17 #[.pointer (some ⟨b, 0, none⟩), .int .u64 (n : Nat)] w fun e w' => e = .returned (.string ⟨(valL p n).toArray⟩) ∧ Below w.heap.size w w' := by
  match n with
  | 0 => exact value_0 b p w ht h0 hw
  | 1 => exact value_1 b p w ht h0 hw
  | 2 => exact value_2 b p w ht h0 hw
  | 3 => exact value_3 b p w ht h0 hw
  | 4 => exact value_4 b p w ht h0 hw
  | 5 => exact value_5 b p w ht h0 hw
  | 6 => exact value_6 b p w ht h0 hw
  | 7 => exact value_7 b p w ht h0 hw
  | 8 => exact value_8 b p w ht h0 hw
  | 9 => exact value_9 b p w ht h0 hw
  | 10 => exact value_10 b p w ht h0 hw
  | 11 => exact value_11 b p w ht h0 hw
  | 12 => exact value_12 b p w ht h0 hw
  | 13 => exact value_13 b p w ht h0 hw
  | 14 => exact value_14 b p w ht h0 hw
  | k + 15 => exact value_15 b p _ (by omega) w ht h0 hw
end Go.Proofs.YthhcpedaldlccaaDoor.Pm
