/- The walks of layer 4: the bytes that are left (take, number, varint). -/
import Derived.Test.YtojoalmldapboaaGreatDoorJa24
import Derived.Lib.Builder
import Derived.Lib.Hide
import Derived.Lib.SmallJoins
namespace Go.Proofs.YtojoalmldapboaaGreatDoor.Hd
set_option maxRecDepth 20000
open Go.RowKit Vm
set_option linter.unusedVariables false

/-- The bytes that are left, and whether one was wrong. -/
structure St where
  s : List UInt8
  w : Bool
def St.take (st : St) (n : Nat) : List UInt8 := if n ≤ st.s.length then st.s.take n else []
def St.skip (st : St) (n : Nat) : St := if n ≤ st.s.length then ⟨st.s.drop n, st.w⟩ else ⟨st.s, true⟩
def St.vn (st : St) : Nat := gN st.s
def St.vs (st : St) : St := ⟨gR st.s, st.w || decide (st.s.length < gk st.s)⟩
/-- A block that holds a reader. -/
def Blk (b : Nat) (st : St) (x2 x3 x4 x5 x6 x7 x8 x9 xa xb xc xd : Value) (w : World) : Prop :=
  w.heap[b]? = some (.cells #[.string ⟨st.s.toArray⟩, .bool st.w, x2, x3, x4, x5, x6, x7, x8, x9, xa, xb, xc, xd] 172 (0, 0))
theorem Blk.below {b : Nat} {st : St} {x2 x3 x4 x5 x6 x7 x8 x9 xa xb xc xd : Value} {w w' : World} (h : Blk b st x2 x3 x4 x5 x6 x7 x8 x9 xa xb xc xd w) (hb : Below w.heap.size w w') : Blk b st x2 x3 x4 x5 x6 x7 x8 x9 xa xb xc xd w' := by
  have hlt : b < w.heap.size := by
    rcases Nat.lt_or_ge b w.heap.size with h1 | h1
    · exact h1
    · unfold Blk at h; rw [Array.getElem?_eq_none h1] at h; cases h
  unfold Blk at *
  rw [hb.block b hlt]; exact h
theorem Blk.set0 {b : Nat} {st : St} {x2 x3 x4 x5 x6 x7 x8 x9 xa xb xc xd : Value} {w : World} (h : Blk b st x2 x3 x4 x5 x6 x7 x8 x9 xa xb xc xd w) (l : List UInt8) : Blk b ⟨l, st.w⟩ x2 x3 x4 x5 x6 x7 x8 x9 xa xb xc xd (w.setCell ⟨b, 0, none⟩ (.string ⟨l.toArray⟩)) := Joins.block_setCell (i := 0) h _
theorem Blk.set1 {b : Nat} {st : St} {x2 x3 x4 x5 x6 x7 x8 x9 xa xb xc xd : Value} {w : World} (h : Blk b st x2 x3 x4 x5 x6 x7 x8 x9 xa xb xc xd w) (t : Bool) : Blk b ⟨st.s, t⟩ x2 x3 x4 x5 x6 x7 x8 x9 xa xb xc xd (w.setCell ⟨b, 1, none⟩ (.bool t)) := Joins.block_setCell (i := 1) h _
theorem Blk.set2 {b : Nat} {st : St} {x2 x3 x4 x5 x6 x7 x8 x9 xa xb xc xd : Value} {w : World} (h : Blk b st x2 x3 x4 x5 x6 x7 x8 x9 xa xb xc xd w) (v : Value) : Blk b st v x3 x4 x5 x6 x7 x8 x9 xa xb xc xd (w.setCell ⟨b, 2, none⟩ v) := Joins.block_setCell (i := 2) h _
theorem Blk.set3 {b : Nat} {st : St} {x2 x3 x4 x5 x6 x7 x8 x9 xa xb xc xd : Value} {w : World} (h : Blk b st x2 x3 x4 x5 x6 x7 x8 x9 xa xb xc xd w) (v : Value) : Blk b st x2 v x4 x5 x6 x7 x8 x9 xa xb xc xd (w.setCell ⟨b, 3, none⟩ v) := Joins.block_setCell (i := 3) h _
theorem Blk.set4 {b : Nat} {st : St} {x2 x3 x4 x5 x6 x7 x8 x9 xa xb xc xd : Value} {w : World} (h : Blk b st x2 x3 x4 x5 x6 x7 x8 x9 xa xb xc xd w) (v : Value) : Blk b st x2 x3 v x5 x6 x7 x8 x9 xa xb xc xd (w.setCell ⟨b, 4, none⟩ v) := Joins.block_setCell (i := 4) h _
theorem Blk.set5 {b : Nat} {st : St} {x2 x3 x4 x5 x6 x7 x8 x9 xa xb xc xd : Value} {w : World} (h : Blk b st x2 x3 x4 x5 x6 x7 x8 x9 xa xb xc xd w) (v : Value) : Blk b st x2 x3 x4 v x6 x7 x8 x9 xa xb xc xd (w.setCell ⟨b, 5, none⟩ v) := Joins.block_setCell (i := 5) h _
theorem Blk.set6 {b : Nat} {st : St} {x2 x3 x4 x5 x6 x7 x8 x9 xa xb xc xd : Value} {w : World} (h : Blk b st x2 x3 x4 x5 x6 x7 x8 x9 xa xb xc xd w) (v : Value) : Blk b st x2 x3 x4 x5 v x7 x8 x9 xa xb xc xd (w.setCell ⟨b, 6, none⟩ v) := Joins.block_setCell (i := 6) h _
theorem Blk.set7 {b : Nat} {st : St} {x2 x3 x4 x5 x6 x7 x8 x9 xa xb xc xd : Value} {w : World} (h : Blk b st x2 x3 x4 x5 x6 x7 x8 x9 xa xb xc xd w) (v : Value) : Blk b st x2 x3 x4 x5 x6 v x8 x9 xa xb xc xd (w.setCell ⟨b, 7, none⟩ v) := Joins.block_setCell (i := 7) h _
theorem Blk.set8 {b : Nat} {st : St} {x2 x3 x4 x5 x6 x7 x8 x9 xa xb xc xd : Value} {w : World} (h : Blk b st x2 x3 x4 x5 x6 x7 x8 x9 xa xb xc xd w) (v : Value) : Blk b st x2 x3 x4 x5 x6 x7 v x9 xa xb xc xd (w.setCell ⟨b, 8, none⟩ v) := Joins.block_setCell (i := 8) h _
theorem Blk.set9 {b : Nat} {st : St} {x2 x3 x4 x5 x6 x7 x8 x9 xa xb xc xd : Value} {w : World} (h : Blk b st x2 x3 x4 x5 x6 x7 x8 x9 xa xb xc xd w) (v : Value) : Blk b st x2 x3 x4 x5 x6 x7 x8 v xa xb xc xd (w.setCell ⟨b, 9, none⟩ v) := Joins.block_setCell (i := 9) h _
theorem Blk.set10 {b : Nat} {st : St} {x2 x3 x4 x5 x6 x7 x8 x9 xa xb xc xd : Value} {w : World} (h : Blk b st x2 x3 x4 x5 x6 x7 x8 x9 xa xb xc xd w) (v : Value) : Blk b st x2 x3 x4 x5 x6 x7 x8 x9 v xb xc xd (w.setCell ⟨b, 10, none⟩ v) := Joins.block_setCell (i := 10) h _
theorem Blk.set11 {b : Nat} {st : St} {x2 x3 x4 x5 x6 x7 x8 x9 xa xb xc xd : Value} {w : World} (h : Blk b st x2 x3 x4 x5 x6 x7 x8 x9 xa xb xc xd w) (v : Value) : Blk b st x2 x3 x4 x5 x6 x7 x8 x9 xa v xc xd (w.setCell ⟨b, 11, none⟩ v) := Joins.block_setCell (i := 11) h _
theorem Blk.set12 {b : Nat} {st : St} {x2 x3 x4 x5 x6 x7 x8 x9 xa xb xc xd : Value} {w : World} (h : Blk b st x2 x3 x4 x5 x6 x7 x8 x9 xa xb xc xd w) (v : Value) : Blk b st x2 x3 x4 x5 x6 x7 x8 x9 xa xb v xd (w.setCell ⟨b, 12, none⟩ v) := Joins.block_setCell (i := 12) h _
theorem Blk.set13 {b : Nat} {st : St} {x2 x3 x4 x5 x6 x7 x8 x9 xa xb xc xd : Value} {w : World} (h : Blk b st x2 x3 x4 x5 x6 x7 x8 x9 xa xb xc xd w) (v : Value) : Blk b st x2 x3 x4 x5 x6 x7 x8 x9 xa xb xc v (w.setCell ⟨b, 13, none⟩ v) := Joins.block_setCell (i := 13) h _
theorem Blk.cell {b : Nat} {st : St} {x2 x3 x4 x5 x6 x7 x8 x9 xa xb xc xd : Value} {w : World} (h : Blk b st x2 x3 x4 x5 x6 x7 x8 x9 xa xb xc xd w) (j : Nat) : w.cell? ⟨b, j, none⟩ = (#[.string ⟨st.s.toArray⟩, .bool st.w, x2, x3, x4, x5, x6, x7, x8, x9, xa, xb, xc, xd] : Array Value)[j]? := Lib.cell_of_heap h j
theorem Blk.fz {b : Nat} {st : St} {x2 x3 x4 x5 x6 x7 x8 x9 xa xb xc xd : Value} {w : World} (h : Blk b st x2 x3 x4 x5 x6 x7 x8 x9 xa xb xc xd w) (j : Nat) : w.frozen? ⟨b, j, none⟩ = false := Lib.frozen_of_heap h j
theorem Blk.drew {b : Nat} {st : St} {x2 x3 x4 x5 x6 x7 x8 x9 xa xb xc xd : Value} {w : World} (h : Blk b st x2 x3 x4 x5 x6 x7 x8 x9 xa xb xc xd w) : Blk b st x2 x3 x4 x5 x6 x7 x8 x9 xa xb xc xd w.drew := h.below (below_drewN (Below.refl _ _) 1)
theorem _root_.Go.Proofs.YtojoalmldapboaaGreatDoor.Vm.Tab.drew {w : World} (h : Vm.Tab w) : Vm.Tab w.drew := h.drewN 1
theorem below_drew {n : Nat} {w w' : World} (h : Below n w w') : Below n w w'.drew := below_drewN h 1
theorem sv_size (l : List UInt8) : (⟨l.toArray⟩ : ByteArray).size = l.length := size_len _
theorem sv_to (l : List UInt8) (n : Nat) : (⟨l.toArray⟩ : ByteArray).extract 0 n = ⟨(l.take n).toArray⟩ := by
  apply ByteArray.ext
  simp
theorem sv_from (l : List UInt8) (n : Nat) : (⟨l.toArray⟩ : ByteArray).extract n l.length = ⟨(l.drop n).toArray⟩ := by
  apply ByteArray.ext
  apply Array.toList_inj.1
  rw [Lib.extract_data]
  simp [List.take_of_length_le]

set_option maxHeartbeats 1000000 in
theorem take_ok (b : Nat) (l : List UInt8) (wr : Bool) (x2 x3 x4 x5 x6 x7 x8 x9 xa xb xc xd : Value) (n : Nat) (w : World) (h : Blk b ⟨l, wr⟩ x2 x3 x4 x5 x6 x7 x8 x9 xa xb xc xd w) (hl : l.length ≤ 9223372036854775807) (hn : n ≤ l.length) :
    Calls Tryz.prog 154 #[.pointer (some ⟨b, 0, none⟩), .int .u64 n] w fun e w' => e = .returned (.string ⟨(l.take n).toArray⟩) ∧ Blk b ⟨l.drop n, wr⟩ x2 x3 x4 x5 x6 x7 x8 x9 xa xb xc xd w' ∧ Below b w w' := by
  have c0 : w.cell? ⟨b, 0, none⟩ = some (.string ⟨l.toArray⟩) := h.cell 0
  have f0 : w.frozen? ⟨b, 0, none⟩ = false := h.fz 0
  have HH := Lib.hid (h.set0 (l.drop n))
  have H1 := Lib.hid (sv_to l n)
  have H2 := Lib.hid (sv_from l n)
  clear h
  go_enter Tryz.func154, Tryz.ntmps154
  go_wp2
  go_ret
  exact ⟨by rw [← H1.out]; rfl, by rw [H2.out]; exact HH.out, (Below.refl _ _).setCell (p := ⟨b, 0, none⟩) (Nat.le_refl _) _⟩
set_option maxHeartbeats 1000000 in
theorem take_no (b : Nat) (l : List UInt8) (wr : Bool) (x2 x3 x4 x5 x6 x7 x8 x9 xa xb xc xd : Value) (n : Nat) (w : World) (h : Blk b ⟨l, wr⟩ x2 x3 x4 x5 x6 x7 x8 x9 xa xb xc xd w) (hl : l.length ≤ 9223372036854775807) (hn : l.length < n) :
    Calls Tryz.prog 154 #[.pointer (some ⟨b, 0, none⟩), .int .u64 n] w fun e w' => e = .returned (.string ⟨#[]⟩) ∧ Blk b ⟨l, true⟩ x2 x3 x4 x5 x6 x7 x8 x9 xa xb xc xd w' ∧ Below b w w' := by
  have c0 : w.cell? ⟨b, 0, none⟩ = some (.string ⟨l.toArray⟩) := h.cell 0
  have c1 : w.cell? ⟨b, 1, none⟩ = some (.bool wr) := h.cell 1
  have f1 : w.frozen? ⟨b, 1, none⟩ = false := h.fz 1
  have HH := Lib.hid (h.set1 true)
  clear h
  go_enter Tryz.func154, Tryz.ntmps154
  go_wp2
  go_ret
  exact ⟨rfl, HH.out, (Below.refl _ _).setCell (p := ⟨b, 1, none⟩) (Nat.le_refl _) _⟩
/-- take: what is taken, and what is left. -/
theorem take_any (b : Nat) (st : St) (x2 x3 x4 x5 x6 x7 x8 x9 xa xb xc xd : Value) (n : Nat) (w : World) (h : Blk b st x2 x3 x4 x5 x6 x7 x8 x9 xa xb xc xd w) (hl : st.s.length ≤ 9223372036854775807) :
    Calls Tryz.prog 154 #[.pointer (some ⟨b, 0, none⟩), .int .u64 n] w fun e w' => e = .returned (.string ⟨(st.take n).toArray⟩) ∧ Blk b (st.skip n) x2 x3 x4 x5 x6 x7 x8 x9 xa xb xc xd w' ∧ Below b w w' := by
  by_cases hn : n ≤ st.s.length
  · have e1 : st.take n = st.s.take n := by unfold St.take; rw [if_pos hn]
    have e2 : st.skip n = ⟨st.s.drop n, st.w⟩ := by unfold St.skip; rw [if_pos hn]
    rw [e1, e2]
    exact take_ok b st.s st.w x2 x3 x4 x5 x6 x7 x8 x9 xa xb xc xd n w h hl hn
  · have e1 : st.take n = [] := by unfold St.take; rw [if_neg hn]
    have e2 : st.skip n = ⟨st.s, true⟩ := by unfold St.skip; rw [if_neg hn]
    rw [e1, e2]
    exact take_no b st.s st.w x2 x3 x4 x5 x6 x7 x8 x9 xa xb xc xd n w h hl (by omega)
theorem St.take_len (st : St) (n : Nat) : (st.take n).length ≤ n := by
  unfold St.take
  split
  · rw [List.length_take]; omega
  · exact Nat.zero_le _
theorem St.skip_len (st : St) (n : Nat) : (st.skip n).s.length ≤ st.s.length := by
  unfold St.skip
  split
  · show (List.drop _ _).length ≤ _; rw [List.length_drop]; omega
  · exact Nat.le_refl _
theorem St.vs_len (st : St) : st.vs.s.length ≤ st.s.length := by
  show (gR st.s).length ≤ _
  unfold gR
  split
  · rw [List.length_drop]; omega
  · exact Nat.zero_le _
theorem vbackL (l : List UInt8) (w : World) (hs : l.length ≤ 8) :
    Calls Tryz.prog 172 #[.string ⟨l.toArray⟩] w fun e w' => e = .returned (.int .u64 (bk l : Nat)) ∧ w = w' :=
  vback ⟨l.toArray⟩ w (by rw [sv_size]; exact hs)
theorem vgetL (l : List UInt8) (w : World) (ht : Tab w) (hs : l.length ≤ 9223372036854775807) :
    Calls Tryz.prog 178 #[.string ⟨l.toArray⟩] w fun e w' => e = .returned (.tuple #[.int .u64 (gN l : Nat), .string ⟨(gR l).toArray⟩, .int .i64 (gE l)]) ∧ ∃ m, w' = w.drewN m :=
  vget ⟨l.toArray⟩ w ht (by rw [sv_size]; exact hs)
set_option maxHeartbeats 1000000 in
theorem number_any (b : Nat) (st : St) (x2 x3 x4 x5 x6 x7 x8 x9 xa xb xc xd : Value) (n : Nat) (w : World) (h : Blk b st x2 x3 x4 x5 x6 x7 x8 x9 xa xb xc xd w) (hl : st.s.length ≤ 9223372036854775807) (hn : n ≤ 8) :
    Calls Tryz.prog 152 #[.pointer (some ⟨b, 0, none⟩), .int .i64 n] w fun e w' => e = .returned (.int .u64 (bk (st.take n) : Nat)) ∧ Blk b (st.skip n) x2 x3 x4 x5 x6 x7 x8 x9 xa xb xc xd w' ∧ Below b w w' := by
  have HH := Lib.hid h
  clear h
  have hk := St.take_len st n
  go_enter Tryz.func152, Tryz.ntmps152
  go_wp2_with fail
  refine (take_any b st x2 x3 x4 x5 x6 x7 x8 x9 xa xb xc xd n _ HH.out hl).mono ?_
  rintro e w1 ⟨rfl, h1, hb1⟩
  have H1 := Lib.hid h1
  clear h1
  go_wp2_with fail
  refine (vbackL _ _ (by omega)).mono ?_
  rintro e w2 ⟨rfl, rfl⟩
  go_wp2
  go_ret
  exact ⟨rfl, H1.out, hb1⟩
theorem number_1 (b : Nat) (st : St) (x2 x3 x4 x5 x6 x7 x8 x9 xa xb xc xd : Value) (w : World) (h : Blk b st x2 x3 x4 x5 x6 x7 x8 x9 xa xb xc xd w) (hl : st.s.length ≤ 9223372036854775807) :
    Calls Tryz.prog 152 #[.pointer (some ⟨b, 0, none⟩), .int .i64 1] w fun e w' => e = .returned (.int .u64 (bk (st.take 1) : Nat)) ∧ Blk b (st.skip 1) x2 x3 x4 x5 x6 x7 x8 x9 xa xb xc xd w' ∧ Below b w w' := number_any b st x2 x3 x4 x5 x6 x7 x8 x9 xa xb xc xd 1 w h hl (by decide)
theorem number_4 (b : Nat) (st : St) (x2 x3 x4 x5 x6 x7 x8 x9 xa xb xc xd : Value) (w : World) (h : Blk b st x2 x3 x4 x5 x6 x7 x8 x9 xa xb xc xd w) (hl : st.s.length ≤ 9223372036854775807) :
    Calls Tryz.prog 152 #[.pointer (some ⟨b, 0, none⟩), .int .i64 4] w fun e w' => e = .returned (.int .u64 (bk (st.take 4) : Nat)) ∧ Blk b (st.skip 4) x2 x3 x4 x5 x6 x7 x8 x9 xa xb xc xd w' ∧ Below b w w' := number_any b st x2 x3 x4 x5 x6 x7 x8 x9 xa xb xc xd 4 w h hl (by decide)
theorem take_8 (b : Nat) (st : St) (x2 x3 x4 x5 x6 x7 x8 x9 xa xb xc xd : Value) (w : World) (h : Blk b st x2 x3 x4 x5 x6 x7 x8 x9 xa xb xc xd w) (hl : st.s.length ≤ 9223372036854775807) :
    Calls Tryz.prog 154 #[.pointer (some ⟨b, 0, none⟩), .int .u64 8] w fun e w' => e = .returned (.string ⟨(st.take 8).toArray⟩) ∧ Blk b (st.skip 8) x2 x3 x4 x5 x6 x7 x8 x9 xa xb xc xd w' ∧ Below b w w' := take_any b st x2 x3 x4 x5 x6 x7 x8 x9 xa xb xc xd 8 w h hl
theorem gE_cases (l : List UInt8) : (gE l = 0 ∧ decide (l.length < gk l) = false) ∨ (gE l = 10 ∧ decide (l.length < gk l) = true) := by
  by_cases h : gk l ≤ l.length
  · exact .inl ⟨(g_ok h).2.2, decide_eq_false (by omega)⟩
  · exact .inr ⟨(g_no (by omega)).2.2, decide_eq_true (by omega)⟩
set_option maxHeartbeats 1000000 in
theorem varint_any (b : Nat) (st : St) (x2 x3 x4 x5 x6 x7 x8 x9 xa xb xc xd : Value) (w : World) (ht : Tab w) (h : Blk b st x2 x3 x4 x5 x6 x7 x8 x9 xa xb xc xd w) (hl : st.s.length ≤ 9223372036854775807) :
    Calls Tryz.prog 173 #[.pointer (some ⟨b, 0, none⟩)] w fun e w' => e = .returned (.int .u64 (st.vn : Nat)) ∧ Blk b st.vs x2 x3 x4 x5 x6 x7 x8 x9 xa xb xc xd w' ∧ Below b w w' := by
  have HH := Lib.hid h
  have HT := Lib.hid ht
  have c0 : w.cell? ⟨b, 0, none⟩ = some (.string ⟨st.s.toArray⟩) := h.cell 0
  have hE := gE_cases st.s
  have HV : Hid (st.vs = ⟨gR st.s, st.w || decide (st.s.length < gk st.s)⟩) := Lib.hid rfl
  clear h ht
  obtain ⟨s, wr⟩ := st
  simp only at HV hE c0 hl
  rcases hE with ⟨hE, hD⟩ | ⟨hE, hD⟩
  all_goals
    have HE := Lib.hid hE
    rw [hD] at HV
    clear hE hD
    go_enter Tryz.func173, Tryz.ntmps173
    go_wp2_with fail
    refine (vgetL s _ HT.out hl).mono ?_
    rintro e w1 ⟨rfl, m, rfl⟩
    rw [HE.out]
    have H1 := Lib.hid (HH.out.below (below_drewN (Below.refl _ _) m))
    have f0 : (w.drewN m).frozen? ⟨b, 0, none⟩ = false := H1.out.fz 0
    have f1 : (w.drewN m).frozen? ⟨b, 1, none⟩ = false := H1.out.fz 1
    have c1 : (w.drewN m).cell? ⟨b, 1, none⟩ = some (.bool wr) := H1.out.cell 1
    cases wr
    all_goals
      go_wp2
      go_ret
      refine ⟨rfl, ?_, (((below_drewN (Below.refl _ _) m).setCell (p := ⟨b, 0, none⟩) (Nat.le_refl _) _).setCell (p := ⟨b, 1, none⟩) (Nat.le_refl _) _)⟩
      rw [HV.out]
      exact (H1.out.set0 (gR s)).set1 _
end Go.Proofs.YtojoalmldapboaaGreatDoor.Hd
