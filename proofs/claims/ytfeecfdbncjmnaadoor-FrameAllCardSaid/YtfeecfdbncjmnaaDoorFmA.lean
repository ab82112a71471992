/- The walks of layer 6: a reader's block; take, number, varint, below. By tools/gen-frame-1.py. -/
import Derived.Test.YtfeecfdbncjmnaaDoorVmBack
import Derived.Test.YtfeecfdbncjmnaaDoorItL
import Derived.Lib.SmallJoins
import Derived.WalkSmall
import Derived.WalkLawsBesides
namespace Go.Proofs.YtfeecfdbncjmnaaDoor.Fm
set_option maxRecDepth 20000
open Go.RowKit Vm
set_option linter.unusedVariables false
set_option linter.unusedSimpArgs false

/-- A slice's value. -/
structure Sl where
  a : Option Addr
  n : Nat
  c : Nat
/-- A frame; its texts as bytes, its Set as the value of a slice. -/
structure Frm where
  kind : Int
  id : Int
  off : Int
  max : Int
  code : Int
  seq : Int
  prior : Int
  delay : Int
  fin : Bool
  data : List UInt8
  cid : List UInt8
  token : List UInt8
  set : Sl
/-- A block that holds a reader: the bytes that are left, and the frame. -/
def FBk (b : Nat) (l : List UInt8) (f : Frm) (w : World) : Prop := w.heap[b]? = some (.cells #[.string ⟨l.toArray⟩, .int .u64 f.kind, .int .u64 f.id, .int .u64 f.off, .int .u64 f.max, .int .u64 f.code, .int .u64 f.seq, .int .u64 f.prior, .int .u64 f.delay, .bool f.fin, .string ⟨f.data.toArray⟩, .string ⟨f.cid.toArray⟩, .string ⟨f.token.toArray⟩, .slice f.set.a f.set.n f.set.c] 59 (0, 0))
theorem FBk.lt {b : Nat} {l : List UInt8} {f : Frm} {w : World} (h : FBk b l f w) : b < w.heap.size := by
  rcases Nat.lt_or_ge b w.heap.size with h1 | h1
  · exact h1
  · unfold FBk at h; rw [Array.getElem?_eq_none h1] at h; cases h
theorem FBk.keep {b : Nat} {l : List UInt8} {f : Frm} {w w' : World} (h : FBk b l f w) (hb : Below w.heap.size w w') : FBk b l f w' := by
  have hlt := h.lt
  unfold FBk at *
  rw [hb.block b hlt]; exact h
theorem FBk.only {b : Nat} {l : List UInt8} {f : Frm} {w w' : World} {O : Nat → Prop} (h : FBk b l f w) (ho : It.Only O w w') (hn : ¬ O b) : FBk b l f w' := by
  unfold FBk at *
  exact ho.heap h hn
theorem FBk.cell {b : Nat} {l : List UInt8} {f : Frm} {w : World} (h : FBk b l f w) (j : Nat) : w.cell? ⟨b, j, none⟩ = (#[.string ⟨l.toArray⟩, .int .u64 f.kind, .int .u64 f.id, .int .u64 f.off, .int .u64 f.max, .int .u64 f.code, .int .u64 f.seq, .int .u64 f.prior, .int .u64 f.delay, .bool f.fin, .string ⟨f.data.toArray⟩, .string ⟨f.cid.toArray⟩, .string ⟨f.token.toArray⟩, .slice f.set.a f.set.n f.set.c] : Array Value)[j]? := Lib.cell_of_heap h j
theorem FBk.fz {b : Nat} {l : List UInt8} {f : Frm} {w : World} (h : FBk b l f w) (j : Nat) : w.frozen? ⟨b, j, none⟩ = false := Lib.frozen_of_heap h j
theorem FBk.cell0 {b : Nat} {l : List UInt8} {f : Frm} {w : World} (h : FBk b l f w) : w.cell? ⟨b, 0, none⟩ = some (.string ⟨l.toArray⟩) := h.cell 0
theorem FBk.set0 {b : Nat} {l : List UInt8} {f : Frm} {w : World} (h : FBk b l f w) (l' : List UInt8) : FBk b l' f (w.setCell ⟨b, 0, none⟩ (.string ⟨l'.toArray⟩)) := Joins.block_setCell (i := 0) h _
theorem FBk.cell1 {b : Nat} {l : List UInt8} {f : Frm} {w : World} (h : FBk b l f w) : w.cell? ⟨b, 1, none⟩ = some (.int .u64 f.kind) := h.cell 1
theorem FBk.set1 {b : Nat} {l : List UInt8} {f : Frm} {w : World} (h : FBk b l f w) (v : Int) : FBk b l { f with kind := v } (w.setCell ⟨b, 1, none⟩ (.int .u64 v)) := Joins.block_setCell (i := 1) h _
theorem FBk.cell2 {b : Nat} {l : List UInt8} {f : Frm} {w : World} (h : FBk b l f w) : w.cell? ⟨b, 2, none⟩ = some (.int .u64 f.id) := h.cell 2
theorem FBk.set2 {b : Nat} {l : List UInt8} {f : Frm} {w : World} (h : FBk b l f w) (v : Int) : FBk b l { f with id := v } (w.setCell ⟨b, 2, none⟩ (.int .u64 v)) := Joins.block_setCell (i := 2) h _
theorem FBk.cell3 {b : Nat} {l : List UInt8} {f : Frm} {w : World} (h : FBk b l f w) : w.cell? ⟨b, 3, none⟩ = some (.int .u64 f.off) := h.cell 3
theorem FBk.set3 {b : Nat} {l : List UInt8} {f : Frm} {w : World} (h : FBk b l f w) (v : Int) : FBk b l { f with off := v } (w.setCell ⟨b, 3, none⟩ (.int .u64 v)) := Joins.block_setCell (i := 3) h _
theorem FBk.cell4 {b : Nat} {l : List UInt8} {f : Frm} {w : World} (h : FBk b l f w) : w.cell? ⟨b, 4, none⟩ = some (.int .u64 f.max) := h.cell 4
theorem FBk.set4 {b : Nat} {l : List UInt8} {f : Frm} {w : World} (h : FBk b l f w) (v : Int) : FBk b l { f with max := v } (w.setCell ⟨b, 4, none⟩ (.int .u64 v)) := Joins.block_setCell (i := 4) h _
theorem FBk.cell5 {b : Nat} {l : List UInt8} {f : Frm} {w : World} (h : FBk b l f w) : w.cell? ⟨b, 5, none⟩ = some (.int .u64 f.code) := h.cell 5
theorem FBk.set5 {b : Nat} {l : List UInt8} {f : Frm} {w : World} (h : FBk b l f w) (v : Int) : FBk b l { f with code := v } (w.setCell ⟨b, 5, none⟩ (.int .u64 v)) := Joins.block_setCell (i := 5) h _
theorem FBk.cell6 {b : Nat} {l : List UInt8} {f : Frm} {w : World} (h : FBk b l f w) : w.cell? ⟨b, 6, none⟩ = some (.int .u64 f.seq) := h.cell 6
theorem FBk.set6 {b : Nat} {l : List UInt8} {f : Frm} {w : World} (h : FBk b l f w) (v : Int) : FBk b l { f with seq := v } (w.setCell ⟨b, 6, none⟩ (.int .u64 v)) := Joins.block_setCell (i := 6) h _
theorem FBk.cell7 {b : Nat} {l : List UInt8} {f : Frm} {w : World} (h : FBk b l f w) : w.cell? ⟨b, 7, none⟩ = some (.int .u64 f.prior) := h.cell 7
theorem FBk.set7 {b : Nat} {l : List UInt8} {f : Frm} {w : World} (h : FBk b l f w) (v : Int) : FBk b l { f with prior := v } (w.setCell ⟨b, 7, none⟩ (.int .u64 v)) := Joins.block_setCell (i := 7) h _
theorem FBk.cell8 {b : Nat} {l : List UInt8} {f : Frm} {w : World} (h : FBk b l f w) : w.cell? ⟨b, 8, none⟩ = some (.int .u64 f.delay) := h.cell 8
theorem FBk.set8 {b : Nat} {l : List UInt8} {f : Frm} {w : World} (h : FBk b l f w) (v : Int) : FBk b l { f with delay := v } (w.setCell ⟨b, 8, none⟩ (.int .u64 v)) := Joins.block_setCell (i := 8) h _
theorem FBk.cell9 {b : Nat} {l : List UInt8} {f : Frm} {w : World} (h : FBk b l f w) : w.cell? ⟨b, 9, none⟩ = some (.bool f.fin) := h.cell 9
theorem FBk.set9 {b : Nat} {l : List UInt8} {f : Frm} {w : World} (h : FBk b l f w) (v : Bool) : FBk b l { f with fin := v } (w.setCell ⟨b, 9, none⟩ (.bool v)) := Joins.block_setCell (i := 9) h _
theorem FBk.cell10 {b : Nat} {l : List UInt8} {f : Frm} {w : World} (h : FBk b l f w) : w.cell? ⟨b, 10, none⟩ = some (.string ⟨f.data.toArray⟩) := h.cell 10
theorem FBk.set10 {b : Nat} {l : List UInt8} {f : Frm} {w : World} (h : FBk b l f w) (v : List UInt8) : FBk b l { f with data := v } (w.setCell ⟨b, 10, none⟩ (.string ⟨v.toArray⟩)) := Joins.block_setCell (i := 10) h _
theorem FBk.cell11 {b : Nat} {l : List UInt8} {f : Frm} {w : World} (h : FBk b l f w) : w.cell? ⟨b, 11, none⟩ = some (.string ⟨f.cid.toArray⟩) := h.cell 11
theorem FBk.set11 {b : Nat} {l : List UInt8} {f : Frm} {w : World} (h : FBk b l f w) (v : List UInt8) : FBk b l { f with cid := v } (w.setCell ⟨b, 11, none⟩ (.string ⟨v.toArray⟩)) := Joins.block_setCell (i := 11) h _
theorem FBk.cell12 {b : Nat} {l : List UInt8} {f : Frm} {w : World} (h : FBk b l f w) : w.cell? ⟨b, 12, none⟩ = some (.string ⟨f.token.toArray⟩) := h.cell 12
theorem FBk.set12 {b : Nat} {l : List UInt8} {f : Frm} {w : World} (h : FBk b l f w) (v : List UInt8) : FBk b l { f with token := v } (w.setCell ⟨b, 12, none⟩ (.string ⟨v.toArray⟩)) := Joins.block_setCell (i := 12) h _
theorem FBk.cell13 {b : Nat} {l : List UInt8} {f : Frm} {w : World} (h : FBk b l f w) : w.cell? ⟨b, 13, none⟩ = some (.slice f.set.a f.set.n f.set.c) := h.cell 13
theorem FBk.set13 {b : Nat} {l : List UInt8} {f : Frm} {w : World} (h : FBk b l f w) (v : Sl) : FBk b l { f with set := v } (w.setCell ⟨b, 13, none⟩ (.slice v.a v.n v.c)) := Joins.block_setCell (i := 13) h _
/-- What a reader panics with. -/
abbrev GU : List PanicEntry := [{ v := .iface 83 (.agg #[]), recovered := false }]
theorem sv_to (l : List UInt8) (n : Nat) : (⟨l.toArray⟩ : ByteArray).extract 0 n = ⟨(l.take n).toArray⟩ := by
  apply ByteArray.ext
  simp
theorem sv_from (l : List UInt8) (n : Nat) : (⟨l.toArray⟩ : ByteArray).extract n l.length = ⟨(l.drop n).toArray⟩ := by
  apply ByteArray.ext
  apply Array.toList_inj.1
  rw [Lib.extract_data]
  simp [List.take_of_length_le]
set_option maxHeartbeats 1000000 in
theorem take_ok (b : Nat) (l : List UInt8) (f : Frm) (n : Nat) (w : World) (h : FBk b l f w) (hl : l.length ≤ 9223372036854775807) (hn : n ≤ l.length) :
    Calls Tryd.prog 64 #[.pointer (some ⟨b, 0, none⟩), .int .u64 n] w fun e w' => e = .returned (.string ⟨(l.take n).toArray⟩) ∧ FBk b (l.drop n) f w' ∧ It.Only (fun k => k = b) w w' := by
  have c0 := h.cell0
  have f0 : w.frozen? ⟨b, 0, none⟩ = false := h.fz 0
  have HH := Lib.hid (h.set0 (l.drop n))
  have H1 := Lib.hid (sv_to l n)
  have H2 := Lib.hid (sv_from l n)
  clear h
  go_enter Tryd.func64, Tryd.ntmps64
  go_wp2
  go_ret
  exact ⟨by rw [← H1.out]; rfl, by rw [H2.out]; exact HH.out, It.Only.setCell (O := fun k => k = b) (p := ⟨b, 0, none⟩) rfl _ _⟩
set_option maxHeartbeats 1000000 in
theorem take_no (b : Nat) (l : List UInt8) (f : Frm) (n : Nat) (w : World) (h : FBk b l f w) (hl : l.length ≤ 9223372036854775807) (hn : l.length < n) :
    Calls Tryd.prog 64 #[.pointer (some ⟨b, 0, none⟩), .int .u64 n] w fun e w' => e = .panicked GU ∧ FBk b l f w' ∧ It.Only (fun k => k = b) w w' := by
  have c0 := h.cell0
  have HH := Lib.hid h
  clear h
  go_enter Tryd.func64, Tryd.ntmps64
  go_wp2
  exact ⟨rfl, rfl, HH.out, It.Only.refl _ _⟩
theorem bk_one (c : UInt8) : bk [c] = c.toNat := by simp [bk]
set_option maxHeartbeats 1000000 in
theorem number_ok (b : Nat) (c : UInt8) (t : List UInt8) (f : Frm) (w : World) (h : FBk b (c :: t) f w) (hl : (c :: t).length ≤ 9223372036854775807) :
    Calls Tryd.prog 52 #[.pointer (some ⟨b, 0, none⟩)] w fun e w' => e = .returned (.int .u64 (c.toNat : Nat)) ∧ FBk b t f w' ∧ It.Only (fun k => k = b) w w' := by
  have CT : Hid (Calls Tryd.prog 64 #[.pointer (some ⟨b, 0, none⟩), .int .u64 1] w fun e w' => e = .returned (.string ⟨#[c]⟩) ∧ FBk b t f w' ∧ It.Only (fun k => k = b) w w') := Lib.hid (take_ok b (c :: t) f 1 w h hl (by simp))
  have CB : Hid (∀ w, Calls Tryd.prog 63 #[.string ⟨#[c]⟩] w fun e w' => e = .returned (.int .u64 (c.toNat : Nat)) ∧ w = w') := Lib.hid (fun w => by
    have := vback_7 ⟨#[c]⟩ w (by show 1 ≤ 7; decide)
    rw [show (⟨#[c]⟩ : ByteArray).data.toList = [c] from rfl, bk_one] at this
    exact this)
  clear h hl
  go_enter Tryd.func52, Tryd.ntmps52
  go_wp2_with fail
  refine CT.out.mono ?_
  rintro e w1 ⟨rfl, h1, h2⟩
  have H1 := Lib.hid h1
  have H2 := Lib.hid h2
  clear h1 h2
  go_wp2_with fail
  refine (CB.out _).mono ?_
  rintro e w2 ⟨rfl, rfl⟩
  go_wp2
  go_ret
  exact ⟨rfl, H1.out, H2.out⟩
set_option maxHeartbeats 1000000 in
theorem number_no (b : Nat) (f : Frm) (w : World) (h : FBk b [] f w) :
    Calls Tryd.prog 52 #[.pointer (some ⟨b, 0, none⟩)] w fun e w' => e = .panicked GU ∧ FBk b [] f w' ∧ It.Only (fun k => k = b) w w' := by
  have CT : Hid (Calls Tryd.prog 64 #[.pointer (some ⟨b, 0, none⟩), .int .u64 1] w fun e w' => e = .panicked GU ∧ FBk b [] f w' ∧ It.Only (fun k => k = b) w w') := Lib.hid (take_no b [] f 1 w h (by decide) (by decide))
  clear h
  go_enter Tryd.func52, Tryd.ntmps52
  go_wp2_with fail
  refine CT.out.mono ?_
  rintro e w1 ⟨rfl, h1, h2⟩
  go_wp2
  exact ⟨rfl, rfl, h1, h2⟩
set_option maxHeartbeats 1000000 in
theorem varint_ok (b : Nat) (l : List UInt8) (f : Frm) (w : World) (ht : Tab w) (h : FBk b l f w) (hl : l.length ≤ 9223372036854775807) (hg : gk l ≤ l.length) :
    Calls Tryd.prog 55 #[.pointer (some ⟨b, 0, none⟩)] w fun e w' => e = .returned (.int .u64 (gN l : Nat)) ∧ FBk b (gR l) f w' ∧ It.Only (fun k => k = b) w w' := by
  have CG := Lib.hid (vget ⟨l.toArray⟩ w ht (by rw [size_len]; exact hl))
  have EQ : (⟨l.toArray⟩ : ByteArray).data.toList = l := rfl
  rw [EQ, (g_ok hg).2.2] at CG
  have c0 := h.cell0
  have HH := Lib.hid h
  clear h hg ht EQ
  go_enter Tryd.func55, Tryd.ntmps55
  go_wp2_with fail
  refine CG.out.mono ?_
  rintro e w1 ⟨rfl, m, rfl⟩
  have H1 := Lib.hid (HH.out.keep (below_drewN (Below.refl _ _) m))
  have d0 := H1.out.cell0
  have f0 := H1.out.fz 0
  go_wp2
  go_ret
  exact ⟨rfl, H1.out.set0 _, (It.Only.of_all (below_drewN (Below.refl _ _) m) _).trans (It.Only.setCell (O := fun k => k = b) (p := ⟨b, 0, none⟩) rfl _ _)⟩
set_option maxHeartbeats 1000000 in
theorem varint_no (b : Nat) (l : List UInt8) (f : Frm) (w : World) (ht : Tab w) (h : FBk b l f w) (hl : l.length ≤ 9223372036854775807) (hg : l.length < gk l) :
    Calls Tryd.prog 55 #[.pointer (some ⟨b, 0, none⟩)] w fun e w' => e = .panicked GU ∧ FBk b l f w' ∧ It.Only (fun k => k = b) w w' := by
  have CG := Lib.hid (vget ⟨l.toArray⟩ w ht (by rw [size_len]; exact hl))
  have EQ : (⟨l.toArray⟩ : ByteArray).data.toList = l := rfl
  rw [EQ, (g_no hg).1, (g_no hg).2.1, (g_no hg).2.2] at CG
  have c0 := h.cell0
  have HH := Lib.hid h
  clear h hg ht EQ
  go_enter Tryd.func55, Tryd.ntmps55
  go_wp2_with fail
  refine CG.out.mono ?_
  rintro e w1 ⟨rfl, m, rfl⟩
  go_wp2
  exact ⟨rfl, rfl, HH.out.keep (below_drewN (Below.refl _ _) m), It.Only.of_all (below_drewN (Below.refl _ _) m) _⟩
set_option maxHeartbeats 1000000 in
theorem below_ok (n d : Int) (w : World) (h0 : 0 ≤ d) (h : d ≤ n) (h1 : n ≤ 18446744073709551615) :
    Calls Tryd.prog 65 #[.int .u64 n, .int .u64 d] w fun e w' => e = .returned (.int .u64 (n - d)) ∧ w' = w := by
  go_enter Tryd.func65, Tryd.ntmps65
  go_wp2
  go_ret
  exact ⟨rfl, rfl⟩
set_option maxHeartbeats 1000000 in
theorem below_no (n d : Int) (w : World) (h : n < d) :
    Calls Tryd.prog 65 #[.int .u64 n, .int .u64 d] w fun e w' => e = .panicked GU ∧ w' = w := by
  go_enter Tryd.func65, Tryd.ntmps65
  go_wp2
  exact ⟨rfl, rfl, rfl⟩
end Go.Proofs.YtfeecfdbncjmnaaDoor.Fm
