/- The walks of layer 8: fill, Of, Shared. -/
import Derived.Test.YthjphechdhbenaaKdE
namespace Go.Proofs.Ythjphechdhbenaa.Kd
set_option maxRecDepth 20000
open Go.RowKit
open Go.Proofs.Ythjphechdhbenaa.Dg
open Go.Proofs.Ythjphechdhbenaa.Vm (fx fx_length vfixed)
set_option linter.unusedVariables false
set_option linter.unusedSimpArgs false

/-- A block of keys and what they are made of. -/
def KB (w : World) (b : Nat) (o i x y z : ByteArray) : Prop := w.heap[b]? = some (.cells #[.string o, .string i, .string x, .string y, .string z] 74 (0, 0))
theorem KB.lt {w : World} {b : Nat} {o i x y z : ByteArray} (h : KB w b o i x y z) : b < w.heap.size := (Array.getElem?_eq_some_iff.1 h).1
theorem KB.keep {w w' : World} {b : Nat} {o i x y z : ByteArray} (h : KB w b o i x y z) (hb : Below w.heap.size w w') : KB w' b o i x y z := (hb.block b h.lt).trans h
theorem KB.cells {w : World} {b : Nat} {o i x y z : ByteArray} (h : KB w b o i x y z) : w.cell? ⟨b, 0, none⟩ = some (.string o) ∧ w.cell? ⟨b, 1, none⟩ = some (.string i) ∧ w.cell? ⟨b, 2, none⟩ = some (.string x) ∧ w.cell? ⟨b, 3, none⟩ = some (.string y) ∧ w.cell? ⟨b, 4, none⟩ = some (.string z) := by
  refine ⟨?_, ?_, ?_, ?_, ?_⟩ <;> (rw [Lib.cell_of_heap h]; rfl)
theorem KB.fz {w : World} {b : Nat} {o i x y z : ByteArray} (h : KB w b o i x y z) (j : Nat) : w.frozen? ⟨b, j, none⟩ = false := Lib.frozen_of_heap h j
theorem KB.put2 {w : World} {b : Nat} {o i x y z : ByteArray} (h : KB w b o i x y z) (v : ByteArray) : KB (w.setCell ⟨b, 2, none⟩ (.string v)) b o i v y z := by
  have := Joins.block_setCell (i := 2) h (.string v)
  unfold KB
  rw [this]
  simp
theorem KB.put3 {w : World} {b : Nat} {o i x y z : ByteArray} (h : KB w b o i x y z) (v : ByteArray) : KB (w.setCell ⟨b, 3, none⟩ (.string v)) b o i x v z := by
  have := Joins.block_setCell (i := 3) h (.string v)
  unfold KB
  rw [this]
  simp
theorem KB.put4 {w : World} {b : Nat} {o i x y z : ByteArray} (h : KB w b o i x y z) (v : ByteArray) : KB (w.setCell ⟨b, 4, none⟩ (.string v)) b o i x y v := by
  have := Joins.block_setCell (i := 4) h (.string v)
  unfold KB
  rw [this]
  simp
def kKey (k : List UInt8) : List UInt8 := lab (ko k) (ki k) [113, 117, 105, 99, 32, 107, 101, 121] [] 32
def kIv (k : List UInt8) : List UInt8 := lab (ko k) (ki k) [113, 117, 105, 99, 32, 105, 118] [] 12
def kMask (k : List UInt8) : List UInt8 := lab (ko k) (ki k) [113, 117, 105, 99, 32, 104, 112] [] 32
theorem below_put {B b : Nat} {w0 w : World} (h : Below B w0 w) (hb : B ≤ b) (j : Nat) (v : Value) : Below B w0 (w.setCell ⟨b, j, none⟩ v) := h.setCell (p := ⟨b, j, none⟩) hb v
set_option maxHeartbeats 4000000 in
theorem fill_at (k : List UInt8) (b B : Nat) (w0 w : World) (x y z : ByteArray) (h : KB w b ⟨(ko k).toArray⟩ ⟨(ki k).toArray⟩ x y z) (hB : B ≤ b) (hw : Below B w0 w) :
    Calls Try.prog 51 #[.pointer (some ⟨b, 0, none⟩)] w fun e w' => e = .returned (.tuple #[]) ∧ KB w' b ⟨(ko k).toArray⟩ ⟨(ki k).toArray⟩ ⟨(kKey k).toArray⟩ ⟨(kIv k).toArray⟩ ⟨(kMask k).toArray⟩ ∧ Below B w0 w' := by
  have L1 : Hid (∀ W : World, Calls Try.prog 49 #[.agg #[.string ⟨(ko k).toArray⟩, .string ⟨(ki k).toArray⟩], .string ⟨#[113, 117, 105, 99, 32, 107, 101, 121]⟩, .string ⟨#[]⟩, .int .i64 32] W fun e w' => e = .returned (.string ⟨(kKey k).toArray⟩) ∧ Below W.heap.size W w') := Lib.hid (fun W => labelled_key k [113, 117, 105, 99, 32, 107, 101, 121] [] 32 W (by decide) (by decide) (by decide))
  have L2 : Hid (∀ W : World, Calls Try.prog 49 #[.agg #[.string ⟨(ko k).toArray⟩, .string ⟨(ki k).toArray⟩], .string ⟨#[113, 117, 105, 99, 32, 105, 118]⟩, .string ⟨#[]⟩, .int .i64 12] W fun e w' => e = .returned (.string ⟨(kIv k).toArray⟩) ∧ Below W.heap.size W w') := Lib.hid (fun W => labelled_key k [113, 117, 105, 99, 32, 105, 118] [] 12 W (by decide) (by decide) (by decide))
  have L3 : Hid (∀ W : World, Calls Try.prog 49 #[.agg #[.string ⟨(ko k).toArray⟩, .string ⟨(ki k).toArray⟩], .string ⟨#[113, 117, 105, 99, 32, 104, 112]⟩, .string ⟨#[]⟩, .int .i64 32] W fun e w' => e = .returned (.string ⟨(kMask k).toArray⟩) ∧ Below W.heap.size W w') := Lib.hid (fun W => labelled_key k [113, 117, 105, 99, 32, 104, 112] [] 32 W (by decide) (by decide) (by decide))
  generalize kKey k = K1 at *
  generalize kIv k = K2 at *
  generalize kMask k = K3 at *
  generalize ko k = KO at *
  generalize ki k = KI at *
  have HK := Lib.hid h
  have HW := Lib.hid hw
  obtain ⟨c0, c1, c2, c3, c4⟩ := h.cells
  have hs : B ≤ w.heap.size := by have := h.lt; omega
  clear h hw
  go_enter Try.func51, Try.ntmps51
  go_wp2_with fail
  with_reducible refine (L1.out _).mono ?_
  rintro e w1 ⟨rfl, hb⟩
  have hk1 := HK.out.keep hb
  have HK1 := Lib.hid (hk1.put2 ⟨K1.toArray⟩)
  have HB1 := Lib.hid (below_put (HW.out.trans (hb.mono hs)) hB 2 (.string ⟨K1.toArray⟩))
  obtain ⟨d0, d1, d2, d3, d4⟩ := hk1.cells
  have df := hk1.fz
  have hs1 : B ≤ (w1.setCell ⟨b, 2, none⟩ (.string ⟨K1.toArray⟩)).heap.size := by have := HK1.out.lt; omega
  clear hk1 hb c0 c1 c2 c3 c4
  go_wp2_with fail
  with_reducible refine (L2.out _).mono ?_
  rintro e w2 ⟨rfl, hb⟩
  have hk2 := HK1.out.keep hb
  have HK2 := Lib.hid (hk2.put3 ⟨K2.toArray⟩)
  have HB2 := Lib.hid (below_put (HB1.out.trans (hb.mono hs1)) hB 3 (.string ⟨K2.toArray⟩))
  obtain ⟨e0, e1, e2, e3, e4⟩ := hk2.cells
  have ef := hk2.fz
  have hs2 : B ≤ (w2.setCell ⟨b, 3, none⟩ (.string ⟨K2.toArray⟩)).heap.size := by have := HK2.out.lt; omega
  clear hk2 hb d0 d1 d2 d3 d4 df HK1 HB1
  go_wp2_with fail
  with_reducible refine (L3.out _).mono ?_
  rintro e w3 ⟨rfl, hb⟩
  have hk3 := HK2.out.keep hb
  have HK3 := Lib.hid (hk3.put4 ⟨K3.toArray⟩)
  have HB3 := Lib.hid (below_put (HB2.out.trans (hb.mono hs2)) hB 4 (.string ⟨K3.toArray⟩))
  obtain ⟨f0, f1, f2, f3, f4⟩ := hk3.cells
  have ff := hk3.fz
  clear hk3 hb e0 e1 e2 e3 e4 ef HK2 HB2
  go_wp2
  go_end0
  exact ⟨rfl, HK3.out, HB3.out⟩
theorem inf_keys : (Try.prog.info? 41).map (·.size) = some 3 := by kernel_rfl
theorem three_put {w : World} {b : Nat} {T : TypeId} {v0 v1 v2 x y z : Value} (h : w.heap[b]? = some (.cells #[v0, v1, v2] T (0, 0))) : (((w.setCell ⟨b, 0, none⟩ x).setCell ⟨b, 1, none⟩ y).setCell ⟨b, 2, none⟩ z).heap[b]? = some (.cells #[x, y, z] T (0, 0)) := by
  have h0 := Joins.block_setCell (i := 0) h x
  have h1 := Joins.block_setCell (i := 1) h0 y
  have h2 := Joins.block_setCell (i := 2) h1 z
  rw [h2]
  simp
set_option maxHeartbeats 4000000 in
theorem of_any (k : List UInt8) (w : World) (hk : k.length ≤ 100000) :
    Calls Try.prog 27 #[.string ⟨k.toArray⟩] w fun e w' => e = .returned (.agg #[.string ⟨(kKey k).toArray⟩, .string ⟨(kIv k).toArray⟩, .string ⟨(kMask k).toArray⟩]) ∧ Below w.heap.size w w' := by
  have C1 := Lib.hid (fun W => secretOf_any k W hk)
  have C2 := Lib.hid (fun b B w0 W x y z h hB hw => fill_at k b B w0 W x y z h hB hw)
  generalize kKey k = K1 at *
  generalize kIv k = K2 at *
  generalize kMask k = K3 at *
  generalize ko k = KO at *
  generalize ki k = KI at *
  go_enter Try.func27, Try.ntmps27
  go_wp2_with fail
  with_reducible refine (C1.out _).mono ?_
  rintro e w1 ⟨rfl, hb⟩
  have HB1 := Lib.hid (((Below.refl w.heap.size w).alloc (Nat.le_refl _) (.cells #[.string ⟨#[]⟩, .string ⟨#[]⟩, .string ⟨#[]⟩] 41)).trans (hb.mono (by simp)))
  have HZ1 : Hid (w1.heap[w.heap.size]? = some (.cells #[.string ⟨#[]⟩, .string ⟨#[]⟩, .string ⟨#[]⟩] 41 (0, 0))) := Lib.hid ((hb.block w.heap.size (by simp)).trans (heap_alloc_new w _))
  have hlt1 : w.heap.size < w1.heap.size := by have := hb.size; simp at this; omega
  have HKB : Hid (KB (w1.alloc (.cells #[.string ⟨KO.toArray⟩, .string ⟨KI.toArray⟩, .string ⟨#[]⟩, .string ⟨#[]⟩, .string ⟨#[]⟩] 74)) w1.heap.size ⟨KO.toArray⟩ ⟨KI.toArray⟩ ⟨#[]⟩ ⟨#[]⟩ ⟨#[]⟩) := Lib.hid (heap_alloc_new w1 _)
  have C3 := Lib.hid (C2.out w1.heap.size w1.heap.size w1 _ _ _ _ HKB.out (Nat.le_refl _) ((Below.refl _ _).alloc (Nat.le_refl _) _))
  clear hb
  go_wp2_with fail
  with_reducible refine C3.out.mono ?_
  rintro e w2 ⟨rfl, hk2, hb2⟩
  have HB2 := Lib.hid (HB1.out.trans (hb2.mono (Nat.le_of_lt hlt1)))
  have HZ2 : Hid (w2.heap[w.heap.size]? = some (.cells #[.string ⟨#[]⟩, .string ⟨#[]⟩, .string ⟨#[]⟩] 41 (0, 0))) := Lib.hid ((hb2.block w.heap.size hlt1).trans HZ1.out)
  obtain ⟨c0, c1, c2, c3, c4⟩ := hk2.cells
  have hz0 : w2.cell? ⟨w.heap.size, 0, none⟩ = some (.string ⟨#[]⟩) := by rw [Lib.cell_of_heap HZ2.out]; rfl
  have hz1 : w2.cell? ⟨w.heap.size, 1, none⟩ = some (.string ⟨#[]⟩) := by rw [Lib.cell_of_heap HZ2.out]; rfl
  have hz2 : w2.cell? ⟨w.heap.size, 2, none⟩ = some (.string ⟨#[]⟩) := by rw [Lib.cell_of_heap HZ2.out]; rfl
  have hf : ∀ j, w2.frozen? ⟨w.heap.size, j, none⟩ = false := fun j => Lib.frozen_of_heap HZ2.out j
  clear hb2 hk2
  go_wp2_with fail
  exact bodyPost_ret (v := .agg #[.string ⟨K1.toArray⟩, .string ⟨K2.toArray⟩, .string ⟨K3.toArray⟩]) (results_cell_row Try.results27 _ _ w.heap.size _ _ _ _ rfl (three_put HZ2.out) Try.underlying41 rfl inf_keys) rfl ⟨rfl, below_put (below_put (below_put HB2.out (Nat.le_refl _) _ _) (Nat.le_refl _) _ _) (Nat.le_refl _) _ _⟩
end Go.Proofs.Ythjphechdhbenaa.Kd
