/- The walks of layer 6: shown. By tools/gen-frame-20.py. -/
import Derived.Test.YtpdfdhmhfdogcaaDoorFmSb
namespace Go.Proofs.YtpdfdhmhfdogcaaDoor.Fm
set_option maxRecDepth 20000
open Go.RowKit Vm
set_option linter.unusedVariables false
set_option linter.unusedSimpArgs false

/-- The frame that is shown. -/
def shF (a : Addr) : Frm := { frZ with kind := 2, set := ⟨some a, 2, 2⟩ }
def shR : List (Nat × Nat) := [(1, 3), (6, 6)]
theorem sh_may (a : Addr) : mayF 2 (shF a) (ints shR) = true := by
  have h : mayF 2 { frZ with kind := 2, set := ⟨none, 2, 0⟩ } (ints shR) = true := by decide +kernel
  rw [← may_cn 2 (shF a) (ints shR) ⟨none, 2, 0⟩ rfl]
  exact h
theorem sh_put (a : Addr) : putL (shF a) shR = [2, 6, 0, 1, 0, 1, 2] := by
  have e : putL (shF a) shR = putL { frZ with kind := 2, set := ⟨none, 2, 2⟩ } shR := rfl
  rw [e]
  decide +kernel
theorem sh_nm (a : Addr) (j : Nat) : 0 ≤ nm (shF a) j := by
  unfold nm shF frZ
  split <;> exact Int.le_refl 0
theorem sh_get (a : Addr) : getN [2, 6, 0, 1, 0, 1, 2, 1] = some (cn (shF a) 2, shR, [1]) := by
  have h := get_back 2 (shF a) shR [1] rfl rfl (fun j _ => sh_nm a j) (by simp [shF, frZ]) (sh_may a)
  rw [sh_put] at h
  exact h
theorem sh_same (a : Addr) (sl : Sl) : sameF (shF a) { cn (shF a) 2 with set := sl } (ints shR) (ints shR) = true := by
  unfold sameF
  simp [cn, shF, frZ, numE, txtE]
theorem sh_fit (w : World) : Fit ((w.alloc (.cells #[.int .u64 1, .int .u64 3, .int .u64 6, .int .u64 6] 57)).alloc (.cells #[.int .u64 2, .int .u64 0, .int .u64 0, .int .u64 0, .int .u64 0, .int .u64 0, .int .u64 0, .int .u64 0, .bool false, .string ⟨#[]⟩, .string ⟨#[]⟩, .string ⟨#[]⟩, .slice (some ⟨w.heap.size, 0, none⟩) 2 2] 26)) 2 (shF ⟨w.heap.size, 0, none⟩) shR := by
  refine ⟨rfl, ⟨some ⟨w.heap.size, 0, none⟩, 2, rfl, by decide, fun _ => ⟨w.heap.size, 0, rfl, fun i hi => ?_⟩⟩, fun j _ => sh_nm _ j⟩
  have h : ((w.alloc (.cells #[.int .u64 1, .int .u64 3, .int .u64 6, .int .u64 6] 57)).alloc (.cells #[.int .u64 2, .int .u64 0, .int .u64 0, .int .u64 0, .int .u64 0, .int .u64 0, .int .u64 0, .int .u64 0, .bool false, .string ⟨#[]⟩, .string ⟨#[]⟩, .string ⟨#[]⟩, .slice (some ⟨w.heap.size, 0, none⟩) 2 2] 26)).heap[w.heap.size]? = some (.cells #[.int .u64 1, .int .u64 3, .int .u64 6, .int .u64 6] 57) := (Below.heap_alloc _ _ _ (by simp)).trans (World.alloc_heap_new w _)
  have hi2 : i = 0 ∨ i = 1 := by have : (ints shR).length = 2 := rfl; omega
  rcases hi2 with rfl | rfl
  · exact ⟨Lib.cell_of_heap h 0, Lib.cell_of_heap h 1⟩
  · exact ⟨Lib.cell_of_heap h 2, Lib.cell_of_heap h 3⟩
set_option maxHeartbeats 8000000 in
theorem shown_any (w : World) (ht : Tab w) : Calls Tryd.prog 8 #[] w fun e w' => e = .returned (.bool true) ∧ Below w.heap.size w w' := by
  have HB1 : Hid (Below w.heap.size w ((w.alloc (.cells #[.int .u64 1, .int .u64 3, .int .u64 6, .int .u64 6] 57)).alloc (.cells #[.int .u64 2, .int .u64 0, .int .u64 0, .int .u64 0, .int .u64 0, .int .u64 0, .int .u64 0, .int .u64 0, .bool false, .string ⟨#[]⟩, .string ⟨#[]⟩, .string ⟨#[]⟩, .slice (some ⟨w.heap.size, 0, none⟩) 2 2] 26))) := Lib.hid (((Below.refl _ _).alloc (Nat.le_refl _) _).alloc (by simp) _)
  have HT1 := Lib.hid (ht.below HB1.out ht.lt)
  have HFit := Lib.hid (sh_fit w)
  have HX1 : Hid (((w.alloc (.cells #[.int .u64 1, .int .u64 3, .int .u64 6, .int .u64 6] 57)).alloc (.cells #[.int .u64 2, .int .u64 0, .int .u64 0, .int .u64 0, .int .u64 0, .int .u64 0, .int .u64 0, .int .u64 0, .bool false, .string ⟨#[]⟩, .string ⟨#[]⟩, .string ⟨#[]⟩, .slice (some ⟨w.heap.size, 0, none⟩) 2 2] 26)).heap[w.heap.size + 1]? = some (.cells #[.int .u64 2, .int .u64 0, .int .u64 0, .int .u64 0, .int .u64 0, .int .u64 0, .int .u64 0, .int .u64 0, .bool false, .string ⟨#[]⟩, .string ⟨#[]⟩, .string ⟨#[]⟩, .slice (some ⟨w.heap.size, 0, none⟩) 2 2] 26)) := Lib.hid (by
    have := World.alloc_heap_new (w.alloc (.cells #[.int .u64 1, .int .u64 3, .int .u64 6, .int .u64 6] 57)) (.cells #[.int .u64 2, .int .u64 0, .int .u64 0, .int .u64 0, .int .u64 0, .int .u64 0, .int .u64 0, .int .u64 0, .bool false, .string ⟨#[]⟩, .string ⟨#[]⟩, .string ⟨#[]⟩, .slice (some ⟨w.heap.size, 0, none⟩) 2 2] 26)
    rwa [World.size_alloc] at this)
  have CP : Hid (Calls Tryd.prog 9 #[.agg #[.int .u64 2, .int .u64 0, .int .u64 0, .int .u64 0, .int .u64 0, .int .u64 0, .int .u64 0, .int .u64 0, .bool false, .string ⟨#[]⟩, .string ⟨#[]⟩, .string ⟨#[]⟩, .slice (some ⟨w.heap.size, 0, none⟩) 2 2]] ((w.alloc (.cells #[.int .u64 1, .int .u64 3, .int .u64 6, .int .u64 6] 57)).alloc (.cells #[.int .u64 2, .int .u64 0, .int .u64 0, .int .u64 0, .int .u64 0, .int .u64 0, .int .u64 0, .int .u64 0, .bool false, .string ⟨#[]⟩, .string ⟨#[]⟩, .string ⟨#[]⟩, .slice (some ⟨w.heap.size, 0, none⟩) 2 2] 26)) fun e w' => e = .returned (.tuple #[.string ⟨#[2, 6, 0, 1, 0, 1, 2]⟩, .int .i64 0]) ∧ Below ((w.alloc (.cells #[.int .u64 1, .int .u64 3, .int .u64 6, .int .u64 6] 57)).alloc (.cells #[.int .u64 2, .int .u64 0, .int .u64 0, .int .u64 0, .int .u64 0, .int .u64 0, .int .u64 0, .int .u64 0, .bool false, .string ⟨#[]⟩, .string ⟨#[]⟩, .string ⟨#[]⟩, .slice (some ⟨w.heap.size, 0, none⟩) 2 2] 26)).heap.size ((w.alloc (.cells #[.int .u64 1, .int .u64 3, .int .u64 6, .int .u64 6] 57)).alloc (.cells #[.int .u64 2, .int .u64 0, .int .u64 0, .int .u64 0, .int .u64 0, .int .u64 0, .int .u64 0, .int .u64 0, .bool false, .string ⟨#[]⟩, .string ⟨#[]⟩, .string ⟨#[]⟩, .slice (some ⟨w.heap.size, 0, none⟩) 2 2] 26)) w') := Lib.hid (by
    have h := put_yes 2 (shF ⟨w.heap.size, 0, none⟩) shR ((w.alloc (.cells #[.int .u64 1, .int .u64 3, .int .u64 6, .int .u64 6] 57)).alloc (.cells #[.int .u64 2, .int .u64 0, .int .u64 0, .int .u64 0, .int .u64 0, .int .u64 0, .int .u64 0, .int .u64 0, .bool false, .string ⟨#[]⟩, .string ⟨#[]⟩, .string ⟨#[]⟩, .slice (some ⟨w.heap.size, 0, none⟩) 2 2] 26)) HT1.out HFit.out (sh_may _)
    rw [sh_put] at h
    exact h)
  have CG : Hid (∀ W, Tab W → Calls Tryd.prog 16 #[.string ⟨#[2, 6, 0, 1, 0, 1, 2, 1]⟩] W fun e w' => Below W.heap.size W w' ∧ ∃ (sa : Option Addr) (sc : Nat), Rd w' (.slice sa 2 sc) (ints shR) ∧ e = .returned (.tuple #[.agg #[.int .u64 2, .int .u64 0, .int .u64 0, .int .u64 0, .int .u64 0, .int .u64 0, .int .u64 0, .int .u64 0, .bool false, .string ⟨#[]⟩, .string ⟨#[]⟩, .string ⟨#[]⟩, .slice sa 2 sc], .string ⟨#[1]⟩, .int .i64 0])) := Lib.hid (fun W ht => by
    have h := get_any [2, 6, 0, 1, 0, 1, 2, 1] W ht (by decide)
    rw [sh_get ⟨0, 0, none⟩] at h
    refine h.mono ?_
    rintro e w' ⟨h1, ⟨sa, sn, sc⟩, h2, h3, h4, h5⟩
    have h2 : sn = 2 := h2
    subst h2
    exact ⟨h1, sa, sc, h3, h5⟩)
  have CS : Hid (∀ (sa : Option Addr) (sc : Nat) W, Rd W (.slice (some ⟨w.heap.size, 0, none⟩) 2 2) (ints shR) → Rd W (.slice sa 2 sc) (ints shR) → Calls Tryd.prog 23 #[.agg #[.int .u64 2, .int .u64 0, .int .u64 0, .int .u64 0, .int .u64 0, .int .u64 0, .int .u64 0, .int .u64 0, .bool false, .string ⟨#[]⟩, .string ⟨#[]⟩, .string ⟨#[]⟩, .slice (some ⟨w.heap.size, 0, none⟩) 2 2], .agg #[.int .u64 2, .int .u64 0, .int .u64 0, .int .u64 0, .int .u64 0, .int .u64 0, .int .u64 0, .int .u64 0, .bool false, .string ⟨#[]⟩, .string ⟨#[]⟩, .string ⟨#[]⟩, .slice sa 2 sc]] W fun e w' => e = .returned (.bool true) ∧ Below W.heap.size W w') := Lib.hid (fun sa sc W h1 h2 => by
    have h := same_any (shF ⟨w.heap.size, 0, none⟩) { cn (shF ⟨w.heap.size, 0, none⟩) 2 with set := ⟨sa, 2, sc⟩ } (ints shR) (ints shR) W (by decide) (by decide) h1 h2
    rw [sh_same] at h
    exact h)
  have CE : Hid (∀ (sa : Option Addr) (sc : Nat) W, Calls Tryd.prog 14 #[.agg #[.int .u64 2, .int .u64 0, .int .u64 0, .int .u64 0, .int .u64 0, .int .u64 0, .int .u64 0, .int .u64 0, .bool false, .string ⟨#[]⟩, .string ⟨#[]⟩, .string ⟨#[]⟩, .slice sa 2 sc]] W fun e w' => e = .returned (.bool false) ∧ Below W.heap.size W w') := Lib.hid (fun sa sc W => elicits_any { cn (shF ⟨w.heap.size, 0, none⟩) 2 with set := ⟨sa, 2, sc⟩ } W)
  clear ht
  go_enter Tryd.func8, Tryd.ntmps8
  go_wp2_with fail
  with_reducible refine CP.out.mono ?_
  rintro e w1 ⟨rfl, hb⟩
  have HB2 := Lib.hid (HB1.out.trans (hb.mono HB1.out.size))
  have HT2 := Lib.hid (HT1.out.below hb HT1.out.lt)
  have HR2 := Lib.hid (HFit.out.rd.below hb)
  have hlt1 : w.heap.size + 1 < ((w.alloc (.cells #[.int .u64 1, .int .u64 3, .int .u64 6, .int .u64 6] 57)).alloc (.cells #[.int .u64 2, .int .u64 0, .int .u64 0, .int .u64 0, .int .u64 0, .int .u64 0, .int .u64 0, .int .u64 0, .bool false, .string ⟨#[]⟩, .string ⟨#[]⟩, .string ⟨#[]⟩, .slice (some ⟨w.heap.size, 0, none⟩) 2 2] 26)).heap.size := by simp
  have HX2 := Lib.hid ((hb.block _ hlt1).trans HX1.out)
  clear hb hlt1
  go_wp2_with fail
  refine (CG.out _ HT2.out).mono ?_
  rintro e w2 ⟨hb, sa, sc, hrd, rfl⟩
  have HB3 := Lib.hid (HB2.out.trans (hb.mono HB2.out.size))
  have hx3 := (hb.block _ (Array.getElem?_eq_some_iff.1 HX2.out).1).trans HX2.out
  have HBA : Hid (Below w2.heap.size w2 (w2.alloc (.cells #[.int .u64 2, .int .u64 0, .int .u64 0, .int .u64 0, .int .u64 0, .int .u64 0, .int .u64 0, .int .u64 0, .bool false, .string ⟨#[]⟩, .string ⟨#[]⟩, .string ⟨#[]⟩, .slice sa 2 sc] 26))) := Lib.hid ((Below.refl _ _).alloc (Nat.le_refl _) _)
  have HR3 := Lib.hid ((HR2.out.below hb).below HBA.out)
  have HG3 := Lib.hid (hrd.below HBA.out)
  have hlt2 := (Array.getElem?_eq_some_iff.1 hx3).1
  have hx4 := (HBA.out.block _ hlt2).trans hx3
  have HY4 : Hid ((w2.alloc (.cells #[.int .u64 2, .int .u64 0, .int .u64 0, .int .u64 0, .int .u64 0, .int .u64 0, .int .u64 0, .int .u64 0, .bool false, .string ⟨#[]⟩, .string ⟨#[]⟩, .string ⟨#[]⟩, .slice sa 2 sc] 26)).heap[w2.heap.size]? = some (.cells #[.int .u64 2, .int .u64 0, .int .u64 0, .int .u64 0, .int .u64 0, .int .u64 0, .int .u64 0, .int .u64 0, .bool false, .string ⟨#[]⟩, .string ⟨#[]⟩, .string ⟨#[]⟩, .slice sa 2 sc] 26)) := Lib.hid (World.alloc_heap_new w2 _)
  have a0 : w2.cell? ⟨w.heap.size + 1, 0, none⟩ = some (.int .u64 2) := Lib.cell_of_heap hx3 0
  have a1 : w2.cell? ⟨w.heap.size + 1, 1, none⟩ = some (.int .u64 0) := Lib.cell_of_heap hx3 1
  have a2 : w2.cell? ⟨w.heap.size + 1, 2, none⟩ = some (.int .u64 0) := Lib.cell_of_heap hx3 2
  have a3 : w2.cell? ⟨w.heap.size + 1, 3, none⟩ = some (.int .u64 0) := Lib.cell_of_heap hx3 3
  have a4 : w2.cell? ⟨w.heap.size + 1, 4, none⟩ = some (.int .u64 0) := Lib.cell_of_heap hx3 4
  have a5 : w2.cell? ⟨w.heap.size + 1, 5, none⟩ = some (.int .u64 0) := Lib.cell_of_heap hx3 5
  have a6 : w2.cell? ⟨w.heap.size + 1, 6, none⟩ = some (.int .u64 0) := Lib.cell_of_heap hx3 6
  have a7 : w2.cell? ⟨w.heap.size + 1, 7, none⟩ = some (.int .u64 0) := Lib.cell_of_heap hx3 7
  have a8 : w2.cell? ⟨w.heap.size + 1, 8, none⟩ = some (.bool false) := Lib.cell_of_heap hx3 8
  have a9 : w2.cell? ⟨w.heap.size + 1, 9, none⟩ = some (.string ⟨#[]⟩) := Lib.cell_of_heap hx3 9
  have a10 : w2.cell? ⟨w.heap.size + 1, 10, none⟩ = some (.string ⟨#[]⟩) := Lib.cell_of_heap hx3 10
  have a11 : w2.cell? ⟨w.heap.size + 1, 11, none⟩ = some (.string ⟨#[]⟩) := Lib.cell_of_heap hx3 11
  have a12 : w2.cell? ⟨w.heap.size + 1, 12, none⟩ = some (.slice (some ⟨w.heap.size, 0, none⟩) 2 2) := Lib.cell_of_heap hx3 12

  have HB4 := Lib.hid (HB3.out.trans (HBA.out.mono HB3.out.size))
  have hne : ¬ w.heap.size + 1 = w2.heap.size := by omega
  clear hb hrd hx3 hx4
  go_wp2_with fail
  with_reducible refine (CS.out sa sc _ HR3.out HG3.out).mono ?_
  rintro e w4 ⟨rfl, hb⟩
  have hlt4 := (Array.getElem?_eq_some_iff.1 HY4.out).1
  have hy4 := (hb.block _ hlt4).trans HY4.out
  have b0 : w4.cell? ⟨w2.heap.size, 0, none⟩ = some (.int .u64 2) := Lib.cell_of_heap hy4 0
  have b1 : w4.cell? ⟨w2.heap.size, 1, none⟩ = some (.int .u64 0) := Lib.cell_of_heap hy4 1
  have b2 : w4.cell? ⟨w2.heap.size, 2, none⟩ = some (.int .u64 0) := Lib.cell_of_heap hy4 2
  have b3 : w4.cell? ⟨w2.heap.size, 3, none⟩ = some (.int .u64 0) := Lib.cell_of_heap hy4 3
  have b4 : w4.cell? ⟨w2.heap.size, 4, none⟩ = some (.int .u64 0) := Lib.cell_of_heap hy4 4
  have b5 : w4.cell? ⟨w2.heap.size, 5, none⟩ = some (.int .u64 0) := Lib.cell_of_heap hy4 5
  have b6 : w4.cell? ⟨w2.heap.size, 6, none⟩ = some (.int .u64 0) := Lib.cell_of_heap hy4 6
  have b7 : w4.cell? ⟨w2.heap.size, 7, none⟩ = some (.int .u64 0) := Lib.cell_of_heap hy4 7
  have b8 : w4.cell? ⟨w2.heap.size, 8, none⟩ = some (.bool false) := Lib.cell_of_heap hy4 8
  have b9 : w4.cell? ⟨w2.heap.size, 9, none⟩ = some (.string ⟨#[]⟩) := Lib.cell_of_heap hy4 9
  have b10 : w4.cell? ⟨w2.heap.size, 10, none⟩ = some (.string ⟨#[]⟩) := Lib.cell_of_heap hy4 10
  have b11 : w4.cell? ⟨w2.heap.size, 11, none⟩ = some (.string ⟨#[]⟩) := Lib.cell_of_heap hy4 11
  have b12 : w4.cell? ⟨w2.heap.size, 12, none⟩ = some (.slice sa 2 sc) := Lib.cell_of_heap hy4 12

  have HB5 := Lib.hid (HB4.out.trans (hb.mono HB4.out.size))
  clear hb hy4 hlt4
  go_wp2_with fail
  with_reducible refine (CE.out sa sc _).mono ?_
  rintro e w5 ⟨rfl, hb⟩
  have HB6 := Lib.hid (HB5.out.trans (hb.mono HB5.out.size))
  clear hb
  go_wp2
  go_ret
  exact ⟨rfl, HB6.out⟩
end Go.Proofs.YtpdfdhmhfdogcaaDoor.Fm
