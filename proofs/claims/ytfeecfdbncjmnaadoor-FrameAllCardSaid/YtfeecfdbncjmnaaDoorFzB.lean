/- Layer 6: FmSc, FmLw, FmIts, joined by tools/pack.py. -/
import Derived.Test.YtfeecfdbncjmnaaDoorFzA
import Derived.Deep.RegionHeld3
import Derived.Deep.RegionLaw
namespace Go.Proofs.YtfeecfdbncjmnaaDoor.Fm
set_option maxRecDepth 20000
open Go.RowKit Vm
set_option linter.unusedVariables false
set_option linter.unusedSimpArgs false
section
/-- The frame that is shown. -/
def shF (a : Addr) : Frm := { frZ with kind := 2, set := ⟨some a, 2, 2⟩ }
def shR : List (Nat × Nat) := [(1, 3), (6, 6)]
theorem sh_may (a : Addr) : mayF 2 (shF a) (ints shR) = true := by
  have h : mayF 2 { frZ with kind := 2, set := ⟨none, 2, 0⟩ } (ints shR) = true := by decide +kernel
  rw [← may_cn 2 (shF a) (ints shR) ⟨none, 2, 0⟩ rfl]
  exact h
theorem sh_put (a : Addr) : putL (shF a) shR = [2, 6, 0, 1, 0, 1, 2] := by
  have e : putL (shF a) shR = putL { frZ with kind := 2, set := ⟨none, 2, 2⟩ } shR := rfl
  rw [e]
  decide +kernel
theorem sh_nm (a : Addr) (j : Nat) : 0 ≤ nm (shF a) j := by
  unfold nm shF frZ
  split <;> exact Int.le_refl 0
theorem sh_get (a : Addr) : getN [2, 6, 0, 1, 0, 1, 2, 1] = some (cn (shF a) 2, shR, [1]) := by
  have h := get_back 2 (shF a) shR [1] rfl rfl (fun j _ => sh_nm a j) (by simp [shF, frZ]) (sh_may a)
  rw [sh_put] at h
  exact h
theorem sh_same (a : Addr) (sl : Sl) : sameF (shF a) { cn (shF a) 2 with set := sl } (ints shR) (ints shR) = true := by
  unfold sameF
  simp [cn, shF, frZ, numE, txtE]
theorem sh_fit (w : World) : Fit ((w.alloc (.cells #[.int .u64 1, .int .u64 3, .int .u64 6, .int .u64 6] 54)).alloc (.cells #[.int .u64 2, .int .u64 0, .int .u64 0, .int .u64 0, .int .u64 0, .int .u64 0, .int .u64 0, .int .u64 0, .bool false, .string ⟨#[]⟩, .string ⟨#[]⟩, .string ⟨#[]⟩, .slice (some ⟨w.heap.size, 0, none⟩) 2 2] 27)) 2 (shF ⟨w.heap.size, 0, none⟩) shR := by
  refine ⟨rfl, ⟨some ⟨w.heap.size, 0, none⟩, 2, rfl, by decide, fun _ => ⟨w.heap.size, 0, rfl, fun i hi => ?_⟩⟩, fun j _ => sh_nm _ j⟩
  have h : ((w.alloc (.cells #[.int .u64 1, .int .u64 3, .int .u64 6, .int .u64 6] 54)).alloc (.cells #[.int .u64 2, .int .u64 0, .int .u64 0, .int .u64 0, .int .u64 0, .int .u64 0, .int .u64 0, .int .u64 0, .bool false, .string ⟨#[]⟩, .string ⟨#[]⟩, .string ⟨#[]⟩, .slice (some ⟨w.heap.size, 0, none⟩) 2 2] 27)).heap[w.heap.size]? = some (.cells #[.int .u64 1, .int .u64 3, .int .u64 6, .int .u64 6] 54) := (Below.heap_alloc _ _ _ (by simp)).trans (World.alloc_heap_new w _)
  have hi2 : i = 0 ∨ i = 1 := by have : (ints shR).length = 2 := rfl; omega
  rcases hi2 with rfl | rfl
  · exact ⟨Lib.cell_of_heap h 0, Lib.cell_of_heap h 1⟩
  · exact ⟨Lib.cell_of_heap h 2, Lib.cell_of_heap h 3⟩
set_option maxHeartbeats 8000000 in
theorem shown_any (w : World) (ht : Tab w) : Calls Tryd.prog 5 #[] w fun e w' => e = .returned (.bool true) ∧ Below w.heap.size w w' := by
  have HB1 : Hid (Below w.heap.size w ((w.alloc (.cells #[.int .u64 1, .int .u64 3, .int .u64 6, .int .u64 6] 54)).alloc (.cells #[.int .u64 2, .int .u64 0, .int .u64 0, .int .u64 0, .int .u64 0, .int .u64 0, .int .u64 0, .int .u64 0, .bool false, .string ⟨#[]⟩, .string ⟨#[]⟩, .string ⟨#[]⟩, .slice (some ⟨w.heap.size, 0, none⟩) 2 2] 27))) := Lib.hid (((Below.refl _ _).alloc (Nat.le_refl _) _).alloc (by simp) _)
  have HT1 := Lib.hid (ht.below HB1.out ht.lt)
  have HFit := Lib.hid (sh_fit w)
  have HX1 : Hid (((w.alloc (.cells #[.int .u64 1, .int .u64 3, .int .u64 6, .int .u64 6] 54)).alloc (.cells #[.int .u64 2, .int .u64 0, .int .u64 0, .int .u64 0, .int .u64 0, .int .u64 0, .int .u64 0, .int .u64 0, .bool false, .string ⟨#[]⟩, .string ⟨#[]⟩, .string ⟨#[]⟩, .slice (some ⟨w.heap.size, 0, none⟩) 2 2] 27)).heap[w.heap.size + 1]? = some (.cells #[.int .u64 2, .int .u64 0, .int .u64 0, .int .u64 0, .int .u64 0, .int .u64 0, .int .u64 0, .int .u64 0, .bool false, .string ⟨#[]⟩, .string ⟨#[]⟩, .string ⟨#[]⟩, .slice (some ⟨w.heap.size, 0, none⟩) 2 2] 27)) := Lib.hid (by
    have := World.alloc_heap_new (w.alloc (.cells #[.int .u64 1, .int .u64 3, .int .u64 6, .int .u64 6] 54)) (.cells #[.int .u64 2, .int .u64 0, .int .u64 0, .int .u64 0, .int .u64 0, .int .u64 0, .int .u64 0, .int .u64 0, .bool false, .string ⟨#[]⟩, .string ⟨#[]⟩, .string ⟨#[]⟩, .slice (some ⟨w.heap.size, 0, none⟩) 2 2] 27)
    rwa [World.size_alloc] at this)
  have CP : Hid (Calls Tryd.prog 14 #[.agg #[.int .u64 2, .int .u64 0, .int .u64 0, .int .u64 0, .int .u64 0, .int .u64 0, .int .u64 0, .int .u64 0, .bool false, .string ⟨#[]⟩, .string ⟨#[]⟩, .string ⟨#[]⟩, .slice (some ⟨w.heap.size, 0, none⟩) 2 2]] ((w.alloc (.cells #[.int .u64 1, .int .u64 3, .int .u64 6, .int .u64 6] 54)).alloc (.cells #[.int .u64 2, .int .u64 0, .int .u64 0, .int .u64 0, .int .u64 0, .int .u64 0, .int .u64 0, .int .u64 0, .bool false, .string ⟨#[]⟩, .string ⟨#[]⟩, .string ⟨#[]⟩, .slice (some ⟨w.heap.size, 0, none⟩) 2 2] 27)) fun e w' => e = .returned (.tuple #[.string ⟨#[2, 6, 0, 1, 0, 1, 2]⟩, .int .i64 0]) ∧ Below ((w.alloc (.cells #[.int .u64 1, .int .u64 3, .int .u64 6, .int .u64 6] 54)).alloc (.cells #[.int .u64 2, .int .u64 0, .int .u64 0, .int .u64 0, .int .u64 0, .int .u64 0, .int .u64 0, .int .u64 0, .bool false, .string ⟨#[]⟩, .string ⟨#[]⟩, .string ⟨#[]⟩, .slice (some ⟨w.heap.size, 0, none⟩) 2 2] 27)).heap.size ((w.alloc (.cells #[.int .u64 1, .int .u64 3, .int .u64 6, .int .u64 6] 54)).alloc (.cells #[.int .u64 2, .int .u64 0, .int .u64 0, .int .u64 0, .int .u64 0, .int .u64 0, .int .u64 0, .int .u64 0, .bool false, .string ⟨#[]⟩, .string ⟨#[]⟩, .string ⟨#[]⟩, .slice (some ⟨w.heap.size, 0, none⟩) 2 2] 27)) w') := Lib.hid (by
    have h := put_yes 2 (shF ⟨w.heap.size, 0, none⟩) shR ((w.alloc (.cells #[.int .u64 1, .int .u64 3, .int .u64 6, .int .u64 6] 54)).alloc (.cells #[.int .u64 2, .int .u64 0, .int .u64 0, .int .u64 0, .int .u64 0, .int .u64 0, .int .u64 0, .int .u64 0, .bool false, .string ⟨#[]⟩, .string ⟨#[]⟩, .string ⟨#[]⟩, .slice (some ⟨w.heap.size, 0, none⟩) 2 2] 27)) HT1.out HFit.out (sh_may _)
    rw [sh_put] at h
    exact h)
  have CG : Hid (∀ W, Tab W → Calls Tryd.prog 6 #[.string ⟨#[2, 6, 0, 1, 0, 1, 2, 1]⟩] W fun e w' => Below W.heap.size W w' ∧ ∃ (sa : Option Addr) (sc : Nat), Rd w' (.slice sa 2 sc) (ints shR) ∧ e = .returned (.tuple #[.agg #[.int .u64 2, .int .u64 0, .int .u64 0, .int .u64 0, .int .u64 0, .int .u64 0, .int .u64 0, .int .u64 0, .bool false, .string ⟨#[]⟩, .string ⟨#[]⟩, .string ⟨#[]⟩, .slice sa 2 sc], .string ⟨#[1]⟩, .int .i64 0])) := Lib.hid (fun W ht => by
    have h := get_any [2, 6, 0, 1, 0, 1, 2, 1] W ht (by decide)
    rw [sh_get ⟨0, 0, none⟩] at h
    refine h.mono ?_
    rintro e w' ⟨h1, ⟨sa, sn, sc⟩, h2, h3, h4, h5⟩
    have h2 : sn = 2 := h2
    subst h2
    exact ⟨h1, sa, sc, h3, h5⟩)
  have CS : Hid (∀ (sa : Option Addr) (sc : Nat) W, Rd W (.slice (some ⟨w.heap.size, 0, none⟩) 2 2) (ints shR) → Rd W (.slice sa 2 sc) (ints shR) → Calls Tryd.prog 16 #[.agg #[.int .u64 2, .int .u64 0, .int .u64 0, .int .u64 0, .int .u64 0, .int .u64 0, .int .u64 0, .int .u64 0, .bool false, .string ⟨#[]⟩, .string ⟨#[]⟩, .string ⟨#[]⟩, .slice (some ⟨w.heap.size, 0, none⟩) 2 2], .agg #[.int .u64 2, .int .u64 0, .int .u64 0, .int .u64 0, .int .u64 0, .int .u64 0, .int .u64 0, .int .u64 0, .bool false, .string ⟨#[]⟩, .string ⟨#[]⟩, .string ⟨#[]⟩, .slice sa 2 sc]] W fun e w' => e = .returned (.bool true) ∧ Below W.heap.size W w') := Lib.hid (fun sa sc W h1 h2 => by
    have h := same_any (shF ⟨w.heap.size, 0, none⟩) { cn (shF ⟨w.heap.size, 0, none⟩) 2 with set := ⟨sa, 2, sc⟩ } (ints shR) (ints shR) W (by decide) (by decide) h1 h2
    rw [sh_same] at h
    exact h)
  have CE : Hid (∀ (sa : Option Addr) (sc : Nat) W, Calls Tryd.prog 17 #[.agg #[.int .u64 2, .int .u64 0, .int .u64 0, .int .u64 0, .int .u64 0, .int .u64 0, .int .u64 0, .int .u64 0, .bool false, .string ⟨#[]⟩, .string ⟨#[]⟩, .string ⟨#[]⟩, .slice sa 2 sc]] W fun e w' => e = .returned (.bool false) ∧ Below W.heap.size W w') := Lib.hid (fun sa sc W => elicits_any { cn (shF ⟨w.heap.size, 0, none⟩) 2 with set := ⟨sa, 2, sc⟩ } W)
  clear ht
  go_enter Tryd.func5, Tryd.ntmps5
  go_wp2_with fail
  with_reducible refine CP.out.mono ?_
  rintro e w1 ⟨rfl, hb⟩
  have HB2 := Lib.hid (HB1.out.trans (hb.mono HB1.out.size))
  have HT2 := Lib.hid (HT1.out.below hb HT1.out.lt)
  have HR2 := Lib.hid (HFit.out.rd.below hb)
  have hlt1 : w.heap.size + 1 < ((w.alloc (.cells #[.int .u64 1, .int .u64 3, .int .u64 6, .int .u64 6] 54)).alloc (.cells #[.int .u64 2, .int .u64 0, .int .u64 0, .int .u64 0, .int .u64 0, .int .u64 0, .int .u64 0, .int .u64 0, .bool false, .string ⟨#[]⟩, .string ⟨#[]⟩, .string ⟨#[]⟩, .slice (some ⟨w.heap.size, 0, none⟩) 2 2] 27)).heap.size := by simp
  have HX2 := Lib.hid ((hb.block _ hlt1).trans HX1.out)
  clear hb hlt1
  go_wp2_with fail
  refine (CG.out _ HT2.out).mono ?_
  rintro e w2 ⟨hb, sa, sc, hrd, rfl⟩
  have HB3 := Lib.hid (HB2.out.trans (hb.mono HB2.out.size))
  have hx3 := (hb.block _ (Array.getElem?_eq_some_iff.1 HX2.out).1).trans HX2.out
  have HBA : Hid (Below w2.heap.size w2 (w2.alloc (.cells #[.int .u64 2, .int .u64 0, .int .u64 0, .int .u64 0, .int .u64 0, .int .u64 0, .int .u64 0, .int .u64 0, .bool false, .string ⟨#[]⟩, .string ⟨#[]⟩, .string ⟨#[]⟩, .slice sa 2 sc] 27))) := Lib.hid ((Below.refl _ _).alloc (Nat.le_refl _) _)
  have HR3 := Lib.hid ((HR2.out.below hb).below HBA.out)
  have HG3 := Lib.hid (hrd.below HBA.out)
  have hlt2 := (Array.getElem?_eq_some_iff.1 hx3).1
  have hx4 := (HBA.out.block _ hlt2).trans hx3
  have HY4 : Hid ((w2.alloc (.cells #[.int .u64 2, .int .u64 0, .int .u64 0, .int .u64 0, .int .u64 0, .int .u64 0, .int .u64 0, .int .u64 0, .bool false, .string ⟨#[]⟩, .string ⟨#[]⟩, .string ⟨#[]⟩, .slice sa 2 sc] 27)).heap[w2.heap.size]? = some (.cells #[.int .u64 2, .int .u64 0, .int .u64 0, .int .u64 0, .int .u64 0, .int .u64 0, .int .u64 0, .int .u64 0, .bool false, .string ⟨#[]⟩, .string ⟨#[]⟩, .string ⟨#[]⟩, .slice sa 2 sc] 27)) := Lib.hid (World.alloc_heap_new w2 _)
  have a0 : w2.cell? ⟨w.heap.size + 1, 0, none⟩ = some (.int .u64 2) := Lib.cell_of_heap hx3 0
  have a1 : w2.cell? ⟨w.heap.size + 1, 1, none⟩ = some (.int .u64 0) := Lib.cell_of_heap hx3 1
  have a2 : w2.cell? ⟨w.heap.size + 1, 2, none⟩ = some (.int .u64 0) := Lib.cell_of_heap hx3 2
  have a3 : w2.cell? ⟨w.heap.size + 1, 3, none⟩ = some (.int .u64 0) := Lib.cell_of_heap hx3 3
  have a4 : w2.cell? ⟨w.heap.size + 1, 4, none⟩ = some (.int .u64 0) := Lib.cell_of_heap hx3 4
  have a5 : w2.cell? ⟨w.heap.size + 1, 5, none⟩ = some (.int .u64 0) := Lib.cell_of_heap hx3 5
  have a6 : w2.cell? ⟨w.heap.size + 1, 6, none⟩ = some (.int .u64 0) := Lib.cell_of_heap hx3 6
  have a7 : w2.cell? ⟨w.heap.size + 1, 7, none⟩ = some (.int .u64 0) := Lib.cell_of_heap hx3 7
  have a8 : w2.cell? ⟨w.heap.size + 1, 8, none⟩ = some (.bool false) := Lib.cell_of_heap hx3 8
  have a9 : w2.cell? ⟨w.heap.size + 1, 9, none⟩ = some (.string ⟨#[]⟩) := Lib.cell_of_heap hx3 9
  have a10 : w2.cell? ⟨w.heap.size + 1, 10, none⟩ = some (.string ⟨#[]⟩) := Lib.cell_of_heap hx3 10
  have a11 : w2.cell? ⟨w.heap.size + 1, 11, none⟩ = some (.string ⟨#[]⟩) := Lib.cell_of_heap hx3 11
  have a12 : w2.cell? ⟨w.heap.size + 1, 12, none⟩ = some (.slice (some ⟨w.heap.size, 0, none⟩) 2 2) := Lib.cell_of_heap hx3 12

  have HB4 := Lib.hid (HB3.out.trans (HBA.out.mono HB3.out.size))
  have hne : ¬ w.heap.size + 1 = w2.heap.size := by omega
  clear hb hrd hx3 hx4
  go_wp2_with fail
  with_reducible refine (CS.out sa sc _ HR3.out HG3.out).mono ?_
  rintro e w4 ⟨rfl, hb⟩
  have hlt4 := (Array.getElem?_eq_some_iff.1 HY4.out).1
  have hy4 := (hb.block _ hlt4).trans HY4.out
  have b0 : w4.cell? ⟨w2.heap.size, 0, none⟩ = some (.int .u64 2) := Lib.cell_of_heap hy4 0
  have b1 : w4.cell? ⟨w2.heap.size, 1, none⟩ = some (.int .u64 0) := Lib.cell_of_heap hy4 1
  have b2 : w4.cell? ⟨w2.heap.size, 2, none⟩ = some (.int .u64 0) := Lib.cell_of_heap hy4 2
  have b3 : w4.cell? ⟨w2.heap.size, 3, none⟩ = some (.int .u64 0) := Lib.cell_of_heap hy4 3
  have b4 : w4.cell? ⟨w2.heap.size, 4, none⟩ = some (.int .u64 0) := Lib.cell_of_heap hy4 4
  have b5 : w4.cell? ⟨w2.heap.size, 5, none⟩ = some (.int .u64 0) := Lib.cell_of_heap hy4 5
  have b6 : w4.cell? ⟨w2.heap.size, 6, none⟩ = some (.int .u64 0) := Lib.cell_of_heap hy4 6
  have b7 : w4.cell? ⟨w2.heap.size, 7, none⟩ = some (.int .u64 0) := Lib.cell_of_heap hy4 7
  have b8 : w4.cell? ⟨w2.heap.size, 8, none⟩ = some (.bool false) := Lib.cell_of_heap hy4 8
  have b9 : w4.cell? ⟨w2.heap.size, 9, none⟩ = some (.string ⟨#[]⟩) := Lib.cell_of_heap hy4 9
  have b10 : w4.cell? ⟨w2.heap.size, 10, none⟩ = some (.string ⟨#[]⟩) := Lib.cell_of_heap hy4 10
  have b11 : w4.cell? ⟨w2.heap.size, 11, none⟩ = some (.string ⟨#[]⟩) := Lib.cell_of_heap hy4 11
  have b12 : w4.cell? ⟨w2.heap.size, 12, none⟩ = some (.slice sa 2 sc) := Lib.cell_of_heap hy4 12

  have HB5 := Lib.hid (HB4.out.trans (hb.mono HB4.out.size))
  clear hb hy4 hlt4
  go_wp2_with fail
  with_reducible refine (CE.out sa sc _).mono ?_
  rintro e w5 ⟨rfl, hb⟩
  have HB6 := Lib.hid (HB5.out.trans (hb.mono HB5.out.size))
  clear hb
  go_wp2
  go_ret
  exact ⟨rfl, HB6.out⟩
end
section
/-- What is got is a frame that may be, and what is behind it stands at the end. -/
theorem getN_is {l : List UInt8} {f : Frm} {rs : List (Nat × Nat)} {r : List UInt8} (h : getN l = some (f, rs, r)) : frmN l = some (f, rs, r) ∧ mayF f.kind.toNat f (ints rs) = true ∧ ∃ pre, l = pre ++ r ∧ pre ≠ [] := by
  obtain ⟨h1, h2⟩ := getN_frm h
  exact ⟨h1, h2, (frmN_read h1).suf⟩
theorem same_self (f : Frm) (sl tl : Sl) (l : List Ran) : sameF { f with set := sl } { f with set := tl } l l = true := by
  unfold sameF
  simp [numE, txtE]
end
section
theorem infoD : (Tryd.prog.info? 69).map (fun i => (i.zero, i.size, i.bytes)) = some (some (.agg #[.int .u64 0, .int .u64 0]), 2, 16) := by kernel_rfl
def flatI (l : List Ran) : List Value := l.flatMap fun p => [.int .u64 p.1, .int .u64 p.2]
theorem flatI_len (l : List Ran) : (flatI l).length = l.length * 2 := by
  induction l with
  | nil => rfl
  | cons x l ih => simp only [flatI, List.flatMap_cons, List.length_append, List.length_cons, List.length_nil] at ih ⊢; omega
theorem flatI_app (l m : List Ran) : flatI (l ++ m) = flatI l ++ flatI m := by simp [flatI]
theorem flatI_get : ∀ (l : List Ran) (i : Nat), i < l.length → (flatI l)[i * 2]? = some (.int .u64 (l.getD i (0, 0)).1) ∧ (flatI l)[i * 2 + 1]? = some (.int .u64 (l.getD i (0, 0)).2)
  | [], i, h => absurd h (Nat.not_lt_zero _)
  | x :: l, 0, _ => ⟨rfl, rfl⟩
  | x :: l, i + 1, h => by
    obtain ⟨h1, h2⟩ := flatI_get l i (by simpa using h)
    have e1 : (i + 1) * 2 = i * 2 + 1 + 1 := by omega
    rw [e1]
    exact ⟨h1, h2⟩
/-- A slice of the document's ranges of the call's own. -/
def OwnD (w : World) (B : Nat) (v : Value) (l : List Ran) : Prop := w.ownsRow B 69 2 v l.length (flatI l)
theorem push_D (w : World) (B : Nat) (v : Value) (l : List Ran) (p : Ran) (ty : TypeId) (h : OwnD w B v l) (hl : l.length ≤ 1000) (hb : B ≤ w.heap.size) :
    ∃ v' w', (Builtin.append_ #[32, 32] ty #[v, .slice (some ⟨w.heap.size, 0, none⟩) 1 1]).run Tryd.prog (w.alloc (.cells #[.int .u64 p.1, .int .u64 p.2] 69)).drew = .ok v' w' ∧ OwnD w' B v' (l ++ [p]) ∧ Below B w w' ∧ (∀ K, K < w.heap.size → K ≠ v.ownBlock.getD w.heap.size → w'.heap[K]? = w.heap[K]?) := by
  obtain ⟨i0, hi, hz0, hz1, hz2⟩ := info_parts infoD
  have ho : (w.alloc (.cells #[.int .u64 p.1, .int .u64 p.2] 69)).drew.ownsRow B 69 2 v l.length (flatI l) := World.ownsRow.alloc h (.cells #[.int .u64 p.1, .int .u64 p.2] 69)
  obtain ⟨v', w', hr, h1, h2, h3⟩ := run_append_own (P := Tryd.prog) (w.alloc (.cells #[.int .u64 p.1, .int .u64 p.2] 69)).drew B 32 ty 69 i0 (.agg #[.int .u64 0, .int .u64 0]) 2 16 Tryd.underlying32 hi hz0 hz1 hz2 rfl (by decide) _ l.length (flatI l) ho ⟨w.heap.size, 0, none⟩ 1 1 [.int .u64 p.1, .int .u64 p.2] rfl
    (by
      intro j u hu
      have e : (⟨w.heap.size, 0, none⟩ : Addr).add j = ⟨w.heap.size, j, none⟩ := by unfold Addr.add; split <;> simp_all
      have hn : (w.alloc (.cells #[.int .u64 p.1, .int .u64 p.2] 69)).drew.heap[w.heap.size]? = some (.cells #[.int .u64 p.1, .int .u64 p.2] 69) := World.alloc_heap_new w _
      rw [e, Lib.cell_of_heap hn j, ← hu]
      simp) (by intro u hu; simp only [List.mem_cons, List.not_mem_nil, or_false] at hu; rcases hu with rfl | rfl <;> rfl) (by unfold maxLen; omega) (by omega) (by simp; omega)
  have e : flatI (l ++ [p]) = flatI l ++ [.int .u64 p.1, .int .u64 p.2] := by rw [flatI_app]; rfl
  refine ⟨v', w', hr, ?_, ?_, ?_⟩
  · unfold OwnD
    rw [e, List.length_append]
    exact h1
  · exact (Below.drew ((Below.refl _ _).alloc hb _)).grown h2 (by simp; omega) (fun k hk => (World.ownsRow.lt h k hk).1)
  · intro K hK hne
    refine (h2.block K (by simp; omega) (fun he => ?_)).trans ?_
    · exact hne (by rw [← he]; rfl)
    · exact Lib.alloc_old w _ K hK
theorem OwnD.only {w w' : World} {B : Nat} {v : Value} {l : List Ran} {O : Nat → Prop} (h : OwnD w B v l) (ho : It.Only O w w') (hn : ∀ g, v.ownBlock = some g → ¬ O g) : OwnD w' B v l := by
  refine ⟨h.1, ?_⟩
  rcases h.2 with h2 | ⟨g, cap, cur, hv, hb, hg, r⟩
  · exact .inl h2
  · exact .inr ⟨g, cap, cur, hv, hb, ho.heap hg (hn g (by rw [hv]; rfl)), r⟩
theorem step_append_run {P : Program} {ops : Array Oper} {o : Oper} {a : Act} {w : World} {K : Act → World → Prop} {Q : Exit → Act → World → Prop} {E : Prop}
    (hg : o.guard = none) (s x : Operand) (t : TypeId) (hop : o.op = Op.call { callee := Callee.builtin Builtin.append, args := #[s, x], argTypes := #[t, t] })
    (vs vx : Value) (hs : a.eval s = vs) (hx : a.eval x = vx) {v' : Value} {w' : World} (hr : (Builtin.append_ #[t, t] o.type #[vs, vx]).run P w = .ok v' w') (hK : K (a.put o.dst v') w') :
    if Region.wanted o (yielded ops a.tmps) = true then Oper.wp P o a w K Q else E := by
  have hw : Region.wanted o (yielded ops a.tmps) = true := by simp [Region.wanted, hg]
  rw [if_pos hw]
  unfold Oper.wp
  simp [execOp, hop, resolve, invoke, builtin, hs, hx, hr, Result.andThen]
  exact hK
/-- Between two rounds. -/
structure ItsI (f : Frm) (l : List Ran) (w : World) (i : Nat) (v : Value) (W : World) : Prop where
  o : W.heap[w.heap.size + 1 + 1]? = some (.cells #[.int .u64 f.kind, .int .u64 f.id, .int .u64 f.off, .int .u64 f.max, .int .u64 f.code, .int .u64 f.seq, .int .u64 f.prior, .int .u64 f.delay, .bool f.fin, .string ⟨f.data.toArray⟩, .string ⟨f.cid.toArray⟩, .string ⟨f.token.toArray⟩, v] 34 (0, 0))
  own : OwnD W (w.heap.size + 3) v (l.take i)
  b : FrB w.heap.size f W
  z : W.heap[w.heap.size + 1]? = some (.cells #[.int .u64 0, .int .u64 0, .int .u64 0, .int .u64 0, .int .u64 0, .int .u64 0, .int .u64 0, .int .u64 0, .bool false, .string ⟨#[]⟩, .string ⟨#[]⟩, .string ⟨#[]⟩, .slice none 0 0] 34 (0, 0))
  bel : Below w.heap.size w W
  sz : w.heap.size + 3 ≤ W.heap.size
theorem its_begin (f : Frm) (l : List Ran) (w : World) : ItsI f l w 0 (.slice none 0 0) (((w.alloc (.cells #[.int .u64 f.kind, .int .u64 f.id, .int .u64 f.off, .int .u64 f.max, .int .u64 f.code, .int .u64 f.seq, .int .u64 f.prior, .int .u64 f.delay, .bool f.fin, .string ⟨f.data.toArray⟩, .string ⟨f.cid.toArray⟩, .string ⟨f.token.toArray⟩, .slice f.set.a f.set.n f.set.c] 27 (0, 0))).alloc (.cells #[.int .u64 0, .int .u64 0, .int .u64 0, .int .u64 0, .int .u64 0, .int .u64 0, .int .u64 0, .int .u64 0, .bool false, .string ⟨#[]⟩, .string ⟨#[]⟩, .string ⟨#[]⟩, .slice none 0 0] 34 (0, 0))).alloc (.cells #[.int .u64 f.kind, .int .u64 f.id, .int .u64 f.off, .int .u64 f.max, .int .u64 f.code, .int .u64 f.seq, .int .u64 f.prior, .int .u64 f.delay, .bool f.fin, .string ⟨f.data.toArray⟩, .string ⟨f.cid.toArray⟩, .string ⟨f.token.toArray⟩, .slice none 0 0] 34 (0, 0))) := by
  refine ⟨?_, ⟨by rfl, .inl ⟨rfl, rfl⟩⟩, ?_, ?_, ?_, by simp⟩
  · have := World.alloc_heap_new ((w.alloc (.cells #[.int .u64 f.kind, .int .u64 f.id, .int .u64 f.off, .int .u64 f.max, .int .u64 f.code, .int .u64 f.seq, .int .u64 f.prior, .int .u64 f.delay, .bool f.fin, .string ⟨f.data.toArray⟩, .string ⟨f.cid.toArray⟩, .string ⟨f.token.toArray⟩, .slice f.set.a f.set.n f.set.c] 27 (0, 0))).alloc (.cells #[.int .u64 0, .int .u64 0, .int .u64 0, .int .u64 0, .int .u64 0, .int .u64 0, .int .u64 0, .int .u64 0, .bool false, .string ⟨#[]⟩, .string ⟨#[]⟩, .string ⟨#[]⟩, .slice none 0 0] 34 (0, 0))) (.cells #[.int .u64 f.kind, .int .u64 f.id, .int .u64 f.off, .int .u64 f.max, .int .u64 f.code, .int .u64 f.seq, .int .u64 f.prior, .int .u64 f.delay, .bool f.fin, .string ⟨f.data.toArray⟩, .string ⟨f.cid.toArray⟩, .string ⟨f.token.toArray⟩, .slice none 0 0] 34 (0, 0))
    rwa [World.size_alloc, World.size_alloc] at this
  · exact (Below.heap_alloc _ _ _ (by simp; omega)).trans ((Below.heap_alloc _ _ _ (by simp)).trans (World.alloc_heap_new w _))
  · refine (Below.heap_alloc _ _ _ (by simp)).trans ?_
    have := World.alloc_heap_new (w.alloc (.cells #[.int .u64 f.kind, .int .u64 f.id, .int .u64 f.off, .int .u64 f.max, .int .u64 f.code, .int .u64 f.seq, .int .u64 f.prior, .int .u64 f.delay, .bool f.fin, .string ⟨f.data.toArray⟩, .string ⟨f.cid.toArray⟩, .string ⟨f.token.toArray⟩, .slice f.set.a f.set.n f.set.c] 27 (0, 0))) (.cells #[.int .u64 0, .int .u64 0, .int .u64 0, .int .u64 0, .int .u64 0, .int .u64 0, .int .u64 0, .int .u64 0, .bool false, .string ⟨#[]⟩, .string ⟨#[]⟩, .string ⟨#[]⟩, .slice none 0 0] 34 (0, 0))
    rwa [World.size_alloc] at this
  · exact (((Below.refl _ _).alloc (Nat.le_refl _) _).alloc (by simp) _).alloc (by simp; omega) _
/-- A block that holds one of the document's frames. -/
def FrD (b : Nat) (f : Frm) (w : World) : Prop := w.heap[b]? = some (.cells #[.int .u64 f.kind, .int .u64 f.id, .int .u64 f.off, .int .u64 f.max, .int .u64 f.code, .int .u64 f.seq, .int .u64 f.prior, .int .u64 f.delay, .bool f.fin, .string ⟨f.data.toArray⟩, .string ⟨f.cid.toArray⟩, .string ⟨f.token.toArray⟩, .slice f.set.a f.set.n f.set.c] 34 (0, 0))
theorem FrD.set0 {b : Nat} {f : Frm} {w : World} (h : FrD b f w) (v : Int) : FrD b { f with kind := v } (w.setCell ⟨b, 0, none⟩ (.int .u64 v)) := Joins.block_setCell (i := 0) h _
theorem FrD.set1 {b : Nat} {f : Frm} {w : World} (h : FrD b f w) (v : Int) : FrD b { f with id := v } (w.setCell ⟨b, 1, none⟩ (.int .u64 v)) := Joins.block_setCell (i := 1) h _
theorem FrD.set2 {b : Nat} {f : Frm} {w : World} (h : FrD b f w) (v : Int) : FrD b { f with off := v } (w.setCell ⟨b, 2, none⟩ (.int .u64 v)) := Joins.block_setCell (i := 2) h _
theorem FrD.set3 {b : Nat} {f : Frm} {w : World} (h : FrD b f w) (v : Int) : FrD b { f with max := v } (w.setCell ⟨b, 3, none⟩ (.int .u64 v)) := Joins.block_setCell (i := 3) h _
theorem FrD.set4 {b : Nat} {f : Frm} {w : World} (h : FrD b f w) (v : Int) : FrD b { f with code := v } (w.setCell ⟨b, 4, none⟩ (.int .u64 v)) := Joins.block_setCell (i := 4) h _
theorem FrD.set5 {b : Nat} {f : Frm} {w : World} (h : FrD b f w) (v : Int) : FrD b { f with seq := v } (w.setCell ⟨b, 5, none⟩ (.int .u64 v)) := Joins.block_setCell (i := 5) h _
theorem FrD.set6 {b : Nat} {f : Frm} {w : World} (h : FrD b f w) (v : Int) : FrD b { f with prior := v } (w.setCell ⟨b, 6, none⟩ (.int .u64 v)) := Joins.block_setCell (i := 6) h _
theorem FrD.set7 {b : Nat} {f : Frm} {w : World} (h : FrD b f w) (v : Int) : FrD b { f with delay := v } (w.setCell ⟨b, 7, none⟩ (.int .u64 v)) := Joins.block_setCell (i := 7) h _
theorem FrD.set8 {b : Nat} {f : Frm} {w : World} (h : FrD b f w) (v : Bool) : FrD b { f with fin := v } (w.setCell ⟨b, 8, none⟩ (.bool v)) := Joins.block_setCell (i := 8) h _
theorem FrD.set9 {b : Nat} {f : Frm} {w : World} (h : FrD b f w) (v : List UInt8) : FrD b { f with data := v } (w.setCell ⟨b, 9, none⟩ (.string ⟨v.toArray⟩)) := Joins.block_setCell (i := 9) h _
theorem FrD.set10 {b : Nat} {f : Frm} {w : World} (h : FrD b f w) (v : List UInt8) : FrD b { f with cid := v } (w.setCell ⟨b, 10, none⟩ (.string ⟨v.toArray⟩)) := Joins.block_setCell (i := 10) h _
theorem FrD.set11 {b : Nat} {f : Frm} {w : World} (h : FrD b f w) (v : List UInt8) : FrD b { f with token := v } (w.setCell ⟨b, 11, none⟩ (.string ⟨v.toArray⟩)) := Joins.block_setCell (i := 11) h _
theorem FrD.set12 {b : Nat} {f : Frm} {w : World} (h : FrD b f w) (v : Sl) : FrD b { f with set := v } (w.setCell ⟨b, 12, none⟩ (.slice v.a v.n v.c)) := Joins.block_setCell (i := 12) h _
theorem rstF_frd {N : Nat} {f : Frm} {W : World} (h : FrD N f W) (g : Frm) : FrD N g (rstF N g W) := (((((((((((((h.set0 g.kind).set1 g.id).set2 g.off).set3 g.max).set4 g.code).set5 g.seq).set6 g.prior).set7 g.delay).set8 g.fin).set9 g.data).set10 g.cid).set11 g.token).set12 g.set)
theorem OwnD.rd {W : World} {B : Nat} {va : Option Addr} {vn vc : Nat} {l : List Ran} (h : OwnD W B (.slice va vn vc) l) : vn = l.length ∧ Rd W (.slice va l.length vc) l := by
  have h0 := h
  rcases h.2 with ⟨hv, hz⟩ | ⟨g, cap, cur, hv, hb, hg, hnc, r⟩
  · have hl : l = [] := List.eq_nil_of_length_eq_zero hz
    subst hl
    injection hv with e1 e2 e3
    exact ⟨e2, ⟨va, vc, rfl, Nat.zero_le _, fun h => absurd rfl h⟩⟩
  · injection hv with e1 e2 e3
    subst e1 e2 e3
    refine ⟨rfl, ⟨some ⟨g, 0, none⟩, vc, rfl, hnc, fun _ => ⟨g, 0, rfl, fun i hi => ?_⟩⟩⟩
    obtain ⟨f1, f2⟩ := flatI_get l i hi
    have hlen := flatI_len l
    rw [Nat.zero_add]
    exact ⟨(World.ownsRow.cellAt h0 (i * 2) (by omega)).trans f1, (World.ownsRow.cellAt h0 (i * 2 + 1) (by omega)).trans f2⟩
end
end Go.Proofs.YtfeecfdbncjmnaaDoor.Fm
