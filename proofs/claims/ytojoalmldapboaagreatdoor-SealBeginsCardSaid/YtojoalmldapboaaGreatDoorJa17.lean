/- The walks of layer 8: the mac of a key; the Mac of texts · The walks of layer 7: slices of bytes of the call's own. · The walks of layer 7: the document's powers, words turned, Join; what is bounded. · The walks of layer 7: what is bounded; the document's constants, its text with what stands behind it. -/
import Derived.Test.YtojoalmldapboaaGreatDoorJa16
import Derived.Deep.RegionHeld3
import Derived.Test.YtojoalmldapboaaGreatDoorJa11
import Derived.Laws.OwnMore
import Derived.Laws.BytesArg
import Derived.Lib.ConvBytes
import Derived.Laws.IdiomStrings
import Derived.Laws.Bits64
import Derived.Lib.AppendZeros
import Derived.Laws.Tables
import Derived.Lib.FrozenHead
namespace Go.Proofs.YtojoalmldapboaaGreatDoor.Kd
set_option maxRecDepth 20000
open Go.RowKit
open Go.Proofs.YtojoalmldapboaaGreatDoor.Dg
set_option linter.unusedVariables false
set_option linter.unusedSimpArgs false

theorem rep1 (x : UInt8) (n : Nat) : Lib.repeatL [x] n = List.replicate n x := by
  induction n with
  | zero => rfl
  | succ n ih => rw [Lib.repeatL, ih, List.replicate_succ]; rfl
theorem rep_one (x : UInt8) (Z : Nat) (w : World) (hZ : Z ≤ 1000) : Calls Tryz.prog 105 #[.string ⟨#[x]⟩, .int .i64 Z] w fun e w' => e = .returned (.string ⟨(List.replicate Z x).toArray⟩) ∧ Below w.heap.size w w' := by
  have h := Tryz.strings_Repeat ⟨#[x]⟩ Z w (by omega) (by show 1 * Z ≤ _; omega)
  rw [show (⟨#[x]⟩ : ByteArray).data.toList = [x] from rfl, rep1] at h
  exact h
theorem two_call {b q r : Nat} {v u : Value} {w w' : World} (h : w.cell? ⟨b, q, none⟩ = some v ∧ w.cell? ⟨b, r, none⟩ = some u) (hb : Below w.heap.size w w') : w'.cell? ⟨b, q, none⟩ = some v ∧ w'.cell? ⟨b, r, none⟩ = some u :=
  ⟨(hb.cell (p := ⟨b, q, none⟩) (World.block_lt_of_cell? w _ h.1)).trans h.1, (hb.cell (p := ⟨b, r, none⟩) (World.block_lt_of_cell? w _ h.2)).trans h.2⟩
/-- The sum of two texts, laid in a new row. -/
theorem sum_two (x y : ByteArray) (l : List UInt8) (hl : x.data.toList ++ y.data.toList = l) (hn : l.length ≤ 100000) (W : World) :
    Calls Tryz.prog 108 #[.slice (some ⟨W.heap.size, 0, none⟩) 2 2] (W.alloc (.cells #[.string x, .string y] 9)) fun e w' => e = .returned (.string ⟨(sha l).toArray⟩) ∧ Below W.heap.size W w' := by
  have hc : cat [x, y] = l := by rw [← hl]; simp [cat]
  have h := sum_row W.heap.size 0 2 [x, y] _ (rows_made W _ _ rfl 9) (by show 2 ≤ _; omega) (Nat.le_refl _) (by rw [hc]; exact hn)
  rw [hc] at h
  exact h.mono (by rintro e w' ⟨h1, h2⟩; exact ⟨h1, ((Below.refl _ _).alloc (Nat.le_refl _) _).trans (h2.mono (by simp))⟩)
theorem sum_one (x : ByteArray) (hn : x.size ≤ 100000) (W : World) (g : Nat) (hg : g = W.heap.size) :
    Calls Tryz.prog 108 #[.slice (some ⟨g, 0, none⟩) 1 1] (W.alloc (.cells #[.string x] 9)) fun e w' => e = .returned (.string ⟨(sha x.data.toList).toArray⟩) ∧ Below W.heap.size W w' := by
  subst hg
  have hc : cat [x] = x.data.toList := by simp [cat]
  have h := sum_row W.heap.size 0 1 [x] _ (rows_made W _ _ rfl 9) (by show 1 ≤ _; omega) (Nat.le_refl _) (by rw [hc]; simpa using hn)
  rw [hc] at h
  exact h.mono (by rintro e w' ⟨h1, h2⟩; exact ⟨h1, ((Below.refl _ _).alloc (Nat.le_refl _) _).trans (h2.mono (by simp))⟩)

theorem two_put {w : World} {b : Nat} {T : TypeId} {v0 v1 x y : Value} (h : w.heap[b]? = some (.cells #[v0, v1] T (0, 0))) : ((w.setCell ⟨b, 0, none⟩ x).setCell ⟨b, 1, none⟩ y).heap[b]? = some (.cells #[x, y] T (0, 0)) := by
  have h0 := Joins.block_setCell (i := 0) h x
  have h1 := Joins.block_setCell (i := 1) h0 y
  rw [h1]
  simp
theorem inf_mac : (Tryz.prog.info? 80).map (·.size) = some 2 := by kernel_rfl
set_option maxHeartbeats 4000000 in
theorem macOf_list (l : List UInt8) (w : World) (hl : l.length ≤ 100000) :
    Calls Tryz.prog 75 #[.string ⟨l.toArray⟩] w fun e w' => e = .returned (.agg #[.string ⟨(ko l).toArray⟩, .string ⟨(ki l).toArray⟩]) ∧ Below w.heap.size w w' := by
  have CS := Lib.hid (fun W g hg => sum_one ⟨l.toArray⟩ hl W g hg)
  obtain ⟨K, hK⟩ : ∃ K, kl l = K := ⟨_, rfl⟩
  have hm := kl_len l
  rw [hK] at hm
  obtain ⟨m, hmm⟩ : ∃ m, K.length = m := ⟨_, rfl⟩
  rw [hmm] at hm
  obtain ⟨Z, hZ⟩ : ∃ Z, 64 - m = Z := ⟨_, rfl⟩
  have hZi : (64 : Int) - (m : Int) = (Z : Int) := by omega
  have hZw : IntKind.i64.wrap (Z : Int) = (Z : Int) := by rw [IntWalk.i64_in _ (by omega)]
  have C0 := Lib.hid (fun W => rep_one 0 Z W (by omega))
  have C1 : Hid (∀ W : World, Calls Tryz.prog 105 #[.string ⟨#[92]⟩, .int .i64 64] W fun e w' => e = .returned (.string ⟨(List.replicate 64 (92 : UInt8)).toArray⟩) ∧ Below W.heap.size W w') := Lib.hid (fun W => rep_one 92 64 W (by decide))
  have C2 : Hid (∀ W : World, Calls Tryz.prog 105 #[.string ⟨#[54]⟩, .int .i64 64] W fun e w' => e = .returned (.string ⟨(List.replicate 64 (54 : UInt8)).toArray⟩) ∧ Below W.heap.size W w') := Lib.hid (fun W => rep_one 54 64 W (by decide))
  obtain ⟨B, hB⟩ : ∃ B, kb l = B := ⟨_, rfl⟩
  have hBl : B.length = 64 := by rw [← hB]; exact kb_len l
  have hcat : (⟨K.toArray⟩ : ByteArray) ++ ⟨(List.replicate Z (0 : UInt8)).toArray⟩ = ⟨B.toArray⟩ := by
    rw [app_two, ← hB]
    unfold kb
    rw [hK, hmm, hZ]
  have hsz : (⟨K.toArray⟩ : ByteArray).size = m := hmm
  have hsz2 : (⟨(List.replicate Z (0 : UInt8)).toArray⟩ : ByteArray).size = Z := by show (List.replicate Z (0 : UInt8)).length = Z; simp
  have g1 : ¬ 9223372036854775807 < m + Z := by omega
  have X1 : Hid (∀ W : World, Calls Tryz.prog 33 #[.string ⟨B.toArray⟩, .string ⟨(List.replicate 64 (92 : UInt8)).toArray⟩] W fun e w' => e = .returned (.string ⟨(ko l).toArray⟩) ∧ Below W.heap.size W w') := Lib.hid (fun W => by
    have h := xor_any ⟨B.toArray⟩ ⟨(List.replicate 64 (92 : UInt8)).toArray⟩ W (by show B.length ≤ _; omega) (by show (List.replicate 64 _).length ≤ _; rw [List.length_replicate]; omega)
    rw [show (⟨B.toArray⟩ : ByteArray).data.toList = B from rfl, ← hB] at h
    rw [← hB]
    exact h)
  have X2 : Hid (∀ W : World, Calls Tryz.prog 33 #[.string ⟨B.toArray⟩, .string ⟨(List.replicate 64 (54 : UInt8)).toArray⟩] W fun e w' => e = .returned (.string ⟨(ki l).toArray⟩) ∧ Below W.heap.size W w') := Lib.hid (fun W => by
    have h := xor_any ⟨B.toArray⟩ ⟨(List.replicate 64 (54 : UInt8)).toArray⟩ W (by show B.length ≤ _; omega) (by show (List.replicate 64 _).length ≤ _; rw [List.length_replicate]; omega)
    rw [show (⟨B.toArray⟩ : ByteArray).data.toList = B from rfl, ← hB] at h
    rw [← hB]
    exact h)
  have hlsz : (⟨l.toArray⟩ : ByteArray).size = l.length := rfl
  generalize List.replicate Z (0 : UInt8) = r0 at *
  generalize List.replicate 64 (92 : UInt8) = r92 at *
  generalize List.replicate 64 (54 : UInt8) = r54 at *
  generalize ko l = KO at *
  generalize ki l = KI at *
  by_cases h64 : 64 < l.length
  · have hKs : K = sha l := by rw [← hK]; exact if_pos h64
    have h64i : (64 : Int) < (l.length : Int) := by omega
    subst hKs
    clear hK hmm hB hZ
    go_enter Tryz.func75, Tryz.ntmps75

    go_wp2_with fail
    with_reducible refine (CS.out (w.alloc (.cells #[.string ⟨#[]⟩, .string ⟨#[]⟩] 80)) _ ?_).mono ?_
    · simp
    rintro e w1 ⟨rfl, hb⟩
    have HB1 := Lib.hid (((Below.refl w.heap.size w).alloc (Nat.le_refl _) (.cells #[.string ⟨#[]⟩, .string ⟨#[]⟩] 80)).trans (hb.mono (by simp)))
    have hs1 := HB1.out.size
    have hlt1 : w.heap.size < w1.heap.size := by have := hb.size; simp at this; omega
    have HZ1 : Hid (w1.heap[w.heap.size]? = some (.cells #[.string ⟨#[]⟩, .string ⟨#[]⟩] 80 (0, 0))) := Lib.hid ((hb.block w.heap.size (by simp)).trans (heap_alloc_new w _))
    clear hb
    go_wp2_with fail
    with_reducible refine (C0.out _).mono ?_
    rintro e wA ⟨rfl, hb⟩
    have HBA := Lib.hid (HB1.out.trans (hb.mono hs1))
    have hsA := HBA.out.size
    have HZA := Lib.hid ((hb.block w.heap.size hlt1).trans HZ1.out)
    have hltA : w.heap.size < wA.heap.size := Nat.lt_of_lt_of_le hlt1 hb.size
    clear hb HB1 HZ1
    go_wp2_with fail
    with_reducible refine (C1.out _).mono ?_
    rintro e wB ⟨rfl, hb⟩
    have HBB := Lib.hid (HBA.out.trans (hb.mono hsA))
    have hsB := HBB.out.size
    have HZB := Lib.hid ((hb.block w.heap.size hltA).trans HZA.out)
    have hltB : w.heap.size < wB.heap.size := Nat.lt_of_lt_of_le hltA hb.size
    clear hb HBA HZA
    go_wp2_with fail
    with_reducible refine (X1.out _).mono ?_
    rintro e wC ⟨rfl, hb⟩
    have HBC := Lib.hid (HBB.out.trans (hb.mono hsB))
    have hsC := HBC.out.size
    have HZC := Lib.hid ((hb.block w.heap.size hltB).trans HZB.out)
    have hltC : w.heap.size < wC.heap.size := Nat.lt_of_lt_of_le hltB hb.size
    clear hb HBB HZB
    go_wp2_with fail
    with_reducible refine (C2.out _).mono ?_
    rintro e wD ⟨rfl, hb⟩
    have HBD := Lib.hid (HBC.out.trans (hb.mono hsC))
    have hsD := HBD.out.size
    have HZD := Lib.hid ((hb.block w.heap.size hltC).trans HZC.out)
    have hltD : w.heap.size < wD.heap.size := Nat.lt_of_lt_of_le hltC hb.size
    clear hb HBC HZC
    go_wp2_with fail
    with_reducible refine (X2.out _).mono ?_
    rintro e wE ⟨rfl, hb⟩
    have HBE := Lib.hid (HBD.out.trans (hb.mono hsD))
    have HZE := Lib.hid ((hb.block w.heap.size hltD).trans HZD.out)
    have hz0 : wE.cell? ⟨w.heap.size, 0, none⟩ = some (.string ⟨#[]⟩) := by rw [Lib.cell_of_heap HZE.out]; rfl
    have hz1 : wE.cell? ⟨w.heap.size, 1, none⟩ = some (.string ⟨#[]⟩) := by rw [Lib.cell_of_heap HZE.out]; rfl
    have hf : ∀ j, wE.frozen? ⟨w.heap.size, j, none⟩ = false := fun j => Lib.frozen_of_heap HZE.out j
    clear hb HBD HZD
    go_wp2_with fail
    exact bodyPost_ret (v := .agg #[.string ⟨KO.toArray⟩, .string ⟨KI.toArray⟩]) (results_cell_row Tryz.results75 _ _ w.heap.size _ _ _ _ rfl (two_put HZE.out) Tryz.underlying80 rfl inf_mac) rfl ⟨rfl, Below.setCell (p := ⟨w.heap.size, 1, none⟩) (Below.setCell (p := ⟨w.heap.size, 0, none⟩) HBE.out (Nat.le_refl _) _) (Nat.le_refl _) _⟩
  · have hKs : K = l := by rw [← hK]; exact if_neg h64
    have h64i : ¬ (64 : Int) < (l.length : Int) := by omega
    subst hKs
    clear hK hB hZ
    have HB1 := Lib.hid ((Below.refl w.heap.size w).alloc (Nat.le_refl _) (.cells #[.string ⟨#[]⟩, .string ⟨#[]⟩] 80))
    have hs1 := HB1.out.size
    have hlt1 : w.heap.size < (w.alloc (.cells #[.string ⟨#[]⟩, .string ⟨#[]⟩] 80)).heap.size := by simp
    have HZ1 : Hid ((w.alloc (.cells #[.string ⟨#[]⟩, .string ⟨#[]⟩] 80)).heap[w.heap.size]? = some (.cells #[.string ⟨#[]⟩, .string ⟨#[]⟩] 80 (0, 0))) := Lib.hid (heap_alloc_new w _)
    go_enter Tryz.func75, Tryz.ntmps75
    go_wp2_with fail
    with_reducible refine (C0.out _).mono ?_
    rintro e wA ⟨rfl, hb⟩
    have HBA := Lib.hid (HB1.out.trans (hb.mono hs1))
    have hsA := HBA.out.size
    have HZA := Lib.hid ((hb.block w.heap.size hlt1).trans HZ1.out)
    have hltA : w.heap.size < wA.heap.size := Nat.lt_of_lt_of_le hlt1 hb.size
    clear hb HB1 HZ1
    go_wp2_with fail
    with_reducible refine (C1.out _).mono ?_
    rintro e wB ⟨rfl, hb⟩
    have HBB := Lib.hid (HBA.out.trans (hb.mono hsA))
    have hsB := HBB.out.size
    have HZB := Lib.hid ((hb.block w.heap.size hltA).trans HZA.out)
    have hltB : w.heap.size < wB.heap.size := Nat.lt_of_lt_of_le hltA hb.size
    clear hb HBA HZA
    go_wp2_with fail
    with_reducible refine (X1.out _).mono ?_
    rintro e wC ⟨rfl, hb⟩
    have HBC := Lib.hid (HBB.out.trans (hb.mono hsB))
    have hsC := HBC.out.size
    have HZC := Lib.hid ((hb.block w.heap.size hltB).trans HZB.out)
    have hltC : w.heap.size < wC.heap.size := Nat.lt_of_lt_of_le hltB hb.size
    clear hb HBB HZB
    go_wp2_with fail
    with_reducible refine (C2.out _).mono ?_
    rintro e wD ⟨rfl, hb⟩
    have HBD := Lib.hid (HBC.out.trans (hb.mono hsC))
    have hsD := HBD.out.size
    have HZD := Lib.hid ((hb.block w.heap.size hltC).trans HZC.out)
    have hltD : w.heap.size < wD.heap.size := Nat.lt_of_lt_of_le hltC hb.size
    clear hb HBC HZC
    go_wp2_with fail
    with_reducible refine (X2.out _).mono ?_
    rintro e wE ⟨rfl, hb⟩
    have HBE := Lib.hid (HBD.out.trans (hb.mono hsD))
    have HZE := Lib.hid ((hb.block w.heap.size hltD).trans HZD.out)
    have hz0 : wE.cell? ⟨w.heap.size, 0, none⟩ = some (.string ⟨#[]⟩) := by rw [Lib.cell_of_heap HZE.out]; rfl
    have hz1 : wE.cell? ⟨w.heap.size, 1, none⟩ = some (.string ⟨#[]⟩) := by rw [Lib.cell_of_heap HZE.out]; rfl
    have hf : ∀ j, wE.frozen? ⟨w.heap.size, j, none⟩ = false := fun j => Lib.frozen_of_heap HZE.out j
    clear hb HBD HZD
    go_wp2_with fail
    exact bodyPost_ret (v := .agg #[.string ⟨KO.toArray⟩, .string ⟨KI.toArray⟩]) (results_cell_row Tryz.results75 _ _ w.heap.size _ _ _ _ rfl (two_put HZE.out) Tryz.underlying80 rfl inf_mac) rfl ⟨rfl, Below.setCell (p := ⟨w.heap.size, 1, none⟩) (Below.setCell (p := ⟨w.heap.size, 0, none⟩) HBE.out (Nat.le_refl _) _) (Nat.le_refl _) _⟩

set_option maxHeartbeats 4000000 in
theorem of_of (O I : ByteArray) (vs : Value) (l L : List UInt8) (w : World) (hO : O.size ≤ 100) (hI : I.size ≤ 100) (hl : l.length ≤ 50000) (hL : hm O.data.toList I.data.toList l = L)
    (CJ : Hid (∀ W : World, Below w.heap.size w W → Calls Tryz.prog 142 #[vs, .string ⟨#[]⟩] W fun e w' => e = .returned (.string ⟨l.toArray⟩) ∧ Below W.heap.size W w')) :
    Calls Tryz.prog 145 #[.agg #[.string O, .string I], vs] w fun e w' => e = .returned (.string ⟨L.toArray⟩) ∧ Below w.heap.size w w' := by
  have hOl : O.data.toList.length = O.size := by simp
  have hIl : I.data.toList.length = I.size := by simp
  have CS1 := Lib.hid (fun W => sum_two I ⟨l.toArray⟩ (I.data.toList ++ l) rfl (by rw [List.length_append, hIl]; omega) W)
  have CS2 : Hid (∀ W : World, Calls Tryz.prog 108 #[.slice (some ⟨W.heap.size, 0, none⟩) 2 2] (W.alloc (.cells #[.string O, .string ⟨(sha (I.data.toList ++ l)).toArray⟩] 9)) fun e w' => e = .returned (.string ⟨L.toArray⟩) ∧ Below W.heap.size W w') := Lib.hid (fun W => by
    rw [← hL]
    exact sum_two O ⟨(sha (I.data.toList ++ l)).toArray⟩ (O.data.toList ++ sha (I.data.toList ++ l)) rfl (by rw [List.length_append, hOl, sha_len]; omega) W)
  have HS0 : Hid ((w.alloc (.cells #[.string O, .string I] 80)).drew.cell? ⟨w.heap.size, 0, none⟩ = some (.string O) ∧ (w.alloc (.cells #[.string O, .string I] 80)).drew.cell? ⟨w.heap.size, 1, none⟩ = some (.string I)) := Lib.hid (by constructor <;> simp [go_sem])
  have HW0 : Hid (Below w.heap.size w (w.alloc (.cells #[.string O, .string I] 80)).drew) := Lib.hid (below_drew ((Below.refl _ _).alloc (Nat.le_refl _) _))
  clear hL hOl hIl
  generalize sha (I.data.toList ++ l) = Y at *
  go_enter Tryz.func145, Tryz.ntmps145
  go_wp2
  refine wp_region_noPanic ?_
  refine wp_region_held_drew (S := fun w' : World => w'.cell? ⟨w.heap.size, 0, none⟩ = some (.string O) ∧ w'.cell? ⟨w.heap.size, 1, none⟩ = some (.string I)) (by kernel_rfl) ?_ (fun hHeld => ?_)
  · exact HS0.out
  refine wpAnyH_take (i := 0) (v := ?_) rfl (by kernel_rfl) (by kernel_rfl) (by kernel_rfl) (fun _ _ _ h => h) (Or.inl ⟨by rfl, ?_⟩) (by assumption) ?_
  rotate_left
  · (intro w hSw; (obtain ⟨hS0, hS1⟩ := hSw); go_simp; (try with_reducible rfl))
  try simp only [Act.put, List.getElem_toArray, List.getElem_cons_zero, List.getElem_cons_succ, List.setIfInBounds_toArray, List.set_cons_zero, List.set_cons_succ]
  refine wpAnyH_take (i := 1) (v := ?_) rfl (by kernel_rfl) (by kernel_rfl) (by kernel_rfl) (fun _ _ _ h => h) (Or.inl ⟨by rfl, ?_⟩) (by assumption) ?_
  rotate_left
  · (intro w hSw; (obtain ⟨hS0, hS1⟩ := hSw); go_simp; (try with_reducible rfl))
  try simp only [Act.put, List.getElem_toArray, List.getElem_cons_zero, List.getElem_cons_succ, List.setIfInBounds_toArray, List.set_cons_zero, List.set_cons_succ]
  refine wpAnyH_take (i := 2) (v := ?_) rfl (by kernel_rfl) (by kernel_rfl) (by kernel_rfl) (fun _ _ _ h => h) (Or.inl ⟨by rfl, ?_⟩) (by assumption) ?_
  rotate_left
  · (intro w hSw; (obtain ⟨hS0, hS1⟩ := hSw); go_simp; (try with_reducible rfl))
  try simp only [Act.put, List.getElem_toArray, List.getElem_cons_zero, List.getElem_cons_succ, List.setIfInBounds_toArray, List.set_cons_zero, List.set_cons_succ]
  refine wpAnyH_take (i := 3) (v := ?_) rfl (by kernel_rfl) (by kernel_rfl) (by kernel_rfl) (fun _ _ _ h => h) (Or.inl ⟨by rfl, ?_⟩) (by assumption) ?_
  rotate_left
  · (intro w hSw; (obtain ⟨hS0, hS1⟩ := hSw); go_simp; (try with_reducible rfl))
  try simp only [Act.put, List.getElem_toArray, List.getElem_cons_zero, List.getElem_cons_succ, List.setIfInBounds_toArray, List.set_cons_zero, List.set_cons_succ]
  refine wpAnyH_take (i := 4) (v := ?_) rfl (by kernel_rfl) (by kernel_rfl) (by kernel_rfl) (fun _ _ _ h => h) (Or.inl ⟨by rfl, ?_⟩) (by assumption) ?_
  rotate_left
  · (intro w hSw; (obtain ⟨hS0, hS1⟩ := hSw); go_simp; (try with_reducible rfl))
  try simp only [Act.put, List.getElem_toArray, List.getElem_cons_zero, List.getElem_cons_succ, List.setIfInBounds_toArray, List.set_cons_zero, List.set_cons_succ]
  refine wpAnyH_ready (rs := [5]) (by kernel_rfl) (by simp) ?_
  refine AllReadyH.cons rfl (fun K hK => ?_) AllReadyH.nil
  rw [if_pos (by rfl)]
  go_simp
  with_reducible refine (CJ.out _ HW0.out).mono ?_
  rintro e w2 ⟨rfl, hb2⟩
  have HS2 := Lib.hid (two_call HS0.out hb2)
  have HB2 := Lib.hid (HW0.out.trans (hb2.mono HW0.out.size))
  clear hb2
  refine hK.out _ _ ?_ (fun hHeld => ?_)
  · exact HS2.out
  clear hK K
  try simp only [Act.put, List.getElem_toArray, List.getElem_cons_zero, List.getElem_cons_succ, List.setIfInBounds_toArray, List.set_cons_zero, List.set_cons_succ]
  refine wpAnyH_ready (rs := [6]) (by kernel_rfl) (by simp) ?_
  refine AllReadyH.cons rfl (fun K hK => ?_) AllReadyH.nil
  rw [if_pos (by rfl)]
  go_simp
  refine hK.out _ _ ?_ (fun hHeld => ?_)
  · exact two_alloc HS2.out _
  clear hK K
  try simp only [Act.put, List.getElem_toArray, List.getElem_cons_zero, List.getElem_cons_succ, List.setIfInBounds_toArray, List.set_cons_zero, List.set_cons_succ]
  refine wpAnyH_ready (rs := [7]) (by kernel_rfl) (by simp) ?_
  refine AllReadyH.cons rfl (fun K hK => ?_) AllReadyH.nil
  rw [if_pos (by rfl)]
  go_simp
  with_reducible refine (CS1.out w2).mono ?_
  rintro e w3 ⟨rfl, hb3⟩
  have HS3 := Lib.hid (two_call HS2.out hb3)
  have HB3 := Lib.hid (HB2.out.trans (hb3.mono HB2.out.size))
  clear hb3
  refine hK.out _ _ ?_ (fun hHeld => ?_)
  · exact HS3.out
  clear hK K
  try simp only [Act.put, List.getElem_toArray, List.getElem_cons_zero, List.getElem_cons_succ, List.setIfInBounds_toArray, List.set_cons_zero, List.set_cons_succ]
  refine wpAnyH_ready (rs := [8]) (by kernel_rfl) (by simp) ?_
  refine AllReadyH.cons rfl (fun K hK => ?_) AllReadyH.nil
  rw [if_pos (by rfl)]
  go_simp
  refine hK.out _ _ ?_ (fun hHeld => ?_)
  · exact two_alloc HS3.out _
  clear hK K
  try simp only [Act.put, List.getElem_toArray, List.getElem_cons_zero, List.getElem_cons_succ, List.setIfInBounds_toArray, List.set_cons_zero, List.set_cons_succ]
  refine wpAnyH_ready (rs := [9]) (by kernel_rfl) (by simp) ?_
  refine AllReadyH.cons rfl (fun K hK => ?_) AllReadyH.nil
  rw [if_pos (by rfl)]
  go_simp
  with_reducible refine (CS2.out w3).mono ?_
  rintro e w4 ⟨rfl, hb4⟩
  have HS4 := Lib.hid (two_call HS3.out hb4)
  have HB4 := Lib.hid (HB3.out.trans (hb4.mono HB3.out.size))
  clear hb4
  refine hK.out _ _ ?_ (fun hHeld => ?_)
  · exact HS4.out
  clear hK K
  try simp only [Act.put, List.getElem_toArray, List.getElem_cons_zero, List.getElem_cons_succ, List.setIfInBounds_toArray, List.set_cons_zero, List.set_cons_succ]
  refine wpAnyH_take (i := 10) (v := ?_) rfl (by kernel_rfl) (by kernel_rfl) (by kernel_rfl) (fun _ _ _ h => h) (Or.inl ⟨by rfl, ?_⟩) (by assumption) ?_
  rotate_left
  · (intro w hSw; (obtain ⟨hS0, hS1⟩ := hSw); go_simp; (try with_reducible rfl))
  try simp only [Act.put, List.getElem_toArray, List.getElem_cons_zero, List.getElem_cons_succ, List.setIfInBounds_toArray, List.set_cons_zero, List.set_cons_succ]
  refine wpAnyH_done (by kernel_rfl) (NoPanic.normal ?_) _
  go_wp2
  go_ret
  exact ⟨rfl, HB4.out⟩
end Go.Proofs.YtojoalmldapboaaGreatDoor.Kd
namespace Go.Proofs.YtojoalmldapboaaGreatDoor.Dg
set_option maxRecDepth 20000
open Go.RowKit
set_option linter.unusedVariables false
set_option linter.unusedSimpArgs false

/-- A slice of bytes of the call's own. -/
def Own8 (w : World) (B : Nat) (v : Value) (l : List UInt8) : Prop := w.ownsRow B 5 1 v l.length (Lib.byteCells l)
theorem Own8.form {w : World} {B : Nat} {v : Value} {l : List UInt8} (h : Own8 w B v l) : ∃ a c, v = .slice a l.length c := by
  rcases h.2 with ⟨hv, hl⟩ | ⟨g, cap, cur, hv, _⟩
  · exact ⟨none, 0, by rw [hv, hl]⟩
  · exact ⟨_, _, hv⟩
theorem Own8.of {w : World} {B : Nat} {v : Value} {l m : List UInt8} {n : Nat} (hn : n = l.length + m.length) (h : w.ownsRow B 5 1 v n (Lib.byteCells l ++ Lib.byteCells m)) : Own8 w B v (l ++ m) := by
  unfold Own8
  rw [byteCells_app, List.length_append, ← hn]
  exact h
end Go.Proofs.YtojoalmldapboaaGreatDoor.Dg
namespace Go.Proofs.YtojoalmldapboaaGreatDoor.Dg
set_option maxRecDepth 20000
open Go.RowKit
set_option linter.unusedVariables false
set_option linter.unusedSimpArgs false

end Go.Proofs.YtojoalmldapboaaGreatDoor.Dg
namespace Go.Proofs.YtojoalmldapboaaGreatDoor.Dg
set_option maxRecDepth 20000
open Go.RowKit
set_option linter.unusedVariables false
set_option linter.unusedSimpArgs false

/-- A slice of bytes of the call's own, whose row may bear the mark of a conversion. -/
def OwnM (w : World) (B : Nat) (v : Value) (l : List UInt8) : Prop :=
  ∃ g cap cur fz, v = .slice (some ⟨g, 0, none⟩) l.length cap ∧ B ≤ g ∧ w.heap[g]? = some (.cells cur 5 fz) ∧ (cur.size ≤ fz.1 ∨ fz.2 = 0) ∧ l.length ≤ cap ∧ cap ≤ maxLen ∧ cur.size = cap ∧ cur.toList.take l.length = Lib.byteCells l
theorem OwnM.form {w : World} {B : Nat} {v : Value} {l : List UInt8} (h : OwnM w B v l) : ∃ g c, v = .slice (some ⟨g, 0, none⟩) l.length c := by
  obtain ⟨g, cap, _, _, hv, _⟩ := h
  exact ⟨g, cap, hv⟩
theorem OwnM.lt {w : World} {B g c : Nat} {l : List UInt8} (h : OwnM w B (.slice (some ⟨g, 0, none⟩) l.length c) l) : B ≤ g ∧ g < w.heap.size := by
  obtain ⟨g', cap, cur, fz, hv, hb, hg, _⟩ := h
  simp only [Value.slice.injEq, Option.some.injEq, Addr.mk.injEq, and_true, true_and] at hv
  obtain ⟨rfl, rfl⟩ := hv
  exact ⟨hb, (Array.getElem?_eq_some_iff.1 hg).1⟩
theorem OwnM.keep {w w' : World} {B : Nat} {v : Value} {l : List UInt8} (h : OwnM w B v l) (hb : Below w.heap.size w w') : OwnM w' B v l := by
  obtain ⟨g, cap, cur, fz, hv, hbg, hg, r⟩ := h
  exact ⟨g, cap, cur, fz, hv, hbg, by rw [hb.block g (Array.getElem?_eq_some_iff.1 hg).1]; exact hg, r⟩
theorem OwnM.cell {w : World} {B g c : Nat} {l : List UInt8} (h : OwnM w B (.slice (some ⟨g, 0, none⟩) l.length c) l) (j : Nat) (hj : j < l.length) : w.cell? ⟨g, j, none⟩ = (Lib.byteCells l)[j]? := by
  obtain ⟨g', cap, cur, fz, hv, hb, hg, _, _, _, _, ht⟩ := h
  simp only [Value.slice.injEq, Option.some.injEq, Addr.mk.injEq, and_true, true_and] at hv
  obtain ⟨rfl, rfl⟩ := hv
  rw [cell_of_row w g j cur _ fz hg, ← ht, List.getElem?_take, if_pos hj]
  simp
end Go.Proofs.YtojoalmldapboaaGreatDoor.Dg
