/- The walks of layer 7: the state ahead of the first block. By tools/gen-digest-h.py. -/
import Derived.Test.YthjphechdhbenaaDgG
import Derived.Deep.RegionHeld3
import Derived.Laws.CopyOwn
import Derived.Deep.CutRange
namespace Go.Proofs.Ythjphechdhbenaa.Dg
set_option maxRecDepth 20000
open Go.RowKit
set_option linter.unusedVariables false
set_option linter.unusedSimpArgs false

theorem row64_of {w : World} {B c : Nat} {a : Option Addr} {l : List Nat} (h : Own64 w B (.slice a l.length c) l) (h0 : 0 < l.length) : ∃ g, a = some ⟨g, 0, none⟩ ∧ B ≤ g ∧ l.length ≤ c ∧ Row64 w g l := by
  have h' := h
  rcases h.2 with ⟨hv, hl⟩ | ⟨g, cap, cur, hv, _⟩
  · omega
  · injection hv with h1 h2 h3
    subst h1 h3
    have hl := World.ownsRow.lt h' g rfl
    rename_i hrest
    refine ⟨g, rfl, hl.1, by obtain ⟨_, _, hx, _⟩ := hrest; omega, hl.2, fun j hj => ?_⟩
    obtain ⟨g1, e1, hc⟩ := Own64.cell h' j hj
    obtain rfl : g = g1 := by cases e1; rfl
    exact hc
theorem row32_of {w : World} {B c : Nat} {a : Option Addr} {l : List Nat} (h : Own32 w B (.slice a l.length c) l) (h0 : 0 < l.length) : ∃ g, a = some ⟨g, 0, none⟩ ∧ B ≤ g ∧ g < w.heap.size ∧ ∀ (j : Nat) (v : Value), (words l)[j]? = some v → w.cell? ((⟨g, 0, none⟩ : Addr).add j) = some v := by
  have h' := h
  rcases h.2 with ⟨hv, hl⟩ | ⟨g, cap, cur, hv, _⟩
  · omega
  · injection hv with h1 h2 h3
    subst h1 h3
    have hl := World.ownsRow.lt h' g rfl
    exact ⟨g, rfl, hl.1, hl.2, World.ownsRow.cells h' rfl⟩
def RtP (out : List Nat) (m : Nat) (w : World) (e : Ending) (w' : World) : Prop := ∃ g c, e = .returned (.slice (some ⟨g, 0, none⟩) m c) ∧ (∀ (j : Nat) (v : Value), (words out)[j]? = some v → w'.cell? ((⟨g, 0, none⟩ : Addr).add j) = some v) ∧ Below w.heap.size w w'
theorem roots_sq (g c : Nat) (w : World) (hr : Row64 w g P0) : Calls Try.prog 58 #[.func (.func 54) #[] #[], .slice (some ⟨g, 0, none⟩) 8 c] w (RtP H0.toL 8 w) := by
  have hr8 : Row64 w g (P0.take 8) := ⟨hr.1, fun j hj => by
    have hj8 : j < 8 := by have : (P0.take 8).length = 8 := rfl; omega
    have := hr.2 j (by have : P0.length = 64 := rfl; omega)
    rw [this]
    congr 3
    simp only [List.getD, List.getElem?_take, if_pos hj8]⟩
  refine (roots_any sq 54 g c (P0.take 8) w hr8 (by decide) (Lib.hid fun q n p1 p2 w hn c1 c2 => below_sq q n p1 p2 w hn c1 c2)).mono ?_
  rintro e w' ⟨a, c2, rfl, ho, hb⟩
  rw [rt_sq] at ho
  obtain ⟨g2, rfl, _, _, hc⟩ := row32_of (l := H0.toL) ho (by decide)
  exact ⟨g2, c2, rfl, hc, hb⟩
theorem roots_cb (g c : Nat) (w : World) (hr : Row64 w g P0) : Calls Try.prog 58 #[.func (.func 56) #[] #[], .slice (some ⟨g, 0, none⟩) 64 c] w (RtP K0 64 w) := by
  refine (roots_any cb 56 g c P0 w hr (by decide) (Lib.hid fun q n p1 p2 w hn c1 c2 => below_cb q n p1 p2 w hn c1 c2)).mono ?_
  rintro e w' ⟨a, c2, rfl, ho, hb⟩
  rw [rt_cb] at ho
  obtain ⟨g2, rfl, _, _, hc⟩ := row32_of (l := K0) ho (by decide)
  exact ⟨g2, c2, rfl, hc, hb⟩
def z72 : List Value := List.replicate 72 (.int .u32 0)
theorem zero_state : (Try.prog.info? 51).map (fun i => (i.zero, i.size)) = some (some (.agg z72.toArray), 72) := by kernel_rfl
theorem inf_state : (Try.prog.info? 51).map (·.size) = some 72 := by kernel_rfl
theorem lt_of_heap {w : World} {i : Nat} {o : Obj} (h : w.heap[i]? = some o) : i < w.heap.size := by
  rcases Nat.lt_or_ge i w.heap.size with h1 | h1
  · exact h1
  · rw [Array.getElem?_eq_none h1] at h; cases h
theorem inf_u32 : (Try.prog.info? 47).map (·.size) = some 1 := by kernel_rfl
theorem words_one (l : List Nat) : ∀ v ∈ words l, v.oneCell' = true := by
  intro v hv
  obtain ⟨x, _, rfl⟩ := List.mem_map.1 hv
  rfl
theorem splice_all : splice (splice z72 0 (words H0.toL)) 8 (words K0) = words (H0.toL ++ K0) := by rfl
set_option maxHeartbeats 8000000 in
theorem begun_any (w : World) : Calls Try.prog 35 #[] w fun e w' => e = .returned (.agg (words (H0.toL ++ K0)).toArray) ∧ Below w.heap.size w w' := by
  have hz := (zero_of_info (P := Try.prog) zero_state).1
  go_enter Try.func35, Try.ntmps35
  go_wp2_with fail
  refine (primes_any _).mono ?_
  rintro e w1 ⟨a, c, rfl, ho, hb⟩
  obtain ⟨g, rfl, hg, hc, hr⟩ := row64_of (l := P0) ho (by decide)
  have hc64 : 64 ≤ c := hc
  have hs1 := hb.size
  simp at hs1
  have HR := Lib.hid hr
  have hglt := hr.1
  have HZ0 : Hid (w1.heap[w.heap.size]? = some (.cells z72.toArray 51 (0, 0))) := Lib.hid ((hb.block _ (by simp)).trans (heap_alloc_new w _))
  have HB1 : Hid (Below w.heap.size w w1) := Lib.hid (((Below.refl _ _).alloc (Nat.le_refl _) _).trans (hb.mono (by simp)))
  clear ho hb hr hg hc
  have hwz : w.heap.size < w1.heap.size := by omega
  have HRW : Hid (Row64 (w1.alloc (.cells z72.toArray 51)).drew g P0) := Lib.hid (show Row64 (w1.alloc (.cells z72.toArray 51)) g P0 from HR.out.below ((Below.refl _ _).alloc (Nat.le_refl _) _) hglt)
  have hc8 : (8 : Int) ≤ (c : Int) := by omega
  go_wp2_with fail
  refine wp_region_noPanic ?_
  refine wp_region_held_drew (S := fun _ => True) (by kernel_rfl) ?_ (fun hHeld => ?_)
  · exact trivial
  refine wpAnyH_take (i := 0) (v := ?_) rfl (by kernel_rfl) (by kernel_rfl) (by kernel_rfl) (fun _ _ _ h => h) (Or.inl ⟨by rfl, ?_⟩) (by assumption) ?_
  rotate_left
  · (intro w hSw; (try dsimp only at hSw); go_simp; (try with_reducible rfl))
  try simp only [Act.put, List.getElem_toArray, List.getElem_cons_zero, List.getElem_cons_succ, List.setIfInBounds_toArray, List.set_cons_zero, List.set_cons_succ]
  refine wpAnyH_take (i := 1) (v := ?_) rfl (by kernel_rfl) (by kernel_rfl) (by kernel_rfl) (fun _ _ _ h => h) (Or.inl ⟨by rfl, ?_⟩) (by assumption) ?_
  rotate_left
  · (intro w hSw; (try dsimp only at hSw); go_simp; (try with_reducible rfl))
  try simp only [Act.put, List.getElem_toArray, List.getElem_cons_zero, List.getElem_cons_succ, List.setIfInBounds_toArray, List.set_cons_zero, List.set_cons_succ]
  refine wpAnyH_take (i := 2) (v := ?_) rfl (by kernel_rfl) (by kernel_rfl) (by kernel_rfl) (fun _ _ _ h => h) (Or.inl ⟨by rfl, ?_⟩) (by assumption) ?_
  rotate_left
  · (intro w hSw; (try dsimp only at hSw); go_simp; (try with_reducible rfl))
  try simp only [Act.put, List.getElem_toArray, List.getElem_cons_zero, List.getElem_cons_succ, List.setIfInBounds_toArray, List.set_cons_zero, List.set_cons_succ]
  refine wpAnyH_take (i := 3) (v := ?_) rfl (by kernel_rfl) (by kernel_rfl) (by kernel_rfl) (fun _ _ _ h => h) (Or.inl ⟨by rfl, ?_⟩) (by assumption) ?_
  rotate_left
  · (intro w hSw; (try dsimp only at hSw); go_simp; (try with_reducible rfl))
  try simp only [Act.put, List.getElem_toArray, List.getElem_cons_zero, List.getElem_cons_succ, List.setIfInBounds_toArray, List.set_cons_zero, List.set_cons_succ]
  refine wpAnyH_take (i := 4) (v := ?_) rfl (by kernel_rfl) (by kernel_rfl) (by kernel_rfl) (fun _ _ _ h => h) (Or.inl ⟨by rfl, ?_⟩) (by assumption) ?_
  rotate_left
  · (intro w hSw; (try dsimp only at hSw); go_simp; (try with_reducible rfl))
  try simp only [Act.put, List.getElem_toArray, List.getElem_cons_zero, List.getElem_cons_succ, List.setIfInBounds_toArray, List.set_cons_zero, List.set_cons_succ]
  refine wpAnyH_ready (rs := [5]) (by kernel_rfl) (by simp) ?_
  refine AllReadyH.cons rfl (fun K hK => ?_) AllReadyH.nil
  rw [if_pos (by rfl)]
  go_simp
  refine (roots_sq g c _ HRW.out).mono ?_
  rintro e w2 ⟨g2, c2, rfl, hc2, hb2⟩
  have HB2 : Hid (Below w1.heap.size w1 w2) := Lib.hid (((Below.refl _ _).alloc (Nat.le_refl _) (.cells z72.toArray 51)).trans ((show Below (w1.alloc (.cells z72.toArray 51)).heap.size (w1.alloc (.cells z72.toArray 51)) w2 from ⟨hb2.os, hb2.tape, hb2.output, hb2.size, hb2.block⟩).mono (by simp)))
  have HZ2 : Hid (w2.heap[w1.heap.size]? = some (.cells z72.toArray 51 (0, 0))) := Lib.hid ((hb2.block w1.heap.size (by simp)).trans (heap_alloc_new w1 _))
  have HC2 := Lib.hid hc2
  clear hb2 hc2
  refine hK.out _ _ trivial (fun hHeld => ?_)
  clear hK K
  try simp only [Act.put, List.getElem_toArray, List.getElem_cons_zero, List.getElem_cons_succ, List.setIfInBounds_toArray, List.set_cons_zero, List.set_cons_succ]
  refine wpAnyH_ready (rs := [6]) (by kernel_rfl) (by simp) ?_
  refine AllReadyH.cons rfl (fun K hK => ?_) AllReadyH.nil
  refine step_copy_splice rfl (.tmp 7) (.tmp 11) 56 56 rfl 47 Try.underlying56 inf_u32 (some ⟨w1.heap.size, 0, none⟩) (some ⟨g2, 0, none⟩) 8 8 8 c2 rfl rfl w1.heap.size 0 z72 51 HZ2.out (words H0.toL) rfl (fun _ => ⟨rfl, _, rfl, HC2.out⟩) (by decide) (words_one _) w1.heap.size w1 HB2.out (Nat.le_refl _) ?_
  intro w3 hg3 hb3
  have HB3 := Lib.hid hb3
  have HRW3 : Hid (Row64 w3 g P0) := Lib.hid (HR.out.below hb3 hglt)
  clear hb3
  refine hK.out _ _ trivial (fun hHeld => ?_)
  clear hK K
  try simp only [Act.put, List.getElem_toArray, List.getElem_cons_zero, List.getElem_cons_succ, List.setIfInBounds_toArray, List.set_cons_zero, List.set_cons_succ]
  refine wpAnyH_done (by kernel_rfl) (NoPanic.normal ?_) _
  go_upto_region 6 with (fail)
  refine wp_region_noPanic ?_
  refine wp_region_held_drew (S := fun _ => True) (by kernel_rfl) ?_ (fun hHeld => ?_)
  · exact trivial
  refine wpAnyH_take (i := 0) (v := ?_) rfl (by kernel_rfl) (by kernel_rfl) (by kernel_rfl) (fun _ _ _ h => h) (Or.inl ⟨by rfl, ?_⟩) (by assumption) ?_
  rotate_left
  · (intro w hSw; (try dsimp only at hSw); go_simp; (try with_reducible rfl))
  try simp only [Act.put, List.getElem_toArray, List.getElem_cons_zero, List.getElem_cons_succ, List.setIfInBounds_toArray, List.set_cons_zero, List.set_cons_succ]
  refine wpAnyH_take (i := 1) (v := ?_) rfl (by kernel_rfl) (by kernel_rfl) (by kernel_rfl) (fun _ _ _ h => h) (Or.inl ⟨by rfl, ?_⟩) (by assumption) ?_
  rotate_left
  · (intro w hSw; (try dsimp only at hSw); go_simp; (try with_reducible rfl))
  try simp only [Act.put, List.getElem_toArray, List.getElem_cons_zero, List.getElem_cons_succ, List.setIfInBounds_toArray, List.set_cons_zero, List.set_cons_succ]
  refine wpAnyH_take (i := 2) (v := ?_) rfl (by kernel_rfl) (by kernel_rfl) (by kernel_rfl) (fun _ _ _ h => h) (Or.inl ⟨by rfl, ?_⟩) (by assumption) ?_
  rotate_left
  · (intro w hSw; (try dsimp only at hSw); go_simp; (try with_reducible rfl))
  try simp only [Act.put, List.getElem_toArray, List.getElem_cons_zero, List.getElem_cons_succ, List.setIfInBounds_toArray, List.set_cons_zero, List.set_cons_succ]
  refine wpAnyH_take (i := 3) (v := ?_) rfl (by kernel_rfl) (by kernel_rfl) (by kernel_rfl) (fun _ _ _ h => h) (Or.inl ⟨by rfl, ?_⟩) (by assumption) ?_
  rotate_left
  · (intro w hSw; (try dsimp only at hSw); go_simp; (try with_reducible rfl))
  try simp only [Act.put, List.getElem_toArray, List.getElem_cons_zero, List.getElem_cons_succ, List.setIfInBounds_toArray, List.set_cons_zero, List.set_cons_succ]
  refine wpAnyH_ready (rs := [4]) (by kernel_rfl) (by simp) ?_
  refine AllReadyH.cons rfl (fun K hK => ?_) AllReadyH.nil
  rw [if_pos (by rfl)]
  go_simp
  refine (roots_cb g c w3.drew (show Row64 w3.drew g P0 from HRW3.out)).mono ?_
  rintro e w4 ⟨g4, c4, rfl, hc4, hb4⟩
  have hs3 := HB3.out.size
  have hlt3 : w1.heap.size < w3.heap.size := lt_of_heap hg3.out
  have hb4 : Below w3.heap.size w3 w4 := ⟨hb4.os, hb4.tape, hb4.output, hb4.size, hb4.block⟩
  have HB4 : Hid (Below w1.heap.size w1 w4) := Lib.hid (HB3.out.trans (hb4.mono hs3))
  have HZ4 : Hid (w4.heap[w1.heap.size]? = some (.cells (splice z72 0 (words H0.toL)).toArray 51 (0, 0))) := Lib.hid ((hb4.block w1.heap.size hlt3).trans hg3.out)
  have HC4 := Lib.hid hc4
  clear hb4 hc4 hg3
  refine hK.out _ _ trivial (fun hHeld => ?_)
  clear hK K
  try simp only [Act.put, List.getElem_toArray, List.getElem_cons_zero, List.getElem_cons_succ, List.setIfInBounds_toArray, List.set_cons_zero, List.set_cons_succ]
  refine wpAnyH_ready (rs := [5]) (by kernel_rfl) (by simp) ?_
  refine AllReadyH.cons rfl (fun K hK => ?_) AllReadyH.nil
  refine step_copy_splice rfl (.tmp 14) (.tmp 17) 56 56 rfl 47 Try.underlying56 inf_u32 (some ⟨w1.heap.size, 8, none⟩) (some ⟨g4, 0, none⟩) 64 64 64 c4 rfl rfl w1.heap.size 8 (splice z72 0 (words H0.toL)) 51 HZ4.out (words K0) rfl (fun _ => ⟨rfl, _, rfl, HC4.out⟩) (by decide) (words_one _) w1.heap.size w1 HB4.out (Nat.le_refl _) ?_
  intro w5 hg5 hb5
  rw [splice_all] at hg5
  have HG5 := hg5
  have HB5 := Lib.hid hb5
  have HS5 : Hid (w5.heap[w.heap.size]? = some (.cells z72.toArray 51 (0, 0))) := Lib.hid ((hb5.block _ hwz).trans HZ0.out)
  clear hb5
  refine hK.out _ _ trivial (fun hHeld => ?_)
  clear hK K
  try simp only [Act.put, List.getElem_toArray, List.getElem_cons_zero, List.getElem_cons_succ, List.setIfInBounds_toArray, List.set_cons_zero, List.set_cons_succ]
  refine wpAnyH_done (by kernel_rfl) (NoPanic.normal ?_) _
  go_upto_region 7 with (fail)
  refine wp_region_lit ?_
  refine wpList_load_row rfl _ _ rfl w1.heap.size rfl _ _ _ _ HG5.out Try.underlying51 rfl (by rw [inf_state]; decide) ?_
  refine wpList_store_row rfl _ _ _ rfl w.heap.size _ rfl rfl _ _ HS5.out (by rw [inf_state]; decide) (by decide) (all_oneCell_toArray (words_one _)) ?_
  have HW : Hid ((w5.setRow w.heap.size (words (H0.toL ++ K0)).toArray).heap[w.heap.size]? = some (.cells (words (H0.toL ++ K0)).toArray 51 (0, 0))) := Lib.hid (setRow_heap w5 w.heap.size _ _ _ _ HS5.out)
  have HBW : Hid (Below w.heap.size w (w5.setRow w.heap.size (words (H0.toL ++ K0)).toArray)) := Lib.hid (below_setRow (HB1.out.trans (HB5.out.mono HB1.out.size)) (Nat.le_refl _) _)
  generalize w5.setRow w.heap.size (words (H0.toL ++ K0)).toArray = W at *
  go_wp2
  exact bodyPost_ret (v := .agg (words (H0.toL ++ K0)).toArray) (results_cell_row Try.results35 _ W w.heap.size _ _ _ _ rfl HW.out Try.underlying51 rfl (by rw [inf_state]; decide)) rfl ⟨rfl, HBW.out⟩
end Go.Proofs.Ythjphechdhbenaa.Dg
