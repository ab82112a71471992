/- The walks of layer 7: the state ahead of the first block · What a strings.Builder that the call itself made does: WriteString at this program (its copy check passes at the builder's own place). · What a strings.Builder that the call itself made does: WriteByte at this program. · The walks of layer 7: bytes of words; a text with what stands behind it · The walks of layer 7: Sum. -/
import Derived.Test.YtagbkmoahflfdaaGreatDoorJa04
import Derived.Deep.RegionHeld3
import Derived.Laws.CopyOwn
import Derived.Deep.CutRange
import Derived.Test.YtagbkmoahflfdaaGreatDoorRows
import Derived.Test.YtagbkmoahflfdaaGreatDoorShelf
import Derived.Shelf.Strings.Builder1
import Derived.Shelf.Strings.BuilderF
import Derived.Lib.Hide
namespace Go.Proofs.YtagbkmoahflfdaaGreatDoor.Dg
set_option maxRecDepth 20000
open Go.RowKit
set_option linter.unusedVariables false
set_option linter.unusedSimpArgs false

theorem row64_of {w : World} {B c : Nat} {a : Option Addr} {l : List Nat} (h : Own64 w B (.slice a l.length c) l) (h0 : 0 < l.length) : ∃ g, a = some ⟨g, 0, none⟩ ∧ B ≤ g ∧ l.length ≤ c ∧ Row64 w g l := by
  have h' := h
  rcases h.2 with ⟨hv, hl⟩ | ⟨g, cap, cur, hv, _⟩
  · omega
  · injection hv with h1 h2 h3
    subst h1 h3
    have hl := World.ownsRow.lt h' g rfl
    rename_i hrest
    refine ⟨g, rfl, hl.1, by obtain ⟨_, _, hx, _⟩ := hrest; omega, hl.2, fun j hj => ?_⟩
    obtain ⟨g1, e1, hc⟩ := Own64.cell h' j hj
    obtain rfl : g = g1 := by cases e1; rfl
    exact hc
theorem row32_of {w : World} {B c : Nat} {a : Option Addr} {l : List Nat} (h : Own32 w B (.slice a l.length c) l) (h0 : 0 < l.length) : ∃ g, a = some ⟨g, 0, none⟩ ∧ B ≤ g ∧ g < w.heap.size ∧ ∀ (j : Nat) (v : Value), (words l)[j]? = some v → w.cell? ((⟨g, 0, none⟩ : Addr).add j) = some v := by
  have h' := h
  rcases h.2 with ⟨hv, hl⟩ | ⟨g, cap, cur, hv, _⟩
  · omega
  · injection hv with h1 h2 h3
    subst h1 h3
    have hl := World.ownsRow.lt h' g rfl
    exact ⟨g, rfl, hl.1, hl.2, World.ownsRow.cells h' rfl⟩
def RtP (out : List Nat) (m : Nat) (w : World) (e : Ending) (w' : World) : Prop := ∃ g c, e = .returned (.slice (some ⟨g, 0, none⟩) m c) ∧ (∀ (j : Nat) (v : Value), (words out)[j]? = some v → w'.cell? ((⟨g, 0, none⟩ : Addr).add j) = some v) ∧ Below w.heap.size w w'
theorem roots_sq (g c : Nat) (w : World) (hr : Row64 w g P0) : Calls Tryz.prog 165 #[.func (.func 162) #[] #[], .slice (some ⟨g, 0, none⟩) 8 c] w (RtP H0.toL 8 w) := by
  have hr8 : Row64 w g (P0.take 8) := ⟨hr.1, fun j hj => by
    have hj8 : j < 8 := by have : (P0.take 8).length = 8 := rfl; omega
    have := hr.2 j (by have : P0.length = 64 := rfl; omega)
    rw [this]
    congr 3
    simp only [List.getD, List.getElem?_take, if_pos hj8]⟩
  refine (roots_any sq 162 g c (P0.take 8) w hr8 (by decide) (Lib.hid fun q n p1 p2 w hn c1 c2 => below_sq q n p1 p2 w hn c1 c2)).mono ?_
  rintro e w' ⟨a, c2, rfl, ho, hb⟩
  rw [rt_sq] at ho
  obtain ⟨g2, rfl, _, _, hc⟩ := row32_of (l := H0.toL) ho (by decide)
  exact ⟨g2, c2, rfl, hc, hb⟩
theorem roots_cb (g c : Nat) (w : World) (hr : Row64 w g P0) : Calls Tryz.prog 165 #[.func (.func 163) #[] #[], .slice (some ⟨g, 0, none⟩) 64 c] w (RtP K0 64 w) := by
  refine (roots_any cb 163 g c P0 w hr (by decide) (Lib.hid fun q n p1 p2 w hn c1 c2 => below_cb q n p1 p2 w hn c1 c2)).mono ?_
  rintro e w' ⟨a, c2, rfl, ho, hb⟩
  rw [rt_cb] at ho
  obtain ⟨g2, rfl, _, _, hc⟩ := row32_of (l := K0) ho (by decide)
  exact ⟨g2, c2, rfl, hc, hb⟩
def z72 : List Value := List.replicate 72 (.int .u32 0)
theorem zero_state : (Tryz.prog.info? 188).map (fun i => (i.zero, i.size)) = some (some (.agg z72.toArray), 72) := by kernel_rfl
theorem inf_state : (Tryz.prog.info? 188).map (·.size) = some 72 := by kernel_rfl
theorem lt_of_heap {w : World} {i : Nat} {o : Obj} (h : w.heap[i]? = some o) : i < w.heap.size := by
  rcases Nat.lt_or_ge i w.heap.size with h1 | h1
  · exact h1
  · rw [Array.getElem?_eq_none h1] at h; cases h
theorem inf_u32 : (Tryz.prog.info? 22).map (·.size) = some 1 := by kernel_rfl
theorem words_one (l : List Nat) : ∀ v ∈ words l, v.oneCell' = true := by
  intro v hv
  obtain ⟨x, _, rfl⟩ := List.mem_map.1 hv
  rfl
theorem splice_all : splice (splice z72 0 (words H0.toL)) 8 (words K0) = words (H0.toL ++ K0) := by rfl
set_option maxHeartbeats 8000000 in
theorem begun_any (w : World) : Calls Tryz.prog 140 #[] w fun e w' => e = .returned (.agg (words (H0.toL ++ K0)).toArray) ∧ Below w.heap.size w w' := by
  have hz := (zero_of_info (P := Tryz.prog) zero_state).1
  go_enter Tryz.func140, Tryz.ntmps140
  go_wp2_with fail
  refine (primes_any _).mono ?_
  rintro e w1 ⟨a, c, rfl, ho, hb⟩
  obtain ⟨g, rfl, hg, hc, hr⟩ := row64_of (l := P0) ho (by decide)
  have hc64 : 64 ≤ c := hc
  have hs1 := hb.size
  simp at hs1
  have HR := Lib.hid hr
  have hglt := hr.1
  have HZ0 : Hid (w1.heap[w.heap.size]? = some (.cells z72.toArray 188 (0, 0))) := Lib.hid ((hb.block _ (by simp)).trans (heap_alloc_new w _))
  have HB1 : Hid (Below w.heap.size w w1) := Lib.hid (((Below.refl _ _).alloc (Nat.le_refl _) _).trans (hb.mono (by simp)))
  clear ho hb hr hg hc
  have hwz : w.heap.size < w1.heap.size := by omega
  have HRW : Hid (Row64 (w1.alloc (.cells z72.toArray 188)).drew g P0) := Lib.hid (show Row64 (w1.alloc (.cells z72.toArray 188)) g P0 from HR.out.below ((Below.refl _ _).alloc (Nat.le_refl _) _) hglt)
  have hc8 : (8 : Int) ≤ (c : Int) := by omega
  go_wp2_with fail
  refine wp_region_noPanic ?_
  refine wp_region_held_drew (S := fun _ => True) (by kernel_rfl) ?_ (fun hHeld => ?_)
  · exact trivial
  refine wpAnyH_take (i := 0) (v := ?_) rfl (by kernel_rfl) (by kernel_rfl) (by kernel_rfl) (fun _ _ _ h => h) (Or.inl ⟨by rfl, ?_⟩) (by assumption) ?_
  rotate_left
  · (intro w hSw; (try dsimp only at hSw); go_simp; (try with_reducible rfl))
  try simp only [Act.put, List.getElem_toArray, List.getElem_cons_zero, List.getElem_cons_succ, List.setIfInBounds_toArray, List.set_cons_zero, List.set_cons_succ]
  refine wpAnyH_take (i := 1) (v := ?_) rfl (by kernel_rfl) (by kernel_rfl) (by kernel_rfl) (fun _ _ _ h => h) (Or.inl ⟨by rfl, ?_⟩) (by assumption) ?_
  rotate_left
  · (intro w hSw; (try dsimp only at hSw); go_simp; (try with_reducible rfl))
  try simp only [Act.put, List.getElem_toArray, List.getElem_cons_zero, List.getElem_cons_succ, List.setIfInBounds_toArray, List.set_cons_zero, List.set_cons_succ]
  refine wpAnyH_take (i := 2) (v := ?_) rfl (by kernel_rfl) (by kernel_rfl) (by kernel_rfl) (fun _ _ _ h => h) (Or.inl ⟨by rfl, ?_⟩) (by assumption) ?_
  rotate_left
  · (intro w hSw; (try dsimp only at hSw); go_simp; (try with_reducible rfl))
  try simp only [Act.put, List.getElem_toArray, List.getElem_cons_zero, List.getElem_cons_succ, List.setIfInBounds_toArray, List.set_cons_zero, List.set_cons_succ]
  refine wpAnyH_take (i := 3) (v := ?_) rfl (by kernel_rfl) (by kernel_rfl) (by kernel_rfl) (fun _ _ _ h => h) (Or.inl ⟨by rfl, ?_⟩) (by assumption) ?_
  rotate_left
  · (intro w hSw; (try dsimp only at hSw); go_simp; (try with_reducible rfl))
  try simp only [Act.put, List.getElem_toArray, List.getElem_cons_zero, List.getElem_cons_succ, List.setIfInBounds_toArray, List.set_cons_zero, List.set_cons_succ]
  refine wpAnyH_take (i := 4) (v := ?_) rfl (by kernel_rfl) (by kernel_rfl) (by kernel_rfl) (fun _ _ _ h => h) (Or.inl ⟨by rfl, ?_⟩) (by assumption) ?_
  rotate_left
  · (intro w hSw; (try dsimp only at hSw); go_simp; (try with_reducible rfl))
  try simp only [Act.put, List.getElem_toArray, List.getElem_cons_zero, List.getElem_cons_succ, List.setIfInBounds_toArray, List.set_cons_zero, List.set_cons_succ]
  refine wpAnyH_ready (rs := [5]) (by kernel_rfl) (by simp) ?_
  refine AllReadyH.cons rfl (fun K hK => ?_) AllReadyH.nil
  rw [if_pos (by rfl)]
  go_simp
  refine (roots_sq g c _ HRW.out).mono ?_
  rintro e w2 ⟨g2, c2, rfl, hc2, hb2⟩
  have HB2 : Hid (Below w1.heap.size w1 w2) := Lib.hid (((Below.refl _ _).alloc (Nat.le_refl _) (.cells z72.toArray 188)).trans ((show Below (w1.alloc (.cells z72.toArray 188)).heap.size (w1.alloc (.cells z72.toArray 188)) w2 from ⟨hb2.os, hb2.tape, hb2.output, hb2.size, hb2.block⟩).mono (by simp)))
  have HZ2 : Hid (w2.heap[w1.heap.size]? = some (.cells z72.toArray 188 (0, 0))) := Lib.hid ((hb2.block w1.heap.size (by simp)).trans (heap_alloc_new w1 _))
  have HC2 := Lib.hid hc2
  clear hb2 hc2
  refine hK.out _ _ trivial (fun hHeld => ?_)
  clear hK K
  try simp only [Act.put, List.getElem_toArray, List.getElem_cons_zero, List.getElem_cons_succ, List.setIfInBounds_toArray, List.set_cons_zero, List.set_cons_succ]
  refine wpAnyH_ready (rs := [6]) (by kernel_rfl) (by simp) ?_
  refine AllReadyH.cons rfl (fun K hK => ?_) AllReadyH.nil
  refine step_copy_splice rfl (.tmp 7) (.tmp 11) 193 193 rfl 22 Tryz.underlying193 inf_u32 (some ⟨w1.heap.size, 0, none⟩) (some ⟨g2, 0, none⟩) 8 8 8 c2 rfl rfl w1.heap.size 0 z72 188 HZ2.out (words H0.toL) rfl (fun _ => ⟨rfl, _, rfl, HC2.out⟩) (by decide) (words_one _) w1.heap.size w1 HB2.out (Nat.le_refl _) ?_
  intro w3 hg3 hb3
  have HB3 := Lib.hid hb3
  have HRW3 : Hid (Row64 w3 g P0) := Lib.hid (HR.out.below hb3 hglt)
  clear hb3
  refine hK.out _ _ trivial (fun hHeld => ?_)
  clear hK K
  try simp only [Act.put, List.getElem_toArray, List.getElem_cons_zero, List.getElem_cons_succ, List.setIfInBounds_toArray, List.set_cons_zero, List.set_cons_succ]
  refine wpAnyH_done (by kernel_rfl) (NoPanic.normal ?_) _
  go_upto_region 6 with (fail)
  refine wp_region_noPanic ?_
  refine wp_region_held_drew (S := fun _ => True) (by kernel_rfl) ?_ (fun hHeld => ?_)
  · exact trivial
  refine wpAnyH_take (i := 0) (v := ?_) rfl (by kernel_rfl) (by kernel_rfl) (by kernel_rfl) (fun _ _ _ h => h) (Or.inl ⟨by rfl, ?_⟩) (by assumption) ?_
  rotate_left
  · (intro w hSw; (try dsimp only at hSw); go_simp; (try with_reducible rfl))
  try simp only [Act.put, List.getElem_toArray, List.getElem_cons_zero, List.getElem_cons_succ, List.setIfInBounds_toArray, List.set_cons_zero, List.set_cons_succ]
  refine wpAnyH_take (i := 1) (v := ?_) rfl (by kernel_rfl) (by kernel_rfl) (by kernel_rfl) (fun _ _ _ h => h) (Or.inl ⟨by rfl, ?_⟩) (by assumption) ?_
  rotate_left
  · (intro w hSw; (try dsimp only at hSw); go_simp; (try with_reducible rfl))
  try simp only [Act.put, List.getElem_toArray, List.getElem_cons_zero, List.getElem_cons_succ, List.setIfInBounds_toArray, List.set_cons_zero, List.set_cons_succ]
  refine wpAnyH_take (i := 2) (v := ?_) rfl (by kernel_rfl) (by kernel_rfl) (by kernel_rfl) (fun _ _ _ h => h) (Or.inl ⟨by rfl, ?_⟩) (by assumption) ?_
  rotate_left
  · (intro w hSw; (try dsimp only at hSw); go_simp; (try with_reducible rfl))
  try simp only [Act.put, List.getElem_toArray, List.getElem_cons_zero, List.getElem_cons_succ, List.setIfInBounds_toArray, List.set_cons_zero, List.set_cons_succ]
  refine wpAnyH_take (i := 3) (v := ?_) rfl (by kernel_rfl) (by kernel_rfl) (by kernel_rfl) (fun _ _ _ h => h) (Or.inl ⟨by rfl, ?_⟩) (by assumption) ?_
  rotate_left
  · (intro w hSw; (try dsimp only at hSw); go_simp; (try with_reducible rfl))
  try simp only [Act.put, List.getElem_toArray, List.getElem_cons_zero, List.getElem_cons_succ, List.setIfInBounds_toArray, List.set_cons_zero, List.set_cons_succ]
  refine wpAnyH_ready (rs := [4]) (by kernel_rfl) (by simp) ?_
  refine AllReadyH.cons rfl (fun K hK => ?_) AllReadyH.nil
  rw [if_pos (by rfl)]
  go_simp
  refine (roots_cb g c w3.drew (show Row64 w3.drew g P0 from HRW3.out)).mono ?_
  rintro e w4 ⟨g4, c4, rfl, hc4, hb4⟩
  have hs3 := HB3.out.size
  have hlt3 : w1.heap.size < w3.heap.size := lt_of_heap hg3.out
  have hb4 : Below w3.heap.size w3 w4 := ⟨hb4.os, hb4.tape, hb4.output, hb4.size, hb4.block⟩
  have HB4 : Hid (Below w1.heap.size w1 w4) := Lib.hid (HB3.out.trans (hb4.mono hs3))
  have HZ4 : Hid (w4.heap[w1.heap.size]? = some (.cells (splice z72 0 (words H0.toL)).toArray 188 (0, 0))) := Lib.hid ((hb4.block w1.heap.size hlt3).trans hg3.out)
  have HC4 := Lib.hid hc4
  clear hb4 hc4 hg3
  refine hK.out _ _ trivial (fun hHeld => ?_)
  clear hK K
  try simp only [Act.put, List.getElem_toArray, List.getElem_cons_zero, List.getElem_cons_succ, List.setIfInBounds_toArray, List.set_cons_zero, List.set_cons_succ]
  refine wpAnyH_ready (rs := [5]) (by kernel_rfl) (by simp) ?_
  refine AllReadyH.cons rfl (fun K hK => ?_) AllReadyH.nil
  refine step_copy_splice rfl (.tmp 14) (.tmp 17) 193 193 rfl 22 Tryz.underlying193 inf_u32 (some ⟨w1.heap.size, 8, none⟩) (some ⟨g4, 0, none⟩) 64 64 64 c4 rfl rfl w1.heap.size 8 (splice z72 0 (words H0.toL)) 188 HZ4.out (words K0) rfl (fun _ => ⟨rfl, _, rfl, HC4.out⟩) (by decide) (words_one _) w1.heap.size w1 HB4.out (Nat.le_refl _) ?_
  intro w5 hg5 hb5
  rw [splice_all] at hg5
  have HG5 := hg5
  have HB5 := Lib.hid hb5
  have HS5 : Hid (w5.heap[w.heap.size]? = some (.cells z72.toArray 188 (0, 0))) := Lib.hid ((hb5.block _ hwz).trans HZ0.out)
  clear hb5
  refine hK.out _ _ trivial (fun hHeld => ?_)
  clear hK K
  try simp only [Act.put, List.getElem_toArray, List.getElem_cons_zero, List.getElem_cons_succ, List.setIfInBounds_toArray, List.set_cons_zero, List.set_cons_succ]
  refine wpAnyH_done (by kernel_rfl) (NoPanic.normal ?_) _
  go_upto_region 7 with (fail)
  refine wp_region_lit ?_
  refine wpList_load_row rfl _ _ rfl w1.heap.size rfl _ _ _ _ HG5.out Tryz.underlying188 rfl (by rw [inf_state]; decide) ?_
  refine wpList_store_row rfl _ _ _ rfl w.heap.size _ rfl rfl _ _ HS5.out (by rw [inf_state]; decide) (by decide) (all_oneCell_toArray (words_one _)) ?_
  have HW : Hid ((w5.setRow w.heap.size (words (H0.toL ++ K0)).toArray).heap[w.heap.size]? = some (.cells (words (H0.toL ++ K0)).toArray 188 (0, 0))) := Lib.hid (setRow_heap w5 w.heap.size _ _ _ _ HS5.out)
  have HBW : Hid (Below w.heap.size w (w5.setRow w.heap.size (words (H0.toL ++ K0)).toArray)) := Lib.hid (below_setRow (HB1.out.trans (HB5.out.mono HB1.out.size)) (Nat.le_refl _) _)
  generalize w5.setRow w.heap.size (words (H0.toL ++ K0)).toArray = W at *
  go_wp2
  exact bodyPost_ret (v := .agg (words (H0.toL ++ K0)).toArray) (results_cell_row Tryz.results140 _ W w.heap.size _ _ _ _ rfl HW.out Tryz.underlying188 rfl (by rw [inf_state]; decide)) rfl ⟨rfl, HBW.out⟩
end Go.Proofs.YtagbkmoahflfdaaGreatDoor.Dg
namespace Go.Proofs.YtagbkmoahflfdaaGreatDoor.Bld
set_option maxRecDepth 20000
open Go.RowKit
set_option linter.unusedVariables false

theorem sizeB : (Tryz.prog.info? 68).map (·.size) = some 2 := by kernel_rfl
theorem liesB : liesAt Tryz.prog Tryz.prog.depth 68 (2 / Tryz.prog.cellsOf 68) 0 68 1 = true := by kernel_rfl
theorem infoB : (Tryz.prog.info? 5).map (fun i => (i.zero, i.size, i.bytes)) = some (some (.int .u8 0), 1, 1) := by kernel_rfl

set_option maxHeartbeats 1000000 in
set_option maxRecDepth 100000 in
theorem copyCheck_used (b : Nat) (w : World) (h0 : w.cell? ⟨b, 0, none⟩ = some (.pointer (some ⟨b, 0, none⟩))) :
    Calls Tryz.prog 73 #[.pointer (some ⟨b, 0, none⟩)] w fun e w' => e = .returned (.tuple #[]) ∧ w' = w := by
  obtain ⟨j, hj, _⟩ := Option.map_eq_some_iff.1 sizeB
  go_enter Tryz.func73, Tryz.ntmps73
  go_wp2
  rw [Lib.run_neq_ptr_same w _ Tryz.underlying65 hj]
  go_wp2
  go_end0
  exact ⟨rfl, rfl⟩

set_option maxHeartbeats 1000000 in
set_option maxRecDepth 100000 in
theorem copyCheck_fresh (b : Nat) (w : World) (h0 : w.cell? ⟨b, 0, none⟩ = some (.pointer none)) (hsh : w.shape? b = some (68, 2)) (hfz : w.frozen? ⟨b, 0, none⟩ = false) :
    Calls Tryz.prog 73 #[.pointer (some ⟨b, 0, none⟩)] w fun e w' => e = .returned (.tuple #[]) ∧ w' = w.setCell ⟨b, 0, none⟩ (.pointer (some ⟨b, 0, none⟩)) := by
  obtain ⟨j, hj, hjs⟩ := Option.map_eq_some_iff.1 sizeB
  go_enter Tryz.func73, Tryz.ntmps73
  go_wp2
  rw [Lib.run_to_unsafe w ⟨b, 0, none⟩ Tryz.underlying65 Tryz.underlying155 hj (by rw [hjs]; decide) hsh (Nat.zero_lt_succ 1)]
  simp only [Result.andThen]
  rw [Oper.upon_value]
  go_wp2
  rw [run_callFunc_extern Tryz.func107 (by kernel_rfl) (by kernel_rfl) (by kernel_rfl) (e := Extern.AbiNoEscape.same) (by kernel_rfl)]
  rw [Lib.run_noEscape]
  simp only [Result.andThen]
  rw [Oper.upon_value]
  go_wp2
  rw [Lib.run_from_unsafe w ⟨b, 0, none⟩ Tryz.underlying155 Tryz.underlying65 hj hsh liesB]
  simp only [Result.andThen]
  rw [Oper.upon_value]
  go_wp2
  go_end0
  exact ⟨rfl, rfl⟩

theorem copyCheck (B b : Nat) (bs : List Value) (w : World) (h : Lib.IsBuilder 68 5 B b bs w) :
    Calls Tryz.prog 73 #[.pointer (some ⟨b, 0, none⟩)] w fun e w' => e = .returned (.tuple #[]) ∧ (Lib.BuilderAt 68 5 B b (.pointer (some ⟨b, 0, none⟩)) bs w' ∧ Below B w w') := by
  rcases h with h | h
  · refine (copyCheck_fresh b w h.cell0 h.shape h.frozen0).mono ?_
    rintro e w' ⟨rfl, rfl⟩
    exact ⟨rfl, h.used _, (Below.refl B w).setCell (p := ⟨b, 0, none⟩) h.1 _⟩
  · refine (copyCheck_used b w h.cell0).mono ?_
    rintro e w' ⟨rfl, rfl⟩
    exact ⟨rfl, h, Below.refl B _⟩

set_option maxHeartbeats 2000000 in
set_option maxRecDepth 100000 in
theorem writeString (B b : Nat) (bs : List Value) (s : ByteArray) (w : World) (h : Lib.IsBuilder 68 5 B b bs w) (hlen : bs.length + s.size ≤ 140737488355328) (hBw : B ≤ w.heap.size) :
    Calls Tryz.prog 36 #[.pointer (some ⟨b, 0, none⟩), .string s] w fun e w' => e = .returned (.tuple #[.int .i64 s.size, .nilIface]) ∧ (Lib.IsBuilder 68 5 B b (bs ++ Lib.strCells s) w' ∧ Below B w w') := by
  obtain ⟨i0, hi, hz0, hz1, hz2⟩ := info_parts infoB
  have hi := Lib.hid hi; have hz0 := Lib.hid hz0; have hz1 := Lib.hid hz1; have hz2 := Lib.hid hz2
  go_enter Tryz.func36, Tryz.ntmps36
  go_wp2_with (go_at_call 73; refine (copyCheck B b bs _ h).mono ?_)
  rintro e w1 ⟨rfl, h1, hb1⟩
  obtain ⟨hB, v, hbk, hown, hne⟩ := h1
  have c0 : w1.cell? ⟨b, 0, none⟩ = some (.pointer (some ⟨b, 0, none⟩)) := by rw [Lib.cell_of_heap hbk]; rfl
  have c1 : w1.cell? ⟨b, 1, none⟩ = some v := by rw [Lib.cell_of_heap hbk]; rfl
  go_wp2_with (at_builtin; refine Lib.wpList_append_own_string _ rfl _ _ 66 9 rfl B 5 i0 Tryz.underlying66 Tryz.underlying9 hi.out hz0.out hz1.out hz2.out _ _ _ rfl hown s rfl ?c3 ?c4 ?c5 ?_)
  case c3 => unfold maxLen; omega
  case c4 => omega
  case c5 => have := hb1.size; omega
  intro v' w2 hown' hgrow _
  have hlt : b < w1.heap.size := by
    rcases Nat.lt_or_ge b w1.heap.size with h' | h'
    · exact h'
    · simp [Array.getElem?_eq_none h'] at hbk
  have hb2 : w2.heap[b]? = some (.cells #[.pointer (some ⟨b, 0, none⟩), v] 68 (0, 0)) := by
    rw [hgrow.block b hlt (fun e => hne e.symm)]
    exact hbk
  have d0 : w2.cell? ⟨b, 0, none⟩ = some (.pointer (some ⟨b, 0, none⟩)) := by rw [Lib.cell_of_heap hb2]; rfl
  have d1 : w2.cell? ⟨b, 1, none⟩ = some v := by rw [Lib.cell_of_heap hb2]; rfl
  have f1 : w2.frozen? ⟨b, 1, none⟩ = false := Lib.frozen_of_heap hb2 1
  obtain ⟨ao, n', cap, rfl⟩ : ∃ ao n' cap, v' = .slice ao n' cap := by
    rcases hown'.2 with ⟨hv, _⟩ | ⟨g, cap, cur, hv, _⟩
    · exact ⟨_, _, _, hv⟩
    · exact ⟨_, _, _, hv⟩
  go_wp2
  go_ret2
  refine ⟨rfl, .inr ?_, ?_⟩
  · exact Lib.BuilderAt.put (T := 68) (e := 5) hB hb2 (bs' := bs ++ Lib.strCells s) (by simpa [Lib.strCells_length] using hown') (by decide)
  · exact (hb1.grown hgrow (by have := hb1.size; omega) (fun k hk => (hown.lt k hk).1)).setCell (p := ⟨b, 1, none⟩) hB _
end Go.Proofs.YtagbkmoahflfdaaGreatDoor.Bld
namespace Go.Proofs.YtagbkmoahflfdaaGreatDoor.Bld
set_option maxRecDepth 20000
open Go.RowKit
set_option linter.unusedVariables false

set_option maxHeartbeats 2000000 in
set_option maxRecDepth 100000 in
theorem writeByte (B b : Nat) (bs : List Value) (c : Int) (w : World) (h : Lib.IsBuilder 68 5 B b bs w) (hlen : bs.length + 1 ≤ 140737488355328) (hBw : B ≤ w.heap.size) :
    Calls Tryz.prog 69 #[.pointer (some ⟨b, 0, none⟩), .int .u8 c] w fun e w' => e = .returned .nilIface ∧ (Lib.IsBuilder 68 5 B b (bs ++ [.int .u8 c]) w' ∧ Below B w w') := by
  obtain ⟨i0, hi, hz0, hz1, hz2⟩ := info_parts infoB
  have hi := Lib.hid hi; have hz0 := Lib.hid hz0; have hz1 := Lib.hid hz1; have hz2 := Lib.hid hz2
  go_enter Tryz.func69, Tryz.ntmps69
  go_wp2_with (go_at_call 73; refine (copyCheck B b bs _ h).mono ?_)
  rintro e w1 ⟨rfl, h1, hb1⟩
  have hsz := hb1.size
  obtain ⟨hB, v, hbk, hown, hne⟩ := h1
  have c0 : w1.cell? ⟨b, 0, none⟩ = some (.pointer (some ⟨b, 0, none⟩)) := by rw [Lib.cell_of_heap hbk]; rfl
  have c1 : w1.cell? ⟨b, 1, none⟩ = some v := by rw [Lib.cell_of_heap hbk]; rfl
  have hlt : b < w1.heap.size := by
    rcases Nat.lt_or_ge b w1.heap.size with h' | h'
    · exact h'
    · rw [Array.getElem?_eq_none h'] at hbk; cases hbk
  have HN : Hid (∀ (j : Nat) (u : Value), ([.int .u8 c] : List Value)[j]? = some u → (w1.alloc (.cells #[.int .u8 c] 5)).cell? ((⟨w1.heap.size, 0, none⟩ : Addr).add j) = some u) := Lib.hid (by
    intro j u hj
    cases j with
    | zero =>
      simp only [List.getElem?_cons_zero, Option.some.injEq] at hj
      subst hj
      simp [Addr.add, go_sem]
    | succ j => simp at hj)
  go_wp2_with (at_builtin; refine wpList_append_own _ rfl _ _ 66 rfl B 5 i0 (.int .u8 0) 1 1 Tryz.underlying66 hi.out hz0.out hz1.out hz2.out rfl (by decide) _ _ _ rfl (hown.alloc _) ⟨w1.heap.size, 0, none⟩ 1 1 [.int .u8 c] rfl rfl HN.out ?c2 ?c3 ?c4 ?c5 ?_)
  case c2 => intro u hu; rw [List.mem_singleton.1 hu]; rfl
  case c3 => unfold maxLen; omega
  case c4 => omega
  case c5 => simp; omega
  intro v' w2 hown' hgrow _
  have hb2 : w2.heap[b]? = some (.cells #[.pointer (some ⟨b, 0, none⟩), v] 68 (0, 0)) := by
    rw [hgrow.block b (by simp; omega) (fun e => hne e.symm), Lib.alloc_old w1 _ b hlt]
    exact hbk
  have d0 : w2.cell? ⟨b, 0, none⟩ = some (.pointer (some ⟨b, 0, none⟩)) := by rw [Lib.cell_of_heap hb2]; rfl
  have d1 : w2.cell? ⟨b, 1, none⟩ = some v := by rw [Lib.cell_of_heap hb2]; rfl
  have f1 : w2.frozen? ⟨b, 1, none⟩ = false := Lib.frozen_of_heap hb2 1
  obtain ⟨ao, n', cap, rfl⟩ : ∃ ao n' cap, v' = .slice ao n' cap := by
    rcases hown'.2 with ⟨hv, _⟩ | ⟨g, cap, cur, hv, _⟩
    · exact ⟨_, _, _, hv⟩
    · exact ⟨_, _, _, hv⟩
  go_wp2
  go_ret
  refine ⟨rfl, .inr ?_, ?_⟩
  · exact Lib.BuilderAt.put (T := 68) (e := 5) hB hb2 (bs' := bs ++ [.int .u8 c]) (by simpa using hown') (by decide)
  · exact ((hb1.alloc (by omega) _).grown hgrow (by simp; omega) (fun k hk => (hown.lt k hk).1)).setCell (p := ⟨b, 1, none⟩) hB _
end Go.Proofs.YtagbkmoahflfdaaGreatDoor.Bld
namespace Go.Proofs.YtagbkmoahflfdaaGreatDoor.Dg
set_option maxRecDepth 20000
open Go.RowKit
set_option linter.unusedVariables false
set_option linter.unusedSimpArgs false

/-- Words that are read. -/
def Row32 (w : World) (b : Nat) (l : List Nat) : Prop := b < w.heap.size ∧ ∀ j, j < l.length → w.cell? ⟨b, j, none⟩ = some (.int .u32 (l.getD j 0 : Nat))
theorem Row32.below {w w' : World} {b B : Nat} {l : List Nat} (h : Row32 w b l) (hb : Below B w w') (hB : b < B) : Row32 w' b l :=
  ⟨Nat.lt_of_lt_of_le h.1 hb.size, fun j hj => (hb.cell (p := ⟨b, j, none⟩) hB).trans (h.2 j hj)⟩
theorem be_cells (x : Nat) : Lib.byteCells (be x) = [.int .u8 ((x : Int) / 16777216 % 256), .int .u8 ((x : Int) / 65536 % 256), .int .u8 ((x : Int) / 256 % 256), .int .u8 ((x : Int) % 256)] := by
  simp [Lib.byteCells, be, UInt8.toNat_ofNat']
theorem bes_step (l : List Nat) (k : Nat) (hk : k < l.length) : bes (l.take (k + 1)) = bes (l.take k) ++ be (l.getD k 0) := by
  have e : l.getD k 0 = l[k] := by simp [List.getD, hk]
  unfold bes
  rw [List.take_succ_eq_append_getElem hk, e]
  simp only [List.flatMap_append, List.flatMap_cons, List.flatMap_nil, List.append_nil]
theorem be_len (x : Nat) : (be x).length = 4 := rfl
theorem bes_len (l : List Nat) : (bes l).length = 4 * l.length := by
  induction l with
  | nil => rfl
  | cons x l ih =>
    have : bes (x :: l) = be x ++ bes l := by simp [bes]
    rw [this, List.length_append, ih, be_len, List.length_cons]; omega
theorem byteCells_app (a b : List UInt8) : Lib.byteCells (a ++ b) = Lib.byteCells a ++ Lib.byteCells b := by simp [Lib.byteCells]
theorem byteCells_len (a : List UInt8) : (Lib.byteCells a).length = a.length := by simp [Lib.byteCells]
/-- A builder of the call's own. -/
abbrev IB (B : Nat) (bs : List Value) (w : World) : Prop := Lib.IsBuilder 68 5 B B bs w

set_option maxHeartbeats 8000000 in
theorem written_any (b c : Nat) (l : List Nat) (w : World) (hr : Row32 w b l) (hl : l.length ≤ 100) :
    Calls Tryz.prog 144 #[.slice (some ⟨b, 0, none⟩) l.length c] w fun e w' => e = .returned (.string ⟨(bes l).toArray⟩) ∧ Below w.heap.size w w' := by
  have hblt := hr.1
  have HR := Lib.hid hr
  clear hr
  have HB := Lib.hid (Lib.fresh_isBuilder 68 5 w)
  go_enter Tryz.func144, Tryz.ntmps144
  go_wp2
  go_loopw [9] (fun iv wr => ∃ k : Nat, k ≤ l.length ∧ iv = .int .i64 k ∧ IB w.heap.size (Lib.byteCells (bes (l.take k))) wr ∧ Below w.heap.size w wr) (fun iv _ => l.length - (intOf iv).toNat)
  case atStart => exact ⟨0, Nat.zero_le _, rfl, HB.out, (Below.refl _ _).alloc (Nat.le_refl _) _⟩
  case round =>
    obtain ⟨k, hk, rfl, hI, hb⟩ := hrel
    have HI := Lib.hid hI
    clear hI
    have hsz := hb.size
    have HBr := Lib.hid hb
    have HRr := Lib.hid (HR.out.below hb hblt)
    clear hb
    by_cases hlt : k < l.length
    · have hc := HRr.out.2 k hlt
      have HS : Hid (Lib.byteCells (bes (l.take (k + 1))) = Lib.byteCells (bes (l.take k)) ++ Lib.byteCells (be (l.getD k 0))) := Lib.hid (by rw [bes_step l k hlt, byteCells_app])
      rw [be_cells] at HS
      have hlen : (Lib.byteCells (bes (l.take k))).length ≤ 400 := by
        rw [byteCells_len, bes_len, List.length_take]; omega
      generalize l.getD k 0 = x at hc HS
      generalize hbs : Lib.byteCells (bes (l.take k)) = bs at HI HS hlen
      have HBS := Lib.hid hbs
      clear hbs
      go_wp2
      refine wp_loop_rounds 5 ?_
      rw [rounds_succ]
      go_wp2_with fail
      refine (Bld.writeByte _ _ _ _ _ HI.out (by omega) hsz).mono ?_
      rintro e w1 ⟨rfl, h1, hb1⟩
      have H1 := Lib.hid h1
      have hs1 : w.heap.size ≤ w1.heap.size := Nat.le_trans hsz hb1.size
      have HB1 := Lib.hid (HBr.out.trans hb1)
      clear h1 hb1
      go_wp2_with fail
      rw [rounds_succ]
      go_wp2_with fail
      refine (Bld.writeByte _ _ _ _ _ H1.out (by simp; omega) hs1).mono ?_
      rintro e w2 ⟨rfl, h1, hb1⟩
      have H2 := Lib.hid h1
      have hs2 : w.heap.size ≤ w2.heap.size := Nat.le_trans hs1 hb1.size
      have HB2 := Lib.hid (HB1.out.trans hb1)
      clear h1 hb1
      go_wp2_with fail
      rw [rounds_succ]
      go_wp2_with fail
      refine (Bld.writeByte _ _ _ _ _ H2.out (by simp; omega) hs2).mono ?_
      rintro e w3 ⟨rfl, h1, hb1⟩
      have H3 := Lib.hid h1
      have hs3 : w.heap.size ≤ w3.heap.size := Nat.le_trans hs2 hb1.size
      have HB3 := Lib.hid (HB2.out.trans hb1)
      clear h1 hb1
      go_wp2_with fail
      rw [rounds_succ]
      go_wp2_with fail
      refine (Bld.writeByte _ _ _ _ _ H3.out (by simp; omega) hs3).mono ?_
      rintro e w4 ⟨rfl, h1, hb1⟩
      have H4 : Hid (IB w.heap.size (Lib.byteCells (bes (l.take (k + 1)))) w4) := Lib.hid (by rw [HS.out]; simpa using h1)
      have HB4 := Lib.hid (HB3.out.trans hb1)
      clear h1 hb1
      go_wp2_with fail
      rw [rounds_succ]
      go_wp2
      go_roundw
      case rel => exact ⟨k + 1, by omega, by go_num, H4.out, HB4.out⟩
      case measure => simp [intOf]; omega
    · obtain rfl : k = l.length := by omega
      rw [List.take_length] at HI
      go_wp2_with fail
      refine (Tryz.Builder_String_any w.heap.size w.heap.size (bes l) _ HI.out hsz).mono ?_
      rintro e w1 ⟨rfl, hb1⟩
      have HB1 := Lib.hid (HBr.out.trans hb1)
      clear hb1
      go_wp2
      go_ret
      exact ⟨rfl, HB1.out⟩
theorem app_two (l m : List UInt8) : ((⟨l.toArray⟩ : ByteArray) ++ (⟨m.toArray⟩ : ByteArray)) = ⟨(l ++ m).toArray⟩ := by
  apply ByteArray.ext
  simp
theorem rep0 (n : Nat) : Lib.repeatL [0] n = List.replicate n 0 := by
  induction n with
  | zero => rfl
  | succ n ih => rw [Lib.repeatL, ih, List.replicate_succ]; rfl
theorem rep_any (Z : Nat) (w : World) (hZ : Z ≤ 1000) : Calls Tryz.prog 105 #[.string ⟨#[0]⟩, .int .i64 Z] w fun e w' => e = .returned (.string ⟨(List.replicate Z (0 : UInt8)).toArray⟩) ∧ Below w.heap.size w w' := by
  have h := Tryz.strings_Repeat ⟨#[0]⟩ Z w (by omega) (by show 1 * Z ≤ _; omega)
  rw [show (⟨#[0]⟩ : ByteArray).data.toList = [0] from rfl, rep0] at h
  exact h
theorem two_made (w : World) (x y : Nat) : Row32 (w.alloc (.cells #[.int .u32 x, .int .u32 y] 22)) w.heap.size [x, y] := ⟨by simp, fun j hj => by
  have : j = 0 ∨ j = 1 := by simp at hj; omega
  rcases this with rfl | rfl <;> simp [go_sem]⟩
set_option maxHeartbeats 4000000 in
theorem filled_any (l : List UInt8) (w : World) (hl : l.length ≤ 100000) :
    Calls Tryz.prog 141 #[.string ⟨l.toArray⟩] w fun e w' => e = .returned (.string ⟨(pad l).toArray⟩) ∧ Below w.heap.size w w' := by
  obtain ⟨n, hn⟩ : ∃ n, l.length = n := ⟨_, rfl⟩
  have hsz : (⟨l.toArray⟩ : ByteArray).size = n := by rw [← hn]; rfl
  obtain ⟨O, hO⟩ : ∃ O, (n + 9) % 64 = O := ⟨_, rfl⟩
  obtain ⟨Z, hZ⟩ : ∃ Z, (64 - O) % 64 = Z := ⟨_, rfl⟩
  have hO1 : O < 64 := by omega
  have hZ1 : Z < 64 := by omega
  have e1 : ((n : Int) + 1 + 8) % 64 = (O : Int) := by omega
  have e1' : ((n : Int) + 9) % 64 = (O : Int) := by omega
  have e2 : ((64 : Int) - (O : Int)) % 64 = (Z : Int) := by omega
  have hn1 : n ≤ 100000 := by omega
  obtain ⟨H, hH⟩ : ∃ H, 8 * n / 4294967296 = H := ⟨_, rfl⟩
  obtain ⟨L, hL⟩ : ∃ L, 8 * n % 4294967296 = L := ⟨_, rfl⟩
  have e5 : 8 * (n : Int) = (L : Int) := by omega
  have e3 : (L : Int) / 4294967296 % 4294967296 = (H : Int) := by omega
  have e3' : (L : Int) / 4294967296 = (H : Int) := by omega
  have e4 : (L : Int) % 4294967296 = (L : Int) := by omega
  have hH1 : (H : Int) ≤ 1 := by omega
  have HP : Hid (pad l = l ++ [128] ++ List.replicate Z 0 ++ bes [H, L]) := Lib.hid (by unfold pad zs; rw [hn, hO, hZ, hH, hL])
  obtain ⟨zl, hzl⟩ : ∃ zl, List.replicate Z (0 : UInt8) = zl := ⟨_, rfl⟩
  have CR := Lib.hid (fun w => rep_any Z w (by omega))
  rw [hzl] at HP CR
  have hbl : (bes [H, L]).length = 8 := rfl
  have hrl : zl.length = Z := by rw [← hzl]; simp
  clear hn hO hzl hZ hH hL
  go_enter Tryz.func141, Tryz.ntmps141
  go_wp2_with fail
  refine (CR.out _).mono ?_
  rintro e w1 ⟨rfl, hb1⟩
  have HB1 := Lib.hid hb1
  have hs1 := hb1.size
  clear hb1
  go_wp2_with fail
  refine (written_any _ 2 [H, L] _ (two_made _ H L) (by simp)).mono ?_
  rintro e w2 ⟨rfl, hb2⟩
  have HB2 := Lib.hid ((HB1.out.alloc hs1 _).trans (hb2.mono (by simp; omega)))
  clear hb2
  go_wp2
  go_ret
  exact ⟨by rw [HP.out, app_two, app_two, app_two]; rfl, HB2.out⟩
end Go.Proofs.YtagbkmoahflfdaaGreatDoor.Dg
namespace Go.Proofs.YtagbkmoahflfdaaGreatDoor.Dg
set_option maxRecDepth 20000
open Go.RowKit
set_option linter.unusedVariables false
set_option linter.unusedSimpArgs false

theorem sv_to (l : List UInt8) (n : Nat) : (⟨l.toArray⟩ : ByteArray).extract 0 n = ⟨(l.take n).toArray⟩ := by
  apply ByteArray.ext
  simp
theorem sv_from (l : List UInt8) (n : Nat) : (⟨l.toArray⟩ : ByteArray).extract n l.length = ⟨(l.drop n).toArray⟩ := by
  apply ByteArray.ext
  apply Array.toList_inj.1
  rw [Lib.extract_data]
  simp [List.take_of_length_le]
def slen : Value → Nat
  | .string s => s.size
  | _ => 0
theorem plus_ok (v u : V) : (plus v u).ok := ⟨m32_lt _, m32_lt _, m32_lt _, m32_lt _, m32_lt _, m32_lt _, m32_lt _, m32_lt _⟩
theorem H0_ok : H0.ok := by unfold V.ok H0; decide
theorem K0_len : K0.length = 64 := rfl
theorem pad_len (l : List UInt8) : ∃ n, (pad l).length = 64 * n := by
  refine ⟨(l.length + 9 + zs l.length) / 64, ?_⟩
  have e : (pad l).length = l.length + 9 + zs l.length := by
    simp only [pad, List.length_append, List.length_replicate, bes_len, List.length_cons, List.length_nil]; omega
  rw [e]
  unfold zs
  omega
theorem sb_row {w : World} {b : Nat} {v : V} {ks : List Nat} (h : SB w b v ks) : Row32 w b v.toL := ⟨h.lt, fun j hj => by
  have hj8 : j < 8 := hj
  have e : (v.toL ++ ks)[j]? = some (v.toL.getD j 0) := by
    rw [List.getElem?_append_left hj, List.getElem?_eq_getElem hj]; simp [List.getD, List.getElem?_eq_getElem hj]
  rw [Lib.cell_of_heap h]
  simp only [List.map_append, List.getElem?_toArray, ← List.map_append, List.getElem?_map, e, Option.map_some]⟩
/-- What the loop bears. -/
structure SmR (F : V) (w : World) (b n : Nat) (l : List UInt8) (v : V) (wr : World) : Prop where
  len : l.length = 64 * n
  ok : v.ok
  st : SB wr b v K0
  res : blocks n l v = F
  bel : Below w.heap.size w wr
theorem SmR.step {F : V} {w wr w2 : World} {b n : Nat} {l : List UInt8} {v : V} (h : SmR F w b (n + 1) l v wr) (hb : w.heap.size ≤ b) (ht : Took wr b v K0 (ws (l.take 64) 48) w2) : SmR F w b n (l.drop 64) (take1 v (l.take 64)) w2 :=
  ⟨by rw [List.length_drop, h.len]; omega, plus_ok _ _, ht.1, by rw [← blocks_step]; exact h.res, h.bel.trans (It.Only.below ht.2 h.bel.size (fun k hk => by rw [hk]; exact hb))⟩

set_option maxHeartbeats 8000000 in
theorem sum_of (vs : Value) (l : List UInt8) (w : World) (hl : l.length ≤ 100000)
    (CJ : Hid (∀ W : World, Below w.heap.size w W → Calls Tryz.prog 142 #[vs, .string ⟨#[]⟩] W fun e w' => e = .returned (.string ⟨l.toArray⟩) ∧ Below W.heap.size W w')) :
    Calls Tryz.prog 108 #[vs] w fun e w' => e = .returned (.string ⟨(sha l).toArray⟩) ∧ Below w.heap.size w w' := by
  have hz := (zero_of_info (P := Tryz.prog) zero_state).1
  go_enter Tryz.func108, Tryz.ntmps108
  go_wp2_with fail
  refine (begun_any _).mono ?_
  rintro e w1 ⟨rfl, hb1⟩
  have HB1 := Lib.hid hb1
  have hs1 := hb1.size
  clear hb1
  have hst : (storeCells ⟨w1.heap.size, 0, none⟩ (words (H0.toL ++ K0))).run Tryz.prog (w1.alloc (.cells z72.toArray 188)) = .ok () (w1.alloc (.cells (words (H0.toL ++ K0)).toArray 188)) := by
    have h := run_storeCells_new (P := Tryz.prog) w1 188 z72.toArray (words (H0.toL ++ K0)).toArray (by rw [inf_state]; decide) (by decide) (all_oneCell_toArray (words_one _))
    rw [List.toList_toArray] at h
    exact h
  go_wp2_with fail
  have HW1 : Hid (Below w.heap.size w (w1.alloc (.cells (words (H0.toL ++ K0)).toArray 188))) := Lib.hid (HB1.out.alloc hs1 _)
  have HS1 : Hid (SB (w1.alloc (.cells (words (H0.toL ++ K0)).toArray 188)) w1.heap.size H0 K0) := Lib.hid (heap_alloc_new w1 _)
  refine (CJ.out _ HW1.out).mono ?_
  rintro e w2 ⟨rfl, hb2⟩
  have HB2 := Lib.hid (HW1.out.trans (hb2.mono HW1.out.size))
  have HS2 : Hid (SB w2 w1.heap.size H0 K0) := Lib.hid (HS1.out.keep fun k hk => by subst hk; exact hb2.block _ (by simp))
  clear hb2 hst
  go_wp2_with fail
  refine (filled_any l _ hl).mono ?_
  rintro e w3 ⟨rfl, hb3⟩
  have hlt2 := HS2.out.lt
  have HB3 := Lib.hid (HB2.out.trans (hb3.mono HB2.out.size))
  have HS3 : Hid (SB w3 w1.heap.size H0 K0) := Lib.hid (HS2.out.keep fun k hk => by subst hk; exact hb3.block _ hlt2)
  obtain ⟨N, hN⟩ := pad_len l
  have HF : Hid (sha l = bes (blocks N (pad l) H0).toL) := Lib.hid (by unfold sha; rw [hN, Nat.mul_div_cancel_left N (by decide)])
  have HPL : Hid ((pad l).length = 64 * N) := Lib.hid hN
  clear hb3 hN hlt2 hl
  obtain ⟨F, hF⟩ : ∃ F, blocks N (pad l) H0 = F := ⟨_, rfl⟩
  rw [hF] at HF
  have HSR : Hid (SmR F w w1.heap.size N (pad l) H0 w3) := Lib.hid ⟨HPL.out, H0_ok, HS3.out, hF, HB3.out⟩
  clear HPL HS3 HB3 hF HB2 HS2 HW1 HS1
  generalize pad l = p at HSR ⊢
  go_wp2
  go_loopw [4] (fun sv wr => ∃ (n : Nat) (q : List UInt8) (v : V), sv = .string ⟨q.toArray⟩ ∧ SmR F w w1.heap.size n q v wr) (fun sv _ => slen sv)
  case atStart => exact ⟨N, p, H0, rfl, HSR.out⟩
  case round =>
    clear HSR
    obtain ⟨n, q, v, rfl, hr⟩ := hrel
    have hlen := hr.len
    have hb := hr.st.lt
    have HR := Lib.hid hr
    clear hr
    cases n with
    | zero =>
      obtain rfl : q = [] := List.eq_nil_of_length_eq_zero (by omega)
      have hv : v = F := by rw [← HR.out.res, blocks_none]
      subst hv
      have HRow := Lib.hid (sb_row HR.out.st)
      have HBr := Lib.hid HR.out.bel
      have hsz := HR.out.bel.size
      clear HR hlen
      go_wp2_with fail
      refine (written_any w1.heap.size 8 v.toL _ HRow.out (by rw [toL_len]; decide)).mono ?_
      rintro e w4 ⟨rfl, hb4⟩
      have HB4 := Lib.hid (HBr.out.trans (hb4.mono hsz))
      clear hb4
      go_wp2
      go_ret
      exact ⟨by rw [HF.out]; rfl, HB4.out⟩
    | succ n =>
      have h64 : 64 ≤ q.length := by omega
      have hne : ¬ q = [] := by intro h; rw [h] at h64; simp at h64
      have hemp : q.isEmpty = false := by simpa using hne
      have HST : Hid (∀ w2, Took wr w1.heap.size v K0 (ws (q.take 64) 48) w2 → SmR F w w1.heap.size n (q.drop 64) (take1 v (q.take 64)) w2) := Lib.hid fun w2 ht => HR.out.step hs1 ht
      have CT : Hid (Calls Tryz.prog 143 #[.pointer (some ⟨w1.heap.size, 0, none⟩), .string ((⟨q.toArray⟩ : ByteArray).extract 0 64)] wr fun e w' => e = .returned (.tuple #[]) ∧ Took wr w1.heap.size v K0 (ws (q.take 64) 48) w') := Lib.hid (by
        rw [sv_to]
        exact take_any w1.heap.size v K0 ⟨(q.take 64).toArray⟩ wr HR.out.ok K0_len (by show (q.take 64).length = 64; simp; omega) HR.out.st)
      have E2 := Lib.hid (sv_from q 64)
      have i1 : (64 : Int) ≤ (q.length : Int) := by omega
      have hm : (q.drop 64).length < q.length := by rw [List.length_drop]; omega
      have HM := Lib.hid hm
      clear hm hlen HR
      go_wp2_with fail
      refine CT.out.mono ?_
      rintro e w2 ⟨rfl, ht⟩
      have HT := Lib.hid (HST.out _ ht)
      clear ht
      go_wp2
      go_roundw
      case rel =>
        refine ⟨n, q.drop 64, _, ?_, HT.out⟩
        rw [← E2.out]
      case measure =>
        show slen _ < slen _
        rw [E2.out]
        exact HM.out
end Go.Proofs.YtagbkmoahflfdaaGreatDoor.Dg
