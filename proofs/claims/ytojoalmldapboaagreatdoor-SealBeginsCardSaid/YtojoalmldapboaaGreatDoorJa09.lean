/- The walks of layer 7: the state ahead of the first block · What a strings.Builder that the call itself made does: WriteString at this program (its copy check passes at the builder's own place). · What a strings.Builder that the call itself made does: WriteByte at this program. -/
import Derived.Test.YtojoalmldapboaaGreatDoorJa08
import Derived.Deep.RegionHeld3
import Derived.Laws.CopyOwn
import Derived.Deep.CutRange
import Derived.Test.YtojoalmldapboaaGreatDoorRows
import Derived.Test.YtojoalmldapboaaGreatDoorShelf
import Derived.Shelf.Strings.Builder1
import Derived.Shelf.Strings.BuilderF
import Derived.Lib.Hide
namespace Go.Proofs.YtojoalmldapboaaGreatDoor.Dg
set_option maxRecDepth 20000
open Go.RowKit
set_option linter.unusedVariables false
set_option linter.unusedSimpArgs false

theorem row64_of {w : World} {B c : Nat} {a : Option Addr} {l : List Nat} (h : Own64 w B (.slice a l.length c) l) (h0 : 0 < l.length) : ∃ g, a = some ⟨g, 0, none⟩ ∧ B ≤ g ∧ l.length ≤ c ∧ Row64 w g l := by
  have h' := h
  rcases h.2 with ⟨hv, hl⟩ | ⟨g, cap, cur, hv, _⟩
  · omega
  · injection hv with h1 h2 h3
    subst h1 h3
    have hl := World.ownsRow.lt h' g rfl
    rename_i hrest
    refine ⟨g, rfl, hl.1, by obtain ⟨_, _, hx, _⟩ := hrest; omega, hl.2, fun j hj => ?_⟩
    obtain ⟨g1, e1, hc⟩ := Own64.cell h' j hj
    obtain rfl : g = g1 := by cases e1; rfl
    exact hc
theorem row32_of {w : World} {B c : Nat} {a : Option Addr} {l : List Nat} (h : Own32 w B (.slice a l.length c) l) (h0 : 0 < l.length) : ∃ g, a = some ⟨g, 0, none⟩ ∧ B ≤ g ∧ g < w.heap.size ∧ ∀ (j : Nat) (v : Value), (words l)[j]? = some v → w.cell? ((⟨g, 0, none⟩ : Addr).add j) = some v := by
  have h' := h
  rcases h.2 with ⟨hv, hl⟩ | ⟨g, cap, cur, hv, _⟩
  · omega
  · injection hv with h1 h2 h3
    subst h1 h3
    have hl := World.ownsRow.lt h' g rfl
    exact ⟨g, rfl, hl.1, hl.2, World.ownsRow.cells h' rfl⟩
def RtP (out : List Nat) (m : Nat) (w : World) (e : Ending) (w' : World) : Prop := ∃ g c, e = .returned (.slice (some ⟨g, 0, none⟩) m c) ∧ (∀ (j : Nat) (v : Value), (words out)[j]? = some v → w'.cell? ((⟨g, 0, none⟩ : Addr).add j) = some v) ∧ Below w.heap.size w w'
theorem roots_sq (g c : Nat) (w : World) (hr : Row64 w g P0) : Calls Tryz.prog 165 #[.func (.func 162) #[] #[], .slice (some ⟨g, 0, none⟩) 8 c] w (RtP H0.toL 8 w) := by
  have hr8 : Row64 w g (P0.take 8) := ⟨hr.1, fun j hj => by
    have hj8 : j < 8 := by have : (P0.take 8).length = 8 := rfl; omega
    have := hr.2 j (by have : P0.length = 64 := rfl; omega)
    rw [this]
    congr 3
    simp only [List.getD, List.getElem?_take, if_pos hj8]⟩
  refine (roots_any sq 162 g c (P0.take 8) w hr8 (by decide) (Lib.hid fun q n p1 p2 w hn c1 c2 => below_sq q n p1 p2 w hn c1 c2)).mono ?_
  rintro e w' ⟨a, c2, rfl, ho, hb⟩
  rw [rt_sq] at ho
  obtain ⟨g2, rfl, _, _, hc⟩ := row32_of (l := H0.toL) ho (by decide)
  exact ⟨g2, c2, rfl, hc, hb⟩
theorem roots_cb (g c : Nat) (w : World) (hr : Row64 w g P0) : Calls Tryz.prog 165 #[.func (.func 163) #[] #[], .slice (some ⟨g, 0, none⟩) 64 c] w (RtP K0 64 w) := by
  refine (roots_any cb 163 g c P0 w hr (by decide) (Lib.hid fun q n p1 p2 w hn c1 c2 => below_cb q n p1 p2 w hn c1 c2)).mono ?_
  rintro e w' ⟨a, c2, rfl, ho, hb⟩
  rw [rt_cb] at ho
  obtain ⟨g2, rfl, _, _, hc⟩ := row32_of (l := K0) ho (by decide)
  exact ⟨g2, c2, rfl, hc, hb⟩
def z72 : List Value := List.replicate 72 (.int .u32 0)
theorem zero_state : (Tryz.prog.info? 188).map (fun i => (i.zero, i.size)) = some (some (.agg z72.toArray), 72) := by kernel_rfl
theorem inf_state : (Tryz.prog.info? 188).map (·.size) = some 72 := by kernel_rfl
theorem lt_of_heap {w : World} {i : Nat} {o : Obj} (h : w.heap[i]? = some o) : i < w.heap.size := by
  rcases Nat.lt_or_ge i w.heap.size with h1 | h1
  · exact h1
  · rw [Array.getElem?_eq_none h1] at h; cases h
theorem inf_u32 : (Tryz.prog.info? 22).map (·.size) = some 1 := by kernel_rfl
theorem words_one (l : List Nat) : ∀ v ∈ words l, v.oneCell' = true := by
  intro v hv
  obtain ⟨x, _, rfl⟩ := List.mem_map.1 hv
  rfl
theorem splice_all : splice (splice z72 0 (words H0.toL)) 8 (words K0) = words (H0.toL ++ K0) := by rfl
set_option maxHeartbeats 8000000 in
theorem begun_any (w : World) : Calls Tryz.prog 140 #[] w fun e w' => e = .returned (.agg (words (H0.toL ++ K0)).toArray) ∧ Below w.heap.size w w' := by
  have hz := (zero_of_info (P := Tryz.prog) zero_state).1
  go_enter Tryz.func140, Tryz.ntmps140
  go_wp2_with fail
  refine (primes_any _).mono ?_
  rintro e w1 ⟨a, c, rfl, ho, hb⟩
  obtain ⟨g, rfl, hg, hc, hr⟩ := row64_of (l := P0) ho (by decide)
  have hc64 : 64 ≤ c := hc
  have hs1 := hb.size
  simp at hs1
  have HR := Lib.hid hr
  have hglt := hr.1
  have HZ0 : Hid (w1.heap[w.heap.size]? = some (.cells z72.toArray 188 (0, 0))) := Lib.hid ((hb.block _ (by simp)).trans (heap_alloc_new w _))
  have HB1 : Hid (Below w.heap.size w w1) := Lib.hid (((Below.refl _ _).alloc (Nat.le_refl _) _).trans (hb.mono (by simp)))
  clear ho hb hr hg hc
  have hwz : w.heap.size < w1.heap.size := by omega
  have HRW : Hid (Row64 (w1.alloc (.cells z72.toArray 188)).drew g P0) := Lib.hid (show Row64 (w1.alloc (.cells z72.toArray 188)) g P0 from HR.out.below ((Below.refl _ _).alloc (Nat.le_refl _) _) hglt)
  have hc8 : (8 : Int) ≤ (c : Int) := by omega
  go_wp2_with fail
  refine wp_region_noPanic ?_
  refine wp_region_held_drew (S := fun _ => True) (by kernel_rfl) ?_ (fun hHeld => ?_)
  · exact trivial
  refine wpAnyH_take (i := 0) (v := ?_) rfl (by kernel_rfl) (by kernel_rfl) (by kernel_rfl) (fun _ _ _ h => h) (Or.inl ⟨by rfl, ?_⟩) (by assumption) ?_
  rotate_left
  · (intro w hSw; (try dsimp only at hSw); go_simp; (try with_reducible rfl))
  try simp only [Act.put, List.getElem_toArray, List.getElem_cons_zero, List.getElem_cons_succ, List.setIfInBounds_toArray, List.set_cons_zero, List.set_cons_succ]
  refine wpAnyH_take (i := 1) (v := ?_) rfl (by kernel_rfl) (by kernel_rfl) (by kernel_rfl) (fun _ _ _ h => h) (Or.inl ⟨by rfl, ?_⟩) (by assumption) ?_
  rotate_left
  · (intro w hSw; (try dsimp only at hSw); go_simp; (try with_reducible rfl))
  try simp only [Act.put, List.getElem_toArray, List.getElem_cons_zero, List.getElem_cons_succ, List.setIfInBounds_toArray, List.set_cons_zero, List.set_cons_succ]
  refine wpAnyH_take (i := 2) (v := ?_) rfl (by kernel_rfl) (by kernel_rfl) (by kernel_rfl) (fun _ _ _ h => h) (Or.inl ⟨by rfl, ?_⟩) (by assumption) ?_
  rotate_left
  · (intro w hSw; (try dsimp only at hSw); go_simp; (try with_reducible rfl))
  try simp only [Act.put, List.getElem_toArray, List.getElem_cons_zero, List.getElem_cons_succ, List.setIfInBounds_toArray, List.set_cons_zero, List.set_cons_succ]
  refine wpAnyH_take (i := 3) (v := ?_) rfl (by kernel_rfl) (by kernel_rfl) (by kernel_rfl) (fun _ _ _ h => h) (Or.inl ⟨by rfl, ?_⟩) (by assumption) ?_
  rotate_left
  · (intro w hSw; (try dsimp only at hSw); go_simp; (try with_reducible rfl))
  try simp only [Act.put, List.getElem_toArray, List.getElem_cons_zero, List.getElem_cons_succ, List.setIfInBounds_toArray, List.set_cons_zero, List.set_cons_succ]
  refine wpAnyH_take (i := 4) (v := ?_) rfl (by kernel_rfl) (by kernel_rfl) (by kernel_rfl) (fun _ _ _ h => h) (Or.inl ⟨by rfl, ?_⟩) (by assumption) ?_
  rotate_left
  · (intro w hSw; (try dsimp only at hSw); go_simp; (try with_reducible rfl))
  try simp only [Act.put, List.getElem_toArray, List.getElem_cons_zero, List.getElem_cons_succ, List.setIfInBounds_toArray, List.set_cons_zero, List.set_cons_succ]
  refine wpAnyH_ready (rs := [5]) (by kernel_rfl) (by simp) ?_
  refine AllReadyH.cons rfl (fun K hK => ?_) AllReadyH.nil
  rw [if_pos (by rfl)]
  go_simp
  refine (roots_sq g c _ HRW.out).mono ?_
  rintro e w2 ⟨g2, c2, rfl, hc2, hb2⟩
  have HB2 : Hid (Below w1.heap.size w1 w2) := Lib.hid (((Below.refl _ _).alloc (Nat.le_refl _) (.cells z72.toArray 188)).trans ((show Below (w1.alloc (.cells z72.toArray 188)).heap.size (w1.alloc (.cells z72.toArray 188)) w2 from ⟨hb2.os, hb2.tape, hb2.output, hb2.size, hb2.block⟩).mono (by simp)))
  have HZ2 : Hid (w2.heap[w1.heap.size]? = some (.cells z72.toArray 188 (0, 0))) := Lib.hid ((hb2.block w1.heap.size (by simp)).trans (heap_alloc_new w1 _))
  have HC2 := Lib.hid hc2
  clear hb2 hc2
  refine hK.out _ _ trivial (fun hHeld => ?_)
  clear hK K
  try simp only [Act.put, List.getElem_toArray, List.getElem_cons_zero, List.getElem_cons_succ, List.setIfInBounds_toArray, List.set_cons_zero, List.set_cons_succ]
  refine wpAnyH_ready (rs := [6]) (by kernel_rfl) (by simp) ?_
  refine AllReadyH.cons rfl (fun K hK => ?_) AllReadyH.nil
  refine step_copy_splice rfl (.tmp 7) (.tmp 11) 193 193 rfl 22 Tryz.underlying193 inf_u32 (some ⟨w1.heap.size, 0, none⟩) (some ⟨g2, 0, none⟩) 8 8 8 c2 rfl rfl w1.heap.size 0 z72 188 HZ2.out (words H0.toL) rfl (fun _ => ⟨rfl, _, rfl, HC2.out⟩) (by decide) (words_one _) w1.heap.size w1 HB2.out (Nat.le_refl _) ?_
  intro w3 hg3 hb3
  have HB3 := Lib.hid hb3
  have HRW3 : Hid (Row64 w3 g P0) := Lib.hid (HR.out.below hb3 hglt)
  clear hb3
  refine hK.out _ _ trivial (fun hHeld => ?_)
  clear hK K
  try simp only [Act.put, List.getElem_toArray, List.getElem_cons_zero, List.getElem_cons_succ, List.setIfInBounds_toArray, List.set_cons_zero, List.set_cons_succ]
  refine wpAnyH_done (by kernel_rfl) (NoPanic.normal ?_) _
  go_upto_region 6 with (fail)
  refine wp_region_noPanic ?_
  refine wp_region_held_drew (S := fun _ => True) (by kernel_rfl) ?_ (fun hHeld => ?_)
  · exact trivial
  refine wpAnyH_take (i := 0) (v := ?_) rfl (by kernel_rfl) (by kernel_rfl) (by kernel_rfl) (fun _ _ _ h => h) (Or.inl ⟨by rfl, ?_⟩) (by assumption) ?_
  rotate_left
  · (intro w hSw; (try dsimp only at hSw); go_simp; (try with_reducible rfl))
  try simp only [Act.put, List.getElem_toArray, List.getElem_cons_zero, List.getElem_cons_succ, List.setIfInBounds_toArray, List.set_cons_zero, List.set_cons_succ]
  refine wpAnyH_take (i := 1) (v := ?_) rfl (by kernel_rfl) (by kernel_rfl) (by kernel_rfl) (fun _ _ _ h => h) (Or.inl ⟨by rfl, ?_⟩) (by assumption) ?_
  rotate_left
  · (intro w hSw; (try dsimp only at hSw); go_simp; (try with_reducible rfl))
  try simp only [Act.put, List.getElem_toArray, List.getElem_cons_zero, List.getElem_cons_succ, List.setIfInBounds_toArray, List.set_cons_zero, List.set_cons_succ]
  refine wpAnyH_take (i := 2) (v := ?_) rfl (by kernel_rfl) (by kernel_rfl) (by kernel_rfl) (fun _ _ _ h => h) (Or.inl ⟨by rfl, ?_⟩) (by assumption) ?_
  rotate_left
  · (intro w hSw; (try dsimp only at hSw); go_simp; (try with_reducible rfl))
  try simp only [Act.put, List.getElem_toArray, List.getElem_cons_zero, List.getElem_cons_succ, List.setIfInBounds_toArray, List.set_cons_zero, List.set_cons_succ]
  refine wpAnyH_take (i := 3) (v := ?_) rfl (by kernel_rfl) (by kernel_rfl) (by kernel_rfl) (fun _ _ _ h => h) (Or.inl ⟨by rfl, ?_⟩) (by assumption) ?_
  rotate_left
  · (intro w hSw; (try dsimp only at hSw); go_simp; (try with_reducible rfl))
  try simp only [Act.put, List.getElem_toArray, List.getElem_cons_zero, List.getElem_cons_succ, List.setIfInBounds_toArray, List.set_cons_zero, List.set_cons_succ]
  refine wpAnyH_ready (rs := [4]) (by kernel_rfl) (by simp) ?_
  refine AllReadyH.cons rfl (fun K hK => ?_) AllReadyH.nil
  rw [if_pos (by rfl)]
  go_simp
  refine (roots_cb g c w3.drew (show Row64 w3.drew g P0 from HRW3.out)).mono ?_
  rintro e w4 ⟨g4, c4, rfl, hc4, hb4⟩
  have hs3 := HB3.out.size
  have hlt3 : w1.heap.size < w3.heap.size := lt_of_heap hg3.out
  have hb4 : Below w3.heap.size w3 w4 := ⟨hb4.os, hb4.tape, hb4.output, hb4.size, hb4.block⟩
  have HB4 : Hid (Below w1.heap.size w1 w4) := Lib.hid (HB3.out.trans (hb4.mono hs3))
  have HZ4 : Hid (w4.heap[w1.heap.size]? = some (.cells (splice z72 0 (words H0.toL)).toArray 188 (0, 0))) := Lib.hid ((hb4.block w1.heap.size hlt3).trans hg3.out)
  have HC4 := Lib.hid hc4
  clear hb4 hc4 hg3
  refine hK.out _ _ trivial (fun hHeld => ?_)
  clear hK K
  try simp only [Act.put, List.getElem_toArray, List.getElem_cons_zero, List.getElem_cons_succ, List.setIfInBounds_toArray, List.set_cons_zero, List.set_cons_succ]
  refine wpAnyH_ready (rs := [5]) (by kernel_rfl) (by simp) ?_
  refine AllReadyH.cons rfl (fun K hK => ?_) AllReadyH.nil
  refine step_copy_splice rfl (.tmp 14) (.tmp 17) 193 193 rfl 22 Tryz.underlying193 inf_u32 (some ⟨w1.heap.size, 8, none⟩) (some ⟨g4, 0, none⟩) 64 64 64 c4 rfl rfl w1.heap.size 8 (splice z72 0 (words H0.toL)) 188 HZ4.out (words K0) rfl (fun _ => ⟨rfl, _, rfl, HC4.out⟩) (by decide) (words_one _) w1.heap.size w1 HB4.out (Nat.le_refl _) ?_
  intro w5 hg5 hb5
  rw [splice_all] at hg5
  have HG5 := hg5
  have HB5 := Lib.hid hb5
  have HS5 : Hid (w5.heap[w.heap.size]? = some (.cells z72.toArray 188 (0, 0))) := Lib.hid ((hb5.block _ hwz).trans HZ0.out)
  clear hb5
  refine hK.out _ _ trivial (fun hHeld => ?_)
  clear hK K
  try simp only [Act.put, List.getElem_toArray, List.getElem_cons_zero, List.getElem_cons_succ, List.setIfInBounds_toArray, List.set_cons_zero, List.set_cons_succ]
  refine wpAnyH_done (by kernel_rfl) (NoPanic.normal ?_) _
  go_upto_region 7 with (fail)
  refine wp_region_lit ?_
  refine wpList_load_row rfl _ _ rfl w1.heap.size rfl _ _ _ _ HG5.out Tryz.underlying188 rfl (by rw [inf_state]; decide) ?_
  refine wpList_store_row rfl _ _ _ rfl w.heap.size _ rfl rfl _ _ HS5.out (by rw [inf_state]; decide) (by decide) (all_oneCell_toArray (words_one _)) ?_
  have HW : Hid ((w5.setRow w.heap.size (words (H0.toL ++ K0)).toArray).heap[w.heap.size]? = some (.cells (words (H0.toL ++ K0)).toArray 188 (0, 0))) := Lib.hid (setRow_heap w5 w.heap.size _ _ _ _ HS5.out)
  have HBW : Hid (Below w.heap.size w (w5.setRow w.heap.size (words (H0.toL ++ K0)).toArray)) := Lib.hid (below_setRow (HB1.out.trans (HB5.out.mono HB1.out.size)) (Nat.le_refl _) _)
  generalize w5.setRow w.heap.size (words (H0.toL ++ K0)).toArray = W at *
  go_wp2
  exact bodyPost_ret (v := .agg (words (H0.toL ++ K0)).toArray) (results_cell_row Tryz.results140 _ W w.heap.size _ _ _ _ rfl HW.out Tryz.underlying188 rfl (by rw [inf_state]; decide)) rfl ⟨rfl, HBW.out⟩
end Go.Proofs.YtojoalmldapboaaGreatDoor.Dg
namespace Go.Proofs.YtojoalmldapboaaGreatDoor.Bld
set_option maxRecDepth 20000
open Go.RowKit
set_option linter.unusedVariables false

theorem sizeB : (Tryz.prog.info? 68).map (·.size) = some 2 := by kernel_rfl
theorem liesB : liesAt Tryz.prog Tryz.prog.depth 68 (2 / Tryz.prog.cellsOf 68) 0 68 1 = true := by kernel_rfl
theorem infoB : (Tryz.prog.info? 5).map (fun i => (i.zero, i.size, i.bytes)) = some (some (.int .u8 0), 1, 1) := by kernel_rfl

set_option maxHeartbeats 1000000 in
set_option maxRecDepth 100000 in
theorem copyCheck_used (b : Nat) (w : World) (h0 : w.cell? ⟨b, 0, none⟩ = some (.pointer (some ⟨b, 0, none⟩))) :
    Calls Tryz.prog 73 #[.pointer (some ⟨b, 0, none⟩)] w fun e w' => e = .returned (.tuple #[]) ∧ w' = w := by
  obtain ⟨j, hj, _⟩ := Option.map_eq_some_iff.1 sizeB
  go_enter Tryz.func73, Tryz.ntmps73
  go_wp2
  rw [Lib.run_neq_ptr_same w _ Tryz.underlying65 hj]
  go_wp2
  go_end0
  exact ⟨rfl, rfl⟩

set_option maxHeartbeats 1000000 in
set_option maxRecDepth 100000 in
theorem copyCheck_fresh (b : Nat) (w : World) (h0 : w.cell? ⟨b, 0, none⟩ = some (.pointer none)) (hsh : w.shape? b = some (68, 2)) (hfz : w.frozen? ⟨b, 0, none⟩ = false) :
    Calls Tryz.prog 73 #[.pointer (some ⟨b, 0, none⟩)] w fun e w' => e = .returned (.tuple #[]) ∧ w' = w.setCell ⟨b, 0, none⟩ (.pointer (some ⟨b, 0, none⟩)) := by
  obtain ⟨j, hj, hjs⟩ := Option.map_eq_some_iff.1 sizeB
  go_enter Tryz.func73, Tryz.ntmps73
  go_wp2
  rw [Lib.run_to_unsafe w ⟨b, 0, none⟩ Tryz.underlying65 Tryz.underlying155 hj (by rw [hjs]; decide) hsh (Nat.zero_lt_succ 1)]
  simp only [Result.andThen]
  rw [Oper.upon_value]
  go_wp2
  rw [run_callFunc_extern Tryz.func107 (by kernel_rfl) (by kernel_rfl) (by kernel_rfl) (e := Extern.AbiNoEscape.same) (by kernel_rfl)]
  rw [Lib.run_noEscape]
  simp only [Result.andThen]
  rw [Oper.upon_value]
  go_wp2
  rw [Lib.run_from_unsafe w ⟨b, 0, none⟩ Tryz.underlying155 Tryz.underlying65 hj hsh liesB]
  simp only [Result.andThen]
  rw [Oper.upon_value]
  go_wp2
  go_end0
  exact ⟨rfl, rfl⟩

theorem copyCheck (B b : Nat) (bs : List Value) (w : World) (h : Lib.IsBuilder 68 5 B b bs w) :
    Calls Tryz.prog 73 #[.pointer (some ⟨b, 0, none⟩)] w fun e w' => e = .returned (.tuple #[]) ∧ (Lib.BuilderAt 68 5 B b (.pointer (some ⟨b, 0, none⟩)) bs w' ∧ Below B w w') := by
  rcases h with h | h
  · refine (copyCheck_fresh b w h.cell0 h.shape h.frozen0).mono ?_
    rintro e w' ⟨rfl, rfl⟩
    exact ⟨rfl, h.used _, (Below.refl B w).setCell (p := ⟨b, 0, none⟩) h.1 _⟩
  · refine (copyCheck_used b w h.cell0).mono ?_
    rintro e w' ⟨rfl, rfl⟩
    exact ⟨rfl, h, Below.refl B _⟩

set_option maxHeartbeats 2000000 in
set_option maxRecDepth 100000 in
theorem writeString (B b : Nat) (bs : List Value) (s : ByteArray) (w : World) (h : Lib.IsBuilder 68 5 B b bs w) (hlen : bs.length + s.size ≤ 140737488355328) (hBw : B ≤ w.heap.size) :
    Calls Tryz.prog 36 #[.pointer (some ⟨b, 0, none⟩), .string s] w fun e w' => e = .returned (.tuple #[.int .i64 s.size, .nilIface]) ∧ (Lib.IsBuilder 68 5 B b (bs ++ Lib.strCells s) w' ∧ Below B w w') := by
  obtain ⟨i0, hi, hz0, hz1, hz2⟩ := info_parts infoB
  have hi := Lib.hid hi; have hz0 := Lib.hid hz0; have hz1 := Lib.hid hz1; have hz2 := Lib.hid hz2
  go_enter Tryz.func36, Tryz.ntmps36
  go_wp2_with (go_at_call 73; refine (copyCheck B b bs _ h).mono ?_)
  rintro e w1 ⟨rfl, h1, hb1⟩
  obtain ⟨hB, v, hbk, hown, hne⟩ := h1
  have c0 : w1.cell? ⟨b, 0, none⟩ = some (.pointer (some ⟨b, 0, none⟩)) := by rw [Lib.cell_of_heap hbk]; rfl
  have c1 : w1.cell? ⟨b, 1, none⟩ = some v := by rw [Lib.cell_of_heap hbk]; rfl
  go_wp2_with (at_builtin; refine Lib.wpList_append_own_string _ rfl _ _ 66 9 rfl B 5 i0 Tryz.underlying66 Tryz.underlying9 hi.out hz0.out hz1.out hz2.out _ _ _ rfl hown s rfl ?c3 ?c4 ?c5 ?_)
  case c3 => unfold maxLen; omega
  case c4 => omega
  case c5 => have := hb1.size; omega
  intro v' w2 hown' hgrow _
  have hlt : b < w1.heap.size := by
    rcases Nat.lt_or_ge b w1.heap.size with h' | h'
    · exact h'
    · simp [Array.getElem?_eq_none h'] at hbk
  have hb2 : w2.heap[b]? = some (.cells #[.pointer (some ⟨b, 0, none⟩), v] 68 (0, 0)) := by
    rw [hgrow.block b hlt (fun e => hne e.symm)]
    exact hbk
  have d0 : w2.cell? ⟨b, 0, none⟩ = some (.pointer (some ⟨b, 0, none⟩)) := by rw [Lib.cell_of_heap hb2]; rfl
  have d1 : w2.cell? ⟨b, 1, none⟩ = some v := by rw [Lib.cell_of_heap hb2]; rfl
  have f1 : w2.frozen? ⟨b, 1, none⟩ = false := Lib.frozen_of_heap hb2 1
  obtain ⟨ao, n', cap, rfl⟩ : ∃ ao n' cap, v' = .slice ao n' cap := by
    rcases hown'.2 with ⟨hv, _⟩ | ⟨g, cap, cur, hv, _⟩
    · exact ⟨_, _, _, hv⟩
    · exact ⟨_, _, _, hv⟩
  go_wp2
  go_ret2
  refine ⟨rfl, .inr ?_, ?_⟩
  · exact Lib.BuilderAt.put (T := 68) (e := 5) hB hb2 (bs' := bs ++ Lib.strCells s) (by simpa [Lib.strCells_length] using hown') (by decide)
  · exact (hb1.grown hgrow (by have := hb1.size; omega) (fun k hk => (hown.lt k hk).1)).setCell (p := ⟨b, 1, none⟩) hB _
end Go.Proofs.YtojoalmldapboaaGreatDoor.Bld
namespace Go.Proofs.YtojoalmldapboaaGreatDoor.Bld
set_option maxRecDepth 20000
open Go.RowKit
set_option linter.unusedVariables false

set_option maxHeartbeats 2000000 in
set_option maxRecDepth 100000 in
theorem writeByte (B b : Nat) (bs : List Value) (c : Int) (w : World) (h : Lib.IsBuilder 68 5 B b bs w) (hlen : bs.length + 1 ≤ 140737488355328) (hBw : B ≤ w.heap.size) :
    Calls Tryz.prog 69 #[.pointer (some ⟨b, 0, none⟩), .int .u8 c] w fun e w' => e = .returned .nilIface ∧ (Lib.IsBuilder 68 5 B b (bs ++ [.int .u8 c]) w' ∧ Below B w w') := by
  obtain ⟨i0, hi, hz0, hz1, hz2⟩ := info_parts infoB
  have hi := Lib.hid hi; have hz0 := Lib.hid hz0; have hz1 := Lib.hid hz1; have hz2 := Lib.hid hz2
  go_enter Tryz.func69, Tryz.ntmps69
  go_wp2_with (go_at_call 73; refine (copyCheck B b bs _ h).mono ?_)
  rintro e w1 ⟨rfl, h1, hb1⟩
  have hsz := hb1.size
  obtain ⟨hB, v, hbk, hown, hne⟩ := h1
  have c0 : w1.cell? ⟨b, 0, none⟩ = some (.pointer (some ⟨b, 0, none⟩)) := by rw [Lib.cell_of_heap hbk]; rfl
  have c1 : w1.cell? ⟨b, 1, none⟩ = some v := by rw [Lib.cell_of_heap hbk]; rfl
  have hlt : b < w1.heap.size := by
    rcases Nat.lt_or_ge b w1.heap.size with h' | h'
    · exact h'
    · rw [Array.getElem?_eq_none h'] at hbk; cases hbk
  have HN : Hid (∀ (j : Nat) (u : Value), ([.int .u8 c] : List Value)[j]? = some u → (w1.alloc (.cells #[.int .u8 c] 5)).cell? ((⟨w1.heap.size, 0, none⟩ : Addr).add j) = some u) := Lib.hid (by
    intro j u hj
    cases j with
    | zero =>
      simp only [List.getElem?_cons_zero, Option.some.injEq] at hj
      subst hj
      simp [Addr.add, go_sem]
    | succ j => simp at hj)
  go_wp2_with (at_builtin; refine wpList_append_own _ rfl _ _ 66 rfl B 5 i0 (.int .u8 0) 1 1 Tryz.underlying66 hi.out hz0.out hz1.out hz2.out rfl (by decide) _ _ _ rfl (hown.alloc _) ⟨w1.heap.size, 0, none⟩ 1 1 [.int .u8 c] rfl rfl HN.out ?c2 ?c3 ?c4 ?c5 ?_)
  case c2 => intro u hu; rw [List.mem_singleton.1 hu]; rfl
  case c3 => unfold maxLen; omega
  case c4 => omega
  case c5 => simp; omega
  intro v' w2 hown' hgrow _
  have hb2 : w2.heap[b]? = some (.cells #[.pointer (some ⟨b, 0, none⟩), v] 68 (0, 0)) := by
    rw [hgrow.block b (by simp; omega) (fun e => hne e.symm), Lib.alloc_old w1 _ b hlt]
    exact hbk
  have d0 : w2.cell? ⟨b, 0, none⟩ = some (.pointer (some ⟨b, 0, none⟩)) := by rw [Lib.cell_of_heap hb2]; rfl
  have d1 : w2.cell? ⟨b, 1, none⟩ = some v := by rw [Lib.cell_of_heap hb2]; rfl
  have f1 : w2.frozen? ⟨b, 1, none⟩ = false := Lib.frozen_of_heap hb2 1
  obtain ⟨ao, n', cap, rfl⟩ : ∃ ao n' cap, v' = .slice ao n' cap := by
    rcases hown'.2 with ⟨hv, _⟩ | ⟨g, cap, cur, hv, _⟩
    · exact ⟨_, _, _, hv⟩
    · exact ⟨_, _, _, hv⟩
  go_wp2
  go_ret
  refine ⟨rfl, .inr ?_, ?_⟩
  · exact Lib.BuilderAt.put (T := 68) (e := 5) hB hb2 (bs' := bs ++ [.int .u8 c]) (by simpa using hown') (by decide)
  · exact ((hb1.alloc (by omega) _).grown hgrow (by simp; omega) (fun k hk => (hown.lt k hk).1)).setCell (p := ⟨b, 1, none⟩) hB _
end Go.Proofs.YtojoalmldapboaaGreatDoor.Bld
