/- Layer 13: the document's ack and Put of an Ack that has one range. By tools/gen-acks-11.py. -/
import Derived.Test.YtliakeiaeakliaaAkP
namespace Go.Proofs.Ytliakeiaeakliaa.Rg
set_option maxRecDepth 20000
open Go.RowKit Go.Shelf
set_option linter.unusedVariables false
set_option linter.unusedSimpArgs false

set_option maxHeartbeats 16000000 in
theorem ack_one (b off c : Nat) (N D : Int) (wz : World) (hc : 1 ≤ c) (n0 : 0 ≤ N) (n1 : N ≤ 1000000) (d0 : 0 ≤ D) (d1 : D ≤ 1000000) (h0 : wz.cell? ⟨b, off, none⟩ = some (.int .u64 0)) (h1 : wz.cell? ⟨b, off + 1, none⟩ = some (.int .u64 N)) :
    Calls Try.prog 26 #[.agg #[.int .u64 2, .int .u64 0, .int .u64 0, .int .u64 0, .int .u64 0, .int .u64 0, .int .u64 0, .int .u64 D, .bool false, .string ⟨#[]⟩, .string ⟨#[]⟩, .string ⟨#[]⟩, .slice (some ⟨b, off, none⟩) 1 c]] wz fun e w' => ∃ s : ByteArray, e = .returned (.string s) ∧ s.size ≤ 32 ∧ Below wz.heap.size wz w' := by
  have hlt : b < wz.heap.size := World.block_lt_of_cell? wz _ h0
  have CVN := Lib.hid (fun W => v_any N W n0 (by omega))
  have CVD := Lib.hid (fun W => v_any D W d0 (by omega))
  have CVZ := Lib.hid (fun W => v_any 0 W (by decide) (by decide))
  have HH := Lib.hid (And.intro h0 (And.intro h1 hlt))
  have v1 : IntKind.u64.wrap N = N := IntWalk.u64_in _ (by omega)
  have HB0 : Hid (Below wz.heap.size wz (wz.alloc (.cells #[.int .u64 2, .int .u64 0, .int .u64 0, .int .u64 0, .int .u64 0, .int .u64 0, .int .u64 0, .int .u64 D, .bool false, .string ⟨#[]⟩, .string ⟨#[]⟩, .string ⟨#[]⟩, .slice (some ⟨b, off, none⟩) 1 c] 50)).drew) := Lib.hid ((Below.refl _ wz).alloc (Nat.le_refl _) _).drew
  have HF : Hid ((wz.alloc (.cells #[.int .u64 2, .int .u64 0, .int .u64 0, .int .u64 0, .int .u64 0, .int .u64 0, .int .u64 0, .int .u64 D, .bool false, .string ⟨#[]⟩, .string ⟨#[]⟩, .string ⟨#[]⟩, .slice (some ⟨b, off, none⟩) 1 c] 50)).drew.heap[wz.heap.size]? = some (.cells #[.int .u64 2, .int .u64 0, .int .u64 0, .int .u64 0, .int .u64 0, .int .u64 0, .int .u64 0, .int .u64 D, .bool false, .string ⟨#[]⟩, .string ⟨#[]⟩, .string ⟨#[]⟩, .slice (some ⟨b, off, none⟩) 1 c] 50 (0, 0))) := Lib.hid (heap_alloc_new wz _)
  clear h0 h1
  go_enter Try.func26, Try.ntmps26
  go_wp2_with fail
  refine wp_region_noPanic ?_
  refine wp_region_held_drew (S := fun W : World => Below (wz.alloc (.cells #[.int .u64 2, .int .u64 0, .int .u64 0, .int .u64 0, .int .u64 0, .int .u64 0, .int .u64 0, .int .u64 D, .bool false, .string ⟨#[]⟩, .string ⟨#[]⟩, .string ⟨#[]⟩, .slice (some ⟨b, off, none⟩) 1 c] 50)).drew.heap.size (wz.alloc (.cells #[.int .u64 2, .int .u64 0, .int .u64 0, .int .u64 0, .int .u64 0, .int .u64 0, .int .u64 0, .int .u64 D, .bool false, .string ⟨#[]⟩, .string ⟨#[]⟩, .string ⟨#[]⟩, .slice (some ⟨b, off, none⟩) 1 c] 50)).drew W) (by kernel_rfl) ?_ (fun hHeld => ?_)
  · exact (Below.refl (wz.alloc (.cells #[.int .u64 2, .int .u64 0, .int .u64 0, .int .u64 0, .int .u64 0, .int .u64 0, .int .u64 0, .int .u64 D, .bool false, .string ⟨#[]⟩, .string ⟨#[]⟩, .string ⟨#[]⟩, .slice (some ⟨b, off, none⟩) 1 c] 50)).drew.heap.size (wz.alloc (.cells #[.int .u64 2, .int .u64 0, .int .u64 0, .int .u64 0, .int .u64 0, .int .u64 0, .int .u64 0, .int .u64 D, .bool false, .string ⟨#[]⟩, .string ⟨#[]⟩, .string ⟨#[]⟩, .slice (some ⟨b, off, none⟩) 1 c] 50)).drew)
  refine wpAnyH_take (i := 0) (v := ?_) rfl (by kernel_rfl) (by kernel_rfl) (by kernel_rfl) (fun _ _ _ h => h) (Or.inl ⟨by rfl, ?_⟩) (by assumption) ?_
  rotate_left
  · (intro w hSw; (have hSb := hSw; clear hSw; have hS2 := HB0.out.trans (hSb.mono HB0.out.size); have kb0 := cell_below hS2 HH.out.1 HH.out.2.2; have kb1 := cell_below hS2 HH.out.2.1 HH.out.2.2; have hFF := (hSb.block wz.heap.size (by simp)).trans HF.out; have k7 := Lib.cell_of_heap hFF 7; have k12 := Lib.cell_of_heap hFF 12; simp only [List.getElem?_toArray, List.getElem?_cons_succ, List.getElem?_cons_zero] at k7 k12; clear hSb hS2 hFF); go_simp; (try with_reducible rfl))
  try simp only [Act.put, List.getElem_toArray, List.getElem_cons_zero, List.getElem_cons_succ, List.setIfInBounds_toArray, List.set_cons_zero, List.set_cons_succ]
  refine wpAnyH_take (i := 1) (v := ?_) rfl (by kernel_rfl) (by kernel_rfl) (by kernel_rfl) (fun _ _ _ h => h) (Or.inl ⟨by rfl, ?_⟩) (by assumption) ?_
  rotate_left
  · (intro w hSw; (have hSb := hSw; clear hSw; have hS2 := HB0.out.trans (hSb.mono HB0.out.size); have kb0 := cell_below hS2 HH.out.1 HH.out.2.2; have kb1 := cell_below hS2 HH.out.2.1 HH.out.2.2; have hFF := (hSb.block wz.heap.size (by simp)).trans HF.out; have k7 := Lib.cell_of_heap hFF 7; have k12 := Lib.cell_of_heap hFF 12; simp only [List.getElem?_toArray, List.getElem?_cons_succ, List.getElem?_cons_zero] at k7 k12; clear hSb hS2 hFF); go_simp; (try with_reducible rfl))
  try simp only [Act.put, List.getElem_toArray, List.getElem_cons_zero, List.getElem_cons_succ, List.setIfInBounds_toArray, List.set_cons_zero, List.set_cons_succ]
  refine wpAnyH_take (i := 2) (v := ?_) rfl (by kernel_rfl) (by kernel_rfl) (by kernel_rfl) (fun _ _ _ h => h) (Or.inl ⟨by rfl, ?_⟩) (by assumption) ?_
  rotate_left
  · (intro w hSw; (have hSb := hSw; clear hSw; have hS2 := HB0.out.trans (hSb.mono HB0.out.size); have kb0 := cell_below hS2 HH.out.1 HH.out.2.2; have kb1 := cell_below hS2 HH.out.2.1 HH.out.2.2; have hFF := (hSb.block wz.heap.size (by simp)).trans HF.out; have k7 := Lib.cell_of_heap hFF 7; have k12 := Lib.cell_of_heap hFF 12; simp only [List.getElem?_toArray, List.getElem?_cons_succ, List.getElem?_cons_zero] at k7 k12; clear hSb hS2 hFF); go_simp; (try with_reducible rfl))
  try simp only [Act.put, List.getElem_toArray, List.getElem_cons_zero, List.getElem_cons_succ, List.setIfInBounds_toArray, List.set_cons_zero, List.set_cons_succ]
  refine wpAnyH_take (i := 3) (v := ?_) rfl (by kernel_rfl) (by kernel_rfl) (by kernel_rfl) (fun _ _ _ h => h) (Or.inl ⟨by rfl, ?_⟩) (by assumption) ?_
  rotate_left
  · (intro w hSw; (have hSb := hSw; clear hSw; have hS2 := HB0.out.trans (hSb.mono HB0.out.size); have kb0 := cell_below hS2 HH.out.1 HH.out.2.2; have kb1 := cell_below hS2 HH.out.2.1 HH.out.2.2; have hFF := (hSb.block wz.heap.size (by simp)).trans HF.out; have k7 := Lib.cell_of_heap hFF 7; have k12 := Lib.cell_of_heap hFF 12; simp only [List.getElem?_toArray, List.getElem?_cons_succ, List.getElem?_cons_zero] at k7 k12; clear hSb hS2 hFF); go_simp; (try with_reducible rfl))
  try simp only [Act.put, List.getElem_toArray, List.getElem_cons_zero, List.getElem_cons_succ, List.setIfInBounds_toArray, List.set_cons_zero, List.set_cons_succ]
  refine wpAnyH_take (i := 4) (v := ?_) rfl (by kernel_rfl) (by kernel_rfl) (by kernel_rfl) (fun _ _ _ h => h) (Or.inl ⟨by rfl, ?_⟩) (by assumption) ?_
  rotate_left
  · (intro w hSw; (have hSb := hSw; clear hSw; have hS2 := HB0.out.trans (hSb.mono HB0.out.size); have kb0 := cell_below hS2 HH.out.1 HH.out.2.2; have kb1 := cell_below hS2 HH.out.2.1 HH.out.2.2; have hFF := (hSb.block wz.heap.size (by simp)).trans HF.out; have k7 := Lib.cell_of_heap hFF 7; have k12 := Lib.cell_of_heap hFF 12; simp only [List.getElem?_toArray, List.getElem?_cons_succ, List.getElem?_cons_zero] at k7 k12; clear hSb hS2 hFF); go_simp; (try with_reducible rfl))
  try simp only [Act.put, List.getElem_toArray, List.getElem_cons_zero, List.getElem_cons_succ, List.setIfInBounds_toArray, List.set_cons_zero, List.set_cons_succ]
  refine wpAnyH_take (i := 5) (v := ?_) rfl (by kernel_rfl) (by kernel_rfl) (by kernel_rfl) (fun _ _ _ h => h) (Or.inl ⟨by rfl, ?_⟩) (by assumption) ?_
  rotate_left
  · (intro w hSw; (have hSb := hSw; clear hSw; have hS2 := HB0.out.trans (hSb.mono HB0.out.size); have kb0 := cell_below hS2 HH.out.1 HH.out.2.2; have kb1 := cell_below hS2 HH.out.2.1 HH.out.2.2; have hFF := (hSb.block wz.heap.size (by simp)).trans HF.out; have k7 := Lib.cell_of_heap hFF 7; have k12 := Lib.cell_of_heap hFF 12; simp only [List.getElem?_toArray, List.getElem?_cons_succ, List.getElem?_cons_zero] at k7 k12; clear hSb hS2 hFF); go_simp; (try with_reducible rfl))
  try simp only [Act.put, List.getElem_toArray, List.getElem_cons_zero, List.getElem_cons_succ, List.setIfInBounds_toArray, List.set_cons_zero, List.set_cons_succ]
  refine wpAnyH_take (i := 7) (v := ?_) rfl (by kernel_rfl) (by kernel_rfl) (by kernel_rfl) (fun _ _ _ h => h) (Or.inl ⟨by rfl, ?_⟩) (by assumption) ?_
  rotate_left
  · (intro w hSw; (have hSb := hSw; clear hSw; have hS2 := HB0.out.trans (hSb.mono HB0.out.size); have kb0 := cell_below hS2 HH.out.1 HH.out.2.2; have kb1 := cell_below hS2 HH.out.2.1 HH.out.2.2; have hFF := (hSb.block wz.heap.size (by simp)).trans HF.out; have k7 := Lib.cell_of_heap hFF 7; have k12 := Lib.cell_of_heap hFF 12; simp only [List.getElem?_toArray, List.getElem?_cons_succ, List.getElem?_cons_zero] at k7 k12; clear hSb hS2 hFF); go_simp; (try with_reducible rfl))
  try simp only [Act.put, List.getElem_toArray, List.getElem_cons_zero, List.getElem_cons_succ, List.setIfInBounds_toArray, List.set_cons_zero, List.set_cons_succ]
  refine wpAnyH_take (i := 8) (v := ?_) rfl (by kernel_rfl) (by kernel_rfl) (by kernel_rfl) (fun _ _ _ h => h) (Or.inl ⟨by rfl, ?_⟩) (by assumption) ?_
  rotate_left
  · (intro w hSw; (have hSb := hSw; clear hSw; have hS2 := HB0.out.trans (hSb.mono HB0.out.size); have kb0 := cell_below hS2 HH.out.1 HH.out.2.2; have kb1 := cell_below hS2 HH.out.2.1 HH.out.2.2; have hFF := (hSb.block wz.heap.size (by simp)).trans HF.out; have k7 := Lib.cell_of_heap hFF 7; have k12 := Lib.cell_of_heap hFF 12; simp only [List.getElem?_toArray, List.getElem?_cons_succ, List.getElem?_cons_zero] at k7 k12; clear hSb hS2 hFF); go_simp; (try with_reducible rfl))
  try simp only [Act.put, List.getElem_toArray, List.getElem_cons_zero, List.getElem_cons_succ, List.setIfInBounds_toArray, List.set_cons_zero, List.set_cons_succ]
  refine wpAnyH_take (i := 11) (v := ?_) rfl (by kernel_rfl) (by kernel_rfl) (by kernel_rfl) (fun _ _ _ h => h) (Or.inl ⟨by rfl, ?_⟩) (by assumption) ?_
  rotate_left
  · (intro w hSw; (have hSb := hSw; clear hSw; have hS2 := HB0.out.trans (hSb.mono HB0.out.size); have kb0 := cell_below hS2 HH.out.1 HH.out.2.2; have kb1 := cell_below hS2 HH.out.2.1 HH.out.2.2; have hFF := (hSb.block wz.heap.size (by simp)).trans HF.out; have k7 := Lib.cell_of_heap hFF 7; have k12 := Lib.cell_of_heap hFF 12; simp only [List.getElem?_toArray, List.getElem?_cons_succ, List.getElem?_cons_zero] at k7 k12; clear hSb hS2 hFF); go_simp; (try with_reducible rfl))
  try simp only [Act.put, List.getElem_toArray, List.getElem_cons_zero, List.getElem_cons_succ, List.setIfInBounds_toArray, List.set_cons_zero, List.set_cons_succ]
  refine wpAnyH_take (i := 12) (v := ?_) rfl (by kernel_rfl) (by kernel_rfl) (by kernel_rfl) (fun _ _ _ h => h) (Or.inl ⟨by rfl, ?_⟩) (by assumption) ?_
  rotate_left
  · (intro w hSw; (have hSb := hSw; clear hSw; have hS2 := HB0.out.trans (hSb.mono HB0.out.size); have kb0 := cell_below hS2 HH.out.1 HH.out.2.2; have kb1 := cell_below hS2 HH.out.2.1 HH.out.2.2; have hFF := (hSb.block wz.heap.size (by simp)).trans HF.out; have k7 := Lib.cell_of_heap hFF 7; have k12 := Lib.cell_of_heap hFF 12; simp only [List.getElem?_toArray, List.getElem?_cons_succ, List.getElem?_cons_zero] at k7 k12; clear hSb hS2 hFF); go_simp; (try with_reducible rfl))
  try simp only [Act.put, List.getElem_toArray, List.getElem_cons_zero, List.getElem_cons_succ, List.setIfInBounds_toArray, List.set_cons_zero, List.set_cons_succ]
  refine wpAnyH_take (i := 15) (v := ?_) rfl (by kernel_rfl) (by kernel_rfl) (by kernel_rfl) (fun _ _ _ h => h) (Or.inl ⟨by rfl, ?_⟩) (by assumption) ?_
  rotate_left
  · (intro w hSw; (have hSb := hSw; clear hSw; have hS2 := HB0.out.trans (hSb.mono HB0.out.size); have kb0 := cell_below hS2 HH.out.1 HH.out.2.2; have kb1 := cell_below hS2 HH.out.2.1 HH.out.2.2; have hFF := (hSb.block wz.heap.size (by simp)).trans HF.out; have k7 := Lib.cell_of_heap hFF 7; have k12 := Lib.cell_of_heap hFF 12; simp only [List.getElem?_toArray, List.getElem?_cons_succ, List.getElem?_cons_zero] at k7 k12; clear hSb hS2 hFF); go_simp; (try with_reducible rfl))
  try simp only [Act.put, List.getElem_toArray, List.getElem_cons_zero, List.getElem_cons_succ, List.setIfInBounds_toArray, List.set_cons_zero, List.set_cons_succ]
  refine wpAnyH_take (i := 16) (v := ?_) rfl (by kernel_rfl) (by kernel_rfl) (by kernel_rfl) (fun _ _ _ h => h) (Or.inl ⟨by rfl, ?_⟩) (by assumption) ?_
  rotate_left
  · (intro w hSw; (have hSb := hSw; clear hSw; have hS2 := HB0.out.trans (hSb.mono HB0.out.size); have kb0 := cell_below hS2 HH.out.1 HH.out.2.2; have kb1 := cell_below hS2 HH.out.2.1 HH.out.2.2; have hFF := (hSb.block wz.heap.size (by simp)).trans HF.out; have k7 := Lib.cell_of_heap hFF 7; have k12 := Lib.cell_of_heap hFF 12; simp only [List.getElem?_toArray, List.getElem?_cons_succ, List.getElem?_cons_zero] at k7 k12; clear hSb hS2 hFF); go_simp; (try with_reducible rfl))
  try simp only [Act.put, List.getElem_toArray, List.getElem_cons_zero, List.getElem_cons_succ, List.setIfInBounds_toArray, List.set_cons_zero, List.set_cons_succ]
  refine wpAnyH_take (i := 17) (v := ?_) rfl (by kernel_rfl) (by kernel_rfl) (by kernel_rfl) (fun _ _ _ h => h) (Or.inl ⟨by rfl, ?_⟩) (by assumption) ?_
  rotate_left
  · (intro w hSw; (have hSb := hSw; clear hSw; have hS2 := HB0.out.trans (hSb.mono HB0.out.size); have kb0 := cell_below hS2 HH.out.1 HH.out.2.2; have kb1 := cell_below hS2 HH.out.2.1 HH.out.2.2; have hFF := (hSb.block wz.heap.size (by simp)).trans HF.out; have k7 := Lib.cell_of_heap hFF 7; have k12 := Lib.cell_of_heap hFF 12; simp only [List.getElem?_toArray, List.getElem?_cons_succ, List.getElem?_cons_zero] at k7 k12; clear hSb hS2 hFF); go_simp; (try with_reducible rfl))
  try simp only [Act.put, List.getElem_toArray, List.getElem_cons_zero, List.getElem_cons_succ, List.setIfInBounds_toArray, List.set_cons_zero, List.set_cons_succ]
  refine wpAnyH_take (i := 18) (v := ?_) rfl (by kernel_rfl) (by kernel_rfl) (by kernel_rfl) (fun _ _ _ h => h) (Or.inl ⟨by rfl, ?_⟩) (by assumption) ?_
  rotate_left
  · (intro w hSw; (have hSb := hSw; clear hSw; have hS2 := HB0.out.trans (hSb.mono HB0.out.size); have kb0 := cell_below hS2 HH.out.1 HH.out.2.2; have kb1 := cell_below hS2 HH.out.2.1 HH.out.2.2; have hFF := (hSb.block wz.heap.size (by simp)).trans HF.out; have k7 := Lib.cell_of_heap hFF 7; have k12 := Lib.cell_of_heap hFF 12; simp only [List.getElem?_toArray, List.getElem?_cons_succ, List.getElem?_cons_zero] at k7 k12; clear hSb hS2 hFF); go_simp; (try with_reducible rfl))
  try simp only [Act.put, List.getElem_toArray, List.getElem_cons_zero, List.getElem_cons_succ, List.setIfInBounds_toArray, List.set_cons_zero, List.set_cons_succ]
  refine wpAnyH_take (i := 19) (v := ?_) rfl (by kernel_rfl) (by kernel_rfl) (by kernel_rfl) (fun _ _ _ h => h) (Or.inl ⟨by rfl, ?_⟩) (by assumption) ?_
  rotate_left
  · (intro w hSw; (have hSb := hSw; clear hSw; have hS2 := HB0.out.trans (hSb.mono HB0.out.size); have kb0 := cell_below hS2 HH.out.1 HH.out.2.2; have kb1 := cell_below hS2 HH.out.2.1 HH.out.2.2; have hFF := (hSb.block wz.heap.size (by simp)).trans HF.out; have k7 := Lib.cell_of_heap hFF 7; have k12 := Lib.cell_of_heap hFF 12; simp only [List.getElem?_toArray, List.getElem?_cons_succ, List.getElem?_cons_zero] at k7 k12; clear hSb hS2 hFF); go_simp; (try with_reducible rfl))
  try simp only [Act.put, List.getElem_toArray, List.getElem_cons_zero, List.getElem_cons_succ, List.setIfInBounds_toArray, List.set_cons_zero, List.set_cons_succ]
  refine wpAnyH_take (i := 20) (v := ?_) rfl (by kernel_rfl) (by kernel_rfl) (by kernel_rfl) (fun _ _ _ h => h) (Or.inl ⟨by rfl, ?_⟩) (by assumption) ?_
  rotate_left
  · (intro w hSw; (have hSb := hSw; clear hSw; have hS2 := HB0.out.trans (hSb.mono HB0.out.size); have kb0 := cell_below hS2 HH.out.1 HH.out.2.2; have kb1 := cell_below hS2 HH.out.2.1 HH.out.2.2; have hFF := (hSb.block wz.heap.size (by simp)).trans HF.out; have k7 := Lib.cell_of_heap hFF 7; have k12 := Lib.cell_of_heap hFF 12; simp only [List.getElem?_toArray, List.getElem?_cons_succ, List.getElem?_cons_zero] at k7 k12; clear hSb hS2 hFF); go_simp; (try with_reducible rfl))
  try simp only [Act.put, List.getElem_toArray, List.getElem_cons_zero, List.getElem_cons_succ, List.setIfInBounds_toArray, List.set_cons_zero, List.set_cons_succ]
  refine wpAnyH_take (i := 21) (v := ?_) rfl (by kernel_rfl) (by kernel_rfl) (by kernel_rfl) (fun _ _ _ h => h) (Or.inl ⟨by rfl, ?_⟩) (by assumption) ?_
  rotate_left
  · (intro w hSw; (have hSb := hSw; clear hSw; have hS2 := HB0.out.trans (hSb.mono HB0.out.size); have kb0 := cell_below hS2 HH.out.1 HH.out.2.2; have kb1 := cell_below hS2 HH.out.2.1 HH.out.2.2; have hFF := (hSb.block wz.heap.size (by simp)).trans HF.out; have k7 := Lib.cell_of_heap hFF 7; have k12 := Lib.cell_of_heap hFF 12; simp only [List.getElem?_toArray, List.getElem?_cons_succ, List.getElem?_cons_zero] at k7 k12; clear hSb hS2 hFF); go_simp; (try with_reducible rfl))
  try simp only [Act.put, List.getElem_toArray, List.getElem_cons_zero, List.getElem_cons_succ, List.setIfInBounds_toArray, List.set_cons_zero, List.set_cons_succ]
  refine wpAnyH_take (i := 22) (v := ?_) rfl (by kernel_rfl) (by kernel_rfl) (by kernel_rfl) (fun _ _ _ h => h) (Or.inl ⟨by rfl, ?_⟩) (by assumption) ?_
  rotate_left
  · (intro w hSw; (have hSb := hSw; clear hSw; have hS2 := HB0.out.trans (hSb.mono HB0.out.size); have kb0 := cell_below hS2 HH.out.1 HH.out.2.2; have kb1 := cell_below hS2 HH.out.2.1 HH.out.2.2; have hFF := (hSb.block wz.heap.size (by simp)).trans HF.out; have k7 := Lib.cell_of_heap hFF 7; have k12 := Lib.cell_of_heap hFF 12; simp only [List.getElem?_toArray, List.getElem?_cons_succ, List.getElem?_cons_zero] at k7 k12; clear hSb hS2 hFF); go_simp; (try with_reducible rfl))
  try simp only [Act.put, List.getElem_toArray, List.getElem_cons_zero, List.getElem_cons_succ, List.setIfInBounds_toArray, List.set_cons_zero, List.set_cons_succ]
  refine wpAnyH_take (i := 23) (v := ?_) rfl (by kernel_rfl) (by kernel_rfl) (by kernel_rfl) (fun _ _ _ h => h) (Or.inl ⟨by rfl, ?_⟩) (by assumption) ?_
  rotate_left
  · (intro w hSw; (have hSb := hSw; clear hSw; have hS2 := HB0.out.trans (hSb.mono HB0.out.size); have kb0 := cell_below hS2 HH.out.1 HH.out.2.2; have kb1 := cell_below hS2 HH.out.2.1 HH.out.2.2; have hFF := (hSb.block wz.heap.size (by simp)).trans HF.out; have k7 := Lib.cell_of_heap hFF 7; have k12 := Lib.cell_of_heap hFF 12; simp only [List.getElem?_toArray, List.getElem?_cons_succ, List.getElem?_cons_zero] at k7 k12; clear hSb hS2 hFF); go_simp; (try with_reducible rfl))
  try simp only [Act.put, List.getElem_toArray, List.getElem_cons_zero, List.getElem_cons_succ, List.setIfInBounds_toArray, List.set_cons_zero, List.set_cons_succ]
  refine wpAnyH_take (i := 24) (v := ?_) rfl (by kernel_rfl) (by kernel_rfl) (by kernel_rfl) (fun _ _ _ h => h) (Or.inl ⟨by rfl, ?_⟩) (by assumption) ?_
  rotate_left
  · (intro w hSw; (have hSb := hSw; clear hSw; have hS2 := HB0.out.trans (hSb.mono HB0.out.size); have kb0 := cell_below hS2 HH.out.1 HH.out.2.2; have kb1 := cell_below hS2 HH.out.2.1 HH.out.2.2; have hFF := (hSb.block wz.heap.size (by simp)).trans HF.out; have k7 := Lib.cell_of_heap hFF 7; have k12 := Lib.cell_of_heap hFF 12; simp only [List.getElem?_toArray, List.getElem?_cons_succ, List.getElem?_cons_zero] at k7 k12; clear hSb hS2 hFF); go_simp; (try with_reducible rfl))
  try simp only [Act.put, List.getElem_toArray, List.getElem_cons_zero, List.getElem_cons_succ, List.setIfInBounds_toArray, List.set_cons_zero, List.set_cons_succ]
  refine wpAnyH_take (i := 25) (v := ?_) rfl (by kernel_rfl) (by kernel_rfl) (by kernel_rfl) (fun _ _ _ h => h) (Or.inl ⟨by rfl, ?_⟩) (by assumption) ?_
  rotate_left
  · (intro w hSw; (have hSb := hSw; clear hSw; have hS2 := HB0.out.trans (hSb.mono HB0.out.size); have kb0 := cell_below hS2 HH.out.1 HH.out.2.2; have kb1 := cell_below hS2 HH.out.2.1 HH.out.2.2; have hFF := (hSb.block wz.heap.size (by simp)).trans HF.out; have k7 := Lib.cell_of_heap hFF 7; have k12 := Lib.cell_of_heap hFF 12; simp only [List.getElem?_toArray, List.getElem?_cons_succ, List.getElem?_cons_zero] at k7 k12; clear hSb hS2 hFF); go_simp; (try with_reducible rfl))
  try simp only [Act.put, List.getElem_toArray, List.getElem_cons_zero, List.getElem_cons_succ, List.setIfInBounds_toArray, List.set_cons_zero, List.set_cons_succ]
  refine wpAnyH_take (i := 26) (v := ?_) rfl (by kernel_rfl) (by kernel_rfl) (by kernel_rfl) (fun _ _ _ h => h) (Or.inl ⟨by rfl, ?_⟩) (by assumption) ?_
  rotate_left
  · (intro w hSw; (have hSb := hSw; clear hSw; have hS2 := HB0.out.trans (hSb.mono HB0.out.size); have kb0 := cell_below hS2 HH.out.1 HH.out.2.2; have kb1 := cell_below hS2 HH.out.2.1 HH.out.2.2; have hFF := (hSb.block wz.heap.size (by simp)).trans HF.out; have k7 := Lib.cell_of_heap hFF 7; have k12 := Lib.cell_of_heap hFF 12; simp only [List.getElem?_toArray, List.getElem?_cons_succ, List.getElem?_cons_zero] at k7 k12; clear hSb hS2 hFF); go_simp; (try with_reducible rfl))
  try simp only [Act.put, List.getElem_toArray, List.getElem_cons_zero, List.getElem_cons_succ, List.setIfInBounds_toArray, List.set_cons_zero, List.set_cons_succ]
  refine wpAnyH_take (i := 27) (v := ?_) rfl (by kernel_rfl) (by kernel_rfl) (by kernel_rfl) (fun _ _ _ h => h) (Or.inl ⟨by rfl, ?_⟩) (by assumption) ?_
  rotate_left
  · (intro w hSw; (have hSb := hSw; clear hSw; have hS2 := HB0.out.trans (hSb.mono HB0.out.size); have kb0 := cell_below hS2 HH.out.1 HH.out.2.2; have kb1 := cell_below hS2 HH.out.2.1 HH.out.2.2; have hFF := (hSb.block wz.heap.size (by simp)).trans HF.out; have k7 := Lib.cell_of_heap hFF 7; have k12 := Lib.cell_of_heap hFF 12; simp only [List.getElem?_toArray, List.getElem?_cons_succ, List.getElem?_cons_zero] at k7 k12; clear hSb hS2 hFF); go_simp; (try with_reducible rfl))
  try simp only [Act.put, List.getElem_toArray, List.getElem_cons_zero, List.getElem_cons_succ, List.setIfInBounds_toArray, List.set_cons_zero, List.set_cons_succ]
  refine wpAnyH_ready (rs := [6]) (by kernel_rfl) (by simp) ?_
  refine AllReadyH.cons rfl (fun K hK => ?_) AllReadyH.nil
  rw [if_pos (by rfl)]
  go_simp
  refine (CVN.out _).mono ?_
  rintro e u1 ⟨s1, rfl, hz1, hb⟩
  have HU1 := Lib.hid (((Below.refl (wz.alloc (.cells #[.int .u64 2, .int .u64 0, .int .u64 0, .int .u64 0, .int .u64 0, .int .u64 0, .int .u64 0, .int .u64 D, .bool false, .string ⟨#[]⟩, .string ⟨#[]⟩, .string ⟨#[]⟩, .slice (some ⟨b, off, none⟩) 1 c] 50)).drew.heap.size (wz.alloc (.cells #[.int .u64 2, .int .u64 0, .int .u64 0, .int .u64 0, .int .u64 0, .int .u64 0, .int .u64 0, .int .u64 D, .bool false, .string ⟨#[]⟩, .string ⟨#[]⟩, .string ⟨#[]⟩, .slice (some ⟨b, off, none⟩) 1 c] 50)).drew)).trans (hb.mono ((Below.refl (wz.alloc (.cells #[.int .u64 2, .int .u64 0, .int .u64 0, .int .u64 0, .int .u64 0, .int .u64 0, .int .u64 0, .int .u64 D, .bool false, .string ⟨#[]⟩, .string ⟨#[]⟩, .string ⟨#[]⟩, .slice (some ⟨b, off, none⟩) 1 c] 50)).drew.heap.size (wz.alloc (.cells #[.int .u64 2, .int .u64 0, .int .u64 0, .int .u64 0, .int .u64 0, .int .u64 0, .int .u64 0, .int .u64 D, .bool false, .string ⟨#[]⟩, .string ⟨#[]⟩, .string ⟨#[]⟩, .slice (some ⟨b, off, none⟩) 1 c] 50)).drew)).size))
  clear hb
  refine hK.out _ _ ?_ (fun hHeld => ?_)
  · exact HU1.out
  clear hK K
  try simp only [Act.put, List.getElem_toArray, List.getElem_cons_zero, List.getElem_cons_succ, List.setIfInBounds_toArray, List.set_cons_zero, List.set_cons_succ]
  refine wpAnyH_ready (rs := [9]) (by kernel_rfl) (by simp) ?_
  refine AllReadyH.cons rfl (fun K hK => ?_) AllReadyH.nil
  rw [if_pos (by rfl)]
  go_simp
  refine (CVD.out _).mono ?_
  rintro e u2 ⟨s2, rfl, hz2, hb⟩
  have HU2 := Lib.hid ((HU1.out).trans (hb.mono (HU1.out).size))
  clear hb
  have e2 : ¬ 9223372036854775807 < s1.size + s2.size := by omega
  refine hK.out _ _ ?_ (fun hHeld => ?_)
  · exact HU2.out
  clear hK K
  try simp only [Act.put, List.getElem_toArray, List.getElem_cons_zero, List.getElem_cons_succ, List.setIfInBounds_toArray, List.set_cons_zero, List.set_cons_succ]
  refine wpAnyH_take (i := 10) (v := ?_) rfl (by kernel_rfl) (by kernel_rfl) (by kernel_rfl) (fun _ _ _ h => h) (Or.inl ⟨by rfl, ?_⟩) (by assumption) ?_
  rotate_left
  · (intro w hSw; (have hSb := hSw; clear hSw; have hS2 := HB0.out.trans (hSb.mono HB0.out.size); have kb0 := cell_below hS2 HH.out.1 HH.out.2.2; have kb1 := cell_below hS2 HH.out.2.1 HH.out.2.2; have hFF := (hSb.block wz.heap.size (by simp)).trans HF.out; have k7 := Lib.cell_of_heap hFF 7; have k12 := Lib.cell_of_heap hFF 12; simp only [List.getElem?_toArray, List.getElem?_cons_succ, List.getElem?_cons_zero] at k7 k12; clear hSb hS2 hFF); go_simp; (try with_reducible rfl))
  try simp only [Act.put, List.getElem_toArray, List.getElem_cons_zero, List.getElem_cons_succ, List.setIfInBounds_toArray, List.set_cons_zero, List.set_cons_succ]
  refine wpAnyH_ready (rs := [13]) (by kernel_rfl) (by simp) ?_
  refine AllReadyH.cons rfl (fun K hK => ?_) AllReadyH.nil
  rw [if_pos (by rfl)]
  go_simp
  refine (CVZ.out _).mono ?_
  rintro e u3 ⟨s3, rfl, hz3, hb⟩
  have HU3 := Lib.hid ((HU2.out).trans (hb.mono (HU2.out).size))
  clear hb
  have e3 : ¬ 9223372036854775807 < s1.size + s2.size + s3.size := by omega
  refine hK.out _ _ ?_ (fun hHeld => ?_)
  · exact HU3.out
  clear hK K
  try simp only [Act.put, List.getElem_toArray, List.getElem_cons_zero, List.getElem_cons_succ, List.setIfInBounds_toArray, List.set_cons_zero, List.set_cons_succ]
  refine wpAnyH_take (i := 14) (v := ?_) rfl (by kernel_rfl) (by kernel_rfl) (by kernel_rfl) (fun _ _ _ h => h) (Or.inl ⟨by rfl, ?_⟩) (by assumption) ?_
  rotate_left
  · (intro w hSw; (have hSb := hSw; clear hSw; have hS2 := HB0.out.trans (hSb.mono HB0.out.size); have kb0 := cell_below hS2 HH.out.1 HH.out.2.2; have kb1 := cell_below hS2 HH.out.2.1 HH.out.2.2; have hFF := (hSb.block wz.heap.size (by simp)).trans HF.out; have k7 := Lib.cell_of_heap hFF 7; have k12 := Lib.cell_of_heap hFF 12; simp only [List.getElem?_toArray, List.getElem?_cons_succ, List.getElem?_cons_zero] at k7 k12; clear hSb hS2 hFF); go_simp; (try with_reducible rfl))
  try simp only [Act.put, List.getElem_toArray, List.getElem_cons_zero, List.getElem_cons_succ, List.setIfInBounds_toArray, List.set_cons_zero, List.set_cons_succ]
  refine wpAnyH_ready (rs := [28]) (by kernel_rfl) (by simp) ?_
  refine AllReadyH.cons rfl (fun K hK => ?_) AllReadyH.nil
  rw [if_pos (by rfl)]
  go_simp
  refine (CVN.out _).mono ?_
  rintro e u4 ⟨s4, rfl, hz4, hb⟩
  have HU4 := Lib.hid ((HU3.out).trans (hb.mono (HU3.out).size))
  clear hb
  have e4 : ¬ 9223372036854775807 < s1.size + s2.size + s3.size + s4.size := by omega
  refine hK.out _ _ ?_ (fun hHeld => ?_)
  · exact HU4.out
  clear hK K
  try simp only [Act.put, List.getElem_toArray, List.getElem_cons_zero, List.getElem_cons_succ, List.setIfInBounds_toArray, List.set_cons_zero, List.set_cons_succ]
  refine wpAnyH_take (i := 29) (v := ?_) rfl (by kernel_rfl) (by kernel_rfl) (by kernel_rfl) (fun _ _ _ h => h) (Or.inl ⟨by rfl, ?_⟩) (by assumption) ?_
  rotate_left
  · (intro w hSw; (have hSb := hSw; clear hSw; have hS2 := HB0.out.trans (hSb.mono HB0.out.size); have kb0 := cell_below hS2 HH.out.1 HH.out.2.2; have kb1 := cell_below hS2 HH.out.2.1 HH.out.2.2; have hFF := (hSb.block wz.heap.size (by simp)).trans HF.out; have k7 := Lib.cell_of_heap hFF 7; have k12 := Lib.cell_of_heap hFF 12; simp only [List.getElem?_toArray, List.getElem?_cons_succ, List.getElem?_cons_zero] at k7 k12; clear hSb hS2 hFF); go_simp; (try with_reducible rfl))
  try simp only [Act.put, List.getElem_toArray, List.getElem_cons_zero, List.getElem_cons_succ, List.setIfInBounds_toArray, List.set_cons_zero, List.set_cons_succ]
  refine wpAnyH_take (i := 30) (v := ?_) rfl (by kernel_rfl) (by kernel_rfl) (by kernel_rfl) (fun _ _ _ h => h) (Or.inl ⟨by rfl, ?_⟩) (by assumption) ?_
  rotate_left
  · (intro w hSw; (have hSb := hSw; clear hSw; have hS2 := HB0.out.trans (hSb.mono HB0.out.size); have kb0 := cell_below hS2 HH.out.1 HH.out.2.2; have kb1 := cell_below hS2 HH.out.2.1 HH.out.2.2; have hFF := (hSb.block wz.heap.size (by simp)).trans HF.out; have k7 := Lib.cell_of_heap hFF 7; have k12 := Lib.cell_of_heap hFF 12; simp only [List.getElem?_toArray, List.getElem?_cons_succ, List.getElem?_cons_zero] at k7 k12; clear hSb hS2 hFF); go_simp; (try with_reducible rfl))
  try simp only [Act.put, List.getElem_toArray, List.getElem_cons_zero, List.getElem_cons_succ, List.setIfInBounds_toArray, List.set_cons_zero, List.set_cons_succ]
  refine wpAnyH_done (by kernel_rfl) (NoPanic.normal ?_) _
  go_wp2_with fail
  refine wp_loop_rounds 1 ?_
  rw [rounds_succ]
  go_wp2_with fail
  go_ret
  exact ⟨_, rfl, by simp only [ByteArray.size_append]; omega, HB0.out.trans (HU4.out.mono HB0.out.size)⟩
set_option maxHeartbeats 16000000 in
theorem put_one (b off c : Nat) (N D : Int) (wz : World) (hc : 1 ≤ c) (n0 : 0 ≤ N) (n1 : N ≤ 1000000) (d0 : 0 ≤ D) (d1 : D ≤ 1000000) (h0 : wz.cell? ⟨b, off, none⟩ = some (.int .u64 0)) (h1 : wz.cell? ⟨b, off + 1, none⟩ = some (.int .u64 N)) :
    Calls Try.prog 12 #[.agg #[.int .u64 2, .int .u64 0, .int .u64 0, .int .u64 0, .int .u64 0, .int .u64 0, .int .u64 0, .int .u64 D, .bool false, .string ⟨#[]⟩, .string ⟨#[]⟩, .string ⟨#[]⟩, .slice (some ⟨b, off, none⟩) 1 c]] wz fun e w' => ∃ s : ByteArray, e = .returned (.tuple #[.string s, .int .i64 0]) ∧ Below wz.heap.size wz w' := by
  have hlt : b < wz.heap.size := World.block_lt_of_cell? wz _ h0
  have CM := Lib.hid (fun W h h' => may_ack b off c N D W hc n0 n1 d0 d1 h h')
  have CA := Lib.hid (fun W h h' => ack_one b off c N D W hc n0 n1 d0 d1 h h')
  have CV := Lib.hid (fun W => v_any 2 W (by decide) (by decide))
  have HH := Lib.hid (And.intro h0 (And.intro h1 hlt))
  have HB0 : Hid (Below wz.heap.size wz (wz.alloc (.cells #[.int .u64 2, .int .u64 0, .int .u64 0, .int .u64 0, .int .u64 0, .int .u64 0, .int .u64 0, .int .u64 D, .bool false, .string ⟨#[]⟩, .string ⟨#[]⟩, .string ⟨#[]⟩, .slice (some ⟨b, off, none⟩) 1 c] 50))) := Lib.hid ((Below.refl _ wz).alloc (Nat.le_refl _) _)
  have HF : Hid ((wz.alloc (.cells #[.int .u64 2, .int .u64 0, .int .u64 0, .int .u64 0, .int .u64 0, .int .u64 0, .int .u64 0, .int .u64 D, .bool false, .string ⟨#[]⟩, .string ⟨#[]⟩, .string ⟨#[]⟩, .slice (some ⟨b, off, none⟩) 1 c] 50)).heap[wz.heap.size]? = some (.cells #[.int .u64 2, .int .u64 0, .int .u64 0, .int .u64 0, .int .u64 0, .int .u64 0, .int .u64 0, .int .u64 D, .bool false, .string ⟨#[]⟩, .string ⟨#[]⟩, .string ⟨#[]⟩, .slice (some ⟨b, off, none⟩) 1 c] 50 (0, 0))) := Lib.hid (heap_alloc_new wz _)
  have HC0 := Lib.hid (And.intro (cell_below HB0.out h0 hlt) (cell_below HB0.out h1 hlt))
  clear h0 h1
  go_enter Try.func12, Try.ntmps12
  go_wp2_with fail
  with_reducible refine (CM.out _ HC0.out.1 HC0.out.2).mono ?_
  rintro e w1 ⟨rfl, hb⟩
  have HB1 := Lib.hid hb
  clear hb
  have hFFw1 := (HB1.out.block wz.heap.size (by simp)).trans HF.out
  have k0 : w1.cell? ⟨wz.heap.size, 0, none⟩ = _ := Lib.cell_of_heap hFFw1 0
  have k1 : w1.cell? ⟨wz.heap.size, 1, none⟩ = _ := Lib.cell_of_heap hFFw1 1
  have k2 : w1.cell? ⟨wz.heap.size, 2, none⟩ = _ := Lib.cell_of_heap hFFw1 2
  have k3 : w1.cell? ⟨wz.heap.size, 3, none⟩ = _ := Lib.cell_of_heap hFFw1 3
  have k4 : w1.cell? ⟨wz.heap.size, 4, none⟩ = _ := Lib.cell_of_heap hFFw1 4
  have k5 : w1.cell? ⟨wz.heap.size, 5, none⟩ = _ := Lib.cell_of_heap hFFw1 5
  have k6 : w1.cell? ⟨wz.heap.size, 6, none⟩ = _ := Lib.cell_of_heap hFFw1 6
  have k7 : w1.cell? ⟨wz.heap.size, 7, none⟩ = _ := Lib.cell_of_heap hFFw1 7
  have k8 : w1.cell? ⟨wz.heap.size, 8, none⟩ = _ := Lib.cell_of_heap hFFw1 8
  have k9 : w1.cell? ⟨wz.heap.size, 9, none⟩ = _ := Lib.cell_of_heap hFFw1 9
  have k10 : w1.cell? ⟨wz.heap.size, 10, none⟩ = _ := Lib.cell_of_heap hFFw1 10
  have k11 : w1.cell? ⟨wz.heap.size, 11, none⟩ = _ := Lib.cell_of_heap hFFw1 11
  have k12 : w1.cell? ⟨wz.heap.size, 12, none⟩ = _ := Lib.cell_of_heap hFFw1 12
  have kb0 := cell_below (HB0.out.trans (HB1.out.mono HB0.out.size)) HH.out.1 HH.out.2.2
  have kb1 := cell_below (HB0.out.trans (HB1.out.mono HB0.out.size)) HH.out.2.1 HH.out.2.2
  clear hFFw1
  go_wp2_with fail
  with_reducible refine (CV.out _).mono ?_
  rintro e w2 ⟨s0, rfl, hz0, hb⟩
  have HB2 := Lib.hid (HB1.out.trans (hb.mono HB1.out.size))
  clear hb
  clear k0 k1 k2 k3 k4 k5 k6 k7 k8 k9 k10 k11 k12 kb0 kb1
  have hFFw2 := (HB2.out.block wz.heap.size (by simp)).trans HF.out
  have k0 : w2.cell? ⟨wz.heap.size, 0, none⟩ = _ := Lib.cell_of_heap hFFw2 0
  have k1 : w2.cell? ⟨wz.heap.size, 1, none⟩ = _ := Lib.cell_of_heap hFFw2 1
  have k2 : w2.cell? ⟨wz.heap.size, 2, none⟩ = _ := Lib.cell_of_heap hFFw2 2
  have k3 : w2.cell? ⟨wz.heap.size, 3, none⟩ = _ := Lib.cell_of_heap hFFw2 3
  have k4 : w2.cell? ⟨wz.heap.size, 4, none⟩ = _ := Lib.cell_of_heap hFFw2 4
  have k5 : w2.cell? ⟨wz.heap.size, 5, none⟩ = _ := Lib.cell_of_heap hFFw2 5
  have k6 : w2.cell? ⟨wz.heap.size, 6, none⟩ = _ := Lib.cell_of_heap hFFw2 6
  have k7 : w2.cell? ⟨wz.heap.size, 7, none⟩ = _ := Lib.cell_of_heap hFFw2 7
  have k8 : w2.cell? ⟨wz.heap.size, 8, none⟩ = _ := Lib.cell_of_heap hFFw2 8
  have k9 : w2.cell? ⟨wz.heap.size, 9, none⟩ = _ := Lib.cell_of_heap hFFw2 9
  have k10 : w2.cell? ⟨wz.heap.size, 10, none⟩ = _ := Lib.cell_of_heap hFFw2 10
  have k11 : w2.cell? ⟨wz.heap.size, 11, none⟩ = _ := Lib.cell_of_heap hFFw2 11
  have k12 : w2.cell? ⟨wz.heap.size, 12, none⟩ = _ := Lib.cell_of_heap hFFw2 12
  have kb0 := cell_below (HB0.out.trans (HB2.out.mono HB0.out.size)) HH.out.1 HH.out.2.2
  have kb1 := cell_below (HB0.out.trans (HB2.out.mono HB0.out.size)) HH.out.2.1 HH.out.2.2
  clear hFFw2
  go_wp2_with fail
  with_reducible refine (CA.out _ kb0 kb1).mono ?_
  rintro e w3 ⟨s1, rfl, hz1, hb⟩
  have HB3 := Lib.hid (HB2.out.trans (hb.mono HB2.out.size))
  clear hb
  clear k0 k1 k2 k3 k4 k5 k6 k7 k8 k9 k10 k11 k12 kb0 kb1
  have e2 : ¬ 9223372036854775807 < s0.size + s1.size := by omega
  go_wp2_with fail
  go_ret2
  exact ⟨_, rfl, HB0.out.trans (HB3.out.mono HB0.out.size)⟩
end Go.Proofs.Ytliakeiaeakliaa.Rg
