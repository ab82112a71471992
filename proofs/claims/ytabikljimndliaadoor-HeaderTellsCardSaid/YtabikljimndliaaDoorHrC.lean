/- The walks of layer 4: the document's first byte, turned. By tools/gen-header-ref.py. -/
import Derived.Test.YtabikljimndliaaDoorHrA
import Derived.Test.YtabikljimndliaaDoorHrB
namespace Go.Proofs.YtabikljimndliaaDoor.Hd
open Go.RowKit Vm
set_option linter.unusedVariables false
set_option linter.unusedSimpArgs false

theorem and_15 (c : UInt8) : (c &&& 15).toNat = c.toNat % 16 := by
  rw [UInt8.toNat_and]; exact Nat.and_two_pow_sub_one_eq_mod c.toNat 4
theorem and_31 (c : UInt8) : (c &&& 31).toNat = c.toNat % 32 := by
  rw [UInt8.toNat_and]; exact Nat.and_two_pow_sub_one_eq_mod c.toNat 5
set_option maxHeartbeats 1000000 in
theorem first_l_ref (l mm : List UInt8) (b c : UInt8) (w : World) (h0 : 0 < l.length) (h1 : 0 < mm.length) (hb : l[0] = b) (hc : mm[0] = c) (hl : l.length ≤ 9223372036854775807) (hm : mm.length ≤ 9223372036854775807) (g : (128 : Int) ≤ ((b.toNat : Nat) : Int)) :
    Calls Tryd.prog 36 #[.string ⟨l.toArray⟩, .string ⟨mm.toArray⟩] w fun e w' => e = .returned (.int .u8 (((b ^^^ (c &&& 15)).toNat : Nat) : Int)) ∧ Below w.heap.size w w' := by
  have I0 : ((⟨l.toArray⟩ : ByteArray)[0]'(by rw [sv_size]; exact h0)) = b := hb
  have I1 : ((⟨mm.toArray⟩ : ByteArray)[0]'(by rw [sv_size]; exact h1)) = c := hc
  have ha := and_15 c
  obtain ⟨h, Eh⟩ : ∃ h, h = c &&& 15 := ⟨_, rfl⟩
  rw [← Eh] at ha
  rw [← Eh]
  have hcn := c.toNat_lt
  have m1 : ((c.toNat : Nat) : Int) % 16 = ((h.toNat : Nat) : Int) := by omega
  have m2 : ((c.toNat : Nat) : Int).tmod 16 = ((h.toNat : Nat) : Int) := by rw [Int.tmod_eq_emod_of_nonneg (by omega)]; exact m1
  have v1 : IntKind.u8.wrap ((h.toNat : Nat) : Int) = ((h.toNat : Nat) : Int) := by have := h.toNat_lt; rw [IntKind.wrap_u8]; omega
  have hbn : ((b.toNat : Nat) : Int) ≤ 255 := by have := b.toNat_lt; omega
  clear hb hc ha Eh hcn
  go_enter Tryd.func36, Tryd.ntmps36
  go_wp2_with fail
  refine wp_region_noPanic ?_
  refine wp_region_held_drew (S := fun w' => Below w.heap.size w w') (by kernel_rfl) ?_ (fun hHeld => ?_)
  · exact below_drew (Below.refl _ _)
  refine wpAnyH_take (i := 0) (v := ?_) rfl (by kernel_rfl) (by kernel_rfl) (by kernel_rfl) (fun _ _ _ h => h) (Or.inl ⟨by rfl, ?_⟩) (by assumption) ?_
  rotate_left
  · (intro w hSw; skip; go_simp; (try with_reducible rfl))
  try simp only [Act.put, List.getElem_toArray, List.getElem_cons_zero, List.getElem_cons_succ, List.setIfInBounds_toArray, List.set_cons_zero, List.set_cons_succ]
  refine wpAnyH_take (i := 1) (v := ?_) rfl (by kernel_rfl) (by kernel_rfl) (by kernel_rfl) (fun _ _ _ h => h) (Or.inl ⟨by rfl, ?_⟩) (by assumption) ?_
  rotate_left
  · (intro w hSw; skip; go_simp; (try with_reducible rfl))
  try simp only [Act.put, List.getElem_toArray, List.getElem_cons_zero, List.getElem_cons_succ, List.setIfInBounds_toArray, List.set_cons_zero, List.set_cons_succ]
  refine wpAnyH_take (i := 2) (v := ?_) rfl (by kernel_rfl) (by kernel_rfl) (by kernel_rfl) (fun _ _ _ h => h) (Or.inl ⟨by rfl, ?_⟩) (by assumption) ?_
  rotate_left
  · (intro w hSw; skip; go_simp; (try with_reducible rfl))
  try simp only [Act.put, List.getElem_toArray, List.getElem_cons_zero, List.getElem_cons_succ, List.setIfInBounds_toArray, List.set_cons_zero, List.set_cons_succ]
  refine wpAnyH_take (i := 3) (v := ?_) rfl (by kernel_rfl) (by kernel_rfl) (by kernel_rfl) (fun _ _ _ h => h) (Or.inl ⟨by rfl, ?_⟩) (by assumption) ?_
  rotate_left
  · (intro w hSw; skip; go_simp; (try with_reducible rfl))
  try simp only [Act.put, List.getElem_toArray, List.getElem_cons_zero, List.getElem_cons_succ, List.setIfInBounds_toArray, List.set_cons_zero, List.set_cons_succ]
  refine wpAnyH_take (i := 4) (v := ?_) rfl (by kernel_rfl) (by kernel_rfl) (by kernel_rfl) (fun _ _ _ h => h) (Or.inl ⟨by rfl, ?_⟩) (by assumption) ?_
  rotate_left
  · (intro w hSw; skip; go_simp; (try with_reducible rfl))
  try simp only [Act.put, List.getElem_toArray, List.getElem_cons_zero, List.getElem_cons_succ, List.setIfInBounds_toArray, List.set_cons_zero, List.set_cons_succ]
  refine wpAnyH_ready (rs := [5]) (by kernel_rfl) (by simp) ?_
  refine AllReadyH.cons rfl (fun K hK => ?_) AllReadyH.nil
  rw [if_pos (by rfl)]
  go_simp
  refine (turned_ref b h _).mono ?_
  rintro e w1 ⟨rfl, hb⟩
  refine hK.out _ _ ?_ (fun hHeld => ?_)
  · exact hHeld.trans (hb.mono hHeld.size)
  clear hK K
  try simp only [Act.put, List.getElem_toArray, List.getElem_cons_zero, List.getElem_cons_succ, List.setIfInBounds_toArray, List.set_cons_zero, List.set_cons_succ]
  refine wpAnyH_take (i := 6) (v := ?_) rfl (by kernel_rfl) (by kernel_rfl) (by kernel_rfl) (fun _ _ _ h => h) (Or.inl ⟨by rfl, ?_⟩) (by assumption) ?_
  rotate_left
  · (intro w hSw; skip; go_simp; (try with_reducible rfl))
  try simp only [Act.put, List.getElem_toArray, List.getElem_cons_zero, List.getElem_cons_succ, List.setIfInBounds_toArray, List.set_cons_zero, List.set_cons_succ]
  refine wpAnyH_done (by kernel_rfl) (NoPanic.normal ?_) _
  have HB := Lib.hid hHeld
  clear hHeld
  go_wp2
  go_ret
  exact ⟨rfl, HB.out⟩
set_option maxHeartbeats 1000000 in
theorem first_s_ref (l mm : List UInt8) (b c : UInt8) (w : World) (h0 : 0 < l.length) (h1 : 0 < mm.length) (hb : l[0] = b) (hc : mm[0] = c) (hl : l.length ≤ 9223372036854775807) (hm : mm.length ≤ 9223372036854775807) (g : ¬ (128 : Int) ≤ ((b.toNat : Nat) : Int)) :
    Calls Tryd.prog 36 #[.string ⟨l.toArray⟩, .string ⟨mm.toArray⟩] w fun e w' => e = .returned (.int .u8 (((b ^^^ (c &&& 31)).toNat : Nat) : Int)) ∧ Below w.heap.size w w' := by
  have I0 : ((⟨l.toArray⟩ : ByteArray)[0]'(by rw [sv_size]; exact h0)) = b := hb
  have I1 : ((⟨mm.toArray⟩ : ByteArray)[0]'(by rw [sv_size]; exact h1)) = c := hc
  have ha := and_31 c
  obtain ⟨h, Eh⟩ : ∃ h, h = c &&& 31 := ⟨_, rfl⟩
  rw [← Eh] at ha
  rw [← Eh]
  have hcn := c.toNat_lt
  have m1 : ((c.toNat : Nat) : Int) % 32 = ((h.toNat : Nat) : Int) := by omega
  have m2 : ((c.toNat : Nat) : Int).tmod 32 = ((h.toNat : Nat) : Int) := by rw [Int.tmod_eq_emod_of_nonneg (by omega)]; exact m1
  have v1 : IntKind.u8.wrap ((h.toNat : Nat) : Int) = ((h.toNat : Nat) : Int) := by have := h.toNat_lt; rw [IntKind.wrap_u8]; omega
  have hbn : ((b.toNat : Nat) : Int) ≤ 255 := by have := b.toNat_lt; omega
  clear hb hc ha Eh hcn
  go_enter Tryd.func36, Tryd.ntmps36
  go_wp2_with fail
  refine wp_region_noPanic ?_
  refine wp_region_held_drew (S := fun w' => Below w.heap.size w w') (by kernel_rfl) ?_ (fun hHeld => ?_)
  · exact below_drew (Below.refl _ _)
  refine wpAnyH_take (i := 0) (v := ?_) rfl (by kernel_rfl) (by kernel_rfl) (by kernel_rfl) (fun _ _ _ h => h) (Or.inl ⟨by rfl, ?_⟩) (by assumption) ?_
  rotate_left
  · (intro w hSw; skip; go_simp; (try with_reducible rfl))
  try simp only [Act.put, List.getElem_toArray, List.getElem_cons_zero, List.getElem_cons_succ, List.setIfInBounds_toArray, List.set_cons_zero, List.set_cons_succ]
  refine wpAnyH_take (i := 1) (v := ?_) rfl (by kernel_rfl) (by kernel_rfl) (by kernel_rfl) (fun _ _ _ h => h) (Or.inl ⟨by rfl, ?_⟩) (by assumption) ?_
  rotate_left
  · (intro w hSw; skip; go_simp; (try with_reducible rfl))
  try simp only [Act.put, List.getElem_toArray, List.getElem_cons_zero, List.getElem_cons_succ, List.setIfInBounds_toArray, List.set_cons_zero, List.set_cons_succ]
  refine wpAnyH_take (i := 2) (v := ?_) rfl (by kernel_rfl) (by kernel_rfl) (by kernel_rfl) (fun _ _ _ h => h) (Or.inl ⟨by rfl, ?_⟩) (by assumption) ?_
  rotate_left
  · (intro w hSw; skip; go_simp; (try with_reducible rfl))
  try simp only [Act.put, List.getElem_toArray, List.getElem_cons_zero, List.getElem_cons_succ, List.setIfInBounds_toArray, List.set_cons_zero, List.set_cons_succ]
  refine wpAnyH_take (i := 3) (v := ?_) rfl (by kernel_rfl) (by kernel_rfl) (by kernel_rfl) (fun _ _ _ h => h) (Or.inl ⟨by rfl, ?_⟩) (by assumption) ?_
  rotate_left
  · (intro w hSw; skip; go_simp; (try with_reducible rfl))
  try simp only [Act.put, List.getElem_toArray, List.getElem_cons_zero, List.getElem_cons_succ, List.setIfInBounds_toArray, List.set_cons_zero, List.set_cons_succ]
  refine wpAnyH_take (i := 4) (v := ?_) rfl (by kernel_rfl) (by kernel_rfl) (by kernel_rfl) (fun _ _ _ h => h) (Or.inl ⟨by rfl, ?_⟩) (by assumption) ?_
  rotate_left
  · (intro w hSw; skip; go_simp; (try with_reducible rfl))
  try simp only [Act.put, List.getElem_toArray, List.getElem_cons_zero, List.getElem_cons_succ, List.setIfInBounds_toArray, List.set_cons_zero, List.set_cons_succ]
  refine wpAnyH_ready (rs := [5]) (by kernel_rfl) (by simp) ?_
  refine AllReadyH.cons rfl (fun K hK => ?_) AllReadyH.nil
  rw [if_pos (by rfl)]
  go_simp
  refine (turned_ref b h _).mono ?_
  rintro e w1 ⟨rfl, hb⟩
  refine hK.out _ _ ?_ (fun hHeld => ?_)
  · exact hHeld.trans (hb.mono hHeld.size)
  clear hK K
  try simp only [Act.put, List.getElem_toArray, List.getElem_cons_zero, List.getElem_cons_succ, List.setIfInBounds_toArray, List.set_cons_zero, List.set_cons_succ]
  refine wpAnyH_take (i := 6) (v := ?_) rfl (by kernel_rfl) (by kernel_rfl) (by kernel_rfl) (fun _ _ _ h => h) (Or.inl ⟨by rfl, ?_⟩) (by assumption) ?_
  rotate_left
  · (intro w hSw; skip; go_simp; (try with_reducible rfl))
  try simp only [Act.put, List.getElem_toArray, List.getElem_cons_zero, List.getElem_cons_succ, List.setIfInBounds_toArray, List.set_cons_zero, List.set_cons_succ]
  refine wpAnyH_done (by kernel_rfl) (NoPanic.normal ?_) _
  have HB := Lib.hid hHeld
  clear hHeld
  go_wp2
  go_ret
  exact ⟨rfl, HB.out⟩
theorem first_ref (l mm : List UInt8) (w : World) (h0 : 0 < l.length) (h1 : 0 < mm.length) (hl : l.length ≤ 9223372036854775807) (hm : mm.length ≤ 9223372036854775807) :
    Calls Tryd.prog 36 #[.string ⟨l.toArray⟩, .string ⟨mm.toArray⟩] w fun e w' => e = .returned (.int .u8 (((fstB (l.headD 0) (mm.headD 0)).toNat : Nat) : Int)) ∧ Below w.heap.size w w' := by
  unfold fstB hidB
  split
  · exact first_l_ref l mm _ _ w h0 h1 (head_get h0) (head_get h1) hl hm (by omega)
  · exact first_s_ref l mm _ _ w h0 h1 (head_get h0) (head_get h1) hl hm (by omega)
end Go.Proofs.YtabikljimndliaaDoor.Hd
