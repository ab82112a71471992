/- The walks of layer 9: opened, Seal, Open, Mask -/
import Derived.Test.YtagbkmoahflfdaaGreatDoorJa14
namespace Go.Proofs.YtagbkmoahflfdaaGreatDoor.Se
set_option maxRecDepth 20000
open Go.RowKit Vm Dg Kd
set_option linter.unusedVariables false
set_option linter.unusedSimpArgs false

theorem openL_short {K V : List UInt8} {n : Nat} {h s : List UInt8} (hs : s.length < 16) : openL K V n h s = none := by
  unfold openL; rw [if_neg (by omega)]
theorem openL_yes {K V : List UInt8} {n : Nat} {h s : List UInt8} (hs : 16 ≤ s.length) (ht : s.drop (s.length - 16) = tagL K V n h (s.take (s.length - 16))) : openL K V n h s = some (laidL K V n (s.take (s.length - 16))) := by
  unfold openL; rw [if_pos ⟨hs, ht⟩]
theorem openL_no {K V : List UInt8} {n : Nat} {h s : List UInt8} (ht : ¬ s.drop (s.length - 16) = tagL K V n h (s.take (s.length - 16))) : openL K V n h s = none := by
  unfold openL; rw [if_neg (fun x => ht x.2)]
/-- What opened answers. -/
def opV (o : Option (List UInt8)) : Value := match o with | some p => .tuple #[.string ⟨p.toArray⟩, .bool true] | none => .tuple #[.string ⟨#[]⟩, .bool false]
theorem ba_eq (a b : List UInt8) : ((⟨a.toArray⟩ : ByteArray).toList == (⟨b.toArray⟩ : ByteArray).toList) = (a == b) := by
  rw [ByteArray.toList_eq, ByteArray.toList_eq]
set_option maxHeartbeats 4000000 in
theorem opened_short (K0 V0 M0 : List UInt8) (n : Nat) (h t : List UInt8) (w : World) (ht : t.length < 16) :
    Calls Tryz.prog 45 #[.agg #[.string ⟨K0.toArray⟩, .string ⟨V0.toArray⟩, .string ⟨M0.toArray⟩], .int .u64 n, .string ⟨h.toArray⟩, .string ⟨t.toArray⟩] w fun e w' => e = .returned (.tuple #[.string ⟨#[]⟩, .bool false]) ∧ Below w.heap.size w w' := by
  have s1 := ba_size t
  have hI : ((⟨t.toArray⟩ : ByteArray).size : Int) - 16 < 0 := by omega
  have hI0 : ((⟨t.toArray⟩ : ByteArray).size : Int) < 16 := by omega
  generalize (⟨h.toArray⟩ : ByteArray) = HH at *
  generalize (⟨t.toArray⟩ : ByteArray) = TT at *
  obtain ⟨Kb, hK⟩ : ∃ x : ByteArray, ⟨K0.toArray⟩ = x := ⟨_, rfl⟩
  obtain ⟨Vb, hVV⟩ : ∃ x : ByteArray, ⟨V0.toArray⟩ = x := ⟨_, rfl⟩
  obtain ⟨Mb, hM⟩ : ∃ x : ByteArray, ⟨M0.toArray⟩ = x := ⟨_, rfl⟩
  rw [hK, hVV, hM]
  clear hK hVV hM s1 ht
  have HX0 : Hid (KX (w.alloc (.cells #[.string Kb, .string Vb, .string Mb] 88)) w.heap.size Kb Vb Mb ∧ Below w.heap.size w (w.alloc (.cells #[.string Kb, .string Vb, .string Mb] 88))) := Lib.hid ⟨heap_alloc_new w _, (Below.refl _ _).alloc (Nat.le_refl _) _⟩
  obtain ⟨p0, p1, p2⟩ := HX0.out.1.cells
  have HD0 : Hid (KX (w.alloc (.cells #[.string Kb, .string Vb, .string Mb] 88)).drew w.heap.size Kb Vb Mb ∧ Below w.heap.size w (w.alloc (.cells #[.string Kb, .string Vb, .string Mb] 88)).drew) := Lib.hid ⟨HX0.out.1, HX0.out.2.drew⟩
  go_enter Tryz.func45, Tryz.ntmps45
  go_wp2_with fail
  refine wp_region_noPanic ?_
  refine wp_region_held_drew (S := fun W : World => KX W w.heap.size Kb Vb Mb ∧ Below w.heap.size w W) (by kernel_rfl) ?_ (fun hHeld => ?_)
  · exact HD0.out
  refine wpAnyH_take (i := 0) (v := ?_) rfl (by kernel_rfl) (by kernel_rfl) (by kernel_rfl) (fun _ _ _ h => h) (Or.inl ⟨by rfl, ?_⟩) (by assumption) ?_
  rotate_left
  · (intro w hSw; obtain ⟨hsk, hsb⟩ := hSw; obtain ⟨q0, q1, q2⟩ := hsk.cells; go_simp; (try with_reducible rfl))
  try simp only [Act.put, List.getElem_toArray, List.getElem_cons_zero, List.getElem_cons_succ, List.setIfInBounds_toArray, List.set_cons_zero, List.set_cons_succ]
  refine wpAnyH_take (i := 1) (v := ?_) rfl (by kernel_rfl) (by kernel_rfl) (by kernel_rfl) (fun _ _ _ h => h) (Or.inl ⟨by rfl, ?_⟩) (by assumption) ?_
  rotate_left
  · (intro w hSw; obtain ⟨hsk, hsb⟩ := hSw; obtain ⟨q0, q1, q2⟩ := hsk.cells; go_simp; (try with_reducible rfl))
  try simp only [Act.put, List.getElem_toArray, List.getElem_cons_zero, List.getElem_cons_succ, List.setIfInBounds_toArray, List.set_cons_zero, List.set_cons_succ]
  refine wpAnyH_take (i := 2) (v := ?_) rfl (by kernel_rfl) (by kernel_rfl) (by kernel_rfl) (fun _ _ _ h => h) (Or.inl ⟨by rfl, ?_⟩) (by assumption) ?_
  rotate_left
  · (intro w hSw; obtain ⟨hsk, hsb⟩ := hSw; obtain ⟨q0, q1, q2⟩ := hsk.cells; go_simp; (try with_reducible rfl))
  try simp only [Act.put, List.getElem_toArray, List.getElem_cons_zero, List.getElem_cons_succ, List.setIfInBounds_toArray, List.set_cons_zero, List.set_cons_succ]
  refine wpAnyH_take (i := 3) (v := undef) rfl (by kernel_rfl) (by kernel_rfl) (by kernel_rfl) (fun _ _ _ h => h) (Or.inr ⟨by rfl, rfl⟩) (by assumption) ?_
  try simp only [Act.put, List.getElem_toArray, List.getElem_cons_zero, List.getElem_cons_succ, List.setIfInBounds_toArray, List.set_cons_zero, List.set_cons_succ]
  refine wpAnyH_take (i := 4) (v := undef) rfl (by kernel_rfl) (by kernel_rfl) (by kernel_rfl) (fun _ _ _ h => h) (Or.inr ⟨by rfl, rfl⟩) (by assumption) ?_
  try simp only [Act.put, List.getElem_toArray, List.getElem_cons_zero, List.getElem_cons_succ, List.setIfInBounds_toArray, List.set_cons_zero, List.set_cons_succ]
  refine wpAnyH_take (i := 5) (v := undef) rfl (by kernel_rfl) (by kernel_rfl) (by kernel_rfl) (fun _ _ _ h => h) (Or.inr ⟨by rfl, rfl⟩) (by assumption) ?_
  try simp only [Act.put, List.getElem_toArray, List.getElem_cons_zero, List.getElem_cons_succ, List.setIfInBounds_toArray, List.set_cons_zero, List.set_cons_succ]
  refine wpAnyH_take (i := 6) (v := undef) rfl (by kernel_rfl) (by kernel_rfl) (by kernel_rfl) (fun _ _ _ h => h) (Or.inr ⟨by rfl, rfl⟩) (by assumption) ?_
  try simp only [Act.put, List.getElem_toArray, List.getElem_cons_zero, List.getElem_cons_succ, List.setIfInBounds_toArray, List.set_cons_zero, List.set_cons_succ]
  refine wpAnyH_take (i := 7) (v := undef) rfl (by kernel_rfl) (by kernel_rfl) (by kernel_rfl) (fun _ _ _ h => h) (Or.inr ⟨by rfl, rfl⟩) (by assumption) ?_
  try simp only [Act.put, List.getElem_toArray, List.getElem_cons_zero, List.getElem_cons_succ, List.setIfInBounds_toArray, List.set_cons_zero, List.set_cons_succ]
  refine wpAnyH_take (i := 8) (v := undef) rfl (by kernel_rfl) (by kernel_rfl) (by kernel_rfl) (fun _ _ _ h => h) (Or.inr ⟨by rfl, rfl⟩) (by assumption) ?_
  try simp only [Act.put, List.getElem_toArray, List.getElem_cons_zero, List.getElem_cons_succ, List.setIfInBounds_toArray, List.set_cons_zero, List.set_cons_succ]
  refine wpAnyH_take (i := 9) (v := undef) rfl (by kernel_rfl) (by kernel_rfl) (by kernel_rfl) (fun _ _ _ h => h) (Or.inr ⟨by rfl, rfl⟩) (by assumption) ?_
  try simp only [Act.put, List.getElem_toArray, List.getElem_cons_zero, List.getElem_cons_succ, List.setIfInBounds_toArray, List.set_cons_zero, List.set_cons_succ]
  refine wpAnyH_take (i := 10) (v := undef) rfl (by kernel_rfl) (by kernel_rfl) (by kernel_rfl) (fun _ _ _ h => h) (Or.inr ⟨by rfl, rfl⟩) (by assumption) ?_
  try simp only [Act.put, List.getElem_toArray, List.getElem_cons_zero, List.getElem_cons_succ, List.setIfInBounds_toArray, List.set_cons_zero, List.set_cons_succ]
  refine wpAnyH_take (i := 11) (v := undef) rfl (by kernel_rfl) (by kernel_rfl) (by kernel_rfl) (fun _ _ _ h => h) (Or.inr ⟨by rfl, rfl⟩) (by assumption) ?_
  try simp only [Act.put, List.getElem_toArray, List.getElem_cons_zero, List.getElem_cons_succ, List.setIfInBounds_toArray, List.set_cons_zero, List.set_cons_succ]
  refine wpAnyH_take (i := 12) (v := undef) rfl (by kernel_rfl) (by kernel_rfl) (by kernel_rfl) (fun _ _ _ h => h) (Or.inr ⟨by rfl, rfl⟩) (by assumption) ?_
  try simp only [Act.put, List.getElem_toArray, List.getElem_cons_zero, List.getElem_cons_succ, List.setIfInBounds_toArray, List.set_cons_zero, List.set_cons_succ]
  refine wpAnyH_take (i := 13) (v := undef) rfl (by kernel_rfl) (by kernel_rfl) (by kernel_rfl) (fun _ _ _ h => h) (Or.inr ⟨by rfl, rfl⟩) (by assumption) ?_
  try simp only [Act.put, List.getElem_toArray, List.getElem_cons_zero, List.getElem_cons_succ, List.setIfInBounds_toArray, List.set_cons_zero, List.set_cons_succ]
  refine wpAnyH_take (i := 14) (v := ?_) rfl (by kernel_rfl) (by kernel_rfl) (by kernel_rfl) (fun _ _ _ h => h) (Or.inl ⟨by rfl, ?_⟩) (by assumption) ?_
  rotate_left
  · (intro w hSw; obtain ⟨hsk, hsb⟩ := hSw; obtain ⟨q0, q1, q2⟩ := hsk.cells; go_simp; (try with_reducible rfl))
  try simp only [Act.put, List.getElem_toArray, List.getElem_cons_zero, List.getElem_cons_succ, List.setIfInBounds_toArray, List.set_cons_zero, List.set_cons_succ]
  refine wpAnyH_done (by kernel_rfl) (NoPanic.normal ?_) _
  go_wp2_with fail
  go_ret2
  exact ⟨rfl, hHeld.2⟩
set_option maxHeartbeats 4000000 in
theorem opened_yes (K0 V0 M0 : List UInt8) (n E : Nat) (h t : List UInt8) (w : World) (hK : K0.length ≤ 1000) (hV : V0.length ≤ 1000) (hn : n < 18446744073709551616) (hh : h.length ≤ 10000) (ht : t.length ≤ 10000) (hE : t.length = E + 16) (hc : (t.drop E == tagL K0 V0 n h (t.take E)) = true) :
    Calls Tryz.prog 45 #[.agg #[.string ⟨K0.toArray⟩, .string ⟨V0.toArray⟩, .string ⟨M0.toArray⟩], .int .u64 n, .string ⟨h.toArray⟩, .string ⟨t.toArray⟩] w fun e w' => e = .returned (.tuple #[.string ⟨(laidL K0 V0 n (t.take E)).toArray⟩, .bool true]) ∧ Below w.heap.size w w' := by
  have CT := Lib.hid (fun W => tag_any K0 V0 M0 n h (t.take E) W hK hV hn hh (by rw [List.length_take]; omega))
  have CL := Lib.hid (fun W => laid_any K0 V0 M0 n (t.take E) W hK hV hn (by rw [List.length_take]; omega))
  have s1 := ba_size t
  rw [hE] at s1
  have e1 := ba_take t E
  have e2 := ba_drop t E (E + 16) hE.symm
  have hcb := ba_eq (t.drop E) (tagL K0 V0 n h (t.take E))
  rw [hc] at hcb
  generalize (⟨(laidL K0 V0 n (t.take E)).toArray⟩ : ByteArray) = R at *
  generalize (⟨(tagL K0 V0 n h (t.take E)).toArray⟩ : ByteArray) = TG at *
  generalize (⟨(t.take E).toArray⟩ : ByteArray) = TE at *
  generalize (⟨(t.drop E).toArray⟩ : ByteArray) = TD at *
  generalize (⟨h.toArray⟩ : ByteArray) = HH at *
  generalize (⟨t.toArray⟩ : ByteArray) = TT at *
  have hE2 : (TT.size : Int) - 16 = (E : Int) := by omega
  have hE3 : ¬ ((E : Int) < 0) := by omega
  have hE4 : (E : Int) ≤ 10000 := by omega
  have hE5 : (E : Int) ≤ (E : Int) + 16 := by omega
  have hE6 : (0 : Int) ≤ (E : Int) := by omega
  have hcb2 : (TD.toList == TG.toList) = true := hcb
  clear hK hc hcb
  obtain ⟨Kb, hK⟩ : ∃ x : ByteArray, ⟨K0.toArray⟩ = x := ⟨_, rfl⟩
  obtain ⟨Vb, hVV⟩ : ∃ x : ByteArray, ⟨V0.toArray⟩ = x := ⟨_, rfl⟩
  obtain ⟨Mb, hM⟩ : ∃ x : ByteArray, ⟨M0.toArray⟩ = x := ⟨_, rfl⟩
  rw [hK, hVV, hM] at CT
  rw [hK, hVV, hM] at CL
  rw [hK, hVV, hM]
  clear hK hVV hM hV hn hh ht hE
  have HX0 : Hid (KX (w.alloc (.cells #[.string Kb, .string Vb, .string Mb] 88)) w.heap.size Kb Vb Mb ∧ Below w.heap.size w (w.alloc (.cells #[.string Kb, .string Vb, .string Mb] 88))) := Lib.hid ⟨heap_alloc_new w _, (Below.refl _ _).alloc (Nat.le_refl _) _⟩
  obtain ⟨p0, p1, p2⟩ := HX0.out.1.cells
  have HD0 : Hid (KX (w.alloc (.cells #[.string Kb, .string Vb, .string Mb] 88)).drew w.heap.size Kb Vb Mb ∧ Below w.heap.size w (w.alloc (.cells #[.string Kb, .string Vb, .string Mb] 88)).drew) := Lib.hid ⟨HX0.out.1, HX0.out.2.drew⟩
  go_enter Tryz.func45, Tryz.ntmps45
  go_wp2_with fail
  refine wp_region_noPanic ?_
  refine wp_region_held_drew (S := fun W : World => KX W w.heap.size Kb Vb Mb ∧ Below w.heap.size w W) (by kernel_rfl) ?_ (fun hHeld => ?_)
  · exact HD0.out
  refine wpAnyH_take (i := 0) (v := ?_) rfl (by kernel_rfl) (by kernel_rfl) (by kernel_rfl) (fun _ _ _ h => h) (Or.inl ⟨by rfl, ?_⟩) (by assumption) ?_
  rotate_left
  · (intro w hSw; obtain ⟨hsk, hsb⟩ := hSw; obtain ⟨q0, q1, q2⟩ := hsk.cells; go_simp; (try with_reducible rfl))
  try simp only [Act.put, List.getElem_toArray, List.getElem_cons_zero, List.getElem_cons_succ, List.setIfInBounds_toArray, List.set_cons_zero, List.set_cons_succ]
  refine wpAnyH_take (i := 1) (v := ?_) rfl (by kernel_rfl) (by kernel_rfl) (by kernel_rfl) (fun _ _ _ h => h) (Or.inl ⟨by rfl, ?_⟩) (by assumption) ?_
  rotate_left
  · (intro w hSw; obtain ⟨hsk, hsb⟩ := hSw; obtain ⟨q0, q1, q2⟩ := hsk.cells; go_simp; (try with_reducible rfl))
  try simp only [Act.put, List.getElem_toArray, List.getElem_cons_zero, List.getElem_cons_succ, List.setIfInBounds_toArray, List.set_cons_zero, List.set_cons_succ]
  refine wpAnyH_take (i := 2) (v := ?_) rfl (by kernel_rfl) (by kernel_rfl) (by kernel_rfl) (fun _ _ _ h => h) (Or.inl ⟨by rfl, ?_⟩) (by assumption) ?_
  rotate_left
  · (intro w hSw; obtain ⟨hsk, hsb⟩ := hSw; obtain ⟨q0, q1, q2⟩ := hsk.cells; go_simp; (try with_reducible rfl))
  try simp only [Act.put, List.getElem_toArray, List.getElem_cons_zero, List.getElem_cons_succ, List.setIfInBounds_toArray, List.set_cons_zero, List.set_cons_succ]
  refine wpAnyH_take (i := 3) (v := ?_) rfl (by kernel_rfl) (by kernel_rfl) (by kernel_rfl) (fun _ _ _ h => h) (Or.inl ⟨by rfl, ?_⟩) (by assumption) ?_
  rotate_left
  · (intro w hSw; obtain ⟨hsk, hsb⟩ := hSw; obtain ⟨q0, q1, q2⟩ := hsk.cells; go_simp; (try with_reducible rfl))
  try simp only [Act.put, List.getElem_toArray, List.getElem_cons_zero, List.getElem_cons_succ, List.setIfInBounds_toArray, List.set_cons_zero, List.set_cons_succ]
  refine wpAnyH_take (i := 4) (v := ?_) rfl (by kernel_rfl) (by kernel_rfl) (by kernel_rfl) (fun _ _ _ h => h) (Or.inl ⟨by rfl, ?_⟩) (by assumption) ?_
  rotate_left
  · (intro w hSw; obtain ⟨hsk, hsb⟩ := hSw; obtain ⟨q0, q1, q2⟩ := hsk.cells; go_simp; (try with_reducible rfl))
  try simp only [Act.put, List.getElem_toArray, List.getElem_cons_zero, List.getElem_cons_succ, List.setIfInBounds_toArray, List.set_cons_zero, List.set_cons_succ]
  refine wpAnyH_take (i := 5) (v := ?_) rfl (by kernel_rfl) (by kernel_rfl) (by kernel_rfl) (fun _ _ _ h => h) (Or.inl ⟨by rfl, ?_⟩) (by assumption) ?_
  rotate_left
  · (intro w hSw; obtain ⟨hsk, hsb⟩ := hSw; obtain ⟨q0, q1, q2⟩ := hsk.cells; go_simp; (try with_reducible rfl))
  try simp only [Act.put, List.getElem_toArray, List.getElem_cons_zero, List.getElem_cons_succ, List.setIfInBounds_toArray, List.set_cons_zero, List.set_cons_succ]
  refine wpAnyH_take (i := 6) (v := ?_) rfl (by kernel_rfl) (by kernel_rfl) (by kernel_rfl) (fun _ _ _ h => h) (Or.inl ⟨by rfl, ?_⟩) (by assumption) ?_
  rotate_left
  · (intro w hSw; obtain ⟨hsk, hsb⟩ := hSw; obtain ⟨q0, q1, q2⟩ := hsk.cells; go_simp; (try with_reducible rfl))
  try simp only [Act.put, List.getElem_toArray, List.getElem_cons_zero, List.getElem_cons_succ, List.setIfInBounds_toArray, List.set_cons_zero, List.set_cons_succ]
  refine wpAnyH_take (i := 7) (v := ?_) rfl (by kernel_rfl) (by kernel_rfl) (by kernel_rfl) (fun _ _ _ h => h) (Or.inl ⟨by rfl, ?_⟩) (by assumption) ?_
  rotate_left
  · (intro w hSw; obtain ⟨hsk, hsb⟩ := hSw; obtain ⟨q0, q1, q2⟩ := hsk.cells; go_simp; (try with_reducible rfl))
  try simp only [Act.put, List.getElem_toArray, List.getElem_cons_zero, List.getElem_cons_succ, List.setIfInBounds_toArray, List.set_cons_zero, List.set_cons_succ]
  refine wpAnyH_take (i := 8) (v := ?_) rfl (by kernel_rfl) (by kernel_rfl) (by kernel_rfl) (fun _ _ _ h => h) (Or.inl ⟨by rfl, ?_⟩) (by assumption) ?_
  rotate_left
  · (intro w hSw; obtain ⟨hsk, hsb⟩ := hSw; obtain ⟨q0, q1, q2⟩ := hsk.cells; go_simp; (try with_reducible rfl))
  try simp only [Act.put, List.getElem_toArray, List.getElem_cons_zero, List.getElem_cons_succ, List.setIfInBounds_toArray, List.set_cons_zero, List.set_cons_succ]
  refine wpAnyH_take (i := 9) (v := ?_) rfl (by kernel_rfl) (by kernel_rfl) (by kernel_rfl) (fun _ _ _ h => h) (Or.inl ⟨by rfl, ?_⟩) (by assumption) ?_
  rotate_left
  · (intro w hSw; obtain ⟨hsk, hsb⟩ := hSw; obtain ⟨q0, q1, q2⟩ := hsk.cells; go_simp; (try with_reducible rfl))
  try simp only [Act.put, List.getElem_toArray, List.getElem_cons_zero, List.getElem_cons_succ, List.setIfInBounds_toArray, List.set_cons_zero, List.set_cons_succ]
  refine wpAnyH_take (i := 10) (v := ?_) rfl (by kernel_rfl) (by kernel_rfl) (by kernel_rfl) (fun _ _ _ h => h) (Or.inl ⟨by rfl, ?_⟩) (by assumption) ?_
  rotate_left
  · (intro w hSw; obtain ⟨hsk, hsb⟩ := hSw; obtain ⟨q0, q1, q2⟩ := hsk.cells; go_simp; (try with_reducible rfl))
  try simp only [Act.put, List.getElem_toArray, List.getElem_cons_zero, List.getElem_cons_succ, List.setIfInBounds_toArray, List.set_cons_zero, List.set_cons_succ]
  refine wpAnyH_take (i := 11) (v := ?_) rfl (by kernel_rfl) (by kernel_rfl) (by kernel_rfl) (fun _ _ _ h => h) (Or.inl ⟨by rfl, ?_⟩) (by assumption) ?_
  rotate_left
  · (intro w hSw; obtain ⟨hsk, hsb⟩ := hSw; obtain ⟨q0, q1, q2⟩ := hsk.cells; go_simp; (try with_reducible rfl))
  try simp only [Act.put, List.getElem_toArray, List.getElem_cons_zero, List.getElem_cons_succ, List.setIfInBounds_toArray, List.set_cons_zero, List.set_cons_succ]
  refine wpAnyH_ready (rs := [12]) (by kernel_rfl) (by simp) ?_
  refine AllReadyH.cons rfl (fun K hK => ?_) AllReadyH.nil
  rw [if_pos (by rfl)]
  go_simp
  with_reducible refine (CT.out _).mono ?_
  rintro e1 y1 ⟨rfl, hb⟩
  have HS1 : Hid (KX y1 w.heap.size Kb Vb Mb ∧ Below w.heap.size w y1) := Lib.hid ⟨HD0.out.1.keep hb HD0.out.1.lt, HD0.out.2.trans (hb.mono HD0.out.2.size)⟩
  clear hb
  refine hK.out _ _ ?_ (fun hHeld => ?_)
  · exact HS1.out
  clear hK K
  try simp only [Act.put, List.getElem_toArray, List.getElem_cons_zero, List.getElem_cons_succ, List.setIfInBounds_toArray, List.set_cons_zero, List.set_cons_succ]
  refine wpAnyH_take (i := 13) (v := ?_) rfl (by kernel_rfl) (by kernel_rfl) (by kernel_rfl) (fun _ _ _ h => h) (Or.inl ⟨by rfl, ?_⟩) (by assumption) ?_
  rotate_left
  · (intro w hSw; obtain ⟨hsk, hsb⟩ := hSw; obtain ⟨q0, q1, q2⟩ := hsk.cells; go_simp; (try with_reducible rfl))
  try simp only [Act.put, List.getElem_toArray, List.getElem_cons_zero, List.getElem_cons_succ, List.setIfInBounds_toArray, List.set_cons_zero, List.set_cons_succ]
  refine wpAnyH_take (i := 14) (v := ?_) rfl (by kernel_rfl) (by kernel_rfl) (by kernel_rfl) (fun _ _ _ h => h) (Or.inl ⟨by rfl, ?_⟩) (by assumption) ?_
  rotate_left
  · (intro w hSw; obtain ⟨hsk, hsb⟩ := hSw; obtain ⟨q0, q1, q2⟩ := hsk.cells; go_simp; (try with_reducible rfl))
  try simp only [Act.put, List.getElem_toArray, List.getElem_cons_zero, List.getElem_cons_succ, List.setIfInBounds_toArray, List.set_cons_zero, List.set_cons_succ]
  refine wpAnyH_done (by kernel_rfl) (NoPanic.normal ?_) _
  have HX5 := Lib.hid hHeld
  obtain ⟨v0, v1, v2⟩ := HX5.out.1.cells
  have HD5 : Hid (KX y1.drew w.heap.size Kb Vb Mb ∧ Below w.heap.size w y1.drew) := Lib.hid ⟨HX5.out.1, HX5.out.2.drew⟩
  clear hHeld
  go_wp2_with fail
  refine wp_region_noPanic ?_
  refine wp_region_held_drew (S := fun W : World => KX W w.heap.size Kb Vb Mb ∧ Below w.heap.size w W) (by kernel_rfl) ?_ (fun hHeld => ?_)
  · exact HD5.out
  refine wpAnyH_take (i := 0) (v := ?_) rfl (by kernel_rfl) (by kernel_rfl) (by kernel_rfl) (fun _ _ _ h => h) (Or.inl ⟨by rfl, ?_⟩) (by assumption) ?_
  rotate_left
  · (intro w hSw; obtain ⟨hsk, hsb⟩ := hSw; obtain ⟨q0, q1, q2⟩ := hsk.cells; go_simp; (try with_reducible rfl))
  try simp only [Act.put, List.getElem_toArray, List.getElem_cons_zero, List.getElem_cons_succ, List.setIfInBounds_toArray, List.set_cons_zero, List.set_cons_succ]
  refine wpAnyH_take (i := 1) (v := ?_) rfl (by kernel_rfl) (by kernel_rfl) (by kernel_rfl) (fun _ _ _ h => h) (Or.inl ⟨by rfl, ?_⟩) (by assumption) ?_
  rotate_left
  · (intro w hSw; obtain ⟨hsk, hsb⟩ := hSw; obtain ⟨q0, q1, q2⟩ := hsk.cells; go_simp; (try with_reducible rfl))
  try simp only [Act.put, List.getElem_toArray, List.getElem_cons_zero, List.getElem_cons_succ, List.setIfInBounds_toArray, List.set_cons_zero, List.set_cons_succ]
  refine wpAnyH_take (i := 2) (v := ?_) rfl (by kernel_rfl) (by kernel_rfl) (by kernel_rfl) (fun _ _ _ h => h) (Or.inl ⟨by rfl, ?_⟩) (by assumption) ?_
  rotate_left
  · (intro w hSw; obtain ⟨hsk, hsb⟩ := hSw; obtain ⟨q0, q1, q2⟩ := hsk.cells; go_simp; (try with_reducible rfl))
  try simp only [Act.put, List.getElem_toArray, List.getElem_cons_zero, List.getElem_cons_succ, List.setIfInBounds_toArray, List.set_cons_zero, List.set_cons_succ]
  refine wpAnyH_take (i := 3) (v := ?_) rfl (by kernel_rfl) (by kernel_rfl) (by kernel_rfl) (fun _ _ _ h => h) (Or.inl ⟨by rfl, ?_⟩) (by assumption) ?_
  rotate_left
  · (intro w hSw; obtain ⟨hsk, hsb⟩ := hSw; obtain ⟨q0, q1, q2⟩ := hsk.cells; go_simp; (try with_reducible rfl))
  try simp only [Act.put, List.getElem_toArray, List.getElem_cons_zero, List.getElem_cons_succ, List.setIfInBounds_toArray, List.set_cons_zero, List.set_cons_succ]
  refine wpAnyH_take (i := 4) (v := ?_) rfl (by kernel_rfl) (by kernel_rfl) (by kernel_rfl) (fun _ _ _ h => h) (Or.inl ⟨by rfl, ?_⟩) (by assumption) ?_
  rotate_left
  · (intro w hSw; obtain ⟨hsk, hsb⟩ := hSw; obtain ⟨q0, q1, q2⟩ := hsk.cells; go_simp; (try with_reducible rfl))
  try simp only [Act.put, List.getElem_toArray, List.getElem_cons_zero, List.getElem_cons_succ, List.setIfInBounds_toArray, List.set_cons_zero, List.set_cons_succ]
  refine wpAnyH_ready (rs := [5]) (by kernel_rfl) (by simp) ?_
  refine AllReadyH.cons rfl (fun K hK => ?_) AllReadyH.nil
  rw [if_pos (by rfl)]
  go_simp
  with_reducible refine (CL.out _).mono ?_
  rintro e6 y6 ⟨rfl, hb⟩
  have HS6 : Hid (KX y6 w.heap.size Kb Vb Mb ∧ Below w.heap.size w y6) := Lib.hid ⟨HD5.out.1.keep hb HD5.out.1.lt, HD5.out.2.trans (hb.mono HD5.out.2.size)⟩
  clear hb
  refine hK.out _ _ ?_ (fun hHeld => ?_)
  · exact HS6.out
  clear hK K
  try simp only [Act.put, List.getElem_toArray, List.getElem_cons_zero, List.getElem_cons_succ, List.setIfInBounds_toArray, List.set_cons_zero, List.set_cons_succ]
  refine wpAnyH_take (i := 6) (v := ?_) rfl (by kernel_rfl) (by kernel_rfl) (by kernel_rfl) (fun _ _ _ h => h) (Or.inl ⟨by rfl, ?_⟩) (by assumption) ?_
  rotate_left
  · (intro w hSw; obtain ⟨hsk, hsb⟩ := hSw; obtain ⟨q0, q1, q2⟩ := hsk.cells; go_simp; (try with_reducible rfl))
  try simp only [Act.put, List.getElem_toArray, List.getElem_cons_zero, List.getElem_cons_succ, List.setIfInBounds_toArray, List.set_cons_zero, List.set_cons_succ]
  refine wpAnyH_take (i := 7) (v := ?_) rfl (by kernel_rfl) (by kernel_rfl) (by kernel_rfl) (fun _ _ _ h => h) (Or.inl ⟨by rfl, ?_⟩) (by assumption) ?_
  rotate_left
  · (intro w hSw; obtain ⟨hsk, hsb⟩ := hSw; obtain ⟨q0, q1, q2⟩ := hsk.cells; go_simp; (try with_reducible rfl))
  try simp only [Act.put, List.getElem_toArray, List.getElem_cons_zero, List.getElem_cons_succ, List.setIfInBounds_toArray, List.set_cons_zero, List.set_cons_succ]
  refine wpAnyH_done (by kernel_rfl) (NoPanic.normal ?_) _
  go_wp2_with fail
  go_ret2
  exact ⟨rfl, hHeld.2⟩
set_option maxHeartbeats 4000000 in
theorem opened_no (K0 V0 M0 : List UInt8) (n E : Nat) (h t : List UInt8) (w : World) (hK : K0.length ≤ 1000) (hV : V0.length ≤ 1000) (hn : n < 18446744073709551616) (hh : h.length ≤ 10000) (ht : t.length ≤ 10000) (hE : t.length = E + 16) (hc : (t.drop E == tagL K0 V0 n h (t.take E)) = false) :
    Calls Tryz.prog 45 #[.agg #[.string ⟨K0.toArray⟩, .string ⟨V0.toArray⟩, .string ⟨M0.toArray⟩], .int .u64 n, .string ⟨h.toArray⟩, .string ⟨t.toArray⟩] w fun e w' => e = .returned (.tuple #[.string ⟨#[]⟩, .bool false]) ∧ Below w.heap.size w w' := by
  have CT := Lib.hid (fun W => tag_any K0 V0 M0 n h (t.take E) W hK hV hn hh (by rw [List.length_take]; omega))
  have s1 := ba_size t
  rw [hE] at s1
  have e1 := ba_take t E
  have e2 := ba_drop t E (E + 16) hE.symm
  have hcb := ba_eq (t.drop E) (tagL K0 V0 n h (t.take E))
  rw [hc] at hcb
  generalize (⟨(tagL K0 V0 n h (t.take E)).toArray⟩ : ByteArray) = TG at *
  generalize (⟨(t.take E).toArray⟩ : ByteArray) = TE at *
  generalize (⟨(t.drop E).toArray⟩ : ByteArray) = TD at *
  generalize (⟨h.toArray⟩ : ByteArray) = HH at *
  generalize (⟨t.toArray⟩ : ByteArray) = TT at *
  have hE2 : (TT.size : Int) - 16 = (E : Int) := by omega
  have hE3 : ¬ ((E : Int) < 0) := by omega
  have hE4 : (E : Int) ≤ 10000 := by omega
  have hE5 : (E : Int) ≤ (E : Int) + 16 := by omega
  have hE6 : (0 : Int) ≤ (E : Int) := by omega
  have hcb2 : (TD.toList == TG.toList) = false := hcb
  clear hK hc hcb
  obtain ⟨Kb, hK⟩ : ∃ x : ByteArray, ⟨K0.toArray⟩ = x := ⟨_, rfl⟩
  obtain ⟨Vb, hVV⟩ : ∃ x : ByteArray, ⟨V0.toArray⟩ = x := ⟨_, rfl⟩
  obtain ⟨Mb, hM⟩ : ∃ x : ByteArray, ⟨M0.toArray⟩ = x := ⟨_, rfl⟩
  rw [hK, hVV, hM] at CT
  rw [hK, hVV, hM]
  clear hK hVV hM hV hn hh ht hE
  have HX0 : Hid (KX (w.alloc (.cells #[.string Kb, .string Vb, .string Mb] 88)) w.heap.size Kb Vb Mb ∧ Below w.heap.size w (w.alloc (.cells #[.string Kb, .string Vb, .string Mb] 88))) := Lib.hid ⟨heap_alloc_new w _, (Below.refl _ _).alloc (Nat.le_refl _) _⟩
  obtain ⟨p0, p1, p2⟩ := HX0.out.1.cells
  have HD0 : Hid (KX (w.alloc (.cells #[.string Kb, .string Vb, .string Mb] 88)).drew w.heap.size Kb Vb Mb ∧ Below w.heap.size w (w.alloc (.cells #[.string Kb, .string Vb, .string Mb] 88)).drew) := Lib.hid ⟨HX0.out.1, HX0.out.2.drew⟩
  go_enter Tryz.func45, Tryz.ntmps45
  go_wp2_with fail
  refine wp_region_noPanic ?_
  refine wp_region_held_drew (S := fun W : World => KX W w.heap.size Kb Vb Mb ∧ Below w.heap.size w W) (by kernel_rfl) ?_ (fun hHeld => ?_)
  · exact HD0.out
  refine wpAnyH_take (i := 0) (v := ?_) rfl (by kernel_rfl) (by kernel_rfl) (by kernel_rfl) (fun _ _ _ h => h) (Or.inl ⟨by rfl, ?_⟩) (by assumption) ?_
  rotate_left
  · (intro w hSw; obtain ⟨hsk, hsb⟩ := hSw; obtain ⟨q0, q1, q2⟩ := hsk.cells; go_simp; (try with_reducible rfl))
  try simp only [Act.put, List.getElem_toArray, List.getElem_cons_zero, List.getElem_cons_succ, List.setIfInBounds_toArray, List.set_cons_zero, List.set_cons_succ]
  refine wpAnyH_take (i := 1) (v := ?_) rfl (by kernel_rfl) (by kernel_rfl) (by kernel_rfl) (fun _ _ _ h => h) (Or.inl ⟨by rfl, ?_⟩) (by assumption) ?_
  rotate_left
  · (intro w hSw; obtain ⟨hsk, hsb⟩ := hSw; obtain ⟨q0, q1, q2⟩ := hsk.cells; go_simp; (try with_reducible rfl))
  try simp only [Act.put, List.getElem_toArray, List.getElem_cons_zero, List.getElem_cons_succ, List.setIfInBounds_toArray, List.set_cons_zero, List.set_cons_succ]
  refine wpAnyH_take (i := 2) (v := ?_) rfl (by kernel_rfl) (by kernel_rfl) (by kernel_rfl) (fun _ _ _ h => h) (Or.inl ⟨by rfl, ?_⟩) (by assumption) ?_
  rotate_left
  · (intro w hSw; obtain ⟨hsk, hsb⟩ := hSw; obtain ⟨q0, q1, q2⟩ := hsk.cells; go_simp; (try with_reducible rfl))
  try simp only [Act.put, List.getElem_toArray, List.getElem_cons_zero, List.getElem_cons_succ, List.setIfInBounds_toArray, List.set_cons_zero, List.set_cons_succ]
  refine wpAnyH_take (i := 3) (v := ?_) rfl (by kernel_rfl) (by kernel_rfl) (by kernel_rfl) (fun _ _ _ h => h) (Or.inl ⟨by rfl, ?_⟩) (by assumption) ?_
  rotate_left
  · (intro w hSw; obtain ⟨hsk, hsb⟩ := hSw; obtain ⟨q0, q1, q2⟩ := hsk.cells; go_simp; (try with_reducible rfl))
  try simp only [Act.put, List.getElem_toArray, List.getElem_cons_zero, List.getElem_cons_succ, List.setIfInBounds_toArray, List.set_cons_zero, List.set_cons_succ]
  refine wpAnyH_take (i := 4) (v := ?_) rfl (by kernel_rfl) (by kernel_rfl) (by kernel_rfl) (fun _ _ _ h => h) (Or.inl ⟨by rfl, ?_⟩) (by assumption) ?_
  rotate_left
  · (intro w hSw; obtain ⟨hsk, hsb⟩ := hSw; obtain ⟨q0, q1, q2⟩ := hsk.cells; go_simp; (try with_reducible rfl))
  try simp only [Act.put, List.getElem_toArray, List.getElem_cons_zero, List.getElem_cons_succ, List.setIfInBounds_toArray, List.set_cons_zero, List.set_cons_succ]
  refine wpAnyH_take (i := 5) (v := ?_) rfl (by kernel_rfl) (by kernel_rfl) (by kernel_rfl) (fun _ _ _ h => h) (Or.inl ⟨by rfl, ?_⟩) (by assumption) ?_
  rotate_left
  · (intro w hSw; obtain ⟨hsk, hsb⟩ := hSw; obtain ⟨q0, q1, q2⟩ := hsk.cells; go_simp; (try with_reducible rfl))
  try simp only [Act.put, List.getElem_toArray, List.getElem_cons_zero, List.getElem_cons_succ, List.setIfInBounds_toArray, List.set_cons_zero, List.set_cons_succ]
  refine wpAnyH_take (i := 6) (v := ?_) rfl (by kernel_rfl) (by kernel_rfl) (by kernel_rfl) (fun _ _ _ h => h) (Or.inl ⟨by rfl, ?_⟩) (by assumption) ?_
  rotate_left
  · (intro w hSw; obtain ⟨hsk, hsb⟩ := hSw; obtain ⟨q0, q1, q2⟩ := hsk.cells; go_simp; (try with_reducible rfl))
  try simp only [Act.put, List.getElem_toArray, List.getElem_cons_zero, List.getElem_cons_succ, List.setIfInBounds_toArray, List.set_cons_zero, List.set_cons_succ]
  refine wpAnyH_take (i := 7) (v := ?_) rfl (by kernel_rfl) (by kernel_rfl) (by kernel_rfl) (fun _ _ _ h => h) (Or.inl ⟨by rfl, ?_⟩) (by assumption) ?_
  rotate_left
  · (intro w hSw; obtain ⟨hsk, hsb⟩ := hSw; obtain ⟨q0, q1, q2⟩ := hsk.cells; go_simp; (try with_reducible rfl))
  try simp only [Act.put, List.getElem_toArray, List.getElem_cons_zero, List.getElem_cons_succ, List.setIfInBounds_toArray, List.set_cons_zero, List.set_cons_succ]
  refine wpAnyH_take (i := 8) (v := ?_) rfl (by kernel_rfl) (by kernel_rfl) (by kernel_rfl) (fun _ _ _ h => h) (Or.inl ⟨by rfl, ?_⟩) (by assumption) ?_
  rotate_left
  · (intro w hSw; obtain ⟨hsk, hsb⟩ := hSw; obtain ⟨q0, q1, q2⟩ := hsk.cells; go_simp; (try with_reducible rfl))
  try simp only [Act.put, List.getElem_toArray, List.getElem_cons_zero, List.getElem_cons_succ, List.setIfInBounds_toArray, List.set_cons_zero, List.set_cons_succ]
  refine wpAnyH_take (i := 9) (v := ?_) rfl (by kernel_rfl) (by kernel_rfl) (by kernel_rfl) (fun _ _ _ h => h) (Or.inl ⟨by rfl, ?_⟩) (by assumption) ?_
  rotate_left
  · (intro w hSw; obtain ⟨hsk, hsb⟩ := hSw; obtain ⟨q0, q1, q2⟩ := hsk.cells; go_simp; (try with_reducible rfl))
  try simp only [Act.put, List.getElem_toArray, List.getElem_cons_zero, List.getElem_cons_succ, List.setIfInBounds_toArray, List.set_cons_zero, List.set_cons_succ]
  refine wpAnyH_take (i := 10) (v := ?_) rfl (by kernel_rfl) (by kernel_rfl) (by kernel_rfl) (fun _ _ _ h => h) (Or.inl ⟨by rfl, ?_⟩) (by assumption) ?_
  rotate_left
  · (intro w hSw; obtain ⟨hsk, hsb⟩ := hSw; obtain ⟨q0, q1, q2⟩ := hsk.cells; go_simp; (try with_reducible rfl))
  try simp only [Act.put, List.getElem_toArray, List.getElem_cons_zero, List.getElem_cons_succ, List.setIfInBounds_toArray, List.set_cons_zero, List.set_cons_succ]
  refine wpAnyH_take (i := 11) (v := ?_) rfl (by kernel_rfl) (by kernel_rfl) (by kernel_rfl) (fun _ _ _ h => h) (Or.inl ⟨by rfl, ?_⟩) (by assumption) ?_
  rotate_left
  · (intro w hSw; obtain ⟨hsk, hsb⟩ := hSw; obtain ⟨q0, q1, q2⟩ := hsk.cells; go_simp; (try with_reducible rfl))
  try simp only [Act.put, List.getElem_toArray, List.getElem_cons_zero, List.getElem_cons_succ, List.setIfInBounds_toArray, List.set_cons_zero, List.set_cons_succ]
  refine wpAnyH_ready (rs := [12]) (by kernel_rfl) (by simp) ?_
  refine AllReadyH.cons rfl (fun K hK => ?_) AllReadyH.nil
  rw [if_pos (by rfl)]
  go_simp
  with_reducible refine (CT.out _).mono ?_
  rintro e1 y1 ⟨rfl, hb⟩
  have HS1 : Hid (KX y1 w.heap.size Kb Vb Mb ∧ Below w.heap.size w y1) := Lib.hid ⟨HD0.out.1.keep hb HD0.out.1.lt, HD0.out.2.trans (hb.mono HD0.out.2.size)⟩
  clear hb
  refine hK.out _ _ ?_ (fun hHeld => ?_)
  · exact HS1.out
  clear hK K
  try simp only [Act.put, List.getElem_toArray, List.getElem_cons_zero, List.getElem_cons_succ, List.setIfInBounds_toArray, List.set_cons_zero, List.set_cons_succ]
  refine wpAnyH_take (i := 13) (v := ?_) rfl (by kernel_rfl) (by kernel_rfl) (by kernel_rfl) (fun _ _ _ h => h) (Or.inl ⟨by rfl, ?_⟩) (by assumption) ?_
  rotate_left
  · (intro w hSw; obtain ⟨hsk, hsb⟩ := hSw; obtain ⟨q0, q1, q2⟩ := hsk.cells; go_simp; (try with_reducible rfl))
  try simp only [Act.put, List.getElem_toArray, List.getElem_cons_zero, List.getElem_cons_succ, List.setIfInBounds_toArray, List.set_cons_zero, List.set_cons_succ]
  refine wpAnyH_take (i := 14) (v := ?_) rfl (by kernel_rfl) (by kernel_rfl) (by kernel_rfl) (fun _ _ _ h => h) (Or.inl ⟨by rfl, ?_⟩) (by assumption) ?_
  rotate_left
  · (intro w hSw; obtain ⟨hsk, hsb⟩ := hSw; obtain ⟨q0, q1, q2⟩ := hsk.cells; go_simp; (try with_reducible rfl))
  try simp only [Act.put, List.getElem_toArray, List.getElem_cons_zero, List.getElem_cons_succ, List.setIfInBounds_toArray, List.set_cons_zero, List.set_cons_succ]
  refine wpAnyH_done (by kernel_rfl) (NoPanic.normal ?_) _
  go_wp2_with fail
  go_ret2
  exact ⟨rfl, hHeld.2⟩
theorem opened_any (K0 V0 M0 : List UInt8) (n : Nat) (h t : List UInt8) (w : World) (hK : K0.length ≤ 1000) (hV : V0.length ≤ 1000) (hn : n < 18446744073709551616) (hh : h.length ≤ 10000) (ht : t.length ≤ 10000) :
    Calls Tryz.prog 45 #[.agg #[.string ⟨K0.toArray⟩, .string ⟨V0.toArray⟩, .string ⟨M0.toArray⟩], .int .u64 n, .string ⟨h.toArray⟩, .string ⟨t.toArray⟩] w fun e w' => e = .returned (opV (openL K0 V0 n h t)) ∧ Below w.heap.size w w' := by
  by_cases hs : t.length < 16
  · rw [openL_short hs]; exact opened_short K0 V0 M0 n h t w hs
  · have hE : t.length = (t.length - 16) + 16 := by omega
    by_cases hc : t.drop (t.length - 16) = tagL K0 V0 n h (t.take (t.length - 16))
    · rw [openL_yes (by omega) hc]
      exact opened_yes K0 V0 M0 n (t.length - 16) h t w hK hV hn hh ht hE (beq_iff_eq.2 hc)
    · rw [openL_no hc]
      exact opened_no K0 V0 M0 n (t.length - 16) h t w hK hV hn hh ht hE (beq_eq_false_iff_ne.2 hc)
set_option maxHeartbeats 2000000 in
theorem seal_any (K0 V0 M0 : List UInt8) (n : Nat) (h t : List UInt8) (w : World) (hK : K0.length ≤ 1000) (hV : V0.length ≤ 1000) (hn : n < 18446744073709551616) (hh : h.length ≤ 10000) (ht : t.length ≤ 10000) :
    Calls Tryz.prog 16 #[.agg #[.string ⟨K0.toArray⟩, .string ⟨V0.toArray⟩, .string ⟨M0.toArray⟩], .int .u64 n, .string ⟨h.toArray⟩, .string ⟨t.toArray⟩] w fun e w' => e = .returned (.string ⟨(sealL K0 V0 n h t).toArray⟩) ∧ Below w.heap.size w w' := by
  have CS := Lib.hid (fun W => sealed_any K0 V0 M0 n h t W hK hV hn hh ht)
  generalize (⟨(sealL K0 V0 n h t).toArray⟩ : ByteArray) = R at *
  go_enter Tryz.func16, Tryz.ntmps16
  go_wp2_with fail
  with_reducible refine (CS.out _).mono ?_
  rintro e1 w1 ⟨rfl, hb⟩
  have HB1 := Lib.hid (((Below.refl w.heap.size w).alloc (Nat.le_refl _) _).trans (hb.mono (by simp)))
  clear hb
  go_wp2_with fail
  go_ret
  exact ⟨rfl, HB1.out⟩
/-- What Open answers. -/
def onV (o : Option (List UInt8)) : Value := match o with | some p => .tuple #[.string ⟨p.toArray⟩, .int .i64 0] | none => .tuple #[.string ⟨#[]⟩, .int .i64 90]
set_option maxHeartbeats 2000000 in
theorem open_any (K0 V0 M0 : List UInt8) (n : Nat) (h t : List UInt8) (w : World) (hK : K0.length ≤ 1000) (hV : V0.length ≤ 1000) (hn : n < 18446744073709551616) (hh : h.length ≤ 10000) (ht : t.length ≤ 10000) :
    Calls Tryz.prog 17 #[.agg #[.string ⟨K0.toArray⟩, .string ⟨V0.toArray⟩, .string ⟨M0.toArray⟩], .int .u64 n, .string ⟨h.toArray⟩, .string ⟨t.toArray⟩] w fun e w' => e = .returned (onV (openL K0 V0 n h t)) ∧ Below w.heap.size w w' := by
  have CS := Lib.hid (fun W => opened_any K0 V0 M0 n h t W hK hV hn hh ht)
  generalize openL K0 V0 n h t = o at CS ⊢
  cases o with
  | some p =>
    have CS : Hid (∀ W : World, Calls Tryz.prog 45 #[.agg #[.string ⟨K0.toArray⟩, .string ⟨V0.toArray⟩, .string ⟨M0.toArray⟩], .int .u64 n, .string ⟨h.toArray⟩, .string ⟨t.toArray⟩] W fun e w' => e = .returned (.tuple #[.string ⟨p.toArray⟩, .bool true]) ∧ Below W.heap.size W w') := CS
    go_enter Tryz.func17, Tryz.ntmps17
    go_wp2_with fail
    with_reducible refine (CS.out _).mono ?_
    rintro e1 w1 ⟨rfl, hb⟩
    have HB1 := Lib.hid (((Below.refl w.heap.size w).alloc (Nat.le_refl _) _).trans (hb.mono (by simp)))
    clear hb
    go_wp2_with fail
    go_ret2
    exact ⟨rfl, HB1.out⟩
  | none =>
    have CS : Hid (∀ W : World, Calls Tryz.prog 45 #[.agg #[.string ⟨K0.toArray⟩, .string ⟨V0.toArray⟩, .string ⟨M0.toArray⟩], .int .u64 n, .string ⟨h.toArray⟩, .string ⟨t.toArray⟩] W fun e w' => e = .returned (.tuple #[.string ⟨#[]⟩, .bool false]) ∧ Below W.heap.size W w') := CS
    go_enter Tryz.func17, Tryz.ntmps17
    go_wp2_with fail
    with_reducible refine (CS.out _).mono ?_
    rintro e1 w1 ⟨rfl, hb⟩
    have HB1 := Lib.hid (((Below.refl w.heap.size w).alloc (Nat.le_refl _) _).trans (hb.mono (by simp)))
    clear hb
    go_wp2_with fail
    go_ret2
    exact ⟨rfl, HB1.out⟩
/-- What Mask answers. -/
def mkV (M sm : List UInt8) : Value := if sm.length = 16 then .tuple #[.string ⟨(maskL M sm).toArray⟩, .int .i64 0] else .tuple #[.string ⟨#[]⟩, .int .i64 1]
set_option maxHeartbeats 2000000 in
theorem Mask_any (K0 V0 M0 sm : List UInt8) (w : World) (hM0 : M0.length ≤ 1000) (hl : sm.length ≤ 100000) :
    Calls Tryz.prog 19 #[.agg #[.string ⟨K0.toArray⟩, .string ⟨V0.toArray⟩, .string ⟨M0.toArray⟩], .string ⟨sm.toArray⟩] w fun e w' => e = .returned (mkV M0 sm) ∧ Below w.heap.size w w' := by
  unfold mkV
  have s1 := ba_size sm
  by_cases hs : sm.length = 16
  · rw [if_pos hs]
    have CS := Lib.hid (fun W => mask_any K0 V0 M0 sm W hM0 hs)
    rw [hs] at s1
    generalize (⟨(maskL M0 sm).toArray⟩ : ByteArray) = R at *
    generalize (⟨sm.toArray⟩ : ByteArray) = SM at *
    have hI : (SM.size : Int) = 16 := by omega
    clear hs
    go_enter Tryz.func19, Tryz.ntmps19
    go_wp2_with fail
    with_reducible refine (CS.out _).mono ?_
    rintro e1 w1 ⟨rfl, hb⟩
    have HB1 := Lib.hid (((Below.refl w.heap.size w).alloc (Nat.le_refl _) _).trans (hb.mono (by simp)))
    clear hb
    go_wp2_with fail
    go_ret2
    exact ⟨rfl, HB1.out⟩
  · rw [if_neg hs]
    generalize (⟨sm.toArray⟩ : ByteArray) = SM at *
    have hI : ((SM.size : Int) == 16) = false := by rw [beq_eq_false_iff_ne]; omega
    have hI2 : ¬ ((SM.size : Int) = 16) := by omega
    clear hs
    go_enter Tryz.func19, Tryz.ntmps19
    go_wp2_with fail
    go_ret2
    exact ⟨rfl, (Below.refl _ _).alloc (Nat.le_refl _) _⟩
end Go.Proofs.YtagbkmoahflfdaaGreatDoor.Se
