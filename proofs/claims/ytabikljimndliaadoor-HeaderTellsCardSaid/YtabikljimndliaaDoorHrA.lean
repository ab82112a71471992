/- The walks of layer 4: the document's small functions: id, turned, first. By tools/gen-header-ref.py. -/
import Derived.Test.YtabikljimndliaaDoorHdX
namespace Go.Proofs.YtabikljimndliaaDoor.Hd
open Go.RowKit Vm
set_option linter.unusedVariables false
set_option linter.unusedSimpArgs false

set_option maxHeartbeats 1000000 in
theorem id_nil (s : ByteArray) (hs : s.size = 0) (w : World) :
    Calls Tryd.prog 49 #[.string s] w fun e w' => e = .returned (.tuple #[.string ⟨#[]⟩, .string ⟨#[]⟩, .bool false]) ∧ Below w.heap.size w w' := by
  have he := empty_yes s hs
  clear hs
  go_enter Tryd.func49, Tryd.ntmps49
  go_wp2
  go_ret3
  exact ⟨rfl, Below.refl _ _⟩
set_option maxHeartbeats 1000000 in
theorem id_great (s : ByteArray) (b : UInt8) (hp : 0 < s.size) (hl : s.size ≤ 9223372036854775807) (I0 : s[0]'hp = b) (hb0 : (0 : Int) ≤ ((b.toNat : Nat) : Int)) (hb : ((b.toNat : Nat) : Int) ≤ 255) (h : (20 : Int) < ((b.toNat : Nat) : Int)) (w : World) :
    Calls Tryd.prog 49 #[.string s] w fun e w' => e = .returned (.tuple #[.string ⟨#[]⟩, .string ⟨#[]⟩, .bool false]) ∧ Below w.heap.size w w' := by
  have he := empty_no s hp
  go_enter Tryd.func49, Tryd.ntmps49
  go_wp2
  go_ret3
  exact ⟨rfl, Below.refl _ _⟩
set_option maxHeartbeats 1000000 in
theorem id_short (s : ByteArray) (b : UInt8) (hp : 0 < s.size) (hl : s.size ≤ 9223372036854775807) (I0 : s[0]'hp = b) (hb0 : (0 : Int) ≤ ((b.toNat : Nat) : Int)) (hb : ((b.toNat : Nat) : Int) ≤ 255) (h : ((b.toNat : Nat) : Int) ≤ 20) (h2 : ((s.size : Nat) : Int) < 1 + ((b.toNat : Nat) : Int)) (w : World) :
    Calls Tryd.prog 49 #[.string s] w fun e w' => e = .returned (.tuple #[.string ⟨#[]⟩, .string ⟨#[]⟩, .bool false]) ∧ Below w.heap.size w w' := by
  have he := empty_no s hp
  go_enter Tryd.func49, Tryd.ntmps49
  go_wp2
  go_ret3
  exact ⟨rfl, Below.refl _ _⟩
set_option maxHeartbeats 1000000 in
theorem id_ok (s : ByteArray) (b : UInt8) (d r : List UInt8) (hp : 0 < s.size) (hl : s.size ≤ 9223372036854775807) (I0 : s[0]'hp = b) (hb0 : (0 : Int) ≤ ((b.toNat : Nat) : Int)) (hb : ((b.toNat : Nat) : Int) ≤ 255) (h : ((b.toNat : Nat) : Int) ≤ 20) (h2 : ¬ ((s.size : Nat) : Int) < 1 + ((b.toNat : Nat) : Int)) (X1 : s.extract 1 (1 + b.toNat) = ⟨d.toArray⟩) (X2 : s.extract (1 + b.toNat) s.size = ⟨r.toArray⟩) (w : World) :
    Calls Tryd.prog 49 #[.string s] w fun e w' => e = .returned (.tuple #[.string ⟨d.toArray⟩, .string ⟨r.toArray⟩, .bool true]) ∧ Below w.heap.size w w' := by
  have he := empty_no s hp
  have e1 : (1 : Int) ≤ 1 + ((b.toNat : Nat) : Int) := by omega
  have e2 : 0 ≤ 1 + ((b.toNat : Nat) : Int) := by omega
  have e3 : 1 + ((b.toNat : Nat) : Int) ≤ ((s.size : Nat) : Int) := by omega
  have e4 : (1 + ((b.toNat : Nat) : Int)).toNat = 1 + b.toNat := by omega
  have e5 : 1 + b.toNat ≤ s.size := by omega
  go_enter Tryd.func49, Tryd.ntmps49
  go_wp2_with fail
  refine wp_region_noPanic ?_
  refine wp_region_held_drew (S := fun w' => Below w.heap.size w w') (by kernel_rfl) ?_ (fun hHeld => ?_)
  · exact below_drew (Below.refl _ _)
  refine wpAnyH_take (i := 0) (v := ?_) rfl (by kernel_rfl) (by kernel_rfl) (by kernel_rfl) (fun _ _ _ h => h) (Or.inl ⟨by rfl, ?_⟩) (by assumption) ?_
  rotate_left
  · (intro w hSw; skip; go_simp; (try with_reducible rfl))
  try simp only [Act.put, List.getElem_toArray, List.getElem_cons_zero, List.getElem_cons_succ, List.setIfInBounds_toArray, List.set_cons_zero, List.set_cons_succ]
  refine wpAnyH_take (i := 1) (v := ?_) rfl (by kernel_rfl) (by kernel_rfl) (by kernel_rfl) (fun _ _ _ h => h) (Or.inl ⟨by rfl, ?_⟩) (by assumption) ?_
  rotate_left
  · (intro w hSw; skip; go_simp; (try with_reducible rfl))
  try simp only [Act.put, List.getElem_toArray, List.getElem_cons_zero, List.getElem_cons_succ, List.setIfInBounds_toArray, List.set_cons_zero, List.set_cons_succ]
  refine wpAnyH_take (i := 2) (v := ?_) rfl (by kernel_rfl) (by kernel_rfl) (by kernel_rfl) (fun _ _ _ h => h) (Or.inl ⟨by rfl, ?_⟩) (by assumption) ?_
  rotate_left
  · (intro w hSw; skip; go_simp; (try with_reducible rfl))
  try simp only [Act.put, List.getElem_toArray, List.getElem_cons_zero, List.getElem_cons_succ, List.setIfInBounds_toArray, List.set_cons_zero, List.set_cons_succ]
  refine wpAnyH_take (i := 3) (v := ?_) rfl (by kernel_rfl) (by kernel_rfl) (by kernel_rfl) (fun _ _ _ h => h) (Or.inl ⟨by rfl, ?_⟩) (by assumption) ?_
  rotate_left
  · (intro w hSw; skip; go_simp; (try with_reducible rfl))
  try simp only [Act.put, List.getElem_toArray, List.getElem_cons_zero, List.getElem_cons_succ, List.setIfInBounds_toArray, List.set_cons_zero, List.set_cons_succ]
  refine wpAnyH_take (i := 4) (v := ?_) rfl (by kernel_rfl) (by kernel_rfl) (by kernel_rfl) (fun _ _ _ h => h) (Or.inl ⟨by rfl, ?_⟩) (by assumption) ?_
  rotate_left
  · (intro w hSw; skip; go_simp; (try with_reducible rfl))
  try simp only [Act.put, List.getElem_toArray, List.getElem_cons_zero, List.getElem_cons_succ, List.setIfInBounds_toArray, List.set_cons_zero, List.set_cons_succ]
  refine wpAnyH_take (i := 5) (v := ?_) rfl (by kernel_rfl) (by kernel_rfl) (by kernel_rfl) (fun _ _ _ h => h) (Or.inl ⟨by rfl, ?_⟩) (by assumption) ?_
  rotate_left
  · (intro w hSw; skip; go_simp; (try with_reducible rfl))
  try simp only [Act.put, List.getElem_toArray, List.getElem_cons_zero, List.getElem_cons_succ, List.setIfInBounds_toArray, List.set_cons_zero, List.set_cons_succ]
  refine wpAnyH_take (i := 6) (v := ?_) rfl (by kernel_rfl) (by kernel_rfl) (by kernel_rfl) (fun _ _ _ h => h) (Or.inl ⟨by rfl, ?_⟩) (by assumption) ?_
  rotate_left
  · (intro w hSw; skip; go_simp; (try with_reducible rfl))
  try simp only [Act.put, List.getElem_toArray, List.getElem_cons_zero, List.getElem_cons_succ, List.setIfInBounds_toArray, List.set_cons_zero, List.set_cons_succ]
  refine wpAnyH_take (i := 7) (v := ?_) rfl (by kernel_rfl) (by kernel_rfl) (by kernel_rfl) (fun _ _ _ h => h) (Or.inl ⟨by rfl, ?_⟩) (by assumption) ?_
  rotate_left
  · (intro w hSw; skip; go_simp; (try with_reducible rfl))
  try simp only [Act.put, List.getElem_toArray, List.getElem_cons_zero, List.getElem_cons_succ, List.setIfInBounds_toArray, List.set_cons_zero, List.set_cons_succ]
  refine wpAnyH_take (i := 8) (v := ?_) rfl (by kernel_rfl) (by kernel_rfl) (by kernel_rfl) (fun _ _ _ h => h) (Or.inl ⟨by rfl, ?_⟩) (by assumption) ?_
  rotate_left
  · (intro w hSw; skip; go_simp; (try with_reducible rfl))
  try simp only [Act.put, List.getElem_toArray, List.getElem_cons_zero, List.getElem_cons_succ, List.setIfInBounds_toArray, List.set_cons_zero, List.set_cons_succ]
  refine wpAnyH_done (by kernel_rfl) (NoPanic.normal ?_) _
  have HB := Lib.hid hHeld
  clear hHeld
  go_wp2
  go_ret3
  exact ⟨rfl, HB.out⟩
/-- What the document's id tells. -/
def idV (l : List UInt8) : Value := match idO l with
  | some x => .tuple #[.string ⟨x.1.toArray⟩, .string ⟨x.2.toArray⟩, .bool true]
  | none => .tuple #[.string ⟨#[]⟩, .string ⟨#[]⟩, .bool false]
theorem id_any (l : List UInt8) (hl : l.length ≤ 9223372036854775807) (w : World) :
    Calls Tryd.prog 49 #[.string ⟨l.toArray⟩] w fun e w' => e = .returned (idV l) ∧ Below w.heap.size w w' := by
  cases l with
  | nil => exact id_nil _ rfl w
  | cons b r =>
    have hp : 0 < (⟨(b :: r).toArray⟩ : ByteArray).size := by rw [sv_size]; simp
    have hs : (⟨(b :: r).toArray⟩ : ByteArray).size = r.length + 1 := by rw [sv_size]; simp
    have hl2 : (⟨(b :: r).toArray⟩ : ByteArray).size ≤ 9223372036854775807 := by rw [sv_size]; exact hl
    have hbb := b.toNat_lt
    by_cases h1 : b.toNat ≤ 20
    · by_cases h2 : b.toNat ≤ r.length
      · have e : idV (b :: r) = .tuple #[.string ⟨(r.take b.toNat).toArray⟩, .string ⟨(r.drop b.toNat).toArray⟩, .bool true] := by
          unfold idV; simp only [idO]; rw [if_pos ⟨h1, h2⟩]
        rw [e]
        refine id_ok _ b _ _ hp hl2 rfl (by omega) (by omega) (by omega) (by omega) ?_ ?_ w
        · rw [sv_sub]; congr 2; rw [Nat.add_sub_cancel_left]; simp
        · rw [hs, sv_sub]; congr 2; rw [Nat.add_comm 1, List.drop_succ_cons]; exact List.take_of_length_le (by rw [List.length_drop]; omega)
      · have e : idV (b :: r) = .tuple #[.string ⟨#[]⟩, .string ⟨#[]⟩, .bool false] := by
          unfold idV; simp only [idO]; rw [if_neg (fun h => h2 h.2)]
        rw [e]
        exact id_short _ b hp hl2 rfl (by omega) (by omega) (by omega) (by omega) w
    · have e : idV (b :: r) = .tuple #[.string ⟨#[]⟩, .string ⟨#[]⟩, .bool false] := by
        unfold idV; simp only [idO]; rw [if_neg (fun h => h1 h.1)]
      rw [e]
      exact id_great _ b hp hl2 rfl (by omega) (by omega) (by omega) w
end Go.Proofs.YtabikljimndliaaDoor.Hd
