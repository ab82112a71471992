/- The walks of layer 4: a mask is laid on bytes. By tools/gen-header-laid.py. -/
import Derived.Test.YtabikljimndliaaDoorHdS
namespace Go.Proofs.YtabikljimndliaaDoor.Hd
open Go.RowKit Vm
set_option linter.unusedVariables false
set_option linter.unusedSimpArgs false

theorem xor_u8 (a b : UInt8) : bits .xor .u8 ((a.toNat : Nat) : Int) ((b.toNat : Nat) : Int) = (((a ^^^ b).toNat : Nat) : Int) := by
  have ha := a.toNat_lt
  have hb := b.toNat_lt
  have h1 : (BitVec.ofInt 8 ((a.toNat : Nat) : Int)).toNat = a.toNat := by
    rw [BitVec.ofInt_natCast, BitVec.toNat_ofNat]; exact Nat.mod_eq_of_lt ha
  have h2 : (BitVec.ofInt 8 ((b.toNat : Nat) : Int)).toNat = b.toNat := by
    rw [BitVec.ofInt_natCast, BitVec.toNat_ofNat]; exact Nat.mod_eq_of_lt hb
  have hx : a.toNat ^^^ b.toNat < 2 ^ 8 := Nat.xor_lt_two_pow ha hb
  show IntKind.u8.wrap ((BitVec.ofInt 8 ((a.toNat : Nat) : Int) ^^^ BitVec.ofInt 8 ((b.toNat : Nat) : Int)).toNat : Int) = _
  rw [BitVec.toNat_xor, h1, h2, UInt8.toNat_xor, IntKind.wrap_u8]
  omega
/-- Two texts, laid on one another. -/
def xorL (a m : List UInt8) : List UInt8 := List.zipWith (fun x y => x ^^^ y) a m
theorem xorL_succ (a m : List UInt8) (k : Nat) (h : k < a.length) (hm : k < m.length) : xorL (a.take (k + 1)) m = xorL (a.take k) m ++ [a[k] ^^^ m[k]] := by
  unfold xorL
  induction a generalizing m k with
  | nil => simp at h
  | cons x a ih =>
    cases m with
    | nil => simp at hm
    | cons y m =>
      cases k with
      | zero => simp
      | succ k =>
        simp only [List.take_succ_cons, List.zipWith_cons_cons, List.cons_append, List.getElem_cons_succ]
        rw [ih m k (by simpa using h) (by simpa using hm)]
theorem xorL_len (a m : List UInt8) (k : Nat) (h : k ≤ a.length) (hm : a.length ≤ m.length) : (xorL (a.take k) m).length = k := by
  unfold xorL; simp; omega
def LaidRel (a m : List UInt8) (w : World) (iv : Value) (wr : World) : Prop :=
  ∃ k : Nat, k ≤ a.length ∧ iv = .int .i64 k ∧ Lib.IsBuilder 66 5 w.heap.size w.heap.size (Lib.byteCells (xorL (a.take k) m)) wr ∧ Below w.heap.size w wr
theorem byteCells_1 (x : UInt8) : Lib.byteCells [x] = [.int .u8 ((x.toNat : Nat) : Int)] := rfl
set_option maxHeartbeats 4000000 in
theorem laid_any (a m : List UInt8) (g cap : Nat) (w : World) (hg : g < w.heap.size) (hc : Hid (∀ i (h : i < a.length), w.cell? ⟨g, i, none⟩ = some (.int .u8 (a[i].toNat : Nat)))) (ha : a.length ≤ 2000) (hm : a.length ≤ m.length) (hm2 : m.length ≤ 140737488351232) :
    Calls Tryd.prog 51 #[.string ⟨m.toArray⟩, .slice (some ⟨g, 0, none⟩) a.length cap] w fun e w' => e = .returned (.string ⟨(xorL a m).toArray⟩) ∧ Below w.heap.size w w' := by
  have HB := Lib.hid (Lib.fresh_isBuilder 66 5 w)
  go_enter Tryd.func51, Tryd.ntmps51
  go_wp2
  go_loopw [9] (fun iv wr => LaidRel a m w iv wr) (fun iv _ => a.length - (intOf iv).toNat)
  case atStart => exact ⟨0, Nat.zero_le _, rfl, HB.out, (Below.refl _ _).alloc (Nat.le_refl _) _⟩
  case round =>
    obtain ⟨k, hk, rfl, hI, hb⟩ := hrel
    have HI := Lib.hid hI
    clear hI
    have hsz := hb.size
    by_cases hlt : k < a.length
    · have hcd := (hb.cell (p := ⟨g, k, none⟩) hg).trans (hc.out k hlt)
      have hm3 : k < m.length := by omega
      have HS := Lib.hid (xorL_succ a m k hlt hm3)
      have HLN := Lib.hid (xorL_len a m k hk hm)
      have HXO : Hid (bits .xor .u8 ((a[k].toNat : Nat) : Int) ((((⟨m.toArray⟩ : ByteArray)[k]'(by rw [sv_size]; exact hm3)).toNat : Nat) : Int) = (((a[k] ^^^ m[k]).toNat : Nat) : Int)) := Lib.hid (xor_u8 a[k] m[k])
      have HD := Lib.hid (builder_below HI.out (below_drew (Below.refl _ _)))
      have HL : Hid ((Lib.byteCells (xorL (a.take k) m)).length + 1 ≤ 140737488355328) := Lib.hid (by rw [Lib.byteCells_length, HLN.out]; omega)
      have hszd : w.heap.size ≤ wr.drew.heap.size := hsz
      go_wp2_with fail
      refine wp_region_noPanic ?_
      refine wp_region_held_drew (S := fun w' => w'.cell? ⟨g, k, none⟩ = some (.int .u8 (a[k].toNat : Nat)) ∧ Below w.heap.size w w') (by kernel_rfl) ?_ (fun hHeld => ?_)
      · exact ⟨hcd, below_drew hb⟩
      refine wpAnyH_take (i := 0) (v := ?_) rfl (by kernel_rfl) (by kernel_rfl) (by kernel_rfl) (fun _ _ _ h => h) (Or.inl ⟨by rfl, ?_⟩) (by assumption) ?_
      rotate_left
      · (intro w hSw; (try (have cA := hSw.1)); (try clear hSw); go_simp; (try with_reducible rfl))
      try simp only [Act.put, List.getElem_toArray, List.getElem_cons_zero, List.getElem_cons_succ, List.setIfInBounds_toArray, List.set_cons_zero, List.set_cons_succ]
      refine wpAnyH_take (i := 1) (v := ?_) rfl (by kernel_rfl) (by kernel_rfl) (by kernel_rfl) (fun _ _ _ h => h) (Or.inl ⟨by rfl, ?_⟩) (by assumption) ?_
      rotate_left
      · (intro w hSw; (try (have cA := hSw.1)); (try clear hSw); go_simp; (try with_reducible rfl))
      try simp only [Act.put, List.getElem_toArray, List.getElem_cons_zero, List.getElem_cons_succ, List.setIfInBounds_toArray, List.set_cons_zero, List.set_cons_succ]
      refine wpAnyH_take (i := 2) (v := ?_) rfl (by kernel_rfl) (by kernel_rfl) (by kernel_rfl) (fun _ _ _ h => h) (Or.inl ⟨by rfl, ?_⟩) (by assumption) ?_
      rotate_left
      · (intro w hSw; (try (have cA := hSw.1)); (try clear hSw); go_simp; (try with_reducible rfl))
      try simp only [Act.put, List.getElem_toArray, List.getElem_cons_zero, List.getElem_cons_succ, List.setIfInBounds_toArray, List.set_cons_zero, List.set_cons_succ]
      refine wpAnyH_take (i := 3) (v := ?_) rfl (by kernel_rfl) (by kernel_rfl) (by kernel_rfl) (fun _ _ _ h => h) (Or.inl ⟨by rfl, ?_⟩) (by assumption) ?_
      rotate_left
      · (intro w hSw; (try (have cA := hSw.1)); (try clear hSw); go_simp; (try with_reducible rfl))
      try simp only [Act.put, List.getElem_toArray, List.getElem_cons_zero, List.getElem_cons_succ, List.setIfInBounds_toArray, List.set_cons_zero, List.set_cons_succ]
      refine wpAnyH_take (i := 4) (v := ?_) rfl (by kernel_rfl) (by kernel_rfl) (by kernel_rfl) (fun _ _ _ h => h) (Or.inl ⟨by rfl, ?_⟩) (by assumption) ?_
      rotate_left
      · (intro w hSw; (try (have cA := hSw.1)); (try clear hSw); go_simp; (try with_reducible rfl))
      try simp only [Act.put, List.getElem_toArray, List.getElem_cons_zero, List.getElem_cons_succ, List.setIfInBounds_toArray, List.set_cons_zero, List.set_cons_succ]
      refine wpAnyH_take (i := 5) (v := ?_) rfl (by kernel_rfl) (by kernel_rfl) (by kernel_rfl) (fun _ _ _ h => h) (Or.inl ⟨by rfl, ?_⟩) (by assumption) ?_
      rotate_left
      · (intro w hSw; (try (have cA := hSw.1)); (try clear hSw); go_simp; (try with_reducible rfl))
      try simp only [Act.put, List.getElem_toArray, List.getElem_cons_zero, List.getElem_cons_succ, List.setIfInBounds_toArray, List.set_cons_zero, List.set_cons_succ]
      refine wpAnyH_take (i := 6) (v := ?_) rfl (by kernel_rfl) (by kernel_rfl) (by kernel_rfl) (fun _ _ _ h => h) (Or.inl ⟨by rfl, ?_⟩) (by assumption) ?_
      rotate_left
      · (intro w hSw; (try (have cA := hSw.1)); (try clear hSw); go_simp; (try with_reducible rfl))
      try simp only [Act.put, List.getElem_toArray, List.getElem_cons_zero, List.getElem_cons_succ, List.setIfInBounds_toArray, List.set_cons_zero, List.set_cons_succ]
      refine wpAnyH_take (i := 7) (v := ?_) rfl (by kernel_rfl) (by kernel_rfl) (by kernel_rfl) (fun _ _ _ h => h) (Or.inl ⟨by rfl, ?_⟩) (by assumption) ?_
      rotate_left
      · (intro w hSw; (try (have cA := hSw.1)); (try clear hSw); go_simp; (try with_reducible rfl))
      try simp only [Act.put, List.getElem_toArray, List.getElem_cons_zero, List.getElem_cons_succ, List.setIfInBounds_toArray, List.set_cons_zero, List.set_cons_succ]
      refine wpAnyH_ready (rs := [8]) (by kernel_rfl) (by simp) ?_
      refine AllReadyH.cons rfl (fun K hK => ?_) AllReadyH.nil
      rw [if_pos (by rfl)]
      go_simp
      rw [HXO.out]
      refine (Bld.writeByte w.heap.size w.heap.size _ _ _ HD.out HL.out hszd).mono ?_
      rintro e w2 ⟨rfl, hi, hb⟩
      have HI2 := Lib.hid hi
      clear hi
      refine hK.out _ _ ?_ (fun hHeld => ?_)
      · exact ⟨(hb.cell (p := ⟨g, k, none⟩) hg).trans hHeld.1, hHeld.2.trans hb⟩
      clear hK K
      try simp only [Act.put, List.getElem_toArray, List.getElem_cons_zero, List.getElem_cons_succ, List.setIfInBounds_toArray, List.set_cons_zero, List.set_cons_succ]
      refine wpAnyH_done (by kernel_rfl) (NoPanic.normal ?_) _
      have hb2 := hHeld.2
      clear hHeld
      go_wp2
      go_roundw
      case rel => exact ⟨k + 1, by omega, by go_num, by rw [HS.out, Lib.byteCells_append]; exact HI2.out, hb2⟩
      case measure => simp [intOf]; omega
    · obtain rfl : k = a.length := by omega
      go_wp2_with fail
      refine (Tryd.Builder_String_any w.heap.size w.heap.size _ _ HI.out hsz).mono ?_
      rintro e w1 ⟨rfl, hb1⟩
      go_wp2
      go_ret
      exact ⟨by first | rfl | rw [List.take_length], hb.trans hb1⟩
end Go.Proofs.YtabikljimndliaaDoor.Hd
