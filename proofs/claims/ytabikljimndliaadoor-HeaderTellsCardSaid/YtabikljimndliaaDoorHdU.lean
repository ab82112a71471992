/- The walks of layer 4: a mask on the first byte, and on the number. By tools/gen-header-turned.py. -/
import Derived.Test.YtabikljimndliaaDoorHdT
import Derived.Lib.ConvBytes
namespace Go.Proofs.YtabikljimndliaaDoor.Hd
open Go.RowKit Vm
set_option linter.unusedVariables false
set_option linter.unusedSimpArgs false

theorem and_u8 (a b : UInt8) : bits .and .u8 ((a.toNat : Nat) : Int) ((b.toNat : Nat) : Int) = (((a &&& b).toNat : Nat) : Int) := by
  have ha := a.toNat_lt
  have hb := b.toNat_lt
  have h1 : (BitVec.ofInt 8 ((a.toNat : Nat) : Int)).toNat = a.toNat := by
    rw [BitVec.ofInt_natCast, BitVec.toNat_ofNat]; exact Nat.mod_eq_of_lt ha
  have h2 : (BitVec.ofInt 8 ((b.toNat : Nat) : Int)).toNat = b.toNat := by
    rw [BitVec.ofInt_natCast, BitVec.toNat_ofNat]; exact Nat.mod_eq_of_lt hb
  have hx : a.toNat &&& b.toNat < 2 ^ 8 := Nat.and_lt_two_pow _ hb
  show IntKind.u8.wrap ((BitVec.ofInt 8 ((a.toNat : Nat) : Int) &&& BitVec.ofInt 8 ((b.toNat : Nat) : Int)).toNat : Int) = _
  rw [BitVec.toNat_and, h1, h2, UInt8.toNat_and, IntKind.wrap_u8]
  omega
/-- The bits of a first byte that a mask is laid on. -/
def hidB (b : UInt8) : UInt8 := if 128 ≤ b.toNat then 15 else 31
theorem hidB_eq (b : UInt8) : (if 128 ≤ b.toNat then (15:Int) else 31) = (((hidB b).toNat : Nat) : Int) := by
  unfold hidB
  split <;> rfl
/-- A first byte with a mask on it. -/
def fstB (b c : UInt8) : UInt8 := b ^^^ (c &&& hidB b)
/-- Bytes with a mask on the first one and on those of the number. -/
def turnL (b c : UInt8) (l m : List UInt8) (p k : Nat) : List UInt8 :=
  fstB b c :: (l.take p).drop 1 ++ xorL ((l.drop p).take k) (m.drop 1) ++ l.drop (p + k)
theorem hiddenB (b : UInt8) (w : World) :
    Calls Tryd.prog 53 #[.int .u8 ((b.toNat : Nat) : Int)] w fun e w' => e = .returned (.int .u8 (((hidB b).toNat : Nat) : Int)) ∧ w' = w := by
  have h := hidden_any b.toNat w b.toNat_lt
  rw [hidB_eq] at h
  exact h
theorem fixed1 (b : UInt8) (w : World) :
    Calls Tryd.prog 21 #[.int .u64 ((b.toNat : Nat) : Int), .int .i64 1] w fun e w' => e = .returned (.string ⟨[b].toArray⟩) ∧ Below w.heap.size w w' := by
  have hb := b.toNat_lt
  have h := vfixed' ((b.toNat : Nat) : Int) 1 w (Int.natCast_nonneg _) (by omega) (by decide) (by decide)
  have e : fx ((b.toNat : Nat) : Int).toNat (1 : Int).toNat = [b] := by
    show fx b.toNat 1 = [b]
    rw [show (1 : Nat) = 0 + 1 from rfl, fx_succ]
    have : UInt8.ofNat (b.toNat / 256 ^ 0 % 256) = b := by
      apply UInt8.toNat_inj.1
      rw [UInt8.toNat_ofNat']
      omega
    rw [this]; rfl
  rw [e] at h
  exact h
theorem laid1 (b h : UInt8) (g : Nat) (w : World) (hg : g < w.heap.size) (hc : w.cell? ⟨g, 0, none⟩ = some (.int .u8 ((b.toNat : Nat) : Int))) :
    Calls Tryd.prog 51 #[.string ⟨[h].toArray⟩, .slice (some ⟨g, 0, none⟩) 1 1] w fun e w' => e = .returned (.string ⟨[b ^^^ h].toArray⟩) ∧ Below w.heap.size w w' :=
  laid_any [b] [h] g 1 w hg (Lib.hid fun i hi => by
    have : i = 0 := by simp at hi; omega
    subst this
    exact hc) (by simp) (by simp) (by simp)
theorem wrap_byte (x : UInt8) : IntKind.u64.wrap ((x.toNat : Nat) : Int) = ((x.toNat : Nat) : Int) := by
  have := x.toNat_lt
  rw [IntKind.wrap_u64]; omega
set_option maxHeartbeats 2000000 in
theorem turnedFirst_any (l m : List UInt8) (b c : UInt8) (w : World) (h0 : 0 < l.length) (h1 : 0 < m.length) (hb : l[0] = b) (hc : m[0] = c) (hl : l.length ≤ 140737488351232) (hm : m.length ≤ 140737488351232) :
    Calls Tryd.prog 38 #[.string ⟨l.toArray⟩, .string ⟨m.toArray⟩] w fun e w' => e = .returned (.string ⟨[fstB b c].toArray⟩) ∧ Below w.heap.size w w' := by
  have I0 : ((⟨l.toArray⟩ : ByteArray)[0]'(by rw [sv_size]; exact h0)) = b := hb
  have I1 : ((⟨m.toArray⟩ : ByteArray)[0]'(by rw [sv_size]; exact h1)) = c := hc
  have HH := Lib.hid (fun w => hiddenB b w)
  have AN := and_u8 c (hidB b)
  have EF : fstB b c = b ^^^ (c &&& hidB b) := rfl
  obtain ⟨kb, Ek⟩ : ∃ k, k = hidB b := ⟨_, rfl⟩
  rw [← Ek] at HH AN EF
  obtain ⟨h, Eh⟩ : ∃ h, h = c &&& kb := ⟨_, rfl⟩
  rw [← Eh] at AN EF
  have WN := wrap_byte h
  rw [EF]
  clear hb hc Ek Eh EF
  go_enter Tryd.func38, Tryd.ntmps38
  go_wp2_with fail
  refine wp_region_noPanic ?_
  refine wp_region_held_drew (S := fun w' => Below w.heap.size w w') (by kernel_rfl) ?_ (fun hHeld => ?_)
  · exact below_drew (Below.refl _ _)
  refine wpAnyH_take (i := 0) (v := ?_) rfl (by kernel_rfl) (by kernel_rfl) (by kernel_rfl) (fun _ _ _ h => h) (Or.inl ⟨by rfl, ?_⟩) (by assumption) ?_
  rotate_left
  · (intro w hSw; skip; go_simp; (try with_reducible rfl))
  try simp only [Act.put, List.getElem_toArray, List.getElem_cons_zero, List.getElem_cons_succ, List.setIfInBounds_toArray, List.set_cons_zero, List.set_cons_succ]
  refine wpAnyH_take (i := 1) (v := ?_) rfl (by kernel_rfl) (by kernel_rfl) (by kernel_rfl) (fun _ _ _ h => h) (Or.inl ⟨by rfl, ?_⟩) (by assumption) ?_
  rotate_left
  · (intro w hSw; skip; go_simp; (try with_reducible rfl))
  try simp only [Act.put, List.getElem_toArray, List.getElem_cons_zero, List.getElem_cons_succ, List.setIfInBounds_toArray, List.set_cons_zero, List.set_cons_succ]
  refine wpAnyH_take (i := 2) (v := ?_) rfl (by kernel_rfl) (by kernel_rfl) (by kernel_rfl) (fun _ _ _ h => h) (Or.inl ⟨by rfl, ?_⟩) (by assumption) ?_
  rotate_left
  · (intro w hSw; skip; go_simp; (try with_reducible rfl))
  try simp only [Act.put, List.getElem_toArray, List.getElem_cons_zero, List.getElem_cons_succ, List.setIfInBounds_toArray, List.set_cons_zero, List.set_cons_succ]
  refine wpAnyH_take (i := 3) (v := ?_) rfl (by kernel_rfl) (by kernel_rfl) (by kernel_rfl) (fun _ _ _ h => h) (Or.inl ⟨by rfl, ?_⟩) (by assumption) ?_
  rotate_left
  · (intro w hSw; skip; go_simp; (try with_reducible rfl))
  try simp only [Act.put, List.getElem_toArray, List.getElem_cons_zero, List.getElem_cons_succ, List.setIfInBounds_toArray, List.set_cons_zero, List.set_cons_succ]
  refine wpAnyH_ready (rs := [4]) (by kernel_rfl) (by simp) ?_
  refine AllReadyH.cons rfl (fun K hK => ?_) AllReadyH.nil
  rw [if_pos (by rfl)]
  go_simp
  refine (HH.out _).mono ?_
  rintro e w1 ⟨rfl, rfl⟩
  refine hK.out _ _ ?_ (fun hHeld => ?_)
  · exact hHeld
  clear hK K
  try simp only [Act.put, List.getElem_toArray, List.getElem_cons_zero, List.getElem_cons_succ, List.setIfInBounds_toArray, List.set_cons_zero, List.set_cons_succ]
  refine wpAnyH_take (i := 5) (v := ?_) rfl (by kernel_rfl) (by kernel_rfl) (by kernel_rfl) (fun _ _ _ h => h) (Or.inl ⟨by rfl, ?_⟩) (by assumption) ?_
  rotate_left
  · (intro w hSw; skip; go_simp; (try with_reducible rfl))
  try simp only [Act.put, List.getElem_toArray, List.getElem_cons_zero, List.getElem_cons_succ, List.setIfInBounds_toArray, List.set_cons_zero, List.set_cons_succ]
  refine wpAnyH_take (i := 6) (v := ?_) rfl (by kernel_rfl) (by kernel_rfl) (by kernel_rfl) (fun _ _ _ h => h) (Or.inl ⟨by rfl, ?_⟩) (by assumption) ?_
  rotate_left
  · (intro w hSw; skip; go_simp; (try with_reducible rfl))
  try simp only [Act.put, List.getElem_toArray, List.getElem_cons_zero, List.getElem_cons_succ, List.setIfInBounds_toArray, List.set_cons_zero, List.set_cons_succ]
  refine wpAnyH_ready (rs := [7]) (by kernel_rfl) (by simp) ?_
  refine AllReadyH.cons rfl (fun K hK => ?_) AllReadyH.nil
  rw [if_pos (by rfl)]
  go_simp
  refine (fixed1 h _).mono ?_
  rintro e w2 ⟨rfl, hb⟩
  refine hK.out _ _ ?_ (fun hHeld => ?_)
  · exact hHeld.trans (hb.mono hHeld.size)
  clear hK K
  try simp only [Act.put, List.getElem_toArray, List.getElem_cons_zero, List.getElem_cons_succ, List.setIfInBounds_toArray, List.set_cons_zero, List.set_cons_succ]
  refine wpAnyH_take (i := 8) (v := ?_) rfl (by kernel_rfl) (by kernel_rfl) (by kernel_rfl) (fun _ _ _ h => h) (Or.inl ⟨by rfl, ?_⟩) (by assumption) ?_
  rotate_left
  · (intro w hSw; skip; go_simp; (try with_reducible rfl))
  try simp only [Act.put, List.getElem_toArray, List.getElem_cons_zero, List.getElem_cons_succ, List.setIfInBounds_toArray, List.set_cons_zero, List.set_cons_succ]
  refine wpAnyH_done (by kernel_rfl) (NoPanic.normal ?_) _
  have HB := Lib.hid hHeld
  clear hHeld
  clear AN WN
  go_wp2_with fail
  refine (laid1 b h w2.heap.size _ (by simp) (by simp [go_sem])).mono ?_
  rintro e w3 ⟨rfl, hb3⟩
  go_wp2
  go_ret
  exact ⟨rfl, (HB.out.alloc HB.out.size _).trans (hb3.mono (by have := HB.out.size; simp; omega))⟩
/-- A text that is made bytes. -/
theorem bytes_made (W : World) (l : List UInt8) : ∃ c W', (convert 9 45 (.string ⟨l.toArray⟩)).run Tryd.prog W = .ok (.slice (some ⟨W.heap.size, 0, none⟩) l.length c) W' ∧ Below W.heap.size W W' ∧ W'.heap.size = W.heap.size + 1 ∧
    ∀ i (h : i < l.length), W'.cell? ⟨W.heap.size, i, none⟩ = some (.int .u8 ((l[i].toNat : Nat) : Int)) := by
  have h := Lib.run_convert_string_bytes (P := Tryd.prog) W 9 45 5 ⟨l.toArray⟩ Tryd.underlying9 Tryd.underlying45 Tryd.underlying5
  rw [sv_size] at h
  refine ⟨_, _, h, ⟨rfl, rfl, rfl, by rw [Lib.bytesWorld_size]; omega, fun k hk => Lib.bytesWorld_at_old _ _ _ _ hk⟩, Lib.bytesWorld_size _ _ _, fun i hi => ?_⟩
  rw [Lib.bytesWorld_cell _ _ _ _ (by rw [sv_size]; exact hi)]
  simp [List.getD, List.getElem?_eq_getElem hi]
end Go.Proofs.YtabikljimndliaaDoor.Hd
