/- The walks of layer 4: a mask is laid on bytes · The walks of layer 4: a mask on the first byte, and on the number -/
import Derived.Test.YtojoalmldapboaaGreatDoorJa37
import Derived.Lib.ConvBytes
namespace Go.Proofs.YtojoalmldapboaaGreatDoor.Hd
set_option maxRecDepth 20000
open Go.RowKit Vm
set_option linter.unusedVariables false
set_option linter.unusedSimpArgs false

theorem xor_u8 (a b : UInt8) : bits .xor .u8 ((a.toNat : Nat) : Int) ((b.toNat : Nat) : Int) = (((a ^^^ b).toNat : Nat) : Int) := by
  have ha := a.toNat_lt
  have hb := b.toNat_lt
  have h1 : (BitVec.ofInt 8 ((a.toNat : Nat) : Int)).toNat = a.toNat := by
    rw [BitVec.ofInt_natCast, BitVec.toNat_ofNat]; exact Nat.mod_eq_of_lt ha
  have h2 : (BitVec.ofInt 8 ((b.toNat : Nat) : Int)).toNat = b.toNat := by
    rw [BitVec.ofInt_natCast, BitVec.toNat_ofNat]; exact Nat.mod_eq_of_lt hb
  have hx : a.toNat ^^^ b.toNat < 2 ^ 8 := Nat.xor_lt_two_pow ha hb
  show IntKind.u8.wrap ((BitVec.ofInt 8 ((a.toNat : Nat) : Int) ^^^ BitVec.ofInt 8 ((b.toNat : Nat) : Int)).toNat : Int) = _
  rw [BitVec.toNat_xor, h1, h2, UInt8.toNat_xor, IntKind.wrap_u8]
  omega
/-- Two texts, laid on one another. -/
def xorL (a m : List UInt8) : List UInt8 := List.zipWith (fun x y => x ^^^ y) a m
theorem xorL_succ (a m : List UInt8) (k : Nat) (h : k < a.length) (hm : k < m.length) : xorL (a.take (k + 1)) m = xorL (a.take k) m ++ [a[k] ^^^ m[k]] := by
  unfold xorL
  induction a generalizing m k with
  | nil => simp at h
  | cons x a ih =>
    cases m with
    | nil => simp at hm
    | cons y m =>
      cases k with
      | zero => simp
      | succ k =>
        simp only [List.take_succ_cons, List.zipWith_cons_cons, List.cons_append, List.getElem_cons_succ]
        rw [ih m k (by simpa using h) (by simpa using hm)]
theorem xorL_len (a m : List UInt8) (k : Nat) (h : k ≤ a.length) (hm : a.length ≤ m.length) : (xorL (a.take k) m).length = k := by
  unfold xorL; simp; omega
def LaidRel (a m : List UInt8) (w : World) (iv : Value) (wr : World) : Prop :=
  ∃ k : Nat, k ≤ a.length ∧ iv = .int .i64 k ∧ Lib.IsBuilder 68 5 w.heap.size w.heap.size (Lib.byteCells (xorL (a.take k) m)) wr ∧ Below w.heap.size w wr
set_option maxHeartbeats 4000000 in
theorem laid_any (a m : List UInt8) (g cap : Nat) (w : World) (hg : g < w.heap.size) (hc : Hid (∀ i (h : i < a.length), w.cell? ⟨g, i, none⟩ = some (.int .u8 (a[i].toNat : Nat)))) (ha : a.length ≤ 2000) (hm : a.length ≤ m.length) (hm2 : m.length ≤ 140737488351232) :
    Calls Tryz.prog 150 #[.string ⟨m.toArray⟩, .slice (some ⟨g, 0, none⟩) a.length cap] w fun e w' => e = .returned (.string ⟨(xorL a m).toArray⟩) ∧ Below w.heap.size w w' := by
  have HB := Lib.hid (Lib.fresh_isBuilder 68 5 w)
  go_enter Tryz.func150, Tryz.ntmps150
  go_wp2
  go_loopw [9] (fun iv wr => LaidRel a m w iv wr) (fun iv _ => a.length - (intOf iv).toNat)
  case atStart => exact ⟨0, Nat.zero_le _, rfl, HB.out, (Below.refl _ _).alloc (Nat.le_refl _) _⟩
  case round =>
    obtain ⟨k, hk, rfl, hI, hb⟩ := hrel
    have HI := Lib.hid hI
    clear hI
    have hsz := hb.size
    by_cases hlt : k < a.length
    · have hcd := (hb.cell (p := ⟨g, k, none⟩) hg).trans (hc.out k hlt)
      have hm3 : k < m.length := by omega
      have HS := Lib.hid (xorL_succ a m k hlt hm3)
      have HLN := Lib.hid (xorL_len a m k hk hm)
      have HXO : Hid (bits .xor .u8 ((a[k].toNat : Nat) : Int) ((((⟨m.toArray⟩ : ByteArray)[k]'(by rw [sv_size]; exact hm3)).toNat : Nat) : Int) = (((a[k] ^^^ m[k]).toNat : Nat) : Int)) := Lib.hid (xor_u8 a[k] m[k])
      have HD := Lib.hid (builder_below HI.out (below_drew (Below.refl _ _)))
      have HL : Hid ((Lib.byteCells (xorL (a.take k) m)).length + 1 ≤ 140737488355328) := Lib.hid (by rw [Lib.byteCells_length, HLN.out]; omega)
      have hszd : w.heap.size ≤ wr.drew.heap.size := hsz
      go_wp2_with fail
      refine wp_region_noPanic ?_
      refine wp_region_held_drew (S := fun w' => w'.cell? ⟨g, k, none⟩ = some (.int .u8 (a[k].toNat : Nat)) ∧ Below w.heap.size w w') (by kernel_rfl) ?_ (fun hHeld => ?_)
      · exact ⟨hcd, below_drew hb⟩
      refine wpAnyH_take (i := 0) (v := ?_) rfl (by kernel_rfl) (by kernel_rfl) (by kernel_rfl) (fun _ _ _ h => h) (Or.inl ⟨by rfl, ?_⟩) (by assumption) ?_
      rotate_left
      · (intro w hSw; (try (have cA := hSw.1)); (try clear hSw); go_simp; (try with_reducible rfl))
      try simp only [Act.put, List.getElem_toArray, List.getElem_cons_zero, List.getElem_cons_succ, List.setIfInBounds_toArray, List.set_cons_zero, List.set_cons_succ]
      refine wpAnyH_take (i := 1) (v := ?_) rfl (by kernel_rfl) (by kernel_rfl) (by kernel_rfl) (fun _ _ _ h => h) (Or.inl ⟨by rfl, ?_⟩) (by assumption) ?_
      rotate_left
      · (intro w hSw; (try (have cA := hSw.1)); (try clear hSw); go_simp; (try with_reducible rfl))
      try simp only [Act.put, List.getElem_toArray, List.getElem_cons_zero, List.getElem_cons_succ, List.setIfInBounds_toArray, List.set_cons_zero, List.set_cons_succ]
      refine wpAnyH_take (i := 2) (v := ?_) rfl (by kernel_rfl) (by kernel_rfl) (by kernel_rfl) (fun _ _ _ h => h) (Or.inl ⟨by rfl, ?_⟩) (by assumption) ?_
      rotate_left
      · (intro w hSw; (try (have cA := hSw.1)); (try clear hSw); go_simp; (try with_reducible rfl))
      try simp only [Act.put, List.getElem_toArray, List.getElem_cons_zero, List.getElem_cons_succ, List.setIfInBounds_toArray, List.set_cons_zero, List.set_cons_succ]
      refine wpAnyH_take (i := 3) (v := ?_) rfl (by kernel_rfl) (by kernel_rfl) (by kernel_rfl) (fun _ _ _ h => h) (Or.inl ⟨by rfl, ?_⟩) (by assumption) ?_
      rotate_left
      · (intro w hSw; (try (have cA := hSw.1)); (try clear hSw); go_simp; (try with_reducible rfl))
      try simp only [Act.put, List.getElem_toArray, List.getElem_cons_zero, List.getElem_cons_succ, List.setIfInBounds_toArray, List.set_cons_zero, List.set_cons_succ]
      refine wpAnyH_take (i := 4) (v := ?_) rfl (by kernel_rfl) (by kernel_rfl) (by kernel_rfl) (fun _ _ _ h => h) (Or.inl ⟨by rfl, ?_⟩) (by assumption) ?_
      rotate_left
      · (intro w hSw; (try (have cA := hSw.1)); (try clear hSw); go_simp; (try with_reducible rfl))
      try simp only [Act.put, List.getElem_toArray, List.getElem_cons_zero, List.getElem_cons_succ, List.setIfInBounds_toArray, List.set_cons_zero, List.set_cons_succ]
      refine wpAnyH_take (i := 5) (v := ?_) rfl (by kernel_rfl) (by kernel_rfl) (by kernel_rfl) (fun _ _ _ h => h) (Or.inl ⟨by rfl, ?_⟩) (by assumption) ?_
      rotate_left
      · (intro w hSw; (try (have cA := hSw.1)); (try clear hSw); go_simp; (try with_reducible rfl))
      try simp only [Act.put, List.getElem_toArray, List.getElem_cons_zero, List.getElem_cons_succ, List.setIfInBounds_toArray, List.set_cons_zero, List.set_cons_succ]
      refine wpAnyH_take (i := 6) (v := ?_) rfl (by kernel_rfl) (by kernel_rfl) (by kernel_rfl) (fun _ _ _ h => h) (Or.inl ⟨by rfl, ?_⟩) (by assumption) ?_
      rotate_left
      · (intro w hSw; (try (have cA := hSw.1)); (try clear hSw); go_simp; (try with_reducible rfl))
      try simp only [Act.put, List.getElem_toArray, List.getElem_cons_zero, List.getElem_cons_succ, List.setIfInBounds_toArray, List.set_cons_zero, List.set_cons_succ]
      refine wpAnyH_take (i := 7) (v := ?_) rfl (by kernel_rfl) (by kernel_rfl) (by kernel_rfl) (fun _ _ _ h => h) (Or.inl ⟨by rfl, ?_⟩) (by assumption) ?_
      rotate_left
      · (intro w hSw; (try (have cA := hSw.1)); (try clear hSw); go_simp; (try with_reducible rfl))
      try simp only [Act.put, List.getElem_toArray, List.getElem_cons_zero, List.getElem_cons_succ, List.setIfInBounds_toArray, List.set_cons_zero, List.set_cons_succ]
      refine wpAnyH_ready (rs := [8]) (by kernel_rfl) (by simp) ?_
      refine AllReadyH.cons rfl (fun K hK => ?_) AllReadyH.nil
      rw [if_pos (by rfl)]
      go_simp
      rw [HXO.out]
      refine (Bld.writeByte w.heap.size w.heap.size _ _ _ HD.out HL.out hszd).mono ?_
      rintro e w2 ⟨rfl, hi, hb⟩
      have HI2 := Lib.hid hi
      clear hi
      refine hK.out _ _ ?_ (fun hHeld => ?_)
      · exact ⟨(hb.cell (p := ⟨g, k, none⟩) hg).trans hHeld.1, hHeld.2.trans hb⟩
      clear hK K
      try simp only [Act.put, List.getElem_toArray, List.getElem_cons_zero, List.getElem_cons_succ, List.setIfInBounds_toArray, List.set_cons_zero, List.set_cons_succ]
      refine wpAnyH_done (by kernel_rfl) (NoPanic.normal ?_) _
      have hb2 := hHeld.2
      clear hHeld
      go_wp2
      go_roundw
      case rel => exact ⟨k + 1, by omega, by go_num, by rw [HS.out, Lib.byteCells_append]; exact HI2.out, hb2⟩
      case measure => simp [intOf]; omega
    · obtain rfl : k = a.length := by omega
      go_wp2_with fail
      refine (Tryz.Builder_String_any w.heap.size w.heap.size _ _ HI.out hsz).mono ?_
      rintro e w1 ⟨rfl, hb1⟩
      go_wp2
      go_ret
      exact ⟨by first | rfl | rw [List.take_length], hb.trans hb1⟩
end Go.Proofs.YtojoalmldapboaaGreatDoor.Hd
namespace Go.Proofs.YtojoalmldapboaaGreatDoor.Hd
set_option maxRecDepth 20000
open Go.RowKit Vm
set_option linter.unusedVariables false
set_option linter.unusedSimpArgs false

theorem and_u8 (a b : UInt8) : bits .and .u8 ((a.toNat : Nat) : Int) ((b.toNat : Nat) : Int) = (((a &&& b).toNat : Nat) : Int) := by
  have ha := a.toNat_lt
  have hb := b.toNat_lt
  have h1 : (BitVec.ofInt 8 ((a.toNat : Nat) : Int)).toNat = a.toNat := by
    rw [BitVec.ofInt_natCast, BitVec.toNat_ofNat]; exact Nat.mod_eq_of_lt ha
  have h2 : (BitVec.ofInt 8 ((b.toNat : Nat) : Int)).toNat = b.toNat := by
    rw [BitVec.ofInt_natCast, BitVec.toNat_ofNat]; exact Nat.mod_eq_of_lt hb
  have hx : a.toNat &&& b.toNat < 2 ^ 8 := Nat.and_lt_two_pow _ hb
  show IntKind.u8.wrap ((BitVec.ofInt 8 ((a.toNat : Nat) : Int) &&& BitVec.ofInt 8 ((b.toNat : Nat) : Int)).toNat : Int) = _
  rw [BitVec.toNat_and, h1, h2, UInt8.toNat_and, IntKind.wrap_u8]
  omega
/-- The bits of a first byte that a mask is laid on. -/
def hidB (b : UInt8) : UInt8 := if 128 ≤ b.toNat then 15 else 31
theorem hidB_eq (b : UInt8) : (if 128 ≤ b.toNat then (15:Int) else 31) = (((hidB b).toNat : Nat) : Int) := by
  unfold hidB
  split <;> rfl
/-- A first byte with a mask on it. -/
def fstB (b c : UInt8) : UInt8 := b ^^^ (c &&& hidB b)
/-- Bytes with a mask on the first one and on those of the number. -/
def turnL (b c : UInt8) (l m : List UInt8) (p k : Nat) : List UInt8 :=
  fstB b c :: (l.take p).drop 1 ++ xorL ((l.drop p).take k) (m.drop 1) ++ l.drop (p + k)
theorem hiddenB (b : UInt8) (w : World) :
    Calls Tryz.prog 155 #[.int .u8 ((b.toNat : Nat) : Int)] w fun e w' => e = .returned (.int .u8 (((hidB b).toNat : Nat) : Int)) ∧ w' = w := by
  have h := hidden_any b.toNat w b.toNat_lt
  rw [hidB_eq] at h
  exact h
theorem fixed1 (b : UInt8) (w : World) :
    Calls Tryz.prog 88 #[.int .u64 ((b.toNat : Nat) : Int), .int .i64 1] w fun e w' => e = .returned (.string ⟨[b].toArray⟩) ∧ Below w.heap.size w w' := by
  have hb := b.toNat_lt
  have h := vfixed' ((b.toNat : Nat) : Int) 1 w (Int.natCast_nonneg _) (by omega) (by decide) (by decide)
  have e : fx ((b.toNat : Nat) : Int).toNat (1 : Int).toNat = [b] := by
    show fx b.toNat 1 = [b]
    rw [show (1 : Nat) = 0 + 1 from rfl, fx_succ]
    have : UInt8.ofNat (b.toNat / 256 ^ 0 % 256) = b := by
      apply UInt8.toNat_inj.1
      rw [UInt8.toNat_ofNat']
      omega
    rw [this]; rfl
  rw [e] at h
  exact h
theorem laid1 (b h : UInt8) (g : Nat) (w : World) (hg : g < w.heap.size) (hc : w.cell? ⟨g, 0, none⟩ = some (.int .u8 ((b.toNat : Nat) : Int))) :
    Calls Tryz.prog 150 #[.string ⟨[h].toArray⟩, .slice (some ⟨g, 0, none⟩) 1 1] w fun e w' => e = .returned (.string ⟨[b ^^^ h].toArray⟩) ∧ Below w.heap.size w w' :=
  laid_any [b] [h] g 1 w hg (Lib.hid fun i hi => by
    have : i = 0 := by simp at hi; omega
    subst this
    exact hc) (by simp) (by simp) (by simp)
theorem wrap_byte (x : UInt8) : IntKind.u64.wrap ((x.toNat : Nat) : Int) = ((x.toNat : Nat) : Int) := by
  have := x.toNat_lt
  rw [IntKind.wrap_u64]; omega
set_option maxHeartbeats 2000000 in
theorem turnedFirst_any (l m : List UInt8) (b c : UInt8) (w : World) (h0 : 0 < l.length) (h1 : 0 < m.length) (hb : l[0] = b) (hc : m[0] = c) (hl : l.length ≤ 140737488351232) (hm : m.length ≤ 140737488351232) :
    Calls Tryz.prog 130 #[.string ⟨l.toArray⟩, .string ⟨m.toArray⟩] w fun e w' => e = .returned (.string ⟨[fstB b c].toArray⟩) ∧ Below w.heap.size w w' := by
  have I0 : ((⟨l.toArray⟩ : ByteArray)[0]'(by rw [sv_size]; exact h0)) = b := hb
  have I1 : ((⟨m.toArray⟩ : ByteArray)[0]'(by rw [sv_size]; exact h1)) = c := hc
  have HH := Lib.hid (fun w => hiddenB b w)
  have AN := and_u8 c (hidB b)
  have EF : fstB b c = b ^^^ (c &&& hidB b) := rfl
  obtain ⟨kb, Ek⟩ : ∃ k, k = hidB b := ⟨_, rfl⟩
  rw [← Ek] at HH AN EF
  obtain ⟨h, Eh⟩ : ∃ h, h = c &&& kb := ⟨_, rfl⟩
  rw [← Eh] at AN EF
  have WN := wrap_byte h
  rw [EF]
  clear hb hc Ek Eh EF
  go_enter Tryz.func130, Tryz.ntmps130
  go_wp2_with fail
  refine wp_region_noPanic ?_
  refine wp_region_held_drew (S := fun w' => Below w.heap.size w w') (by kernel_rfl) ?_ (fun hHeld => ?_)
  · exact below_drew (Below.refl _ _)
  refine wpAnyH_take (i := 0) (v := ?_) rfl (by kernel_rfl) (by kernel_rfl) (by kernel_rfl) (fun _ _ _ h => h) (Or.inl ⟨by rfl, ?_⟩) (by assumption) ?_
  rotate_left
  · (intro w hSw; skip; go_simp; (try with_reducible rfl))
  try simp only [Act.put, List.getElem_toArray, List.getElem_cons_zero, List.getElem_cons_succ, List.setIfInBounds_toArray, List.set_cons_zero, List.set_cons_succ]
  refine wpAnyH_take (i := 1) (v := ?_) rfl (by kernel_rfl) (by kernel_rfl) (by kernel_rfl) (fun _ _ _ h => h) (Or.inl ⟨by rfl, ?_⟩) (by assumption) ?_
  rotate_left
  · (intro w hSw; skip; go_simp; (try with_reducible rfl))
  try simp only [Act.put, List.getElem_toArray, List.getElem_cons_zero, List.getElem_cons_succ, List.setIfInBounds_toArray, List.set_cons_zero, List.set_cons_succ]
  refine wpAnyH_take (i := 2) (v := ?_) rfl (by kernel_rfl) (by kernel_rfl) (by kernel_rfl) (fun _ _ _ h => h) (Or.inl ⟨by rfl, ?_⟩) (by assumption) ?_
  rotate_left
  · (intro w hSw; skip; go_simp; (try with_reducible rfl))
  try simp only [Act.put, List.getElem_toArray, List.getElem_cons_zero, List.getElem_cons_succ, List.setIfInBounds_toArray, List.set_cons_zero, List.set_cons_succ]
  refine wpAnyH_take (i := 3) (v := ?_) rfl (by kernel_rfl) (by kernel_rfl) (by kernel_rfl) (fun _ _ _ h => h) (Or.inl ⟨by rfl, ?_⟩) (by assumption) ?_
  rotate_left
  · (intro w hSw; skip; go_simp; (try with_reducible rfl))
  try simp only [Act.put, List.getElem_toArray, List.getElem_cons_zero, List.getElem_cons_succ, List.setIfInBounds_toArray, List.set_cons_zero, List.set_cons_succ]
  refine wpAnyH_ready (rs := [4]) (by kernel_rfl) (by simp) ?_
  refine AllReadyH.cons rfl (fun K hK => ?_) AllReadyH.nil
  rw [if_pos (by rfl)]
  go_simp
  refine (HH.out _).mono ?_
  rintro e w1 ⟨rfl, rfl⟩
  refine hK.out _ _ ?_ (fun hHeld => ?_)
  · exact hHeld
  clear hK K
  try simp only [Act.put, List.getElem_toArray, List.getElem_cons_zero, List.getElem_cons_succ, List.setIfInBounds_toArray, List.set_cons_zero, List.set_cons_succ]
  refine wpAnyH_take (i := 5) (v := ?_) rfl (by kernel_rfl) (by kernel_rfl) (by kernel_rfl) (fun _ _ _ h => h) (Or.inl ⟨by rfl, ?_⟩) (by assumption) ?_
  rotate_left
  · (intro w hSw; skip; go_simp; (try with_reducible rfl))
  try simp only [Act.put, List.getElem_toArray, List.getElem_cons_zero, List.getElem_cons_succ, List.setIfInBounds_toArray, List.set_cons_zero, List.set_cons_succ]
  refine wpAnyH_take (i := 6) (v := ?_) rfl (by kernel_rfl) (by kernel_rfl) (by kernel_rfl) (fun _ _ _ h => h) (Or.inl ⟨by rfl, ?_⟩) (by assumption) ?_
  rotate_left
  · (intro w hSw; skip; go_simp; (try with_reducible rfl))
  try simp only [Act.put, List.getElem_toArray, List.getElem_cons_zero, List.getElem_cons_succ, List.setIfInBounds_toArray, List.set_cons_zero, List.set_cons_succ]
  refine wpAnyH_ready (rs := [7]) (by kernel_rfl) (by simp) ?_
  refine AllReadyH.cons rfl (fun K hK => ?_) AllReadyH.nil
  rw [if_pos (by rfl)]
  go_simp
  refine (fixed1 h _).mono ?_
  rintro e w2 ⟨rfl, hb⟩
  refine hK.out _ _ ?_ (fun hHeld => ?_)
  · exact hHeld.trans (hb.mono hHeld.size)
  clear hK K
  try simp only [Act.put, List.getElem_toArray, List.getElem_cons_zero, List.getElem_cons_succ, List.setIfInBounds_toArray, List.set_cons_zero, List.set_cons_succ]
  refine wpAnyH_take (i := 8) (v := ?_) rfl (by kernel_rfl) (by kernel_rfl) (by kernel_rfl) (fun _ _ _ h => h) (Or.inl ⟨by rfl, ?_⟩) (by assumption) ?_
  rotate_left
  · (intro w hSw; skip; go_simp; (try with_reducible rfl))
  try simp only [Act.put, List.getElem_toArray, List.getElem_cons_zero, List.getElem_cons_succ, List.setIfInBounds_toArray, List.set_cons_zero, List.set_cons_succ]
  refine wpAnyH_done (by kernel_rfl) (NoPanic.normal ?_) _
  have HB := Lib.hid hHeld
  clear hHeld
  clear AN WN
  go_wp2_with fail
  refine (laid1 b h w2.heap.size _ (by simp) (by simp [go_sem])).mono ?_
  rintro e w3 ⟨rfl, hb3⟩
  go_wp2
  go_ret
  exact ⟨rfl, (HB.out.alloc HB.out.size _).trans (hb3.mono (by have := HB.out.size; simp; omega))⟩
/-- A text that is made bytes. -/
theorem bytes_made (W : World) (l : List UInt8) : ∃ c W', (convert 9 66 (.string ⟨l.toArray⟩)).run Tryz.prog W = .ok (.slice (some ⟨W.heap.size, 0, none⟩) l.length c) W' ∧ Below W.heap.size W W' ∧ W'.heap.size = W.heap.size + 1 ∧
    ∀ i (h : i < l.length), W'.cell? ⟨W.heap.size, i, none⟩ = some (.int .u8 ((l[i].toNat : Nat) : Int)) := by
  have h := Lib.run_convert_string_bytes (P := Tryz.prog) W 9 66 5 ⟨l.toArray⟩ Tryz.underlying9 Tryz.underlying66 Tryz.underlying5
  rw [sv_size] at h
  refine ⟨_, _, h, ⟨rfl, rfl, rfl, by rw [Lib.bytesWorld_size]; omega, fun k hk => Lib.bytesWorld_at_old _ _ _ _ hk⟩, Lib.bytesWorld_size _ _ _, fun i hi => ?_⟩
  rw [Lib.bytesWorld_cell _ _ _ _ (by rw [sv_size]; exact hi)]
  simp [List.getD, List.getElem?_eq_getElem hi]
end Go.Proofs.YtojoalmldapboaaGreatDoor.Hd
