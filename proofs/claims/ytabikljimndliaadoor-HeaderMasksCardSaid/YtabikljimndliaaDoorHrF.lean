/- The walks of layer 4: the document's ahead, in one word. -/
import Derived.Test.YtabikljimndliaaDoorHrE1
import Derived.Test.YtabikljimndliaaDoorHrA
import Derived.Test.YtabikljimndliaaDoorVmG
namespace Go.Proofs.YtabikljimndliaaDoor.Hd
open Go.RowKit Vm
set_option linter.unusedVariables false
set_option linter.unusedSimpArgs false

/-- What the document's ahead tells. -/
def ahV (l : List UInt8) : Value := match ahO l with
  | some p => .tuple #[.agg #[.bool p.lg, .bool p.sp, .bool false, .int .i64 (p.ty : Nat), .int .u32 (p.ve : Nat), .string ⟨p.dc.toArray⟩, .string ⟨p.sc.toArray⟩, .string ⟨p.tk.toArray⟩, .int .u64 (p.le : Nat), .int .i64 0, .int .u64 0], .string ⟨p.re.toArray⟩, .bool true]
  | none => .tuple #[.agg #[.bool false, .bool false, .bool false, .int .i64 0, .int .u32 0, .string ⟨#[]⟩, .string ⟨#[]⟩, .string ⟨#[]⟩, .int .u64 0, .int .i64 0, .int .u64 0], .string ⟨#[]⟩, .bool false]
theorem ahV_none {l : List UInt8} (h : ahO l = none) : ahV l = .tuple #[.agg #[.bool false, .bool false, .bool false, .int .i64 0, .int .u32 0, .string ⟨#[]⟩, .string ⟨#[]⟩, .string ⟨#[]⟩, .int .u64 0, .int .i64 0, .int .u64 0], .string ⟨#[]⟩, .bool false] := by
  unfold ahV; rw [h]
theorem ahV_some {l : List UInt8} {p : Pre} (h : ahO l = some p) : ahV l = .tuple #[.agg #[.bool p.lg, .bool p.sp, .bool false, .int .i64 (p.ty : Nat), .int .u32 (p.ve : Nat), .string ⟨p.dc.toArray⟩, .string ⟨p.sc.toArray⟩, .string ⟨p.tk.toArray⟩, .int .u64 (p.le : Nat), .int .i64 0, .int .u64 0], .string ⟨p.re.toArray⟩, .bool true] := by
  unfold ahV; rw [h]
theorem id_c (l : List UInt8) (hl : l.length ≤ 140737488351232) : (idO l = none ∧ Hid (∀ w : World, Calls Tryd.prog 49 #[.string ⟨l.toArray⟩] w fun e w' => e = .returned (.tuple #[.string ⟨#[]⟩, .string ⟨#[]⟩, .bool false]) ∧ Below w.heap.size w w')) ∨
    ∃ d r, idO l = some (d, r) ∧ r.length ≤ l.length ∧ Hid (∀ w : World, Calls Tryd.prog 49 #[.string ⟨l.toArray⟩] w fun e w' => e = .returned (.tuple #[.string ⟨d.toArray⟩, .string ⟨r.toArray⟩, .bool true]) ∧ Below w.heap.size w w') := by
  have H := fun w => id_any l (by omega) w
  unfold idV at H
  cases h : idO l with
  | none => rw [h] at H; exact .inl ⟨rfl, Lib.hid H⟩
  | some x =>
    obtain ⟨d, r⟩ := x
    rw [h] at H
    obtain ⟨pre, e, _⟩ := idO_local h
    exact .inr ⟨d, r, rfl, by rw [e, List.length_append]; omega, Lib.hid H⟩
theorem get_c (l : List UInt8) (hl : l.length ≤ 140737488351232) : (vO l = none ∧ Hid (∀ w : World, Calls Tryd.prog 50 #[.string ⟨l.toArray⟩] w fun e w' => e = .returned (.tuple #[.int .u64 0, .string ⟨#[]⟩, .int .i64 10]) ∧ Below w.heap.size w w')) ∨
    ∃ n r, vO l = some (n, r) ∧ r.length ≤ l.length ∧ n < 4611686018427387904 ∧ Hid (∀ w : World, Calls Tryd.prog 50 #[.string ⟨l.toArray⟩] w fun e w' => e = .returned (.tuple #[.int .u64 (n : Nat), .string ⟨r.toArray⟩, .int .i64 0]) ∧ Below w.heap.size w w') := by
  have H : ∀ w : World, Calls Tryd.prog 50 #[.string ⟨l.toArray⟩] w fun e w' => e = .returned (.tuple #[.int .u64 (gN l : Nat), .string ⟨(gR l).toArray⟩, .int .i64 (gE l)]) ∧ Below w.heap.size w w' := fun w =>
    (rget ⟨l.toArray⟩ w (by rw [sv_size]; omega)).mono fun e w' ⟨he, m, hw⟩ => ⟨he, by rw [hw]; exact below_drewN (Below.refl _ _) m⟩
  by_cases h : gk l ≤ l.length
  · have hg := g_ok h
    have hv : vO l = some (gn l (gk l), l.drop (gk l)) := if_pos h
    obtain ⟨pre, e, hn, _⟩ := vO_local hv
    rw [hg.1, hg.2.1, hg.2.2] at H
    exact .inr ⟨_, _, hv, by rw [List.length_drop]; omega, hn, Lib.hid H⟩
  · have hg := g_no (l := l) (by omega)
    rw [hg.1, hg.2.1, hg.2.2] at H
    exact .inl ⟨if_neg h, Lib.hid H⟩
set_option maxHeartbeats 1000000 in
theorem ahead_any (l : List UInt8) (w : World) (hl : l.length ≤ 140737488351232) :
    Calls Tryd.prog 28 #[.string ⟨l.toArray⟩] w fun e w' => e = .returned (ahV l) ∧ Below w.heap.size w w' := by
  cases l with
  | nil => rw [ahV_none (l := []) rfl]; exact ahead_nil _ rfl w
  | cons b r =>
    have hp : 0 < (⟨(b :: r).toArray⟩ : ByteArray).size := by rw [sv_size]; simp
    have hs : (⟨(b :: r).toArray⟩ : ByteArray).size = r.length + 1 := by rw [sv_size]; simp
    have hl1 : r.length + 1 ≤ 140737488351232 := by simpa using hl
    have hl2 : (⟨(b :: r).toArray⟩ : ByteArray).size ≤ 9223372036854775807 := by rw [hs]; omega
    have hbb := b.toNat_lt
    have b0 : (0 : Int) ≤ ((b.toNat : Nat) : Int) := by omega
    have b1 : ((b.toNat : Nat) : Int) ≤ 255 := by omega
    by_cases h64 : b.toNat / 64 % 2 = 0
    · rw [ahV_none (by simp only [ahO]; rw [if_pos h64])]
      exact ahead_bit _ b hp hl2 rfl b0 b1 (by rw [beq_iff_eq]; omega) w
    have i64 : (((b.toNat : Nat) : Int) / 64 % 2 == 0) = false := by rw [beq_eq_false_iff_ne]; omega
    by_cases h128 : b.toNat < 128
    · have i128 : decide (128 ≤ ((b.toNat : Nat) : Int)) = false := decide_eq_false (by omega)
      by_cases h8 : r.length < 8
      · rw [ahV_none (by simp only [ahO]; rw [if_neg h64, if_pos h128, if_pos h8])]
        exact ahead_few _ b hp hl2 rfl b0 b1 i64 i128 (by rw [hs]; omega) w
      · have e : ahO (b :: r) = some ⟨false, decide (b.toNat / 32 % 2 = 1), 0, 0, r.take 8, [], [], 0, r.drop 8⟩ := by simp only [ahO]; rw [if_neg h64, if_pos h128, if_neg h8]
        rw [ahV_some e]
        have h32 : decide (b.toNat / 32 % 2 = 1) = (((b.toNat : Nat) : Int) / 32 % 2 == 1) := by
          rw [Bool.eq_iff_iff, decide_eq_true_iff, beq_iff_eq]; omega
        simp only [h32]
        refine ahead_short _ _ _ b hp hl2 rfl b0 b1 i64 i128 (by rw [hs]; omega) (by rw [hs]; omega) ?_ ?_ w
        · rw [sv_sub]; congr 2
        · rw [hs, sv_sub]; congr 2; rw [List.drop_succ_cons]; exact List.take_of_length_le (by rw [List.length_drop]; omega)
    have i128 : decide (128 ≤ ((b.toNat : Nat) : Int)) = true := decide_eq_true (by omega)
    have eL : ahO (b :: r) = ahL b r := by simp only [ahO]; rw [if_neg h64, if_neg h128]
    by_cases h4 : r.length < 4
    · rw [ahV_none (by rw [eL]; unfold ahL; rw [if_pos (.inl h4)])]
      exact ahead_l4 _ b hp hl2 rfl b0 b1 i64 i128 (by rw [hs]; omega) w
    have i5 : ¬ (((⟨(b :: r).toArray⟩ : ByteArray).size : Nat) : Int) < 5 := by rw [hs]; omega
    have i5' : 5 ≤ (⟨(b :: r).toArray⟩ : ByteArray).size := by rw [hs]; omega
    by_cases h3 : b.toNat / 16 % 4 = 3
    · rw [ahV_none (by rw [eL]; unfold ahL; rw [if_pos (.inr h3)])]
      exact ahead_t3 _ b hp hl2 rfl b0 b1 i64 i128 i5 (by rw [beq_iff_eq]; omega) w
    have eL2 : ahL b r = match idO (r.drop 4) with
      | none => none
      | some (d, r1) => match idO r1 with
        | none => none
        | some (c, r2) => match tokO (b.toNat / 16 % 4) r2 with
          | none => none
          | some (t, r3) => match vO r3 with
            | none => none
            | some (n, r4) => some ⟨true, false, b.toNat / 16 % 4, bk (r.take 4), d, c, t, n, r4⟩ := by
      unfold ahL; rw [if_neg (fun h => by rcases h with h | h; exact h4 h; exact h3 h)]; rfl
    obtain ⟨ty, Ety⟩ : ∃ ty, ty = b.toNat / 16 % 4 := ⟨_, rfl⟩
    rw [← Ety] at eL2 h3
    have hty0 : (0 : Int) ≤ ((ty : Nat) : Int) := by omega
    have hty : ((ty : Nat) : Int) ≤ 2 := by omega
    have i3 : (((ty : Nat) : Int) == 3) = false := by rw [beq_eq_false_iff_ne]; omega
    have iE : ((b.toNat : Nat) : Int) / 16 % 4 = ((ty : Nat) : Int) := by omega
    have X1 : (⟨(b :: r).toArray⟩ : ByteArray).extract 1 5 = ⟨(r.take 4).toArray⟩ := by rw [sv_sub]; congr 2
    have X2 : (⟨(b :: r).toArray⟩ : ByteArray).extract 5 (⟨(b :: r).toArray⟩ : ByteArray).size = ⟨(r.drop 4).toArray⟩ := by
      rw [hs, sv_sub]; congr 2; rw [List.drop_succ_cons]; exact List.take_of_length_le (by rw [List.length_drop]; omega)
    have lt4 : (r.take 4).length = 4 := by rw [List.length_take]; omega
    have hv := bk_lt (r.take 4)
    rw [lt4] at hv
    have hve : ((bk (r.take 4) : Nat) : Int) ≤ 4294967295 := by omega
    have CB : Hid (∀ w : World, Calls Tryd.prog 29 #[.string ⟨(r.take 4).toArray⟩] w fun e w' => e = .returned (.int .u64 (bk (r.take 4) : Nat)) ∧ w = w') := Lib.hid fun w => rback ⟨(r.take 4).toArray⟩ w (by rw [sv_size]; omega)
    have hd4 : (r.drop 4).length ≤ 140737488351232 := by rw [List.length_drop]; omega
    generalize bk (r.take 4) = ve at *
    rcases id_c (r.drop 4) hd4 with ⟨h1, C1⟩ | ⟨d, r1, h1, hr1, C1⟩
    · rw [ahV_none (by rw [eL, eL2, h1])]
      exact ahead_i1 _ _ _ b ve hp hl2 rfl b0 b1 i64 i128 hve i5 i5' _ hty0 hty iE i3 X1 X2 CB C1 w
    rw [h1] at eL2
    simp only at eL2
    rcases id_c r1 (by omega) with ⟨h2, C2⟩ | ⟨c, r2, h2, hr2, C2⟩
    · rw [ahV_none (by rw [eL, eL2, h2])]
      exact ahead_i2 _ _ _ _ _ b ve hp hl2 rfl b0 b1 i64 i128 hve i5 i5' _ hty0 hty iE i3 X1 X2 CB C1 C2 w
    rw [h2] at eL2
    simp only at eL2
    by_cases ht0 : ty = 0
    · have e0 : (((ty : Nat) : Int) == 0) = true := by rw [beq_iff_eq]; omega
      have eT : tokO ty r2 = match vO r2 with
        | none => none
        | some (n, r) => if n ≤ 1000 ∧ n ≤ r.length then some (r.take n, r.drop n) else none := by unfold tokO; rw [if_pos ht0]; rfl
      rcases get_c r2 (by omega) with ⟨h5, C3⟩ | ⟨n, r3, h5, hr3, hn, C3⟩
      · rw [ahV_none (by rw [eL, eL2, eT, h5])]
        exact ahead_g0 _ _ _ _ _ _ _ b ve hp hl2 rfl b0 b1 i64 i128 hve i5 i5' _ hty0 hty iE i3 X1 X2 CB C1 C2 e0 C3 w
      rw [h5] at eT
      simp only at eT
      have s3 : (⟨r3.toArray⟩ : ByteArray).size = r3.length := sv_size _
      by_cases hn1 : n ≤ 1000
      · by_cases hn2 : n ≤ r3.length
        · rw [if_pos ⟨hn1, hn2⟩] at eT
          rw [eT] at eL2
          simp only at eL2
          have X3 : (⟨r3.toArray⟩ : ByteArray).extract 0 n = ⟨(r3.take n).toArray⟩ := sv_to _ _
          have X4 : (⟨r3.toArray⟩ : ByteArray).extract n (⟨r3.toArray⟩ : ByteArray).size = ⟨(r3.drop n).toArray⟩ := by rw [s3]; exact sv_from _ _
          rcases get_c (r3.drop n) (by rw [List.length_drop]; omega) with ⟨h6, C4⟩ | ⟨le, r4, h6, hr4, hle, C4⟩
          · rw [ahV_none (by rw [eL, eL2, h6])]
            exact ahead_v0 _ _ _ _ _ _ _ _ _ _ b ve hp hl2 rfl b0 b1 i64 i128 hve i5 i5' _ hty0 hty iE i3 X1 X2 CB C1 C2 e0 n C3 (by omega) hn (by omega) (by omega) (by omega) X3 X4 C4 w
          · rw [ahV_some (by rw [eL, eL2, h6])]
            exact ahead_ok0 _ _ _ _ _ _ _ _ _ _ _ b ve hp hl2 rfl b0 b1 i64 i128 hve i5 i5' _ hty0 hty iE i3 X1 X2 CB C1 C2 e0 n C3 (by omega) hn (by omega) (by omega) (by omega) X3 X4 le C4 hle w
        · rw [if_neg (fun h => hn2 h.2)] at eT
          rw [ahV_none (by rw [eL, eL2, eT])]
          exact ahead_g2 _ _ _ _ _ _ _ _ b ve hp hl2 rfl b0 b1 i64 i128 hve i5 i5' _ hty0 hty iE i3 X1 X2 CB C1 C2 e0 n C3 (by omega) hn (by omega) (by omega) w
      · rw [if_neg (fun h => hn1 h.1)] at eT
        rw [ahV_none (by rw [eL, eL2, eT])]
        exact ahead_g1 _ _ _ _ _ _ _ _ b ve hp hl2 rfl b0 b1 i64 i128 hve i5 i5' _ hty0 hty iE i3 X1 X2 CB C1 C2 e0 n C3 (by omega) hn (by omega) w
    · have e0 : (((ty : Nat) : Int) == 0) = false := by rw [beq_eq_false_iff_ne]; omega
      have eT : tokO ty r2 = some ([], r2) := by unfold tokO; rw [if_neg ht0]
      rw [eT] at eL2
      simp only at eL2
      rcases get_c r2 (by omega) with ⟨h6, C4⟩ | ⟨le, r4, h6, hr4, hle, C4⟩
      · rw [ahV_none (by rw [eL, eL2, h6])]
        exact ahead_v1 _ _ _ _ _ _ _ b ve hp hl2 rfl b0 b1 i64 i128 hve i5 i5' _ hty0 hty iE i3 X1 X2 CB C1 C2 e0 C4 w
      · rw [ahV_some (by rw [eL, eL2, h6])]
        exact ahead_ok1 _ _ _ _ _ _ _ _ b ve hp hl2 rfl b0 b1 i64 i128 hve i5 i5' _ hty0 hty iE i3 X1 X2 CB C1 C2 e0 le C4 hle w
end Go.Proofs.YtabikljimndliaaDoor.Hd
