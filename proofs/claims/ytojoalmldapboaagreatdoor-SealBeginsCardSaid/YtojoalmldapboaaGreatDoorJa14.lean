/- The walks of layer 1: Put and Size, both ways. · The walks of layer 1: Put and Size in one word each; Get, both ways. · The walks of layer 1: Get in one word; the small case that must go well. -/
import Derived.Test.YtojoalmldapboaaGreatDoorJa13
import Derived.Lib.Strings
import Derived.Deep.QuietTactic
import Derived.BigQuiet
import Derived.Lib.IndexBytes
namespace Go.Proofs.YtojoalmldapboaaGreatDoor.Vm
set_option maxRecDepth 20000
open Go.RowKit
set_option linter.unusedVariables false

theorem vfixed' (n k : Int) (w : World) (h0 : 0 ≤ n) (hn : n ≤ 18446744073709551615) (h1 : 1 ≤ k) (hk : k ≤ 8) :
    Calls Tryz.prog 88 #[.int .u64 n, .int .i64 k] w fun e w' => e = .returned (.string ⟨(fx n.toNat k.toNat).toArray⟩) ∧ Below w.heap.size w w' := by
  obtain ⟨n, rfl⟩ := Int.eq_ofNat_of_zero_le h0
  obtain ⟨k, rfl⟩ := Int.eq_ofNat_of_zero_le (show 0 ≤ k by omega)
  exact vfixed n k w hn (by omega) (by omega)
theorem pt_0 (n : Nat) (hh : n < 64) : fx n 1 = pt n := by
  have hp : pl n = 0 := by have := pl_cases n; omega
  unfold pt
  rw [hp, show 0 * 2 ^ (8 * wd 0 - 2) = 0 from by decide, show wd 0 = 1 from rfl, Nat.zero_add]
theorem or_0 (n : Nat) (hh : n < 64) : bits .or .u64 0 (n : Int) = ((0 + n : Nat) : Int) := by
  have h := or_sum 6 0 n (by omega) (by omega) (by omega)
  exact h
set_option maxHeartbeats 400000 in
theorem vput_0 (n : Int) (w : World) (ht : Tab w) (hl : 0 ≤ n) (hh : n < 64) :
    Calls Tryz.prog 149 #[.int .u64 n] w fun e w' => e = .returned (.tuple #[.string ⟨(pt n.toNat).toArray⟩, .int .i64 0]) ∧ Below w.heap.size w w' := by
  obtain ⟨n, rfl⟩ := Int.eq_ofNat_of_zero_le (show 0 ≤ n by omega)
  have ht' := Lib.hid ht
  obtain ⟨t0, t1, t2, t3⟩ := ht
  have HO := Lib.hid (or_0 n (by omega))
  go_enter Tryz.func149, Tryz.ntmps149
  go_wp2_with fail
  refine (shortest_0 _ _ (by omega) ht'.out).mono ?_
  rintro e w' ⟨rfl, rfl⟩
  go_wp2_with fail
  refine (room_any _ _ (by omega) (by omega)).mono ?_
  rintro e w' ⟨rfl, rfl⟩
  go_wp2_with fail
  rw [HO.out]
  refine (vfixed' _ _ _ (by omega) (by omega) (by omega) (by omega)).mono ?_
  rintro e w' ⟨rfl, hb⟩
  go_wp2
  go_ret2
  refine ⟨?_, hb⟩
  rw [Int.toNat_natCast, ← pt_0 n (by omega)]
  rfl
theorem pt_1 (n : Nat) (hl : 64 ≤ n) (hh : n < 16384) : fx (16384 + n) 2 = pt n := by
  have hp : pl n = 1 := by have := pl_cases n; omega
  unfold pt
  rw [hp, show 1 * 2 ^ (8 * wd 1 - 2) = 16384 from by decide, show wd 1 = 2 from rfl]
theorem or_1 (n : Nat) (hh : n < 16384) : bits .or .u64 16384 (n : Int) = ((16384 + n : Nat) : Int) := by
  have h := or_sum 14 1 n (by omega) (by omega) (by omega)
  exact h
set_option maxHeartbeats 400000 in
theorem vput_1 (n : Int) (w : World) (ht : Tab w) (hl : 64 ≤ n) (hh : n < 16384) :
    Calls Tryz.prog 149 #[.int .u64 n] w fun e w' => e = .returned (.tuple #[.string ⟨(pt n.toNat).toArray⟩, .int .i64 0]) ∧ Below w.heap.size w w' := by
  obtain ⟨n, rfl⟩ := Int.eq_ofNat_of_zero_le (show 0 ≤ n by omega)
  have ht' := Lib.hid ht
  obtain ⟨t0, t1, t2, t3⟩ := ht
  have HO := Lib.hid (or_1 n (by omega))
  go_enter Tryz.func149, Tryz.ntmps149
  go_wp2_with fail
  refine (shortest_1 _ _ (by omega) (by omega) ht'.out).mono ?_
  rintro e w' ⟨rfl, rfl⟩
  go_wp2_with fail
  refine (room_any _ _ (by omega) (by omega)).mono ?_
  rintro e w' ⟨rfl, rfl⟩
  go_wp2_with fail
  rw [HO.out]
  refine (vfixed' _ _ _ (by omega) (by omega) (by omega) (by omega)).mono ?_
  rintro e w' ⟨rfl, hb⟩
  go_wp2
  go_ret2
  refine ⟨?_, hb⟩
  rw [Int.toNat_natCast, ← pt_1 n (by omega) (by omega)]
  rfl
theorem pt_2 (n : Nat) (hl : 16384 ≤ n) (hh : n < 1073741824) : fx (2147483648 + n) 4 = pt n := by
  have hp : pl n = 2 := by have := pl_cases n; omega
  unfold pt
  rw [hp, show 2 * 2 ^ (8 * wd 2 - 2) = 2147483648 from by decide, show wd 2 = 4 from rfl]
theorem or_2 (n : Nat) (hh : n < 1073741824) : bits .or .u64 2147483648 (n : Int) = ((2147483648 + n : Nat) : Int) := by
  have h := or_sum 30 2 n (by omega) (by omega) (by omega)
  exact h
set_option maxHeartbeats 400000 in
theorem vput_2 (n : Int) (w : World) (ht : Tab w) (hl : 16384 ≤ n) (hh : n < 1073741824) :
    Calls Tryz.prog 149 #[.int .u64 n] w fun e w' => e = .returned (.tuple #[.string ⟨(pt n.toNat).toArray⟩, .int .i64 0]) ∧ Below w.heap.size w w' := by
  obtain ⟨n, rfl⟩ := Int.eq_ofNat_of_zero_le (show 0 ≤ n by omega)
  have ht' := Lib.hid ht
  obtain ⟨t0, t1, t2, t3⟩ := ht
  have HO := Lib.hid (or_2 n (by omega))
  go_enter Tryz.func149, Tryz.ntmps149
  go_wp2_with fail
  refine (shortest_2 _ _ (by omega) (by omega) ht'.out).mono ?_
  rintro e w' ⟨rfl, rfl⟩
  go_wp2_with fail
  refine (room_any _ _ (by omega) (by omega)).mono ?_
  rintro e w' ⟨rfl, rfl⟩
  go_wp2_with fail
  rw [HO.out]
  refine (vfixed' _ _ _ (by omega) (by omega) (by omega) (by omega)).mono ?_
  rintro e w' ⟨rfl, hb⟩
  go_wp2
  go_ret2
  refine ⟨?_, hb⟩
  rw [Int.toNat_natCast, ← pt_2 n (by omega) (by omega)]
  rfl
theorem pt_3 (n : Nat) (hl : 1073741824 ≤ n) (hh : n < 4611686018427387904) : fx (13835058055282163712 + n) 8 = pt n := by
  have hp : pl n = 3 := by have := pl_cases n; omega
  unfold pt
  rw [hp, show 3 * 2 ^ (8 * wd 3 - 2) = 13835058055282163712 from by decide, show wd 3 = 8 from rfl]
theorem or_3 (n : Nat) (hh : n < 4611686018427387904) : bits .or .u64 13835058055282163712 (n : Int) = ((13835058055282163712 + n : Nat) : Int) := by
  have h := or_sum 62 3 n (by omega) (by omega) (by omega)
  exact h
set_option maxHeartbeats 400000 in
theorem vput_3 (n : Int) (w : World) (ht : Tab w) (hl : 1073741824 ≤ n) (hh : n < 4611686018427387904) :
    Calls Tryz.prog 149 #[.int .u64 n] w fun e w' => e = .returned (.tuple #[.string ⟨(pt n.toNat).toArray⟩, .int .i64 0]) ∧ Below w.heap.size w w' := by
  obtain ⟨n, rfl⟩ := Int.eq_ofNat_of_zero_le (show 0 ≤ n by omega)
  have ht' := Lib.hid ht
  obtain ⟨t0, t1, t2, t3⟩ := ht
  have HO := Lib.hid (or_3 n (by omega))
  go_enter Tryz.func149, Tryz.ntmps149
  go_wp2_with fail
  refine (shortest_3 _ _ (by omega) (by omega) ht'.out).mono ?_
  rintro e w' ⟨rfl, rfl⟩
  go_wp2_with fail
  refine (room_any _ _ (by omega) (by omega)).mono ?_
  rintro e w' ⟨rfl, rfl⟩
  go_wp2_with fail
  rw [HO.out]
  refine (vfixed' _ _ _ (by omega) (by omega) (by omega) (by omega)).mono ?_
  rintro e w' ⟨rfl, hb⟩
  go_wp2
  go_ret2
  refine ⟨?_, hb⟩
  rw [Int.toNat_natCast, ← pt_3 n (by omega) (by omega)]
  rfl
set_option maxHeartbeats 400000 in
theorem vput_4 (n : Int) (w : World) (ht : Tab w) (hl : 4611686018427387904 ≤ n) :
    Calls Tryz.prog 149 #[.int .u64 n] w fun e w' => e = .returned (.tuple #[.string ⟨#[]⟩, .int .i64 1]) ∧ Below w.heap.size w w' := by
  obtain ⟨n, rfl⟩ := Int.eq_ofNat_of_zero_le (show 0 ≤ n by omega)
  have ht' := Lib.hid ht
  obtain ⟨t0, t1, t2, t3⟩ := ht
  go_enter Tryz.func149, Tryz.ntmps149
  go_wp2_with fail
  refine (shortest_4 _ _ (by omega) ht'.out).mono ?_
  rintro e w' ⟨rfl, rfl⟩
  go_wp2
  go_ret2
  exact ⟨rfl, Below.refl _ _⟩
end Go.Proofs.YtojoalmldapboaaGreatDoor.Vm
namespace Go.Proofs.YtojoalmldapboaaGreatDoor.Vm
set_option maxRecDepth 20000
open Go.RowKit
set_option linter.unusedVariables false

/-- What Put tells: the bytes, and the error's number. -/
def ps (n : Nat) : List UInt8 := if pl n = 4 then [] else pt n
def pe (n : Nat) : Int := if pl n = 4 then 1 else 0
theorem ps_ok {n : Nat} (h : pl n < 4) : ps n = pt n ∧ pe n = 0 := by unfold ps pe; rw [if_neg (by omega), if_neg (by omega)]; exact ⟨rfl, rfl⟩
theorem ps_no {n : Nat} (h : pl n = 4) : ps n = [] ∧ pe n = 1 := by unfold ps pe; rw [if_pos h, if_pos h]; exact ⟨rfl, rfl⟩

theorem vput (n : Int) (w : World) (ht : Tab w) (h0 : 0 ≤ n) :
    Calls Tryz.prog 149 #[.int .u64 n] w fun e w' => e = .returned (.tuple #[.string ⟨(ps n.toNat).toArray⟩, .int .i64 (pe n.toNat)]) ∧ Below w.heap.size w w' := by
  rcases pl_cases n.toNat with ⟨hp, h1⟩ | ⟨hp, h1, h2⟩ | ⟨hp, h1, h2⟩ | ⟨hp, h1, h2⟩ | ⟨hp, h1⟩
  · have := ps_ok (n := n.toNat) (by omega); rw [this.1, this.2]; exact vput_0 n w ht (by omega) (by omega)
  · have := ps_ok (n := n.toNat) (by omega); rw [this.1, this.2]; exact vput_1 n w ht (by omega) (by omega)
  · have := ps_ok (n := n.toNat) (by omega); rw [this.1, this.2]; exact vput_2 n w ht (by omega) (by omega)
  · have := ps_ok (n := n.toNat) (by omega); rw [this.1, this.2]; exact vput_3 n w ht (by omega) (by omega)
  · have := ps_no hp; rw [this.1, this.2]; exact vput_4 n w ht (by omega)
/-- How many bytes the first one tells. -/
def gk : List UInt8 → Nat | [] => 1 | b :: _ => gw b

theorem empty_yes (s : ByteArray) (h : s.size = 0) : s.toList.isEmpty = true := by
  rw [ByteArray.toList_eq]
  have : s.data.toList = [] := List.eq_nil_of_length_eq_zero (by simpa using h)
  rw [this]; rfl
theorem empty_no (s : ByteArray) (h : 0 < s.size) : s.toList.isEmpty = false := by
  rw [ByteArray.toList_eq]
  cases hl : s.data.toList with
  | nil => have : s.data.toList.length = s.size := by simp
           rw [hl] at this; simp at this; omega
  | cons _ _ => rfl
theorem size_len (s : ByteArray) : s.size = s.data.toList.length := by simp
theorem take_part (s : ByteArray) (k : Nat) (h : k ≤ s.size) : (s.extract 0 k).data.toList = s.data.toList.take k := by
  rw [Lib.extract_data]; simp
theorem drop_part (s : ByteArray) (k : Nat) (h : k ≤ s.size) : s.extract k s.size = ⟨(s.data.toList.drop k).toArray⟩ := by
  apply ByteArray.ext
  apply Array.toList_inj.1
  rw [Lib.extract_data]
  simp
  exact List.take_of_length_le (by simp)
theorem vbackQ (s : ByteArray) (w : World) (hs : s.size ≤ 8) : Calls Tryz.prog 172 #[.string s] w fun e w' => e = .returned (.int .u64 (bk s.data.toList : Nat)) ∧ w' = w :=
  (vback s w hs).mono fun _ _ ⟨a, b⟩ => ⟨a, b.symm⟩
set_option maxHeartbeats 400000 in
theorem vget_empty (s : ByteArray) (w : World) (hs : s.size = 0) :
    Calls Tryz.prog 178 #[.string s] w fun e w' => e = .returned (.tuple #[.int .u64 0, .string ⟨#[]⟩, .int .i64 10]) ∧ w = w' := by
  have he := empty_yes s hs
  clear hs
  go_enter Tryz.func178, Tryz.ntmps178
  go_wp2
  go_ret3
  exact ⟨rfl, rfl⟩
set_option maxHeartbeats 400000 in
theorem vget_ok_0 (s : ByteArray) (w : World) (ht : Tab w) (hs : s.size ≤ 9223372036854775807) (h1 : 1 ≤ s.size) (hq : 0 ≤ s[0].toNat ∧ s[0].toNat < 64) :
    Calls Tryz.prog 178 #[.string s] w fun e w' => e = .returned (.tuple #[.int .u64 (gn s.data.toList 1 : Nat), .string ⟨(s.data.toList.drop 1).toArray⟩, .int .i64 0]) ∧ ∃ m, w' = w.drewN m := by
  have he := empty_no s (by omega)
  have hq1 := hq.1
  have hq2 := hq.2
  have h0 : 0 < s.size := by omega
  have hc : w.cell? ⟨0, s[0].toNat / 64, none⟩ = some (.int .i64 1) := by rw [show s[0].toNat / 64 = 0 from by omega]; exact ht.1
  clear ht
  have HD := Lib.hid (drop_part s 1 h1)
  have hb := bk_lt (s.data.toList.take 1)
  have hl : (s.extract 0 1).data.toList.length = 1 := by rw [take_part s 1 h1, List.length_take]; simp; omega
  have HL : Hid ((s.extract 0 1).size ≤ 8) := Lib.hid (by rw [size_len, hl]; omega)
  rw [show (s.data.toList.take 1).length = 1 by rw [← take_part s 1 h1, hl]] at hb
  have HB := Lib.hid hb
  have HG : Hid (gn s.data.toList 1 = bk (s.data.toList.take 1) % 2 ^ 6) := Lib.hid (by unfold gn; rfl)
  clear hl hb hq
  go_enter Tryz.func178, Tryz.ntmps178
  go_wp2_with fail
  refine (room_any _ _ (by omega) (by omega)).mono ?_
  rintro e w' ⟨rfl, rfl⟩
  have HA : Hid (bits .and .u64 ((bk (s.data.toList.take 1) : Nat) : Int) 63 = ((bk (s.data.toList.take 1) % 2 ^ 6 : Nat) : Int)) := Lib.hid (and_mod 6 (bk (s.data.toList.take 1)) (Nat.lt_of_lt_of_le HB.out (by decide)) (by omega))
  go_wp2_with fail
  go_quiet ((go_at_call 172; exact Calls.quiet_of_same (vbackQ (s.extract 0 1) _ HL.out)))
  go_wp2
  go_ret3
  refine ⟨?_, _, rfl⟩
  rw [HG.out, ← HA.out, ← HD.out]
  rfl
set_option maxHeartbeats 400000 in
theorem vget_short_1 (s : ByteArray) (w : World) (ht : Tab w) (hs : s.size ≤ 9223372036854775807) (h0 : 0 < s.size) (hs1 : s.size < 2) (hq : 64 ≤ s[0].toNat ∧ s[0].toNat < 128) :
    Calls Tryz.prog 178 #[.string s] w fun e w' => e = .returned (.tuple #[.int .u64 0, .string ⟨#[]⟩, .int .i64 10]) ∧ ∃ m, w' = w.drewN m := by
  have he := empty_no s (by omega)
  have hq1 := hq.1
  have hq2 := hq.2
  have hc : w.cell? ⟨0, s[0].toNat / 64, none⟩ = some (.int .i64 2) := by rw [show s[0].toNat / 64 = 1 from by omega]; exact ht.2.1
  clear ht
  go_enter Tryz.func178, Tryz.ntmps178
  go_wp2
  go_ret3
  exact ⟨rfl, 0, rfl⟩
set_option maxHeartbeats 400000 in
theorem vget_ok_1 (s : ByteArray) (w : World) (ht : Tab w) (hs : s.size ≤ 9223372036854775807) (h1 : 2 ≤ s.size) (hq : 64 ≤ s[0].toNat ∧ s[0].toNat < 128) :
    Calls Tryz.prog 178 #[.string s] w fun e w' => e = .returned (.tuple #[.int .u64 (gn s.data.toList 2 : Nat), .string ⟨(s.data.toList.drop 2).toArray⟩, .int .i64 0]) ∧ ∃ m, w' = w.drewN m := by
  have he := empty_no s (by omega)
  have hq1 := hq.1
  have hq2 := hq.2
  have h0 : 0 < s.size := by omega
  have hc : w.cell? ⟨0, s[0].toNat / 64, none⟩ = some (.int .i64 2) := by rw [show s[0].toNat / 64 = 1 from by omega]; exact ht.2.1
  clear ht
  have HD := Lib.hid (drop_part s 2 h1)
  have hb := bk_lt (s.data.toList.take 2)
  have hl : (s.extract 0 2).data.toList.length = 2 := by rw [take_part s 2 h1, List.length_take]; simp; omega
  have HL : Hid ((s.extract 0 2).size ≤ 8) := Lib.hid (by rw [size_len, hl]; omega)
  rw [show (s.data.toList.take 2).length = 2 by rw [← take_part s 2 h1, hl]] at hb
  have HB := Lib.hid hb
  have HG : Hid (gn s.data.toList 2 = bk (s.data.toList.take 2) % 2 ^ 14) := Lib.hid (by unfold gn; rfl)
  clear hl hb hq
  go_enter Tryz.func178, Tryz.ntmps178
  go_wp2_with fail
  refine (room_any _ _ (by omega) (by omega)).mono ?_
  rintro e w' ⟨rfl, rfl⟩
  have HA : Hid (bits .and .u64 ((bk (s.data.toList.take 2) : Nat) : Int) 16383 = ((bk (s.data.toList.take 2) % 2 ^ 14 : Nat) : Int)) := Lib.hid (and_mod 14 (bk (s.data.toList.take 2)) (Nat.lt_of_lt_of_le HB.out (by decide)) (by omega))
  go_wp2_with fail
  go_quiet ((go_at_call 172; exact Calls.quiet_of_same (vbackQ (s.extract 0 2) _ HL.out)))
  go_wp2
  go_ret3
  refine ⟨?_, _, rfl⟩
  rw [HG.out, ← HA.out, ← HD.out]
  rfl
set_option maxHeartbeats 400000 in
theorem vget_short_2 (s : ByteArray) (w : World) (ht : Tab w) (hs : s.size ≤ 9223372036854775807) (h0 : 0 < s.size) (hs1 : s.size < 4) (hq : 128 ≤ s[0].toNat ∧ s[0].toNat < 192) :
    Calls Tryz.prog 178 #[.string s] w fun e w' => e = .returned (.tuple #[.int .u64 0, .string ⟨#[]⟩, .int .i64 10]) ∧ ∃ m, w' = w.drewN m := by
  have he := empty_no s (by omega)
  have hq1 := hq.1
  have hq2 := hq.2
  have hc : w.cell? ⟨0, s[0].toNat / 64, none⟩ = some (.int .i64 4) := by rw [show s[0].toNat / 64 = 2 from by omega]; exact ht.2.2.1
  clear ht
  go_enter Tryz.func178, Tryz.ntmps178
  go_wp2
  go_ret3
  exact ⟨rfl, 0, rfl⟩
set_option maxHeartbeats 400000 in
theorem vget_ok_2 (s : ByteArray) (w : World) (ht : Tab w) (hs : s.size ≤ 9223372036854775807) (h1 : 4 ≤ s.size) (hq : 128 ≤ s[0].toNat ∧ s[0].toNat < 192) :
    Calls Tryz.prog 178 #[.string s] w fun e w' => e = .returned (.tuple #[.int .u64 (gn s.data.toList 4 : Nat), .string ⟨(s.data.toList.drop 4).toArray⟩, .int .i64 0]) ∧ ∃ m, w' = w.drewN m := by
  have he := empty_no s (by omega)
  have hq1 := hq.1
  have hq2 := hq.2
  have h0 : 0 < s.size := by omega
  have hc : w.cell? ⟨0, s[0].toNat / 64, none⟩ = some (.int .i64 4) := by rw [show s[0].toNat / 64 = 2 from by omega]; exact ht.2.2.1
  clear ht
  have HD := Lib.hid (drop_part s 4 h1)
  have hb := bk_lt (s.data.toList.take 4)
  have hl : (s.extract 0 4).data.toList.length = 4 := by rw [take_part s 4 h1, List.length_take]; simp; omega
  have HL : Hid ((s.extract 0 4).size ≤ 8) := Lib.hid (by rw [size_len, hl]; omega)
  rw [show (s.data.toList.take 4).length = 4 by rw [← take_part s 4 h1, hl]] at hb
  have HB := Lib.hid hb
  have HG : Hid (gn s.data.toList 4 = bk (s.data.toList.take 4) % 2 ^ 30) := Lib.hid (by unfold gn; rfl)
  clear hl hb hq
  go_enter Tryz.func178, Tryz.ntmps178
  go_wp2_with fail
  refine (room_any _ _ (by omega) (by omega)).mono ?_
  rintro e w' ⟨rfl, rfl⟩
  have HA : Hid (bits .and .u64 ((bk (s.data.toList.take 4) : Nat) : Int) 1073741823 = ((bk (s.data.toList.take 4) % 2 ^ 30 : Nat) : Int)) := Lib.hid (and_mod 30 (bk (s.data.toList.take 4)) (Nat.lt_of_lt_of_le HB.out (by decide)) (by omega))
  go_wp2_with fail
  go_quiet ((go_at_call 172; exact Calls.quiet_of_same (vbackQ (s.extract 0 4) _ HL.out)))
  go_wp2
  go_ret3
  refine ⟨?_, _, rfl⟩
  rw [HG.out, ← HA.out, ← HD.out]
  rfl
set_option maxHeartbeats 400000 in
theorem vget_short_3 (s : ByteArray) (w : World) (ht : Tab w) (hs : s.size ≤ 9223372036854775807) (h0 : 0 < s.size) (hs1 : s.size < 8) (hq : 192 ≤ s[0].toNat ∧ s[0].toNat < 256) :
    Calls Tryz.prog 178 #[.string s] w fun e w' => e = .returned (.tuple #[.int .u64 0, .string ⟨#[]⟩, .int .i64 10]) ∧ ∃ m, w' = w.drewN m := by
  have he := empty_no s (by omega)
  have hq1 := hq.1
  have hq2 := hq.2
  have hc : w.cell? ⟨0, s[0].toNat / 64, none⟩ = some (.int .i64 8) := by rw [show s[0].toNat / 64 = 3 from by omega]; exact ht.2.2.2
  clear ht
  go_enter Tryz.func178, Tryz.ntmps178
  go_wp2
  go_ret3
  exact ⟨rfl, 0, rfl⟩
set_option maxHeartbeats 400000 in
theorem vget_ok_3 (s : ByteArray) (w : World) (ht : Tab w) (hs : s.size ≤ 9223372036854775807) (h1 : 8 ≤ s.size) (hq : 192 ≤ s[0].toNat ∧ s[0].toNat < 256) :
    Calls Tryz.prog 178 #[.string s] w fun e w' => e = .returned (.tuple #[.int .u64 (gn s.data.toList 8 : Nat), .string ⟨(s.data.toList.drop 8).toArray⟩, .int .i64 0]) ∧ ∃ m, w' = w.drewN m := by
  have he := empty_no s (by omega)
  have hq1 := hq.1
  have hq2 := hq.2
  have h0 : 0 < s.size := by omega
  have hc : w.cell? ⟨0, s[0].toNat / 64, none⟩ = some (.int .i64 8) := by rw [show s[0].toNat / 64 = 3 from by omega]; exact ht.2.2.2
  clear ht
  have HD := Lib.hid (drop_part s 8 h1)
  have hb := bk_lt (s.data.toList.take 8)
  have hl : (s.extract 0 8).data.toList.length = 8 := by rw [take_part s 8 h1, List.length_take]; simp; omega
  have HL : Hid ((s.extract 0 8).size ≤ 8) := Lib.hid (by rw [size_len, hl]; omega)
  rw [show (s.data.toList.take 8).length = 8 by rw [← take_part s 8 h1, hl]] at hb
  have HB := Lib.hid hb
  have HG : Hid (gn s.data.toList 8 = bk (s.data.toList.take 8) % 2 ^ 62) := Lib.hid (by unfold gn; rfl)
  clear hl hb hq
  go_enter Tryz.func178, Tryz.ntmps178
  go_wp2_with fail
  refine (room_any _ _ (by omega) (by omega)).mono ?_
  rintro e w' ⟨rfl, rfl⟩
  have HA : Hid (bits .and .u64 ((bk (s.data.toList.take 8) : Nat) : Int) 4611686018427387903 = ((bk (s.data.toList.take 8) % 2 ^ 62 : Nat) : Int)) := Lib.hid (and_mod 62 (bk (s.data.toList.take 8)) (Nat.lt_of_lt_of_le HB.out (by decide)) (by omega))
  go_wp2_with fail
  go_quiet ((go_at_call 172; exact Calls.quiet_of_same (vbackQ (s.extract 0 8) _ HL.out)))
  go_wp2
  go_ret3
  refine ⟨?_, _, rfl⟩
  rw [HG.out, ← HA.out, ← HD.out]
  rfl
end Go.Proofs.YtojoalmldapboaaGreatDoor.Vm
namespace Go.Proofs.YtojoalmldapboaaGreatDoor.Vm
set_option maxRecDepth 20000
open Go.RowKit
set_option linter.unusedVariables false

/-- What Get tells of bytes: the number, what is behind it, and the error's number. -/
def gN (l : List UInt8) : Nat := if gk l ≤ l.length then gn l (gk l) else 0
def gR (l : List UInt8) : List UInt8 := if gk l ≤ l.length then l.drop (gk l) else []
def gE (l : List UInt8) : Int := if gk l ≤ l.length then 0 else 10
theorem g_ok {l : List UInt8} (h : gk l ≤ l.length) : gN l = gn l (gk l) ∧ gR l = l.drop (gk l) ∧ gE l = 0 := by unfold gN gR gE; rw [if_pos h, if_pos h, if_pos h]; exact ⟨rfl, rfl, rfl⟩
theorem g_no {l : List UInt8} (h : l.length < gk l) : gN l = 0 ∧ gR l = [] ∧ gE l = 10 := by unfold gN gR gE; rw [if_neg (by omega), if_neg (by omega), if_neg (by omega)]; exact ⟨rfl, rfl, rfl⟩
theorem gk_of (s : ByteArray) (h : 0 < s.size) (c : Nat) (hc : s[0].toNat / 64 = c) : gk s.data.toList = 2 ^ c := by
  have h0 : 0 < s.data.toList.length := by rw [← size_len]; exact h
  have e : s.data.toList[0] = s[0] := rfl
  cases hl : s.data.toList with
  | nil => rw [hl] at h0; simp at h0
  | cons b r =>
    have e2 : b = s[0] := by rw [← e]; simp [hl]
    show gw b = _
    unfold gw wd
    rw [e2, hc]
theorem vget (s : ByteArray) (w : World) (ht : Tab w) (hs : s.size ≤ 9223372036854775807) :
    Calls Tryz.prog 178 #[.string s] w fun e w' => e = .returned (.tuple #[.int .u64 (gN s.data.toList : Nat), .string ⟨(gR s.data.toList).toArray⟩, .int .i64 (gE s.data.toList)]) ∧ ∃ m, w' = w.drewN m := by
  by_cases h0 : s.size = 0
  · have h := g_no (l := s.data.toList) (by rw [List.eq_nil_of_length_eq_zero (show s.data.toList.length = 0 by rw [← size_len]; exact h0)]; decide)
    rw [h.1, h.2.1, h.2.2]
    exact (vget_empty s w h0).mono fun _ _ ⟨a, b⟩ => ⟨a, 0, b.symm⟩
  · have hp : 0 < s.size := by omega
    have hb := s[0].toNat_lt
    have hc : s[0].toNat / 64 = 0 ∨ s[0].toNat / 64 = 1 ∨ s[0].toNat / 64 = 2 ∨ s[0].toNat / 64 = 3 := by omega
    rcases hc with hc | hc | hc | hc
    · have h := g_ok (l := s.data.toList) (by rw [gk_of s hp 0 hc, ← size_len]; omega)
      rw [h.1, h.2.1, h.2.2, gk_of s hp 0 hc]
      exact vget_ok_0 s w ht hs (by omega) (by omega)
    · by_cases hk : 2 ≤ s.size
      · have h := g_ok (l := s.data.toList) (by rw [gk_of s hp 1 hc, ← size_len]; omega)
        rw [h.1, h.2.1, h.2.2, gk_of s hp 1 hc]
        exact vget_ok_1 s w ht hs (by omega) (by omega)
      · have h := g_no (l := s.data.toList) (by rw [gk_of s hp 1 hc, ← size_len]; omega)
        rw [h.1, h.2.1, h.2.2]
        exact vget_short_1 s w ht hs hp (by omega) (by omega)
    · by_cases hk : 4 ≤ s.size
      · have h := g_ok (l := s.data.toList) (by rw [gk_of s hp 2 hc, ← size_len]; omega)
        rw [h.1, h.2.1, h.2.2, gk_of s hp 2 hc]
        exact vget_ok_2 s w ht hs (by omega) (by omega)
      · have h := g_no (l := s.data.toList) (by rw [gk_of s hp 2 hc, ← size_len]; omega)
        rw [h.1, h.2.1, h.2.2]
        exact vget_short_2 s w ht hs hp (by omega) (by omega)
    · by_cases hk : 8 ≤ s.size
      · have h := g_ok (l := s.data.toList) (by rw [gk_of s hp 3 hc, ← size_len]; omega)
        rw [h.1, h.2.1, h.2.2, gk_of s hp 3 hc]
        exact vget_ok_3 s w ht hs (by omega) (by omega)
      · have h := g_no (l := s.data.toList) (by rw [gk_of s hp 3 hc, ← size_len]; omega)
        rw [h.1, h.2.1, h.2.2]
        exact vget_short_3 s w ht hs hp (by omega) (by omega)
theorem Tab.below {B : Nat} {w w' : World} (h : Tab w) (hb : Below B w w') (hB : 0 < B) : Tab w' :=
  ⟨(hb.cell (p := ⟨0, 0, none⟩) hB).trans h.1, (hb.cell (p := ⟨0, 1, none⟩) hB).trans h.2.1,
   (hb.cell (p := ⟨0, 2, none⟩) hB).trans h.2.2.1, (hb.cell (p := ⟨0, 3, none⟩) hB).trans h.2.2.2⟩
theorem Tab.lt {w : World} (h : Tab w) : 0 < w.heap.size := by
  rcases Nat.lt_or_ge 0 w.heap.size with h1 | h1
  · exact h1
  · have := h.1
    simp [World.cell?, Array.getElem?_eq_none h1] at this
theorem below_drewN {B : Nat} {a w : World} (h : Below B a w) (n : Nat) : Below B a (w.drewN n) := h.trans ⟨rfl, rfl, rfl, Nat.le_refl _, fun _ _ => rfl⟩
theorem Tab.drewN {w : World} (h : Tab w) (n : Nat) : Tab (w.drewN n) := h.below (below_drewN (Below.refl w.heap.size w) n) h.lt

end Go.Proofs.YtojoalmldapboaaGreatDoor.Vm
