/- The walks of layer 1: Put and Size in one word each; Get, both ways. -/
import Derived.Test.YtfeecfdbncjmnaaDoorVmE
import Derived.Lib.Strings
import Derived.Deep.QuietTactic
import Derived.BigQuiet
import Derived.Lib.IndexBytes
namespace Go.Proofs.YtfeecfdbncjmnaaDoor.Vm
set_option maxRecDepth 20000
open Go.RowKit
set_option linter.unusedVariables false

/-- What Put tells: the bytes, and the error's number. -/
def ps (n : Nat) : List UInt8 := if pl n = 4 then [] else pt n
def pe (n : Nat) : Int := if pl n = 4 then 1 else 0
theorem ps_ok {n : Nat} (h : pl n < 4) : ps n = pt n ∧ pe n = 0 := by unfold ps pe; rw [if_neg (by omega), if_neg (by omega)]; exact ⟨rfl, rfl⟩
theorem ps_no {n : Nat} (h : pl n = 4) : ps n = [] ∧ pe n = 1 := by unfold ps pe; rw [if_pos h, if_pos h]; exact ⟨rfl, rfl⟩

theorem vput (n : Int) (w : World) (ht : Tab w) (h0 : 0 ≤ n) :
    Calls Tryd.prog 69 #[.int .u64 n] w fun e w' => e = .returned (.tuple #[.string ⟨(ps n.toNat).toArray⟩, .int .i64 (pe n.toNat)]) ∧ Below w.heap.size w w' := by
  rcases pl_cases n.toNat with ⟨hp, h1⟩ | ⟨hp, h1, h2⟩ | ⟨hp, h1, h2⟩ | ⟨hp, h1, h2⟩ | ⟨hp, h1⟩
  · have := ps_ok (n := n.toNat) (by omega); rw [this.1, this.2]; exact vput_0 n w ht (by omega) (by omega)
  · have := ps_ok (n := n.toNat) (by omega); rw [this.1, this.2]; exact vput_1 n w ht (by omega) (by omega)
  · have := ps_ok (n := n.toNat) (by omega); rw [this.1, this.2]; exact vput_2 n w ht (by omega) (by omega)
  · have := ps_ok (n := n.toNat) (by omega); rw [this.1, this.2]; exact vput_3 n w ht (by omega) (by omega)
  · have := ps_no hp; rw [this.1, this.2]; exact vput_4 n w ht (by omega)
theorem rsize (n : Int) (w : World) (h0 : 0 ≤ n) :
    Calls Tryd.prog 21 #[.int .u64 n] w fun e w' => e = .returned (.int .i64 (sz n.toNat : Nat)) ∧ w = w' := by
  rcases pl_cases n.toNat with ⟨hp, h1⟩ | ⟨hp, h1, h2⟩ | ⟨hp, h1, h2⟩ | ⟨hp, h1, h2⟩ | ⟨hp, h1⟩
  · rw [show sz n.toNat = 1 by unfold sz; rw [hp]; rfl]; exact rsize_0 n w (by omega) (by omega)
  · rw [show sz n.toNat = 2 by unfold sz; rw [hp]; rfl]; exact rsize_1 n w (by omega) (by omega)
  · rw [show sz n.toNat = 4 by unfold sz; rw [hp]; rfl]; exact rsize_2 n w (by omega) (by omega)
  · rw [show sz n.toNat = 8 by unfold sz; rw [hp]; rfl]; exact rsize_3 n w (by omega) (by omega)
  · rw [show sz n.toNat = 0 by unfold sz; rw [hp]; rfl]; exact rsize_4 n w (by omega)
/-- How many bytes the first one tells. -/
def gk : List UInt8 → Nat | [] => 1 | b :: _ => gw b

theorem empty_yes (s : ByteArray) (h : s.size = 0) : s.toList.isEmpty = true := by
  rw [ByteArray.toList_eq]
  have : s.data.toList = [] := List.eq_nil_of_length_eq_zero (by simpa using h)
  rw [this]; rfl
theorem empty_no (s : ByteArray) (h : 0 < s.size) : s.toList.isEmpty = false := by
  rw [ByteArray.toList_eq]
  cases hl : s.data.toList with
  | nil => have : s.data.toList.length = s.size := by simp
           rw [hl] at this; simp at this; omega
  | cons _ _ => rfl
theorem size_len (s : ByteArray) : s.size = s.data.toList.length := by simp
theorem take_part (s : ByteArray) (k : Nat) (h : k ≤ s.size) : (s.extract 0 k).data.toList = s.data.toList.take k := by
  rw [Lib.extract_data]; simp
theorem drop_part (s : ByteArray) (k : Nat) (h : k ≤ s.size) : s.extract k s.size = ⟨(s.data.toList.drop k).toArray⟩ := by
  apply ByteArray.ext
  apply Array.toList_inj.1
  rw [Lib.extract_data]
  simp
  exact List.take_of_length_le (by simp)
theorem vbackQ (s : ByteArray) (w : World) (hs : s.size ≤ 8) : Calls Tryd.prog 63 #[.string s] w fun e w' => e = .returned (.int .u64 (bk s.data.toList : Nat)) ∧ w' = w :=
  (vback s w hs).mono fun _ _ ⟨a, b⟩ => ⟨a, b.symm⟩
theorem rbackQ (s : ByteArray) (w : World) (hs : s.size ≤ 8) : Calls Tryd.prog 59 #[.string s] w fun e w' => e = .returned (.int .u64 (bk s.data.toList : Nat)) ∧ w' = w :=
  (rback s w hs).mono fun _ _ ⟨a, b⟩ => ⟨a, b.symm⟩
theorem powerQ_6 (w : World) : Calls Tryd.prog 36 #[.int .i64 6] w fun e w' => e = .returned (.int .u64 64) ∧ w' = w :=
  (power_6 w).mono fun _ _ ⟨a, b⟩ => ⟨a, b.symm⟩
theorem powerQ_14 (w : World) : Calls Tryd.prog 36 #[.int .i64 14] w fun e w' => e = .returned (.int .u64 16384) ∧ w' = w :=
  (power_14 w).mono fun _ _ ⟨a, b⟩ => ⟨a, b.symm⟩
theorem powerQ_30 (w : World) : Calls Tryd.prog 36 #[.int .i64 30] w fun e w' => e = .returned (.int .u64 1073741824) ∧ w' = w :=
  (power_30 w).mono fun _ _ ⟨a, b⟩ => ⟨a, b.symm⟩
theorem powerQ_62 (w : World) : Calls Tryd.prog 36 #[.int .i64 62] w fun e w' => e = .returned (.int .u64 4611686018427387904) ∧ w' = w :=
  (power_62 w).mono fun _ _ ⟨a, b⟩ => ⟨a, b.symm⟩
set_option maxHeartbeats 400000 in
theorem vget_empty (s : ByteArray) (w : World) (hs : s.size = 0) :
    Calls Tryd.prog 67 #[.string s] w fun e w' => e = .returned (.tuple #[.int .u64 0, .string ⟨#[]⟩, .int .i64 10]) ∧ w = w' := by
  have he := empty_yes s hs
  clear hs
  go_enter Tryd.func67, Tryd.ntmps67
  go_wp2
  go_ret3
  exact ⟨rfl, rfl⟩
set_option maxHeartbeats 400000 in
theorem vget_ok_0 (s : ByteArray) (w : World) (ht : Tab w) (hs : s.size ≤ 9223372036854775807) (h1 : 1 ≤ s.size) (hq : 0 ≤ s[0].toNat ∧ s[0].toNat < 64) :
    Calls Tryd.prog 67 #[.string s] w fun e w' => e = .returned (.tuple #[.int .u64 (gn s.data.toList 1 : Nat), .string ⟨(s.data.toList.drop 1).toArray⟩, .int .i64 0]) ∧ ∃ m, w' = w.drewN m := by
  have he := empty_no s (by omega)
  have hq1 := hq.1
  have hq2 := hq.2
  have h0 : 0 < s.size := by omega
  have hc : w.cell? ⟨0, s[0].toNat / 64, none⟩ = some (.int .i64 1) := by rw [show s[0].toNat / 64 = 0 from by omega]; exact ht.1
  clear ht
  have HD := Lib.hid (drop_part s 1 h1)
  have hb := bk_lt (s.data.toList.take 1)
  have hl : (s.extract 0 1).data.toList.length = 1 := by rw [take_part s 1 h1, List.length_take]; simp; omega
  have HL : Hid ((s.extract 0 1).size ≤ 8) := Lib.hid (by rw [size_len, hl]; omega)
  rw [show (s.data.toList.take 1).length = 1 by rw [← take_part s 1 h1, hl]] at hb
  have HB := Lib.hid hb
  have HG : Hid (gn s.data.toList 1 = bk (s.data.toList.take 1) % 2 ^ 6) := Lib.hid (by unfold gn; rfl)
  clear hl hb hq
  go_enter Tryd.func67, Tryd.ntmps67
  go_wp2_with fail
  refine (room_any _ _ (by omega) (by omega)).mono ?_
  rintro e w' ⟨rfl, rfl⟩
  have HA : Hid (bits .and .u64 ((bk (s.data.toList.take 1) : Nat) : Int) 63 = ((bk (s.data.toList.take 1) % 2 ^ 6 : Nat) : Int)) := Lib.hid (and_mod 6 (bk (s.data.toList.take 1)) (Nat.lt_of_lt_of_le HB.out (by decide)) (by omega))
  go_wp2_with fail
  go_quiet ((go_at_call 63; exact Calls.quiet_of_same (vbackQ (s.extract 0 1) _ HL.out)))
  go_wp2
  go_ret3
  refine ⟨?_, _, rfl⟩
  rw [HG.out, ← HA.out, ← HD.out]
  rfl
set_option maxHeartbeats 400000 in
theorem vget_short_1 (s : ByteArray) (w : World) (ht : Tab w) (hs : s.size ≤ 9223372036854775807) (h0 : 0 < s.size) (hs1 : s.size < 2) (hq : 64 ≤ s[0].toNat ∧ s[0].toNat < 128) :
    Calls Tryd.prog 67 #[.string s] w fun e w' => e = .returned (.tuple #[.int .u64 0, .string ⟨#[]⟩, .int .i64 10]) ∧ ∃ m, w' = w.drewN m := by
  have he := empty_no s (by omega)
  have hq1 := hq.1
  have hq2 := hq.2
  have hc : w.cell? ⟨0, s[0].toNat / 64, none⟩ = some (.int .i64 2) := by rw [show s[0].toNat / 64 = 1 from by omega]; exact ht.2.1
  clear ht
  go_enter Tryd.func67, Tryd.ntmps67
  go_wp2
  go_ret3
  exact ⟨rfl, 0, rfl⟩
set_option maxHeartbeats 400000 in
theorem vget_ok_1 (s : ByteArray) (w : World) (ht : Tab w) (hs : s.size ≤ 9223372036854775807) (h1 : 2 ≤ s.size) (hq : 64 ≤ s[0].toNat ∧ s[0].toNat < 128) :
    Calls Tryd.prog 67 #[.string s] w fun e w' => e = .returned (.tuple #[.int .u64 (gn s.data.toList 2 : Nat), .string ⟨(s.data.toList.drop 2).toArray⟩, .int .i64 0]) ∧ ∃ m, w' = w.drewN m := by
  have he := empty_no s (by omega)
  have hq1 := hq.1
  have hq2 := hq.2
  have h0 : 0 < s.size := by omega
  have hc : w.cell? ⟨0, s[0].toNat / 64, none⟩ = some (.int .i64 2) := by rw [show s[0].toNat / 64 = 1 from by omega]; exact ht.2.1
  clear ht
  have HD := Lib.hid (drop_part s 2 h1)
  have hb := bk_lt (s.data.toList.take 2)
  have hl : (s.extract 0 2).data.toList.length = 2 := by rw [take_part s 2 h1, List.length_take]; simp; omega
  have HL : Hid ((s.extract 0 2).size ≤ 8) := Lib.hid (by rw [size_len, hl]; omega)
  rw [show (s.data.toList.take 2).length = 2 by rw [← take_part s 2 h1, hl]] at hb
  have HB := Lib.hid hb
  have HG : Hid (gn s.data.toList 2 = bk (s.data.toList.take 2) % 2 ^ 14) := Lib.hid (by unfold gn; rfl)
  clear hl hb hq
  go_enter Tryd.func67, Tryd.ntmps67
  go_wp2_with fail
  refine (room_any _ _ (by omega) (by omega)).mono ?_
  rintro e w' ⟨rfl, rfl⟩
  have HA : Hid (bits .and .u64 ((bk (s.data.toList.take 2) : Nat) : Int) 16383 = ((bk (s.data.toList.take 2) % 2 ^ 14 : Nat) : Int)) := Lib.hid (and_mod 14 (bk (s.data.toList.take 2)) (Nat.lt_of_lt_of_le HB.out (by decide)) (by omega))
  go_wp2_with fail
  go_quiet ((go_at_call 63; exact Calls.quiet_of_same (vbackQ (s.extract 0 2) _ HL.out)))
  go_wp2
  go_ret3
  refine ⟨?_, _, rfl⟩
  rw [HG.out, ← HA.out, ← HD.out]
  rfl
set_option maxHeartbeats 400000 in
theorem vget_short_2 (s : ByteArray) (w : World) (ht : Tab w) (hs : s.size ≤ 9223372036854775807) (h0 : 0 < s.size) (hs1 : s.size < 4) (hq : 128 ≤ s[0].toNat ∧ s[0].toNat < 192) :
    Calls Tryd.prog 67 #[.string s] w fun e w' => e = .returned (.tuple #[.int .u64 0, .string ⟨#[]⟩, .int .i64 10]) ∧ ∃ m, w' = w.drewN m := by
  have he := empty_no s (by omega)
  have hq1 := hq.1
  have hq2 := hq.2
  have hc : w.cell? ⟨0, s[0].toNat / 64, none⟩ = some (.int .i64 4) := by rw [show s[0].toNat / 64 = 2 from by omega]; exact ht.2.2.1
  clear ht
  go_enter Tryd.func67, Tryd.ntmps67
  go_wp2
  go_ret3
  exact ⟨rfl, 0, rfl⟩
set_option maxHeartbeats 400000 in
theorem vget_ok_2 (s : ByteArray) (w : World) (ht : Tab w) (hs : s.size ≤ 9223372036854775807) (h1 : 4 ≤ s.size) (hq : 128 ≤ s[0].toNat ∧ s[0].toNat < 192) :
    Calls Tryd.prog 67 #[.string s] w fun e w' => e = .returned (.tuple #[.int .u64 (gn s.data.toList 4 : Nat), .string ⟨(s.data.toList.drop 4).toArray⟩, .int .i64 0]) ∧ ∃ m, w' = w.drewN m := by
  have he := empty_no s (by omega)
  have hq1 := hq.1
  have hq2 := hq.2
  have h0 : 0 < s.size := by omega
  have hc : w.cell? ⟨0, s[0].toNat / 64, none⟩ = some (.int .i64 4) := by rw [show s[0].toNat / 64 = 2 from by omega]; exact ht.2.2.1
  clear ht
  have HD := Lib.hid (drop_part s 4 h1)
  have hb := bk_lt (s.data.toList.take 4)
  have hl : (s.extract 0 4).data.toList.length = 4 := by rw [take_part s 4 h1, List.length_take]; simp; omega
  have HL : Hid ((s.extract 0 4).size ≤ 8) := Lib.hid (by rw [size_len, hl]; omega)
  rw [show (s.data.toList.take 4).length = 4 by rw [← take_part s 4 h1, hl]] at hb
  have HB := Lib.hid hb
  have HG : Hid (gn s.data.toList 4 = bk (s.data.toList.take 4) % 2 ^ 30) := Lib.hid (by unfold gn; rfl)
  clear hl hb hq
  go_enter Tryd.func67, Tryd.ntmps67
  go_wp2_with fail
  refine (room_any _ _ (by omega) (by omega)).mono ?_
  rintro e w' ⟨rfl, rfl⟩
  have HA : Hid (bits .and .u64 ((bk (s.data.toList.take 4) : Nat) : Int) 1073741823 = ((bk (s.data.toList.take 4) % 2 ^ 30 : Nat) : Int)) := Lib.hid (and_mod 30 (bk (s.data.toList.take 4)) (Nat.lt_of_lt_of_le HB.out (by decide)) (by omega))
  go_wp2_with fail
  go_quiet ((go_at_call 63; exact Calls.quiet_of_same (vbackQ (s.extract 0 4) _ HL.out)))
  go_wp2
  go_ret3
  refine ⟨?_, _, rfl⟩
  rw [HG.out, ← HA.out, ← HD.out]
  rfl
set_option maxHeartbeats 400000 in
theorem vget_short_3 (s : ByteArray) (w : World) (ht : Tab w) (hs : s.size ≤ 9223372036854775807) (h0 : 0 < s.size) (hs1 : s.size < 8) (hq : 192 ≤ s[0].toNat ∧ s[0].toNat < 256) :
    Calls Tryd.prog 67 #[.string s] w fun e w' => e = .returned (.tuple #[.int .u64 0, .string ⟨#[]⟩, .int .i64 10]) ∧ ∃ m, w' = w.drewN m := by
  have he := empty_no s (by omega)
  have hq1 := hq.1
  have hq2 := hq.2
  have hc : w.cell? ⟨0, s[0].toNat / 64, none⟩ = some (.int .i64 8) := by rw [show s[0].toNat / 64 = 3 from by omega]; exact ht.2.2.2
  clear ht
  go_enter Tryd.func67, Tryd.ntmps67
  go_wp2
  go_ret3
  exact ⟨rfl, 0, rfl⟩
set_option maxHeartbeats 400000 in
theorem vget_ok_3 (s : ByteArray) (w : World) (ht : Tab w) (hs : s.size ≤ 9223372036854775807) (h1 : 8 ≤ s.size) (hq : 192 ≤ s[0].toNat ∧ s[0].toNat < 256) :
    Calls Tryd.prog 67 #[.string s] w fun e w' => e = .returned (.tuple #[.int .u64 (gn s.data.toList 8 : Nat), .string ⟨(s.data.toList.drop 8).toArray⟩, .int .i64 0]) ∧ ∃ m, w' = w.drewN m := by
  have he := empty_no s (by omega)
  have hq1 := hq.1
  have hq2 := hq.2
  have h0 : 0 < s.size := by omega
  have hc : w.cell? ⟨0, s[0].toNat / 64, none⟩ = some (.int .i64 8) := by rw [show s[0].toNat / 64 = 3 from by omega]; exact ht.2.2.2
  clear ht
  have HD := Lib.hid (drop_part s 8 h1)
  have hb := bk_lt (s.data.toList.take 8)
  have hl : (s.extract 0 8).data.toList.length = 8 := by rw [take_part s 8 h1, List.length_take]; simp; omega
  have HL : Hid ((s.extract 0 8).size ≤ 8) := Lib.hid (by rw [size_len, hl]; omega)
  rw [show (s.data.toList.take 8).length = 8 by rw [← take_part s 8 h1, hl]] at hb
  have HB := Lib.hid hb
  have HG : Hid (gn s.data.toList 8 = bk (s.data.toList.take 8) % 2 ^ 62) := Lib.hid (by unfold gn; rfl)
  clear hl hb hq
  go_enter Tryd.func67, Tryd.ntmps67
  go_wp2_with fail
  refine (room_any _ _ (by omega) (by omega)).mono ?_
  rintro e w' ⟨rfl, rfl⟩
  have HA : Hid (bits .and .u64 ((bk (s.data.toList.take 8) : Nat) : Int) 4611686018427387903 = ((bk (s.data.toList.take 8) % 2 ^ 62 : Nat) : Int)) := Lib.hid (and_mod 62 (bk (s.data.toList.take 8)) (Nat.lt_of_lt_of_le HB.out (by decide)) (by omega))
  go_wp2_with fail
  go_quiet ((go_at_call 63; exact Calls.quiet_of_same (vbackQ (s.extract 0 8) _ HL.out)))
  go_wp2
  go_ret3
  refine ⟨?_, _, rfl⟩
  rw [HG.out, ← HA.out, ← HD.out]
  rfl
set_option maxHeartbeats 400000 in
theorem rget_empty (s : ByteArray) (w : World) (hs : s.size = 0) :
    Calls Tryd.prog 35 #[.string s] w fun e w' => e = .returned (.tuple #[.int .u64 0, .string ⟨#[]⟩, .int .i64 10]) ∧ w = w' := by
  have he := empty_yes s hs
  clear hs
  go_enter Tryd.func35, Tryd.ntmps35
  go_wp2
  go_ret3
  exact ⟨rfl, rfl⟩
set_option maxHeartbeats 400000 in
theorem rget_ok_0 (s : ByteArray) (w : World) (hs : s.size ≤ 9223372036854775807) (h1 : 1 ≤ s.size) (hq : 0 ≤ s[0].toNat ∧ s[0].toNat < 64) :
    Calls Tryd.prog 35 #[.string s] w fun e w' => e = .returned (.tuple #[.int .u64 (gn s.data.toList 1 : Nat), .string ⟨(s.data.toList.drop 1).toArray⟩, .int .i64 0]) ∧ ∃ m, w' = w.drewN m := by
  have he := empty_no s (by omega)
  have hq1 := hq.1
  have hq2 := hq.2
  have h0 : 0 < s.size := by omega
  have HD := Lib.hid (drop_part s 1 h1)
  have hb := bk_lt (s.data.toList.take 1)
  have hl : (s.extract 0 1).data.toList.length = 1 := by rw [take_part s 1 h1, List.length_take]; simp; omega
  have HL : Hid ((s.extract 0 1).size ≤ 8) := Lib.hid (by rw [size_len, hl]; omega)
  rw [show (s.data.toList.take 1).length = 1 by rw [← take_part s 1 h1, hl]] at hb
  have HB := Lib.hid hb
  have HG : Hid (gn s.data.toList 1 = bk (s.data.toList.take 1) % 2 ^ 6) := Lib.hid (by unfold gn; rfl)
  clear hl hb hq
  have HC : Hid ((s[0].toNat : Int) / 64 = 0) := Lib.hid (by omega)
  go_enter Tryd.func35, Tryd.ntmps35
  go_wp2_with fail
  rw [HC.out]
  refine (power_any _ _ (by omega) (by omega)).mono ?_
  rintro e w' ⟨rfl, rfl⟩
  rw [show pw 0 = 1 from by decide]
  go_wp2_with fail
  go_quiet ((first | (go_at_call 59; exact Calls.quiet_of_same (rbackQ (s.extract 0 1) _ HL.out)) | (go_at_call 36; exact Calls.quiet_of_same (powerQ_6 _))))
  go_wp2
  go_ret3
  refine ⟨?_, _, rfl⟩
  rw [HG.out, ← HD.out, show ((bk (s.data.toList.take 1) % 2 ^ 6 : Nat) : Int) = (bk (s.data.toList.take 1) : Int) % 64 from rfl]
  rfl
set_option maxHeartbeats 400000 in
theorem rget_short_1 (s : ByteArray) (w : World) (hs : s.size ≤ 9223372036854775807) (h0 : 0 < s.size) (hs1 : s.size < 2) (hq : 64 ≤ s[0].toNat ∧ s[0].toNat < 128) :
    Calls Tryd.prog 35 #[.string s] w fun e w' => e = .returned (.tuple #[.int .u64 0, .string ⟨#[]⟩, .int .i64 10]) ∧ ∃ m, w' = w.drewN m := by
  have he := empty_no s (by omega)
  have hq1 := hq.1
  have hq2 := hq.2
  have HC : Hid ((s[0].toNat : Int) / 64 = 1) := Lib.hid (by omega)
  go_enter Tryd.func35, Tryd.ntmps35
  go_wp2_with fail
  rw [HC.out]
  refine (power_any _ _ (by omega) (by omega)).mono ?_
  rintro e w' ⟨rfl, rfl⟩
  rw [show pw 1 = 2 from by decide]
  go_wp2
  go_ret3
  exact ⟨rfl, 0, rfl⟩
set_option maxHeartbeats 400000 in
theorem rget_ok_1 (s : ByteArray) (w : World) (hs : s.size ≤ 9223372036854775807) (h1 : 2 ≤ s.size) (hq : 64 ≤ s[0].toNat ∧ s[0].toNat < 128) :
    Calls Tryd.prog 35 #[.string s] w fun e w' => e = .returned (.tuple #[.int .u64 (gn s.data.toList 2 : Nat), .string ⟨(s.data.toList.drop 2).toArray⟩, .int .i64 0]) ∧ ∃ m, w' = w.drewN m := by
  have he := empty_no s (by omega)
  have hq1 := hq.1
  have hq2 := hq.2
  have h0 : 0 < s.size := by omega
  have HD := Lib.hid (drop_part s 2 h1)
  have hb := bk_lt (s.data.toList.take 2)
  have hl : (s.extract 0 2).data.toList.length = 2 := by rw [take_part s 2 h1, List.length_take]; simp; omega
  have HL : Hid ((s.extract 0 2).size ≤ 8) := Lib.hid (by rw [size_len, hl]; omega)
  rw [show (s.data.toList.take 2).length = 2 by rw [← take_part s 2 h1, hl]] at hb
  have HB := Lib.hid hb
  have HG : Hid (gn s.data.toList 2 = bk (s.data.toList.take 2) % 2 ^ 14) := Lib.hid (by unfold gn; rfl)
  clear hl hb hq
  have HC : Hid ((s[0].toNat : Int) / 64 = 1) := Lib.hid (by omega)
  go_enter Tryd.func35, Tryd.ntmps35
  go_wp2_with fail
  rw [HC.out]
  refine (power_any _ _ (by omega) (by omega)).mono ?_
  rintro e w' ⟨rfl, rfl⟩
  rw [show pw 1 = 2 from by decide]
  go_wp2_with fail
  go_quiet ((first | (go_at_call 59; exact Calls.quiet_of_same (rbackQ (s.extract 0 2) _ HL.out)) | (go_at_call 36; exact Calls.quiet_of_same (powerQ_14 _))))
  go_wp2
  go_ret3
  refine ⟨?_, _, rfl⟩
  rw [HG.out, ← HD.out, show ((bk (s.data.toList.take 2) % 2 ^ 14 : Nat) : Int) = (bk (s.data.toList.take 2) : Int) % 16384 from rfl]
  rfl
set_option maxHeartbeats 400000 in
theorem rget_short_2 (s : ByteArray) (w : World) (hs : s.size ≤ 9223372036854775807) (h0 : 0 < s.size) (hs1 : s.size < 4) (hq : 128 ≤ s[0].toNat ∧ s[0].toNat < 192) :
    Calls Tryd.prog 35 #[.string s] w fun e w' => e = .returned (.tuple #[.int .u64 0, .string ⟨#[]⟩, .int .i64 10]) ∧ ∃ m, w' = w.drewN m := by
  have he := empty_no s (by omega)
  have hq1 := hq.1
  have hq2 := hq.2
  have HC : Hid ((s[0].toNat : Int) / 64 = 2) := Lib.hid (by omega)
  go_enter Tryd.func35, Tryd.ntmps35
  go_wp2_with fail
  rw [HC.out]
  refine (power_any _ _ (by omega) (by omega)).mono ?_
  rintro e w' ⟨rfl, rfl⟩
  rw [show pw 2 = 4 from by decide]
  go_wp2
  go_ret3
  exact ⟨rfl, 0, rfl⟩
set_option maxHeartbeats 400000 in
theorem rget_ok_2 (s : ByteArray) (w : World) (hs : s.size ≤ 9223372036854775807) (h1 : 4 ≤ s.size) (hq : 128 ≤ s[0].toNat ∧ s[0].toNat < 192) :
    Calls Tryd.prog 35 #[.string s] w fun e w' => e = .returned (.tuple #[.int .u64 (gn s.data.toList 4 : Nat), .string ⟨(s.data.toList.drop 4).toArray⟩, .int .i64 0]) ∧ ∃ m, w' = w.drewN m := by
  have he := empty_no s (by omega)
  have hq1 := hq.1
  have hq2 := hq.2
  have h0 : 0 < s.size := by omega
  have HD := Lib.hid (drop_part s 4 h1)
  have hb := bk_lt (s.data.toList.take 4)
  have hl : (s.extract 0 4).data.toList.length = 4 := by rw [take_part s 4 h1, List.length_take]; simp; omega
  have HL : Hid ((s.extract 0 4).size ≤ 8) := Lib.hid (by rw [size_len, hl]; omega)
  rw [show (s.data.toList.take 4).length = 4 by rw [← take_part s 4 h1, hl]] at hb
  have HB := Lib.hid hb
  have HG : Hid (gn s.data.toList 4 = bk (s.data.toList.take 4) % 2 ^ 30) := Lib.hid (by unfold gn; rfl)
  clear hl hb hq
  have HC : Hid ((s[0].toNat : Int) / 64 = 2) := Lib.hid (by omega)
  go_enter Tryd.func35, Tryd.ntmps35
  go_wp2_with fail
  rw [HC.out]
  refine (power_any _ _ (by omega) (by omega)).mono ?_
  rintro e w' ⟨rfl, rfl⟩
  rw [show pw 2 = 4 from by decide]
  go_wp2_with fail
  go_quiet ((first | (go_at_call 59; exact Calls.quiet_of_same (rbackQ (s.extract 0 4) _ HL.out)) | (go_at_call 36; exact Calls.quiet_of_same (powerQ_30 _))))
  go_wp2
  go_ret3
  refine ⟨?_, _, rfl⟩
  rw [HG.out, ← HD.out, show ((bk (s.data.toList.take 4) % 2 ^ 30 : Nat) : Int) = (bk (s.data.toList.take 4) : Int) % 1073741824 from rfl]
  rfl
set_option maxHeartbeats 400000 in
theorem rget_short_3 (s : ByteArray) (w : World) (hs : s.size ≤ 9223372036854775807) (h0 : 0 < s.size) (hs1 : s.size < 8) (hq : 192 ≤ s[0].toNat ∧ s[0].toNat < 256) :
    Calls Tryd.prog 35 #[.string s] w fun e w' => e = .returned (.tuple #[.int .u64 0, .string ⟨#[]⟩, .int .i64 10]) ∧ ∃ m, w' = w.drewN m := by
  have he := empty_no s (by omega)
  have hq1 := hq.1
  have hq2 := hq.2
  have HC : Hid ((s[0].toNat : Int) / 64 = 3) := Lib.hid (by omega)
  go_enter Tryd.func35, Tryd.ntmps35
  go_wp2_with fail
  rw [HC.out]
  refine (power_any _ _ (by omega) (by omega)).mono ?_
  rintro e w' ⟨rfl, rfl⟩
  rw [show pw 3 = 8 from by decide]
  go_wp2
  go_ret3
  exact ⟨rfl, 0, rfl⟩
set_option maxHeartbeats 400000 in
theorem rget_ok_3 (s : ByteArray) (w : World) (hs : s.size ≤ 9223372036854775807) (h1 : 8 ≤ s.size) (hq : 192 ≤ s[0].toNat ∧ s[0].toNat < 256) :
    Calls Tryd.prog 35 #[.string s] w fun e w' => e = .returned (.tuple #[.int .u64 (gn s.data.toList 8 : Nat), .string ⟨(s.data.toList.drop 8).toArray⟩, .int .i64 0]) ∧ ∃ m, w' = w.drewN m := by
  have he := empty_no s (by omega)
  have hq1 := hq.1
  have hq2 := hq.2
  have h0 : 0 < s.size := by omega
  have HD := Lib.hid (drop_part s 8 h1)
  have hb := bk_lt (s.data.toList.take 8)
  have hl : (s.extract 0 8).data.toList.length = 8 := by rw [take_part s 8 h1, List.length_take]; simp; omega
  have HL : Hid ((s.extract 0 8).size ≤ 8) := Lib.hid (by rw [size_len, hl]; omega)
  rw [show (s.data.toList.take 8).length = 8 by rw [← take_part s 8 h1, hl]] at hb
  have HB := Lib.hid hb
  have HG : Hid (gn s.data.toList 8 = bk (s.data.toList.take 8) % 2 ^ 62) := Lib.hid (by unfold gn; rfl)
  clear hl hb hq
  have HC : Hid ((s[0].toNat : Int) / 64 = 3) := Lib.hid (by omega)
  go_enter Tryd.func35, Tryd.ntmps35
  go_wp2_with fail
  rw [HC.out]
  refine (power_any _ _ (by omega) (by omega)).mono ?_
  rintro e w' ⟨rfl, rfl⟩
  rw [show pw 3 = 8 from by decide]
  go_wp2_with fail
  go_quiet ((first | (go_at_call 59; exact Calls.quiet_of_same (rbackQ (s.extract 0 8) _ HL.out)) | (go_at_call 36; exact Calls.quiet_of_same (powerQ_62 _))))
  go_wp2
  go_ret3
  refine ⟨?_, _, rfl⟩
  rw [HG.out, ← HD.out, show ((bk (s.data.toList.take 8) % 2 ^ 62 : Nat) : Int) = (bk (s.data.toList.take 8) : Int) % 4611686018427387904 from rfl]
  rfl
end Go.Proofs.YtfeecfdbncjmnaaDoor.Vm
