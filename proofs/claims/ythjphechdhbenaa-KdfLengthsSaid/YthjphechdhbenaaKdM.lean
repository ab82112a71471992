/- Layer 8's plain mathematics: HMAC, HKDF, labels on bytes. -/
import Derived.Test.YthjphechdhbenaaDgL
import Derived.Test.YthjphechdhbenaaVmM
namespace Go.Proofs.Ythjphechdhbenaa.Kd
set_option maxRecDepth 20000
open Go.Proofs.Ythjphechdhbenaa.Dg
open Go.Proofs.Ythjphechdhbenaa.Vm (fx fx_length)

def kl (k : List UInt8) : List UInt8 := if 64 < k.length then sha k else k
def kb (k : List UInt8) : List UInt8 := kl k ++ List.replicate (64 - (kl k).length) 0
def ko (k : List UInt8) : List UInt8 := xorL (kb k) (List.replicate 64 92)
def ki (k : List UInt8) : List UInt8 := xorL (kb k) (List.replicate 64 54)
def hm (O I s : List UInt8) : List UInt8 := sha (O ++ sha (I ++ s))
def mac (k s : List UInt8) : List UInt8 := hm (ko k) (ki k) s
def tk (O I info : List UInt8) : Nat → List UInt8
  | 0 => []
  | i + 1 => hm O I (tk O I info i ++ info ++ fx (i + 1) 1)
def outs (O I info : List UInt8) : Nat → List UInt8
  | 0 => []
  | i + 1 => outs O I info i ++ tk O I info (i + 1)
def exq (O I info : List UInt8) (n : Nat) : List UInt8 := (outs O I info ((n + 31) / 32)).take n
def tls : List UInt8 := [116, 108, 115, 49, 51, 32]
def cnt (s : List UInt8) : List UInt8 := fx s.length 1 ++ s
def inf (label ctx : List UInt8) (n : Nat) : List UInt8 := fx n 2 ++ cnt (tls ++ label) ++ cnt ctx
def lab (O I label ctx : List UInt8) (n : Nat) : List UInt8 := exq O I (inf label ctx n) n
theorem kl_len (k : List UInt8) : (kl k).length ≤ 64 := by
  unfold kl
  split
  · rw [sha_len]; decide
  · omega
theorem kb_len (k : List UInt8) : (kb k).length = 64 := by
  have := kl_len k
  unfold kb
  rw [List.length_append, List.length_replicate]
  omega
theorem ko_len (k : List UInt8) : (ko k).length = 64 := by
  unfold ko
  rw [xorL_len, kb_len, List.length_replicate]
  rfl
theorem ki_len (k : List UInt8) : (ki k).length = 64 := by
  unfold ki
  rw [xorL_len, kb_len, List.length_replicate]
  rfl
theorem hm_len (O I s : List UInt8) : (hm O I s).length = 32 := sha_len _
theorem mac_len (k s : List UInt8) : (mac k s).length = 32 := sha_len _
theorem tk_len (O I info : List UInt8) (i : Nat) : (tk O I info i).length ≤ 32 := by
  cases i with
  | zero => exact Nat.zero_le _
  | succ i => exact Nat.le_of_eq (hm_len _ _ _)
theorem outs_len (O I info : List UInt8) (i : Nat) : (outs O I info i).length = 32 * i := by
  induction i with
  | zero => rfl
  | succ i ih =>
    have h : (tk O I info (i + 1)).length = 32 := hm_len _ _ _
    rw [outs, List.length_append, ih, h]
    omega
theorem exq_len (O I info : List UInt8) (n : Nat) : (exq O I info n).length = n := by
  unfold exq
  rw [List.length_take, outs_len]
  omega
theorem outs_prefix (O I info : List UInt8) (i j : Nat) : (outs O I info (i + j)).take (32 * i) = outs O I info i := by
  induction j with
  | zero => rw [Nat.add_zero, ← outs_len O I info i, List.take_length]
  | succ j ih =>
    rw [← Nat.add_assoc, outs, List.take_append_of_le_length (by rw [outs_len]; omega), ih]
/-- What is expanded further begins by the same bytes. -/
theorem exq_begins (O I info : List UInt8) (n m : Nat) : (exq O I info (n + m)).take n = exq O I info n := by
  unfold exq
  rw [List.take_take, Nat.min_eq_left (by omega)]
  obtain ⟨j, hj⟩ : ∃ j, (n + m + 31) / 32 = (n + 31) / 32 + j := ⟨(n + m + 31) / 32 - (n + 31) / 32, by omega⟩
  have h := outs_prefix O I info ((n + 31) / 32) j
  rw [hj, ← h, List.take_take, Nat.min_eq_left (by omega)]
theorem cnt_len (s : List UInt8) : (cnt s).length = 1 + s.length := by
  unfold cnt
  rw [List.length_append, fx_length]
theorem inf_len (label ctx : List UInt8) (n : Nat) : (inf label ctx n).length = label.length + ctx.length + 10 := by
  unfold inf
  rw [List.length_append, List.length_append, fx_length, cnt_len, cnt_len, List.length_append]
  have : tls.length = 6 := rfl
  omega
theorem lab_len (O I label ctx : List UInt8) (n : Nat) : (lab O I label ctx n).length = n := exq_len _ _ _ _
end Go.Proofs.Ythjphechdhbenaa.Kd
