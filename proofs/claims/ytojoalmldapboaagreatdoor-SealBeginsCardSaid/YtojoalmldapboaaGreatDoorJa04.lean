/- The walks of layer 9: a text cut, or filled up; four bytes as a number; the words of a key and a nonce · A range over an iterator that keeps memory of its own: the contract of an iterator, with the blocks that are its own, and the law of the statement. -/
import Derived.Test.YtojoalmldapboaaGreatDoorJa01
import Derived.Test.YtojoalmldapboaaGreatDoorJa03
import Derived.Laws.IdiomStrings
import Derived.RangeFuncNested
import Derived.RangeFuncBound
import Derived.RangeFuncLeaves
import Derived.WalkKit
import Derived.Test.YtojoalmldapboaaGreatDoorProg
namespace Go.Proofs.YtojoalmldapboaaGreatDoor.Se
set_option maxRecDepth 20000
open Go.RowKit Vm Dg
set_option linter.unusedVariables false
set_option linter.unusedSimpArgs false

/-- A text cut, or filled up with bytes 0, to so many bytes. -/
def fit (s : List UInt8) (n : Nat) : List UInt8 := if n ≤ s.length then s.take n else s ++ List.replicate (n - s.length) 0
theorem fit_len (s : List UInt8) (n : Nat) : (fit s n).length = n := by
  unfold fit
  split
  · rw [List.length_take]; omega
  · rw [List.length_append, List.length_replicate]; omega
theorem fit_get (s : List UInt8) (n j : Nat) (hj : j < n) : (fit s n).getD j 0 = s.getD j 0 := by
  unfold fit
  split
  · rename_i h
    rw [List.getD_eq_getElem?_getD, List.getD_eq_getElem?_getD, List.getElem?_take_of_lt hj]
  · rename_i h
    rw [List.getD_eq_getElem?_getD, List.getD_eq_getElem?_getD]
    by_cases hs : j < s.length
    · rw [List.getElem?_append_left hs]
    · rw [List.getElem?_append_right (by omega), List.getElem?_replicate, if_pos (by omega), List.getElem?_eq_none (by omega)]
      rfl
theorem gl (a b : List UInt8) (j : Nat) (h : j < a.length) : (a ++ b).getD j 0 = a.getD j 0 := by
  rw [List.getD_eq_getElem?_getD, List.getD_eq_getElem?_getD, List.getElem?_append_left h]
theorem gr (a b : List UInt8) (j : Nat) (h : a.length ≤ j) : (a ++ b).getD j 0 = b.getD (j - a.length) 0 := by
  rw [List.getD_eq_getElem?_getD, List.getD_eq_getElem?_getD, List.getElem?_append_right h]
/-- What stands ahead of each key. -/
def beg : List UInt8 := [101, 120, 112, 97, 110, 100, 32, 51, 50, 45, 98, 121, 116, 101, 32, 107]
def txt (key nonce : List UInt8) : List UInt8 := ((beg ++ fit key 32) ++ fit [] 4) ++ fit nonce 12
theorem txt_len (key nonce : List UInt8) : (txt key nonce).length = 64 := by
  unfold txt
  rw [List.length_append, List.length_append, List.length_append, fit_len, fit_len, fit_len]
  rfl
theorem txt_get (key nonce : List UInt8) (j : Nat) (hj : j < 64) : (txt key nonce).getD j 0 = if j < 16 then beg.getD j 0 else if j < 48 then key.getD (j - 16) 0 else if j < 52 then 0 else nonce.getD (j - 52) 0 := by
  unfold txt
  have l0 : beg.length = 16 := rfl
  have l1 := fit_len key 32
  have l2 := fit_len [] 4
  have l3 := fit_len nonce 12
  by_cases h1 : j < 16
  · rw [if_pos h1, gl _ _ _ (by simp [l0, l1, l2]; omega), gl _ _ _ (by simp [l0, l1]; omega), gl _ _ _ (by omega)]
  · rw [if_neg h1]
    by_cases h2 : j < 48
    · rw [if_pos h2, gl _ _ _ (by simp [l0, l1, l2]; omega), gl _ _ _ (by simp [l0, l1]; omega), gr _ _ _ (by omega), l0, fit_get _ _ _ (by omega)]
    · rw [if_neg h2]
      by_cases h3 : j < 52
      · rw [if_pos h3, gl _ _ _ (by simp [l0, l1, l2]; omega), gr _ _ _ (by simp [l0, l1]; omega), fit_get _ _ _ (by simp [l0, l1]; omega)]
        try simp
      · rw [if_neg h3, gr _ _ _ (by simp [l0, l1, l2]; omega), fit_get _ _ _ (by simp [l0, l1, l2]; omega)]
        congr 1
        simp [l0, l1, l2]
        try omega
/-- The words of a key and a nonce. -/
theorem txt_words (key nonce : List UInt8) : (List.range 16).map (lw (txt key nonce)) = ini key nonce 0 := by
  have g := txt_get key nonce
  have e : ∀ i, i < 16 → lw (txt key nonce) i = (ini key nonce 0).getD i 0 := by
    intro i hi
    have h : i = 0 ∨ i = 1 ∨ i = 2 ∨ i = 3 ∨ i = 4 ∨ i = 5 ∨ i = 6 ∨ i = 7 ∨ i = 8 ∨ i = 9 ∨ i = 10 ∨ i = 11 ∨ i = 12 ∨ i = 13 ∨ i = 14 ∨ i = 15 := by omega
    unfold lw
    rw [g _ (by omega), g _ (by omega), g _ (by omega), g _ (by omega)]
    rcases h with rfl | rfl | rfl | rfl | rfl | rfl | rfl | rfl | rfl | rfl | rfl | rfl | rfl | rfl | rfl | rfl <;> first | (simp [ini, lw, beg]; done) | decide
  apply List.ext_getElem
  · simp [ini]
  · intro i h1 h2
    have hi : i < 16 := by simpa using h1
    rw [List.getElem_map, List.getElem_range, e i hi, List.getD_eq_getElem?_getD, List.getElem?_eq_getElem h2]
    rfl
/-- What the last k of four bytes tell. -/
def nb (s : List UInt8) : Nat → Nat
  | 0 => 0
  | k + 1 => nb s k * 256 + (s.getD (3 - k) 0).toNat
theorem nb_lt (s : List UInt8) (k : Nat) : nb s k < 256 ^ k := by
  induction k with
  | zero => simp [nb]
  | succ k ih =>
    have := (s.getD (3 - k) 0).toNat_lt
    simp only [nb, Nat.pow_succ]
    omega
theorem nb_four (s : List UInt8) : nb s 4 = lw s 0 := by
  simp [nb, lw]
  omega
theorem nb_step (s : ByteArray) (k j : Nat) (hk : k < 4) (hj : j = 3 - k) (hlt : j < s.size) : bits .or .u32 (((nb s.data.toList k : Nat) : Int) * 256 % 4294967296) ((s[j].toNat : Int) % 4294967296) = ((nb s.data.toList (k + 1) : Nat) : Int) := by
  have h1 := nb_lt s.data.toList k
  have h2 : 256 ^ k ≤ 256 ^ 3 := Nat.pow_le_pow_right (by decide) (by omega)
  have h3 := s[j].toNat_lt
  have e : (((nb s.data.toList k : Nat) : Int) * 256) % 4294967296 = ((nb s.data.toList k * 2 ^ 8 : Nat) : Int) := by omega
  have e2 : (s[j].toNat : Int) % 4294967296 = (s[j].toNat : Int) := by omega
  have e3 : s.data.toList.getD (3 - k) 0 = s[j] := by
    subst hj
    have : 3 - k < s.data.toList.length := by simpa using hlt
    simp [List.getD, List.getElem?_eq_getElem this]
    rfl
  rw [e, e2, or32 _ _ (by omega) (by omega), or_add _ _ _ (by omega)]
  simp only [nb, e3]
set_option maxHeartbeats 2000000 in
theorem number_any (s : ByteArray) (w : World) (hs : s.size = 4) : Calls Tryz.prog 71 #[.string s] w fun e w' => e = .returned (.int .u32 (lw s.data.toList 0 : Nat)) ∧ w' = w := by
  have hsI : (s.size : Int) = 4 := by omega
  go_enter Tryz.func71, Tryz.ntmps71
  go_wp2
  go_loopw [3, 4] (fun nv iv wr => ∃ k : Nat, k ≤ 4 ∧ iv = .int .i64 (3 - (k : Int)) ∧ nv = .int .u32 (nb s.data.toList k : Nat) ∧ wr = w) (fun _ iv _ => (intOf iv + 1).toNat)
  case atStart => exact ⟨0, by omega, by simp [hs], rfl, rfl⟩
  case round =>
    obtain ⟨k, hk, rfl, rfl, rfl⟩ := hrel
    by_cases hlt : k < 4
    · obtain ⟨j, hj⟩ : ∃ j, 3 - k = j := ⟨_, rfl⟩
      have hjs : j < s.size := by omega
      have hji : (3 : Int) - (k : Int) = (j : Int) := by omega
      have HS := Lib.hid (nb_step s k j hlt hj.symm hjs)
      have p1 := HS.out
      have HK := Lib.hid (And.intro hlt hj)
      rw [hji]
      clear hlt hj hji HS
      go_wp2
      go_roundw
      case rel => exact ⟨k + 1, by have := HK.out; omega, by have := HK.out; push_cast; congr 1; omega, rfl, by first | rfl | trivial⟩
      case measure => have := HK.out; simp only [intOf]; omega
    · have hk4 : k = 4 := by omega
      subst hk4
      have h4 : ((3 : Int) - ((4 : Nat) : Int)) = -1 := by omega
      rw [h4]
      have h5 := nb_four s.data.toList
      go_wp2
      go_ret
      rw [h5]
      exact ⟨rfl, rfl⟩
end Go.Proofs.YtojoalmldapboaaGreatDoor.Se
namespace Go.Proofs.YtojoalmldapboaaGreatDoor.It
set_option maxRecDepth 20000
open Go.RowKit
set_option linter.unusedVariables false

/-- Blocks of O may have turned, others not; new ones may have come. -/
structure Only (O : Nat → Prop) (A B : World) : Prop where
  os : B.os = A.os
  tape : B.tape = A.tape
  output : B.output = A.output
  size : A.heap.size ≤ B.heap.size
  block : ∀ k, k < A.heap.size → ¬ O k → B.heap[k]? = A.heap[k]?

theorem Only.refl (O : Nat → Prop) (A : World) : Only O A A := ⟨rfl, rfl, rfl, Nat.le_refl _, fun _ _ _ => rfl⟩
theorem Only.mono {O O' : Nat → Prop} {A B : World} (h : Only O A B) (ho : ∀ k, O k → O' k) : Only O' A B := ⟨h.os, h.tape, h.output, h.size, fun k hk hn => h.block k hk (fun h' => hn (ho k h'))⟩
theorem Only.trans {O : Nat → Prop} {A B C : World} (h : Only O A B) (k : Only O B C) : Only O A C :=
  ⟨k.os.trans h.os, k.tape.trans h.tape, k.output.trans h.output, Nat.le_trans h.size k.size, fun i hi hn => (k.block i (Nat.lt_of_lt_of_le hi h.size) hn).trans (h.block i hi hn)⟩
theorem Only.alloc (O : Nat → Prop) (A : World) (o : Obj) : Only O A (A.alloc o) := ⟨rfl, rfl, rfl, by simp, fun k hk _ => Below.heap_alloc A o k hk⟩
theorem Only.setCell {O : Nat → Prop} {p : Addr} (hl : O p.block) (A : World) (v : Value) : Only O A (A.setCell p v) :=
  ⟨rfl, rfl, rfl, by simp [World.setCell], fun k hk hn => Below.heap_setCell A p v k (fun e => hn (by rw [e]; exact hl))⟩
theorem Only.drew (O : Nat → Prop) (A : World) : Only O A A.drew := ⟨rfl, rfl, rfl, Nat.le_refl _, fun _ _ _ => rfl⟩
theorem Only.of_all {A B : World} (h : Below A.heap.size A B) (O : Nat → Prop) : Only O A B :=
  ⟨h.os, h.tape, h.output, h.size, fun k hk _ => h.block k hk⟩
theorem Only.below {O : Nat → Prop} {A B : World} {n : Nat} (h : Only O A B) (hn : n ≤ A.heap.size) (ho : ∀ k, O k → n ≤ k) : Below n A B :=
  ⟨h.os, h.tape, h.output, h.size, fun k hk => h.block k (Nat.lt_of_lt_of_le hk hn) (fun e => by have := ho k e; omega)⟩
theorem Only.heap {O : Nat → Prop} {A B : World} (h : Only O A B) {k : Nat} {o : Obj} (hk : A.heap[k]? = some o) (hn : ¬ O k) : B.heap[k]? = some o :=
  (h.block k (Array.getElem?_eq_some_iff.1 hk).1 hn).trans hk
theorem Only.cell {O : Nat → Prop} {A B : World} (h : Only O A B) {a : Addr} {v : Value} (hv : A.cell? a = some v) (hn : ¬ O a.block) : B.cell? a = some v :=
  (World.cell?_of_block (h.block a.block (World.block_lt_of_cell? A a hv) hn)).trans hv

end Go.Proofs.YtojoalmldapboaaGreatDoor.It
