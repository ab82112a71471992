/- The walks of layer 10: a state's word, connection IDs, what is drawn, by the program and by the document. By hand. -/
import Derived.Test.YtffjnfoleofffaaIdA
import Derived.Test.YtffjnfoleofffaaVmC
import Derived.Test.YtffjnfoleofffaaBld
import Derived.Deep.RegionHeld3
import Derived.Deep.QuietTactic
import Derived.BigQuiet
import Derived.Lib.SmallJoins
namespace Go.Proofs.Ytffjnfoleofffaa.Id
open Go.RowKit
open Vm
set_option linter.unusedVariables false
set_option linter.unusedSimpArgs false

theorem mix_i64 (z : Nat) : (mixN z : Int) ≤ 18446744073709551615 := by have := mix_lt z; omega
theorem ten {b : Nat} {w w' : World} (h : w = w') : Below b w w' := by subst h; exact Below.refl _ _
theorem ret_str {a b : ByteArray} (h : a = b) : Ending.returned (.string a) = .returned (.string b) := by rw [h]
theorem vf8 (m : Nat) (hm : (m : Int) ≤ 18446744073709551615) (W : World) : Calls Try.prog 38 #[.int .u64 m, .int .i64 8] W fun e w' => e = .returned (.string ⟨(fx m 8).toArray⟩) ∧ Below W.heap.size W w' := vfixed m 8 W hm (by decide) (by decide)
theorem rf8 (m : Nat) (hm : (m : Int) ≤ 18446744073709551615) (W : World) : Calls Try.prog 28 #[.int .u64 m, .int .i64 8] W fun e w' => e = .returned (.string ⟨(fx m 8).toArray⟩) ∧ Below W.heap.size W w' := rfixed m 8 W hm (by decide) (by decide)
set_option maxHeartbeats 1000000 in
theorem word_any (d : Nat) (s : Nat) (T : TypeId) (cs : List Value) (w : World) (hd : w.heap[d]? = some (.cells (.int .u64 s :: cs).toArray T (0, 0))) :
    Calls Try.prog 29 #[.pointer (some ⟨d, 0, none⟩)] w fun e w' => e = .returned (.string ⟨(fx (mixN s) 8).toArray⟩) ∧ ∃ w1, Below w.heap.size w w1 ∧ w' = w1.setCell ⟨d, 0, none⟩ (.int .u64 ((s + 1) % 18446744073709551616 : Nat)) := by
  have hlt : d < w.heap.size := (Array.getElem?_eq_some_iff.1 hd).1
  have hc : w.cell? ⟨d, 0, none⟩ = some (.int .u64 s) := by rw [Lib.cell_of_heap hd]; rfl
  have S1 := Lib.hid (sum_lit s 1 1 rfl)
  have C1 := Lib.hid (vf8 (mixN s) (mix_i64 s))
  have HD := Lib.hid hd
  clear hd
  obtain ⟨m, hm⟩ : ∃ m, mixN s = m := ⟨_, rfl⟩
  have C2 := Lib.hid (mix_any s)
  rw [hm] at C1 C2 ⊢
  clear hm
  obtain ⟨S, hS⟩ : ∃ s : ByteArray, ⟨(fx m 8).toArray⟩ = s := ⟨_, rfl⟩
  rw [hS] at C1 ⊢
  clear hS
  go_enter Try.func29, Try.ntmps29
  go_wp2_with fail
  with_reducible refine (C2.out _).mono ?_
  rintro e w1 ⟨rfl, rfl⟩
  go_wp2_with fail
  with_reducible refine (C1.out _).mono ?_
  rintro e w1 ⟨rfl, hb⟩
  have HB := Lib.hid hb
  have HD1 := Lib.hid ((hb.block d hlt).trans HD.out)
  have hc1 : w1.cell? ⟨d, 0, none⟩ = some (.int .u64 s) := by rw [Lib.cell_of_heap HD1.out]; rfl
  have hf1 : w1.frozen? ⟨d, 0, none⟩ = false := Lib.frozen_of_heap HD1.out 0
  clear hb
  go_wp2_with fail
  go_ret
  exact ⟨rfl, w1, HB.out, by rw [S1.out]⟩

set_option maxHeartbeats 1000000 in
theorem id_any (s i : Nat) (w : World) :
    Calls Try.prog 12 #[.int .u64 s, .int .u64 i] w fun e w' => e = .returned (.string ⟨(idN s i).toArray⟩) ∧ Below w.heap.size w w' := by
  have S1 : Hid (IntKind.u64.wrap (IntKind.u64.wrap ((s : Int) + (i : Int)) + 9223372036854775808) = (((s + i + 9223372036854775808) % 18446744073709551616 : Nat) : Int)) := Lib.hid (by
    rw [IntKind.wrap_u64, IntKind.wrap_u64]; omega)
  obtain ⟨k, hk⟩ : ∃ k, (s + i + 9223372036854775808) % 18446744073709551616 = k := ⟨_, rfl⟩
  have hidN : idN s i = fx (mixN k) 8 := by unfold idN; rw [hk]
  rw [hk] at S1
  rw [hidN]
  clear hidN hk
  have C1 : Hid (∀ x : Int, x = (k : Int) → Calls Try.prog 29 #[.pointer (some ⟨w.heap.size, 0, none⟩)] (w.alloc (.cells #[.int .u64 x] 57)) fun e w' => e = .returned (.string ⟨(fx (mixN k) 8).toArray⟩) ∧ Below w.heap.size w w') := Lib.hid (fun x hx => by
    subst hx
    refine (word_any w.heap.size k 57 [] (w.alloc (.cells #[.int .u64 k] 57)) (heap_alloc_new w _)).mono ?_
    rintro e w' ⟨rfl, w1, hb, rfl⟩
    exact ⟨rfl, Below.setCell (((Below.refl _ _).alloc (Nat.le_refl _) _).trans (hb.mono (by simp))) (Nat.le_refl _) _⟩)
  obtain ⟨S, hS⟩ : ∃ s : ByteArray, ⟨(fx (mixN k) 8).toArray⟩ = s := ⟨_, rfl⟩
  rw [hS] at C1 ⊢
  clear hS
  go_enter Try.func12, Try.ntmps12
  go_wp2_with fail
  with_reducible refine (C1.out _ S1.out).mono ?_
  rintro e w1 ⟨rfl, hb⟩
  go_wp2
  go_ret
  exact ⟨rfl, hb⟩
set_option maxHeartbeats 1000000 in
theorem rid_any (s i : Nat) (w : World) :
    Calls Try.prog 13 #[.int .u64 s, .int .u64 i] w fun e w' => e = .returned (.string ⟨(idN s i).toArray⟩) ∧ Below w.heap.size w w' := by
  have S1 : Hid (IntKind.u64.wrap (IntKind.u64.wrap ((s : Int) + (i : Int)) + 9223372036854775808) = (((s + i + 9223372036854775808) % 18446744073709551616 : Nat) : Int)) := Lib.hid (by
    rw [IntKind.wrap_u64, IntKind.wrap_u64]; omega)
  obtain ⟨k, hk⟩ : ∃ k, (s + i + 9223372036854775808) % 18446744073709551616 = k := ⟨_, rfl⟩
  have hidN : idN s i = fx (mixN k) 8 := by unfold idN; rw [hk]
  rw [hk] at S1
  rw [hidN]
  clear hidN hk
  have C1 := Lib.hid (rf8 (mixN k) (mix_i64 k))
  obtain ⟨S, hS⟩ : ∃ s : ByteArray, ⟨(fx (mixN k) 8).toArray⟩ = s := ⟨_, rfl⟩
  rw [hS] at C1 ⊢
  clear hS
  go_enter Try.func13, Try.ntmps13
  go_wp2_with fail
  with_reducible refine (rmixI _ _ _ S1.out).mono ?_
  rintro e w1 ⟨rfl, rfl⟩
  go_wp2_with fail
  with_reducible refine (C1.out _).mono ?_
  rintro e w1 ⟨rfl, hb⟩
  go_wp2
  go_ret
  exact ⟨rfl, hb⟩

theorem drawn_int (n : Int) (hn : 0 ≤ n) : ∃ m : Nat, n = (m : Int) := ⟨n.toNat, by omega⟩
/-- A builder stays one while what lies ahead of it turns. -/
theorem builder_set {w : World} {B b : Nat} {bs : List Value} (h : Lib.IsBuilder 73 5 B b bs w) (d : Nat) (hd : d < B) (v : Value) : Lib.IsBuilder 73 5 B b bs (w.setCell ⟨d, 0, none⟩ v) := by
  have one : ∀ p, Lib.BuilderAt 73 5 B b p bs w → Lib.BuilderAt 73 5 B b p bs (w.setCell ⟨d, 0, none⟩ v) := by
    intro p h
    obtain ⟨hB, u, hbk, hown, hne⟩ := h
    exact ⟨hB, u, by rw [Below.heap_setCell _ _ _ _ (by show b ≠ d; omega)]; exact hbk, ownsRow_setCell_below hown hd _, hne⟩
  rcases h with h | h
  · exact .inl (one _ h)
  · exact .inr (one _ h)
theorem owns_below {w w' : World} {B : Nat} {e : TypeId} {size : Nat} {v : Value} {n : Nat} {xs : List Value} (h : w.ownsRow B e size v n xs) (hb : Below w.heap.size w w') : w'.ownsRow B e size v n xs := by
  refine ⟨h.1, ?_⟩
  rcases h.2 with hn | ⟨g, cap, cur, rfl, hg, hgg, rest⟩
  · exact .inl hn
  · refine .inr ⟨g, cap, cur, rfl, hg, ?_, rest⟩
    have hlt : g < w.heap.size := by
      rcases Nat.lt_or_ge g w.heap.size with h1 | h1
      · exact h1
      · rw [Array.getElem?_eq_none h1] at hgg; cases hgg
    rw [hb.block g hlt]; exact hgg
theorem builder_below {w w' : World} {T e : TypeId} {B b : Nat} {bs : List Value} (h : Lib.IsBuilder T e B b bs w) (hb : Below w.heap.size w w') : Lib.IsBuilder T e B b bs w' := by
  have one : ∀ p, Lib.BuilderAt T e B b p bs w → Lib.BuilderAt T e B b p bs w' := by
    intro p h
    have hlt := h.lt
    obtain ⟨hB, v, hbk, hown, hne⟩ := h
    exact ⟨hB, v, by rw [hb.block b hlt]; exact hbk, owns_below hown hb, hne⟩
  rcases h with h | h
  · exact .inl (one _ h)
  · exact .inr (one _ h)
theorem byteCells_app (a b : List UInt8) : Lib.byteCells (a ++ b) = Lib.byteCells a ++ Lib.byteCells b := by simp [Lib.byteCells]
theorem byteCells_len (a : List UInt8) : (Lib.byteCells a).length = a.length := by simp [Lib.byteCells]
theorem strCells_of (l : List UInt8) : Lib.strCells ⟨l.toArray⟩ = Lib.byteCells l := by
  simp [Lib.strCells, Lib.byteCells]
/-- What a round of the drawing holds. -/
def Drw (d b s n j : Nat) (w wr : World) : Prop :=
  j ≤ n / 8 + 1 ∧ wr.heap[d]? = some (.cells #[.int .u64 ((s + j) % 18446744073709551616 : Nat), .int .i64 n] 59 (0, 0)) ∧ Lib.IsBuilder 73 5 b b (Lib.byteCells (drw s j)) wr ∧ Below d w wr ∧ b ≤ wr.heap.size
theorem Drw.step {d b s n j : Nat} {w wr w1 w2 : World} (h : Drw d b s n j w wr) (hd : d < b) (hn : n ≤ 100000) (hj : 8 * j < n)
    (hb : Below wr.heap.size wr w1) (h1 : Lib.IsBuilder 73 5 b b (Lib.byteCells (drw s j) ++ Lib.strCells ⟨(wrd s j).toArray⟩) w2) (hb2 : Below b (w1.setCell ⟨d, 0, none⟩ (.int .u64 (((s + j) % 18446744073709551616 + 1) % 18446744073709551616 : Nat))) w2) : Drw d b s n (j + 1) w w2 := by
  obtain ⟨hj0, hc, hB, hw, hs⟩ := h
  refine ⟨by omega, ?_, ?_, ?_, ?_⟩
  · have e1 := (hb.block d (by omega)).trans hc
    have e2 := Joins.block_setCell (i := 0) e1 (.int .u64 (((s + j) % 18446744073709551616 + 1) % 18446744073709551616 : Nat))
    rw [hb2.block d hd, e2]
    simp
    omega
  · rw [drw_succ, byteCells_app, ← strCells_of (wrd s j)]
    exact h1
  · exact ((hw.trans (hb.mono (by omega))).setCell (Nat.le_refl _) _).trans (hb2.mono (by omega))
  · have := hb2.size
    have := hb.size
    simp at *
    omega
end Go.Proofs.Ytffjnfoleofffaa.Id
