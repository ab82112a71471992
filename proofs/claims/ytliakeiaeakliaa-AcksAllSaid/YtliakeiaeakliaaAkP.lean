/- Layer 13: the document's Put of an Ack that has one range. By tools/gen-acks-10.py. -/
import Derived.Test.YtliakeiaeakliaaVmF
import Derived.Test.YtliakeiaeakliaaAkG
import Derived.Deep.RegionHeld3
import Derived.Deep.CutRange
import Derived.Deep.QuietTactic
import Derived.BigQuiet
namespace Go.Proofs.Ytliakeiaeakliaa.Rg
set_option maxRecDepth 20000
open Go.RowKit Go.Shelf
set_option linter.unusedVariables false
set_option linter.unusedSimpArgs false

set_option maxHeartbeats 1000000 in
theorem shape_2 (w : World) : Calls Try.prog 31 #[.int .u64 2] w fun e w' => e = .returned (.string ⟨#[101, 115]⟩) ∧ w' = w := by
  go_enter Try.func31, Try.ntmps31
  go_wp2
  go_ret
  exact ⟨rfl, rfl⟩
theorem pt_le8 (n : Nat) (h : n < 4611686018427387904) : (Vm.pt n).length ≤ 8 := by
  rw [Vm.pt_length]
  have := Vm.pl_cases n
  have h4 : Vm.pl n < 4 := by omega
  match hp : Vm.pl n, h4 with
  | 0, _ | 1, _ | 2, _ | 3, _ => decide
set_option maxHeartbeats 1000000 in
theorem v_any (n : Int) (w : World) (h0 : 0 ≤ n) (h1 : n ≤ 4611686018427387903) : Calls Try.prog 25 #[.int .u64 n] w fun e w' => ∃ s : ByteArray, e = .returned (.string s) ∧ s.size ≤ 8 ∧ Below w.heap.size w w' := by
  have CP := Lib.hid (fun w => Vm.rput n w h0)
  have hp4 : Vm.pl n.toNat < 4 := by have := Vm.pl_cases n.toNat; omega
  rw [(Vm.ps_ok hp4).1, (Vm.ps_ok hp4).2] at CP
  have HL := Lib.hid (pt_le8 n.toNat (by omega))
  clear h0 h1
  go_enter Try.func25, Try.ntmps25
  go_wp2_with fail
  refine (CP.out _).mono ?_
  rintro e w1 ⟨rfl, hb⟩
  have HB := Lib.hid hb
  clear hb
  go_wp2
  go_ret
  exact ⟨_, rfl, HL.out, HB.out⟩
set_option maxHeartbeats 1000000 in
theorem in_e (w : World) : Calls Try.prog 32 #[.string ⟨#[101, 115]⟩, .int .u8 101] w fun e w' => e = .returned (.bool true) ∧ w' = w := by
  go_enter Try.func32, Try.ntmps32
  go_wp2
  refine wp_loop_rounds 1 ?_
  rw [rounds_succ]
  go_wp2
  go_ret
  exact ⟨rfl, rfl⟩
set_option maxHeartbeats 1000000 in
theorem in_s (w : World) : Calls Try.prog 32 #[.string ⟨#[101, 115]⟩, .int .u8 115] w fun e w' => e = .returned (.bool true) ∧ w' = w := by
  go_enter Try.func32, Try.ntmps32
  go_wp2
  refine wp_loop_rounds 2 ?_
  rw [rounds_succ]
  go_wp2
  rw [rounds_succ]
  go_wp2
  go_ret
  exact ⟨rfl, rfl⟩
set_option maxHeartbeats 16000000 in
theorem may_ack (b off c : Nat) (N D : Int) (w : World) (hc : 1 ≤ c) (n0 : 0 ≤ N) (n1 : N ≤ 1000000) (d0 : 0 ≤ D) (d1 : D ≤ 1000000) (h0 : w.cell? ⟨b, off, none⟩ = some (.int .u64 0)) (h1 : w.cell? ⟨b, off + 1, none⟩ = some (.int .u64 N)) :
    Calls Try.prog 24 #[.agg #[.int .u64 2, .int .u64 0, .int .u64 0, .int .u64 0, .int .u64 0, .int .u64 0, .int .u64 0, .int .u64 D, .bool false, .string ⟨#[]⟩, .string ⟨#[]⟩, .string ⟨#[]⟩, .slice (some ⟨b, off, none⟩) 1 c]] w fun e w' => e = .returned (.bool true) ∧ Below w.heap.size w w' := by
  have hlt : b < w.heap.size := World.block_lt_of_cell? w _ h0
  have HRD : Hid (Rd w (.slice (some ⟨b, off, none⟩) 1 c) [(0, N)]) := Lib.hid ⟨_, _, rfl, hc, fun _ => ⟨b, off, rfl, fun i hi => by
    obtain rfl : i = 0 := by simpa using hi
    exact ⟨h0, h1⟩⟩⟩
  have CR : Hid (∀ W, Below w.heap.size w W → Calls Try.prog 33 #[.slice (some ⟨b, off, none⟩) 1 c] W fun e w' => e = .returned (.bool true) ∧ Below W.heap.size W w') := Lib.hid (fun W hW => by
    have h := rmay_any (.slice (some ⟨b, off, none⟩) 1 c) [(0, N)] W (by simp) (HRD.out.go hW) (fun x hx => by rw [List.mem_singleton.1 hx]; exact ⟨Int.le_refl _, n0⟩)
    rwa [mayB_yes (Can.may (Can.single ⟨Int.le_refl _, n0, by show N < _; omega⟩))] at h)
  have HH := Lib.hid (And.intro h0 (And.intro h1 hlt))
  have CS := Lib.hid shape_2
  have CE := Lib.hid in_e
  have CI := Lib.hid in_s
  clear h0 h1
  by_cases hd : D = 0
  · subst hd
    go_enter Try.func24, Try.ntmps24
    go_wp2_with fail
    with_reducible refine (CS.out _).mono ?_
    rintro e w1 ⟨rfl, rfl⟩
    go_wp2_with fail
    refine wp_loop_rounds 8 ?_
    rw [rounds_succ]
    go_wp2_with fail
    rw [rounds_succ]
    go_wp2_with fail
    rw [rounds_succ]
    go_wp2_with fail
    rw [rounds_succ]
    go_wp2_with fail
    rw [rounds_succ]
    go_wp2_with fail
    rw [rounds_succ]
    go_wp2_with fail
    rw [rounds_succ]
    go_wp2_with fail
    rw [rounds_succ]
    go_wp2_with fail
    with_reducible refine (CI.out _).mono ?_
    rintro e w3 ⟨rfl, rfl⟩
    go_wp2_with fail
    with_reducible refine (CR.out _ ?_).mono ?_
    · exact ((Below.refl _ w).alloc (Nat.le_refl _) _).alloc (by simp) _
    rintro e w4 ⟨rfl, hb⟩
    have HB : Hid (Below w.heap.size w w4) := Lib.hid ((((Below.refl _ w).alloc (Nat.le_refl _) _).alloc (by simp) _).trans (hb.mono (by simp; omega)))
    have k1 := cell_below HB.out HH.out.2.1 HH.out.2.2
    have k2 : w4.cell? ⟨w.heap.size, 12, none⟩ = some (.slice (some ⟨b, off, none⟩) 1 c) := Lib.cell_of_heap ((hb.block w.heap.size (by simp; omega)).trans ((Below.heap_alloc _ _ w.heap.size (by simp)).trans (heap_alloc_new w _))) 12
    have hNm : N ≤ 4611686018427387903 := by omega
    clear hb
    go_wp2_with fail
    go_ret
    exact ⟨rfl, HB.out⟩
  · have hdb : (D == 0) = false := beq_eq_false_iff_ne.2 hd
    have hdm : ¬ 4611686018427387903 < D := by omega
    go_enter Try.func24, Try.ntmps24
    go_wp2_with fail
    with_reducible refine (CS.out _).mono ?_
    rintro e w1 ⟨rfl, rfl⟩
    go_wp2_with fail
    refine wp_loop_rounds 8 ?_
    rw [rounds_succ]
    go_wp2_with fail
    rw [rounds_succ]
    go_wp2_with fail
    rw [rounds_succ]
    go_wp2_with fail
    rw [rounds_succ]
    go_wp2_with fail
    rw [rounds_succ]
    go_wp2_with fail
    rw [rounds_succ]
    go_wp2_with fail
    rw [rounds_succ]
    go_wp2_with fail
    refine (CE.out _).mono ?_
    rintro e w2 ⟨rfl, rfl⟩
    go_wp2_with fail
    rw [rounds_succ]
    go_wp2_with fail
    with_reducible refine (CI.out _).mono ?_
    rintro e w3 ⟨rfl, rfl⟩
    go_wp2_with fail
    with_reducible refine (CR.out _ ?_).mono ?_
    · exact ((Below.refl _ w).alloc (Nat.le_refl _) _).alloc (by simp) _
    rintro e w4 ⟨rfl, hb⟩
    have HB : Hid (Below w.heap.size w w4) := Lib.hid ((((Below.refl _ w).alloc (Nat.le_refl _) _).alloc (by simp) _).trans (hb.mono (by simp; omega)))
    have k1 := cell_below HB.out HH.out.2.1 HH.out.2.2
    have k2 : w4.cell? ⟨w.heap.size, 12, none⟩ = some (.slice (some ⟨b, off, none⟩) 1 c) := Lib.cell_of_heap ((hb.block w.heap.size (by simp; omega)).trans ((Below.heap_alloc _ _ w.heap.size (by simp)).trans (heap_alloc_new w _))) 12
    have hNm : N ≤ 4611686018427387903 := by omega
    clear hb
    go_wp2_with fail
    go_ret
    exact ⟨rfl, HB.out⟩
end Go.Proofs.Ytliakeiaeakliaa.Rg
