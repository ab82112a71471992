/- The walks of layer 8: the document's Extract, of, Of, Next, Shared, Reset. -/
import Derived.Test.YthjphechdhbenaaKdU
namespace Go.Proofs.Ythjphechdhbenaa.Kd
set_option maxRecDepth 20000
open Go.RowKit
open Go.Proofs.Ythjphechdhbenaa.Dg
open Go.Proofs.Ythjphechdhbenaa.Vm (fx fx_length vfixed)
set_option linter.unusedVariables false
set_option linter.unusedSimpArgs false

set_option maxHeartbeats 4000000 in
theorem extract_ref (k l : List UInt8) (w : World) (hk : k.length ≤ 100000) (hl : l.length ≤ 50000) :
    Calls Try.prog 20 #[.string ⟨k.toArray⟩, .string ⟨l.toArray⟩] w fun e w' => e = .returned (.string ⟨(mac k l).toArray⟩) ∧ Below w.heap.size w w' := by
  by_cases h0 : k = []
  · subst h0
    obtain ⟨r0, hr0⟩ : ∃ r0, List.replicate 32 (0 : UInt8) = r0 := ⟨_, rfl⟩
    obtain ⟨i0, hi0, hz0, hz1, hz2⟩ := info_parts Bld.infoB
    obtain ⟨w1, hrun0, r1, r2⟩ := run_make_full (P := Try.prog) w w.heap.size 60 5 i0 (.int .u8 0) 1 Try.underlying60 hi0 hz0 hz1 .i64 .i64 32 (by rw [hz2]; decide) (by decide) (Nat.le_refl _)
    have hrun : (Instr.makeSlice 60 (.int .i64 32) (.int .i64 32)).run Try.prog w = .ok (.slice (some ⟨w.heap.size, 0, none⟩) 32 32) w1 := hrun0
    have hc : (convert 60 9 (.slice (some ⟨w.heap.size, 0, none⟩) 32 32)).run Try.prog w1 = .ok (.string ⟨r0.toArray⟩) w1 := conv_owned (B := w.heap.size) r0 (by
      rw [← hr0]
      have e : (madeCells (Value.int IntKind.u8 0).cells (32 * 1)).toList = List.map (fun b : UInt8 => Value.int IntKind.u8 (b.toNat : Int)) (List.replicate 32 0) := (toList_madeCells_one _ _).trans rfl
      rw [e] at r1
      exact r1)
    have HBM : Hid (Below w.heap.size w w1) := Lib.hid ⟨r2.os, r2.tape, r2.output, r2.size, fun k hk => r2.block k hk (by simp)⟩
    have CM : Hid (∀ W : World, Calls Try.prog 18 #[.string ⟨r0.toArray⟩, .string ⟨l.toArray⟩] W fun e w' => e = .returned (.string ⟨(mac [] l).toArray⟩) ∧ Below W.heap.size W w') := Lib.hid (fun W => by
      have h := mac_ref r0 l W (by rw [← hr0]; decide) hl
      rw [← hr0, mac_zero, hr0] at h
      exact h)
    generalize mac [] l = M at *
    clear hr0 r1 r2 hrun0 hi0 hz0 hz1 hz2
    show Calls Try.prog 20 #[.string ⟨#[]⟩, .string ⟨l.toArray⟩] w _
    go_enter Try.func20, Try.ntmps20
    go_wp2_with fail
    with_reducible refine (CM.out _).mono ?_
    rintro e w2 ⟨rfl, hb⟩
    have HB1 := Lib.hid (HBM.out.trans (hb.mono HBM.out.size))
    clear hb
    go_wp2
    go_ret
    exact ⟨rfl, HB1.out⟩
  · have hemp : k.isEmpty = false := by simpa using h0
    have CM := Lib.hid (fun W => mac_ref k l W hk hl)
    generalize mac k l = M at *
    go_enter Try.func20, Try.ntmps20
    go_wp2_with fail
    with_reducible refine (CM.out _).mono ?_
    rintro e w1 ⟨rfl, hb⟩
    have HB1 := Lib.hid hb
    clear hb
    go_wp2
    go_ret
    exact ⟨rfl, HB1.out⟩
set_option maxHeartbeats 2000000 in
theorem of_ref (k label ctx : List UInt8) (n : Nat) (w : World) (hk : k.length ≤ 100000) (hl : label.length ≤ 249) (hc : ctx.length ≤ 255) (hn : n ≤ 8160) :
    Calls Try.prog 50 #[.string ⟨k.toArray⟩, .string ⟨label.toArray⟩, .string ⟨ctx.toArray⟩, .int .i64 n] w fun e w' => e = .returned (.string ⟨(lab (ko k) (ki k) label ctx n).toArray⟩) ∧ Below w.heap.size w w' := by
  have CL := Lib.hid (fun W => label_ref k label ctx n W hk (by omega) (by omega))
  rw [lbP_yes k label ctx n hn hl hc] at CL
  generalize lab (ko k) (ki k) label ctx n = X at *
  go_enter Try.func50, Try.ntmps50
  go_wp2_with fail
  with_reducible refine (CL.out _).mono ?_
  rintro e w1 ⟨rfl, hb⟩
  have HB1 := Lib.hid hb
  clear hb
  go_wp2
  go_ret
  exact ⟨rfl, HB1.out⟩
theorem inf_keysr : (Try.prog.info? 40).map (·.size) = some 3 := by kernel_rfl
set_option maxHeartbeats 4000000 in
theorem ofs_ref (k : List UInt8) (w : World) (hk : k.length ≤ 100000) :
    Calls Try.prog 28 #[.string ⟨k.toArray⟩] w fun e w' => e = .returned (.agg #[.string ⟨(kKey k).toArray⟩, .string ⟨(kIv k).toArray⟩, .string ⟨(kMask k).toArray⟩]) ∧ Below w.heap.size w w' := by
  have L1 : Hid (∀ W : World, Calls Try.prog 50 #[.string ⟨k.toArray⟩, .string ⟨#[113, 117, 105, 99, 32, 107, 101, 121]⟩, .string ⟨#[]⟩, .int .i64 32] W fun e w' => e = .returned (.string ⟨(kKey k).toArray⟩) ∧ Below W.heap.size W w') := Lib.hid (fun W => of_ref k [113, 117, 105, 99, 32, 107, 101, 121] [] 32 W hk (by decide) (by decide) (by decide))
  have L2 : Hid (∀ W : World, Calls Try.prog 50 #[.string ⟨k.toArray⟩, .string ⟨#[113, 117, 105, 99, 32, 105, 118]⟩, .string ⟨#[]⟩, .int .i64 12] W fun e w' => e = .returned (.string ⟨(kIv k).toArray⟩) ∧ Below W.heap.size W w') := Lib.hid (fun W => of_ref k [113, 117, 105, 99, 32, 105, 118] [] 12 W hk (by decide) (by decide) (by decide))
  have L3 : Hid (∀ W : World, Calls Try.prog 50 #[.string ⟨k.toArray⟩, .string ⟨#[113, 117, 105, 99, 32, 104, 112]⟩, .string ⟨#[]⟩, .int .i64 32] W fun e w' => e = .returned (.string ⟨(kMask k).toArray⟩) ∧ Below W.heap.size W w') := Lib.hid (fun W => of_ref k [113, 117, 105, 99, 32, 104, 112] [] 32 W hk (by decide) (by decide) (by decide))
  generalize kKey k = K1 at *
  generalize kIv k = K2 at *
  generalize kMask k = K3 at *
  go_enter Try.func28, Try.ntmps28
  go_wp2_with fail
  with_reducible refine (L1.out _).mono ?_
  rintro e w1 ⟨rfl, hb⟩
  have HZ1 : Hid (w1.heap[w.heap.size]? = some (.cells #[.string ⟨#[]⟩, .string ⟨#[]⟩, .string ⟨#[]⟩] 40 (0, 0))) := Lib.hid ((hb.block w.heap.size (by simp)).trans (heap_alloc_new w _))
  have HB1 := Lib.hid (((Below.refl w.heap.size w).alloc (Nat.le_refl _) (.cells #[.string ⟨#[]⟩, .string ⟨#[]⟩, .string ⟨#[]⟩] 40)).trans (hb.mono (by simp)))
  have hlt1 : w.heap.size < w1.heap.size := by have := hb.size; simp at this; omega
  clear hb
  go_wp2_with fail
  with_reducible refine (L2.out _).mono ?_
  rintro e w2 ⟨rfl, hb⟩
  have HZ2 := Lib.hid ((hb.block w.heap.size hlt1).trans HZ1.out)
  have HB2 := Lib.hid (HB1.out.trans (hb.mono HB1.out.size))
  have hlt2 : w.heap.size < w2.heap.size := Nat.lt_of_lt_of_le hlt1 hb.size
  clear hb
  go_wp2_with fail
  with_reducible refine (L3.out _).mono ?_
  rintro e w3 ⟨rfl, hb⟩
  have HZ3 := Lib.hid ((hb.block w.heap.size hlt2).trans HZ2.out)
  have HB3 := Lib.hid (HB2.out.trans (hb.mono HB2.out.size))
  have hz0 : w3.cell? ⟨w.heap.size, 0, none⟩ = some (.string ⟨#[]⟩) := by rw [Lib.cell_of_heap HZ3.out]; rfl
  have hz1 : w3.cell? ⟨w.heap.size, 1, none⟩ = some (.string ⟨#[]⟩) := by rw [Lib.cell_of_heap HZ3.out]; rfl
  have hz2 : w3.cell? ⟨w.heap.size, 2, none⟩ = some (.string ⟨#[]⟩) := by rw [Lib.cell_of_heap HZ3.out]; rfl
  have hf : ∀ j, w3.frozen? ⟨w.heap.size, j, none⟩ = false := fun j => Lib.frozen_of_heap HZ3.out j
  clear hb
  go_wp2_with fail
  exact bodyPost_ret (v := .agg #[.string ⟨K1.toArray⟩, .string ⟨K2.toArray⟩, .string ⟨K3.toArray⟩]) (results_cell_row Try.results28 _ _ w.heap.size _ _ _ _ rfl (three_put HZ3.out) Try.underlying40 rfl inf_keysr) rfl ⟨rfl, below_put (below_put (below_put HB3.out (Nat.le_refl _) _ _) (Nat.le_refl _) _ _) (Nat.le_refl _) _ _⟩
set_option maxHeartbeats 2000000 in
theorem next_ref (k : List UInt8) (w : World) (hk : k.length ≤ 100000) :
    Calls Try.prog 30 #[.string ⟨k.toArray⟩] w fun e w' => e = .returned (.string ⟨(nxt k).toArray⟩) ∧ Below w.heap.size w w' := by
  have L1 : Hid (∀ W : World, Calls Try.prog 50 #[.string ⟨k.toArray⟩, .string ⟨#[113, 117, 105, 99, 32, 107, 117]⟩, .string ⟨#[]⟩, .int .i64 32] W fun e w' => e = .returned (.string ⟨(nxt k).toArray⟩) ∧ Below W.heap.size W w') := Lib.hid (fun W => of_ref k [113, 117, 105, 99, 32, 107, 117] [] 32 W hk (by decide) (by decide) (by decide))
  generalize nxt k = X at *
  go_enter Try.func30, Try.ntmps30
  go_wp2_with fail
  with_reducible refine (L1.out _).mono ?_
  rintro e w1 ⟨rfl, hb⟩
  have HB1 := Lib.hid hb
  clear hb
  go_wp2
  go_ret
  exact ⟨rfl, HB1.out⟩
set_option maxHeartbeats 2000000 in
theorem reset_ref (k s : List UInt8) (w : World) (hk : k.length ≤ 100000) (hs : s.length ≤ 50000) :
    Calls Try.prog 32 #[.string ⟨k.toArray⟩, .string ⟨s.toArray⟩] w fun e w' => e = .returned (.string ⟨((mac k s).take 16).toArray⟩) ∧ Below w.heap.size w w' := by
  have C1 := Lib.hid (fun W => mac_ref k s W hk hs)
  have hm : (mac k s).length = 32 := mac_len k s
  generalize mac k s = M at *
  obtain ⟨m, hmm⟩ : ∃ m : ByteArray, ⟨M.toArray⟩ = m := ⟨_, rfl⟩
  have hsz : m.size = 32 := by rw [← hmm]; exact hm
  have HX : Hid (m.extract 0 16 = ⟨(M.take 16).toArray⟩) := Lib.hid (by rw [← hmm]; exact sv_to M 16)
  rw [hmm] at C1
  rw [← HX.out]
  clear hmm
  go_enter Try.func32, Try.ntmps32
  go_wp2_with fail
  with_reducible refine (C1.out _).mono ?_
  rintro e w1 ⟨rfl, hb⟩
  have HB1 := Lib.hid hb
  clear hb
  go_wp2
  go_ret
  exact ⟨rfl, HB1.out⟩
set_option maxHeartbeats 4000000 in
theorem shared_ref (psk client server : List UInt8) (w : World) (h1 : psk.length ≤ 10000) (h2 : client.length ≤ 10000) (h3 : server.length ≤ 10000) :
    Calls Try.prog 26 #[.string ⟨psk.toArray⟩, .string ⟨client.toArray⟩, .string ⟨server.toArray⟩] w fun e w' => e = .returned (.tuple #[.string ⟨(shc psk client server).toArray⟩, .string ⟨(shv psk client server).toArray⟩]) ∧ Below w.heap.size w w' := by
  have hsl : (shs psk).length = 32 := mac_len _ _
  have hcl : (sha (client ++ server)).length = 32 := sha_len _
  have CE : Hid (∀ W : World, Calls Try.prog 20 #[.string ⟨#[100, 111, 109, 105, 110, 111]⟩, .string ⟨psk.toArray⟩] W fun e w' => e = .returned (.string ⟨(shs psk).toArray⟩) ∧ Below W.heap.size W w') := Lib.hid (fun W => extract_ref [100, 111, 109, 105, 110, 111] psk W (by decide) (by omega))
  have CS : Hid (∀ W : World, Calls Try.prog 13 #[.string ⟨(client ++ server).toArray⟩] W fun e w' => e = .returned (.string ⟨(sha (client ++ server)).toArray⟩) ∧ Below W.heap.size W w') := Lib.hid (fun W => sum_ref ⟨(client ++ server).toArray⟩ W (by show (client ++ server).length ≤ _; rw [List.length_append]; omega))
  have hcat : (⟨client.toArray⟩ : ByteArray) ++ ⟨server.toArray⟩ = ⟨(client ++ server).toArray⟩ := app_two _ _
  have z1 : (⟨client.toArray⟩ : ByteArray).size = client.length := rfl
  have z2 : (⟨server.toArray⟩ : ByteArray).size = server.length := rfl
  have g1 : ¬ 9223372036854775807 < client.length + server.length := by omega
  have L1 : Hid (∀ W : World, Calls Try.prog 50 #[.string ⟨(shs psk).toArray⟩, .string ⟨#[99, 108, 105, 101, 110, 116]⟩, .string ⟨(sha (client ++ server)).toArray⟩, .int .i64 32] W fun e w' => e = .returned (.string ⟨(shc psk client server).toArray⟩) ∧ Below W.heap.size W w') := Lib.hid (fun W => of_ref (shs psk) [99, 108, 105, 101, 110, 116] (sha (client ++ server)) 32 W (by omega) (by decide) (by omega) (by decide))
  have L2 : Hid (∀ W : World, Calls Try.prog 50 #[.string ⟨(shs psk).toArray⟩, .string ⟨#[115, 101, 114, 118, 101, 114]⟩, .string ⟨(sha (client ++ server)).toArray⟩, .int .i64 32] W fun e w' => e = .returned (.string ⟨(shv psk client server).toArray⟩) ∧ Below W.heap.size W w') := Lib.hid (fun W => of_ref (shs psk) [115, 101, 114, 118, 101, 114] (sha (client ++ server)) 32 W (by omega) (by decide) (by omega) (by decide))
  generalize shc psk client server = R1 at *
  generalize shv psk client server = R2 at *
  generalize shs psk = SS at *
  generalize sha (client ++ server) = CX at *
  generalize client ++ server = CV at *
  clear hsl hcl
  go_enter Try.func26, Try.ntmps26
  go_wp2_with fail
  with_reducible refine (CE.out _).mono ?_
  rintro e w1 ⟨rfl, hb⟩
  have HB1 := Lib.hid hb
  clear hb
  go_wp2_with fail
  with_reducible refine (CS.out _).mono ?_
  rintro e w2 ⟨rfl, hb⟩
  have HB2 := Lib.hid (HB1.out.trans (hb.mono HB1.out.size))
  clear hb
  go_wp2_with fail
  with_reducible refine (L1.out _).mono ?_
  rintro e w3 ⟨rfl, hb⟩
  have HB3 := Lib.hid (HB2.out.trans (hb.mono HB2.out.size))
  clear hb
  go_wp2_with fail
  with_reducible refine (L2.out _).mono ?_
  rintro e w4 ⟨rfl, hb⟩
  have HB4 := Lib.hid (HB3.out.trans (hb.mono HB3.out.size))
  clear hb
  go_wp2
  go_ret2
  exact ⟨rfl, HB4.out⟩
end Go.Proofs.Ythjphechdhbenaa.Kd
