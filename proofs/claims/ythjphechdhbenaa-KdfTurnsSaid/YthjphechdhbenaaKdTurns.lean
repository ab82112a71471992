/- The law KdfTurns, walked. By tools/gen-kdf-laws.py. -/
import Derived.Test.YthjphechdhbenaaKdV
import Derived.Test.YthjphechdhbenaaKdBegins
namespace Go.Proofs.Ythjphechdhbenaa.Kd
set_option maxRecDepth 20000
open Go.RowKit
open Go.Proofs.Ythjphechdhbenaa.Dg
set_option linter.unusedVariables false
set_option linter.unusedSimpArgs false

set_option maxHeartbeats 8000000 in
theorem turns_law (psk said : List UInt8) (turns : Int) (w : World) (h0 : 0 ≤ turns) (h1 : turns ≤ 255) :
    Calls Try.prog 9 #[.string ⟨psk.toArray⟩, .string ⟨said.toArray⟩, .int .u8 turns] w fun e w' => e = .returned (.bool true) ∧ Below w.heap.size w w' := by
  obtain ⟨pskS, hpskS⟩ : ∃ s : ByteArray, ⟨psk.toArray⟩ = s := ⟨_, rfl⟩
  have zpsk : pskS.size = psk.length := by rw [← hpskS]; rfl
  obtain ⟨saidS, hsaidS⟩ : ∃ s : ByteArray, ⟨said.toArray⟩ = s := ⟨_, rfl⟩
  have zsaid : saidS.size = said.length := by rw [← hsaidS]; rfl
  rw [hpskS, hsaidS]
  by_cases hc0 : psk.length ≤ 100
  · have hi0 : (psk.length : Int) ≤ 100 := by omega
    by_cases hc1 : said.length ≤ 100
    · have hi1 : (said.length : Int) ≤ 100 := by omega
      have C1 := Lib.hid (fun W => shared_any psk said [] W (by omega) (by omega) (by decide))
      have C2 := Lib.hid (fun W => shared_any psk [] said W (by omega) (by decide) (by omega))
      have ec : shc psk [] said = shc psk said [] := by unfold shc; rw [List.append_nil, List.nil_append]
      have ev : shv psk [] said = shv psk said [] := by unfold shv; rw [List.append_nil, List.nil_append]
      rw [ec, ev] at C2
      have hl0 : (shc psk said []).length = 32 := lab_len _ _ _ _ _
      generalize shc psk said [] = R1 at *
      generalize shv psk said [] = R2 at *
      obtain ⟨s2, g2⟩ : ∃ s : ByteArray, ⟨R2.toArray⟩ = s := ⟨_, rfl⟩
      rw [hpskS, hsaidS, g2] at C1 C2
      have C1' : Hid (∀ W : World, Calls Try.prog 25 #[.string pskS, .string saidS, .string ⟨#[]⟩] W fun e w' => e = .returned (.tuple #[.string ⟨R1.toArray⟩, .string s2]) ∧ Below W.heap.size W w') := C1
      have C2' : Hid (∀ W : World, Calls Try.prog 25 #[.string pskS, .string ⟨#[]⟩, .string saidS] W fun e w' => e = .returned (.tuple #[.string ⟨R1.toArray⟩, .string s2]) ∧ Below W.heap.size W w') := C2
      obtain ⟨t, ht⟩ : ∃ t : Nat, turns % 5 = (t : Int) := ⟨(turns % 5).toNat, by omega⟩
      have ht2 : turns.tmod 5 = (t : Int) := by rw [Int.tmod_eq_emod_of_nonneg h0]; exact ht
      clear C1 C2 hpskS hsaidS g2 ec ev hc0 hc1
      go_enter Try.func9, Try.ntmps9
      go_wp2_with fail
      with_reducible refine (shown8 _).mono ?_
      rintro e w1 ⟨rfl, hb⟩
      have HB1 := Lib.hid hb
      clear hb
      go_wp2_with fail
      with_reducible refine (C1'.out _).mono ?_
      rintro e w2 ⟨rfl, hb⟩
      have HB2 := Lib.hid (HB1.out.trans (hb.mono HB1.out.size))
      clear hb
      go_wp2_with fail
      with_reducible refine (C2'.out _).mono ?_
      rintro e w3 ⟨rfl, hb⟩
      have HB3 := Lib.hid (HB2.out.trans (hb.mono HB2.out.size))
      clear hb
      go_wp2_with fail
      go_loopw [7, 9, 11] (fun av cv iv wr => ∃ (i : Nat) (A : List UInt8), i ≤ t ∧ iv = .int .i64 i ∧ av = .string ⟨A.toArray⟩ ∧ cv = .string ⟨A.toArray⟩ ∧ A.length = 32 ∧ Below w.heap.size w wr) (fun _ _ iv _ => t - (intOf iv).toNat)
      case atStart => exact ⟨0, R1, Nat.zero_le _, rfl, rfl, rfl, hl0, HB3.out⟩
      case round =>
        clear HB1 HB2 HB3
        obtain ⟨i, A, hi, rfl, rfl, rfl, hA, hB⟩ := hrel
        have HB0 := Lib.hid hB
        clear hB
        by_cases hlt : i < t
        · have D1 := Lib.hid (fun W => next_any A W (by omega))
          have hN : (nxt A).length = 32 := lab_len _ _ _ _ _
          obtain ⟨Nx, hNx⟩ : ∃ Nx, nxt A = Nx := ⟨_, rfl⟩
          rw [hNx] at D1 hN
          have D2 := Lib.hid (fun W => of_any Nx W (by omega))
          have D3 := Lib.hid (fun W => ofs_ref Nx W (by omega))
          obtain ⟨s3, g3⟩ : ∃ s : ByteArray, ⟨(kKey Nx).toArray⟩ = s := ⟨_, rfl⟩
          obtain ⟨s4, g4⟩ : ∃ s : ByteArray, ⟨(kIv Nx).toArray⟩ = s := ⟨_, rfl⟩
          obtain ⟨s5, g5⟩ : ∃ s : ByteArray, ⟨(kMask Nx).toArray⟩ = s := ⟨_, rfl⟩
          rw [g3, g4, g5] at D2 D3
          have zN : (⟨Nx.toArray⟩ : ByteArray).size = 32 := hN
          have HN := Lib.hid hN
          clear hNx g3 g4 g5 hN hA hl0
          go_wp2_with fail
          with_reducible refine (D1.out _).mono ?_
          rintro e w1 ⟨rfl, hb⟩
          have HB1 := Lib.hid (HB0.out.trans (hb.mono HB0.out.size))
          clear hb
          go_wp2_with fail
          with_reducible refine (D1.out _).mono ?_
          rintro e w2 ⟨rfl, hb⟩
          have HB2 := Lib.hid (HB1.out.trans (hb.mono HB1.out.size))
          clear hb
          go_wp2_with fail
          with_reducible refine (D2.out _).mono ?_
          rintro e w3 ⟨rfl, hb⟩
          have HB3 := Lib.hid (HB2.out.trans (hb.mono HB2.out.size))
          clear hb
          go_wp2_with fail
          with_reducible refine (D3.out _).mono ?_
          rintro e w4 ⟨rfl, hb⟩
          have HB4 := Lib.hid (HB3.out.trans (hb.mono HB3.out.size))
          clear hb
          go_wp2
          go_roundw
          case rel => exact ⟨i + 1, Nx, by omega, by go_num, rfl, rfl, HN.out, HB4.out⟩
          case measure => simp [intOf]; omega
        · obtain rfl : i = t := by omega
          obtain ⟨As, hAs⟩ : ∃ s : ByteArray, ⟨A.toArray⟩ = s := ⟨_, rfl⟩
          rw [hAs]
          clear hAs
          go_wp2
          go_ret
          exact ⟨rfl, HB0.out⟩
    · have hi1 : ¬ (said.length : Int) ≤ 100 := by omega
      go_enter Try.func9, Try.ntmps9
      go_wp2_with fail
      with_reducible refine (shown8 _).mono ?_
      rintro e w1 ⟨rfl, hb⟩
      have HB1 := Lib.hid hb
      clear hb
      go_wp2
      go_ret
      exact ⟨rfl, HB1.out⟩
  · have hi0 : ¬ (psk.length : Int) ≤ 100 := by omega
    go_enter Try.func9, Try.ntmps9
    go_wp2_with fail
    with_reducible refine (shown8 _).mono ?_
    rintro e w1 ⟨rfl, hb⟩
    have HB1 := Lib.hid hb
    clear hb
    go_wp2
    go_ret
    exact ⟨rfl, HB1.out⟩
theorem law_turns (psk said : ByteArray) (turns : Int) (w : World) (w0 : psk.size ≤ maxLen) (w1 : said.size ≤ maxLen) (w2 : (Lit.int .u8 turns).wf = true) :
    Calls Try.prog 9 #[.string psk, .string said, .int .u8 turns] w fun e w' => e = .returned (.bool true) ∧ Below w.heap.size w w' :=
  turns_law psk.data.toList said.data.toList turns w (bounds_u8 w2).1 (bounds_u8 w2).2
end Go.Proofs.Ythjphechdhbenaa.Kd
