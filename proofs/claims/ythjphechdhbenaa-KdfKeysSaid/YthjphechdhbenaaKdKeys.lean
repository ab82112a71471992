/- The law KdfKeys, walked. By tools/gen-kdf-laws.py. -/
import Derived.Test.YthjphechdhbenaaKdV
import Derived.Test.YthjphechdhbenaaKdBegins
namespace Go.Proofs.Ythjphechdhbenaa.Kd
set_option maxRecDepth 20000
open Go.RowKit
open Go.Proofs.Ythjphechdhbenaa.Dg
set_option linter.unusedVariables false
set_option linter.unusedSimpArgs false

set_option maxHeartbeats 8000000 in
theorem keys_law (secret psk client server cid : List UInt8) (w : World) :
    Calls Try.prog 7 #[.string ⟨secret.toArray⟩, .string ⟨psk.toArray⟩, .string ⟨client.toArray⟩, .string ⟨server.toArray⟩, .string ⟨cid.toArray⟩] w fun e w' => e = .returned (.bool true) ∧ Below w.heap.size w w' := by
  obtain ⟨secretS, hsecretS⟩ : ∃ s : ByteArray, ⟨secret.toArray⟩ = s := ⟨_, rfl⟩
  have zsecret : secretS.size = secret.length := by rw [← hsecretS]; rfl
  obtain ⟨pskS, hpskS⟩ : ∃ s : ByteArray, ⟨psk.toArray⟩ = s := ⟨_, rfl⟩
  have zpsk : pskS.size = psk.length := by rw [← hpskS]; rfl
  obtain ⟨clientS, hclientS⟩ : ∃ s : ByteArray, ⟨client.toArray⟩ = s := ⟨_, rfl⟩
  have zclient : clientS.size = client.length := by rw [← hclientS]; rfl
  obtain ⟨serverS, hserverS⟩ : ∃ s : ByteArray, ⟨server.toArray⟩ = s := ⟨_, rfl⟩
  have zserver : serverS.size = server.length := by rw [← hserverS]; rfl
  obtain ⟨cidS, hcidS⟩ : ∃ s : ByteArray, ⟨cid.toArray⟩ = s := ⟨_, rfl⟩
  have zcid : cidS.size = cid.length := by rw [← hcidS]; rfl
  rw [hsecretS, hpskS, hclientS, hserverS, hcidS]
  by_cases hc0 : secret.length ≤ 100
  · have hi0 : (secret.length : Int) ≤ 100 := by omega
    by_cases hc1 : psk.length ≤ 100
    · have hi1 : (psk.length : Int) ≤ 100 := by omega
      by_cases hc2 : client.length ≤ 200
      · have hi2 : (client.length : Int) ≤ 200 := by omega
        by_cases hc3 : server.length ≤ 200
        · have hi3 : (server.length : Int) ≤ 200 := by omega
          by_cases hc4 : cid.length ≤ 50
          · have hi4 : (cid.length : Int) ≤ 50 := by omega
            have C1 := Lib.hid (fun W => shared_any psk client server W (by omega) (by omega) (by omega))
            have C2 := Lib.hid (fun W => shared_ref psk client server W (by omega) (by omega) (by omega))
            have C3 := Lib.hid (fun W => of_any secret W (by omega))
            have C4 := Lib.hid (fun W => ofs_ref secret W (by omega))
            have C5 := Lib.hid (fun W => next_any secret W (by omega))
            have C6 := Lib.hid (fun W => next_ref secret W (by omega))
            have C7 := Lib.hid (fun W => reset_any secret cid W (by omega) (by omega))
            have C8 := Lib.hid (fun W => reset_ref secret cid W (by omega) (by omega))
            generalize shc psk client server = R1 at *
            generalize shv psk client server = R2 at *
            generalize kKey secret = K1 at *
            generalize kIv secret = K2 at *
            generalize kMask secret = K3 at *
            generalize nxt secret = NX at *
            generalize (mac secret cid).take 16 = RS at *
            obtain ⟨s1, g1⟩ : ∃ s : ByteArray, ⟨R1.toArray⟩ = s := ⟨_, rfl⟩
            obtain ⟨s2, g2⟩ : ∃ s : ByteArray, ⟨R2.toArray⟩ = s := ⟨_, rfl⟩
            obtain ⟨s3, g3⟩ : ∃ s : ByteArray, ⟨K1.toArray⟩ = s := ⟨_, rfl⟩
            obtain ⟨s4, g4⟩ : ∃ s : ByteArray, ⟨K2.toArray⟩ = s := ⟨_, rfl⟩
            obtain ⟨s5, g5⟩ : ∃ s : ByteArray, ⟨K3.toArray⟩ = s := ⟨_, rfl⟩
            obtain ⟨s6, g6⟩ : ∃ s : ByteArray, ⟨NX.toArray⟩ = s := ⟨_, rfl⟩
            obtain ⟨s7, g7⟩ : ∃ s : ByteArray, ⟨RS.toArray⟩ = s := ⟨_, rfl⟩
            rw [hpskS, hclientS, hserverS, g1, g2] at C1 C2
            rw [hsecretS, g3, g4, g5] at C3 C4
            rw [hsecretS, g6] at C5 C6
            rw [hsecretS, hcidS, g7] at C7 C8
            clear hpskS hclientS hserverS hsecretS hcidS g1 g2 g3 g4 g5 g6 g7 hc0 hc1 hc2 hc3 hc4
            go_enter Try.func7, Try.ntmps7
            go_wp2_with fail
            with_reducible refine (shown8 _).mono ?_
            rintro e w1 ⟨rfl, hb⟩
            have HB1 := Lib.hid hb
            clear hb
            go_wp2_with fail
            with_reducible refine (C1.out _).mono ?_
            rintro e w2 ⟨rfl, hb⟩
            have HB2 := Lib.hid (HB1.out.trans (hb.mono HB1.out.size))
            clear hb
            go_wp2_with fail
            with_reducible refine (C2.out _).mono ?_
            rintro e w3 ⟨rfl, hb⟩
            have HB3 := Lib.hid (HB2.out.trans (hb.mono HB2.out.size))
            clear hb
            go_wp2_with fail
            with_reducible refine (C3.out _).mono ?_
            rintro e w4 ⟨rfl, hb⟩
            have HB4 := Lib.hid (HB3.out.trans (hb.mono HB3.out.size))
            clear hb
            go_wp2_with fail
            with_reducible refine (C4.out _).mono ?_
            rintro e w5 ⟨rfl, hb⟩
            have HB5 := Lib.hid (HB4.out.trans (hb.mono HB4.out.size))
            clear hb
            go_wp2_with fail
            with_reducible refine (C5.out _).mono ?_
            rintro e w6 ⟨rfl, hb⟩
            have HB6 := Lib.hid (HB5.out.trans (hb.mono HB5.out.size))
            clear hb
            go_wp2_with fail
            with_reducible refine (C6.out _).mono ?_
            rintro e w7 ⟨rfl, hb⟩
            have HB7 := Lib.hid (HB6.out.trans (hb.mono HB6.out.size))
            clear hb
            go_wp2_with fail
            with_reducible refine (C7.out _).mono ?_
            rintro e w8 ⟨rfl, hb⟩
            have HB8 := Lib.hid (HB7.out.trans (hb.mono HB7.out.size))
            clear hb
            go_wp2_with fail
            with_reducible refine (C8.out _).mono ?_
            rintro e w9 ⟨rfl, hb⟩
            have HB9 := Lib.hid (HB8.out.trans (hb.mono HB8.out.size))
            clear hb
            go_wp2
            go_ret
            exact ⟨rfl, HB9.out⟩
          · have hi4 : ¬ (cid.length : Int) ≤ 50 := by omega
            go_enter Try.func7, Try.ntmps7
            go_wp2_with fail
            with_reducible refine (shown8 _).mono ?_
            rintro e w1 ⟨rfl, hb⟩
            have HB1 := Lib.hid hb
            clear hb
            go_wp2
            go_ret
            exact ⟨rfl, HB1.out⟩
        · have hi3 : ¬ (server.length : Int) ≤ 200 := by omega
          go_enter Try.func7, Try.ntmps7
          go_wp2_with fail
          with_reducible refine (shown8 _).mono ?_
          rintro e w1 ⟨rfl, hb⟩
          have HB1 := Lib.hid hb
          clear hb
          go_wp2
          go_ret
          exact ⟨rfl, HB1.out⟩
      · have hi2 : ¬ (client.length : Int) ≤ 200 := by omega
        go_enter Try.func7, Try.ntmps7
        go_wp2_with fail
        with_reducible refine (shown8 _).mono ?_
        rintro e w1 ⟨rfl, hb⟩
        have HB1 := Lib.hid hb
        clear hb
        go_wp2
        go_ret
        exact ⟨rfl, HB1.out⟩
    · have hi1 : ¬ (psk.length : Int) ≤ 100 := by omega
      go_enter Try.func7, Try.ntmps7
      go_wp2_with fail
      with_reducible refine (shown8 _).mono ?_
      rintro e w1 ⟨rfl, hb⟩
      have HB1 := Lib.hid hb
      clear hb
      go_wp2
      go_ret
      exact ⟨rfl, HB1.out⟩
  · have hi0 : ¬ (secret.length : Int) ≤ 100 := by omega
    go_enter Try.func7, Try.ntmps7
    go_wp2_with fail
    with_reducible refine (shown8 _).mono ?_
    rintro e w1 ⟨rfl, hb⟩
    have HB1 := Lib.hid hb
    clear hb
    go_wp2
    go_ret
    exact ⟨rfl, HB1.out⟩
theorem law_keys (secret psk client server cid : ByteArray) (w : World) (w0 : secret.size ≤ maxLen) (w1 : psk.size ≤ maxLen) (w2 : client.size ≤ maxLen) (w3 : server.size ≤ maxLen) (w4 : cid.size ≤ maxLen) :
    Calls Try.prog 7 #[.string secret, .string psk, .string client, .string server, .string cid] w fun e w' => e = .returned (.bool true) ∧ Below w.heap.size w w' :=
  keys_law secret.data.toList psk.data.toList client.data.toList server.data.toList cid.data.toList w
end Go.Proofs.Ythjphechdhbenaa.Kd
