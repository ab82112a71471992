/- The walks of layer 8: the document's Extract, Expand, Label, and what they make. -/
import Derived.Test.YthjphechdhbenaaKdR
namespace Go.Proofs.Ythjphechdhbenaa.Kd
set_option maxRecDepth 20000
open Go.RowKit
open Go.Proofs.Ythjphechdhbenaa.Dg
open Go.Proofs.Ythjphechdhbenaa.Vm (fx fx_length vfixed)
set_option linter.unusedVariables false
set_option linter.unusedSimpArgs false

theorem mac_zero (l : List UInt8) : mac (List.replicate 32 0) l = mac [] l := rfl
theorem app3 (a b c : List UInt8) : (⟨a.toArray⟩ : ByteArray) ++ ⟨b.toArray⟩ ++ ⟨c.toArray⟩ = ⟨(a ++ b ++ c).toArray⟩ := by rw [app_two, app_two]
theorem bsz (l : List UInt8) : (⟨l.toArray⟩ : ByteArray).size = l.length := rfl
set_option maxHeartbeats 8000000 in
theorem expand_ref (k info : List UInt8) (n : Int) (w : World) (hk : k.length ≤ 100000) (hi : info.length ≤ 10000) :
    Calls Try.prog 22 #[.string ⟨k.toArray⟩, .string ⟨info.toArray⟩, .int .i64 n] w fun e w' => e = exP k info n ∧ Below w.heap.size w w' := by
  obtain ⟨ks, hks0⟩ : ∃ ks : ByteArray, ⟨k.toArray⟩ = ks := ⟨_, rfl⟩
  obtain ⟨is, his0⟩ : ∃ is : ByteArray, ⟨info.toArray⟩ = is := ⟨_, rfl⟩
  have his : is.size = info.length := by rw [← his0]; rfl
  by_cases hn : 0 ≤ n ∧ n ≤ 8160
  · obtain ⟨m, rfl⟩ : ∃ m : Nat, n = (m : Int) := ⟨n.toNat, by omega⟩
    have hm : m ≤ 8160 := by omega
    have hmi : (m : Int) ≤ 8160 := by omega
    have hm0 : (0 : Int) ≤ (m : Int) := by omega
    have HE : Hid (exP k info m = .returned (.tuple #[.string ⟨(exq (ko k) (ki k) info m).toArray⟩, .int .i64 0])) := Lib.hid (by unfold exP; rw [if_pos hn]; rfl)
    obtain ⟨M, hM⟩ : ∃ M, (m + 31) / 32 = M := ⟨_, rfl⟩
    have HMM := Lib.hid hM
    have HX : Hid (exq (ko k) (ki k) info m = (outs (ko k) (ki k) info M).take m) := Lib.hid (by unfold exq; rw [hM])
    have HMAC : Hid (∀ i, mac k (tk (ko k) (ki k) info i ++ info ++ fx (i + 1) 1) = tk (ko k) (ki k) info (i + 1)) := Lib.hid (fun i => rfl)
    have HC := Lib.hid (fun (l : List UInt8) (hl : l.length ≤ 50000) W => mac_ref k l W hk hl)
    generalize exq (ko k) (ki k) info m = X at *
    rw [hks0, his0]
    rw [hks0] at HC
    have HIS := Lib.hid his0
    clear hM hn hks0 his0
    have HOL := Lib.hid (fun i => outs_len (ko k) (ki k) info i)
    have HTL := Lib.hid (fun i => tk_len (ko k) (ki k) info i)
    have HOS : Hid (∀ i, outs (ko k) (ki k) info (i + 1) = outs (ko k) (ki k) info i ++ tk (ko k) (ki k) info (i + 1)) := Lib.hid (fun i => rfl)
    have HT0 : Hid (tk (ko k) (ki k) info 0 = []) := Lib.hid rfl
    have HO0 : Hid (outs (ko k) (ki k) info 0 = []) := Lib.hid rfl
    have HT32 : Hid (∀ i, (tk (ko k) (ki k) info (i + 1)).length = 32) := Lib.hid (fun i => hm_len _ _ _)
    generalize outs (ko k) (ki k) info = OU at *
    generalize tk (ko k) (ki k) info = TK at *
    go_enter Try.func22, Try.ntmps22
    go_wp2
    go_loopw [8, 9, 10] (fun ov tv kv wr => ∃ i : Nat, i ≤ M ∧ ov = .string ⟨(OU i).toArray⟩ ∧ tv = .string ⟨(TK i).toArray⟩ ∧ kv = .int .i64 (i + 1 : Nat) ∧ Below w.heap.size w wr) (fun _ _ kv _ => M + 1 - (intOf kv).toNat)
    case atStart => exact ⟨0, Nat.zero_le _, by rw [HO0.out], by rw [HT0.out], rfl, Below.refl _ _⟩
    case round =>
      obtain ⟨i, hiM, rfl, rfl, rfl, hB⟩ := hrel
      have HBr := Lib.hid hB
      have hM300 : M ≤ 255 := by have := HMM.out; omega
      obtain ⟨os, hos⟩ : ∃ os : ByteArray, ⟨(OU i).toArray⟩ = os := ⟨_, rfl⟩
      have hosz : os.size = 32 * i := by rw [← hos]; exact HOL.out i
      clear hB
      by_cases hlt : 32 * i < m
      · have hiM2 : i < M := by have := HMM.out; omega
        obtain ⟨k1, hk1⟩ : ∃ k1, i + 1 = k1 := ⟨_, rfl⟩
        obtain ⟨q, hq⟩ : ∃ q, 32 * i = q := ⟨_, rfl⟩
        rw [hq] at hosz hlt
        have CB := Lib.hid (fun W => byteOf_ref k1 W (by omega))
        have hMA := HMAC.out i
        have hT2 := HT32.out i
        have hOS := HOS.out i
        have hTi := HTL.out i
        rw [hk1] at hMA hT2 hOS ⊢
        have hf1 : (fx k1 1).length = 1 := fx_length _ _
        have hcat : (⟨(TK i).toArray⟩ : ByteArray) ++ is ++ ⟨(fx k1 1).toArray⟩ = ⟨(TK i ++ info ++ fx k1 1).toArray⟩ := by rw [← HIS.out]; exact app3 _ _ _
        have CM := Lib.hid (fun W => HC.out (TK i ++ info ++ fx k1 1) (by rw [List.length_append, List.length_append, hf1]; omega) W)
        rw [hMA] at CM
        rw [← hcat] at CM
        have hoc : os ++ ⟨(TK k1).toArray⟩ = ⟨(OU k1).toArray⟩ := by rw [← hos, app_two, ← hOS]
        obtain ⟨ts, hts⟩ : ∃ ts : ByteArray, ⟨(TK i).toArray⟩ = ts := ⟨_, rfl⟩
        obtain ⟨t2, ht2⟩ : ∃ t2 : ByteArray, ⟨(TK k1).toArray⟩ = t2 := ⟨_, rfl⟩
        obtain ⟨fs, hfs⟩ : ∃ fs : ByteArray, ⟨(fx k1 1).toArray⟩ = fs := ⟨_, rfl⟩
        have z1 : ts.size ≤ 32 := by rw [← hts]; exact hTi
        have z2 : t2.size = 32 := by rw [← ht2]; exact hT2
        have z3 : fs.size = 1 := by rw [← hfs]; exact hf1
        rw [hos, hts]
        rw [hts, hfs, ht2] at CM
        rw [hfs] at CB
        rw [ht2] at hoc
        have g1 : ¬ 9223372036854775807 < ts.size + is.size := by omega
        have g2 : ¬ 9223372036854775807 < ts.size + is.size + 1 := by omega
        have g3 : ¬ 9223372036854775807 < q + 32 := by omega
        have hlti : (q : Int) < (m : Int) := by omega
        have hsz2 : (ts ++ is).size = ts.size + is.size := by simp
        have hk255 : k1 ≤ 255 := by omega
        have HK1 := Lib.hid hk1
        have HT2E := Lib.hid ht2
        have HOC := Lib.hid hoc
        clear hk1 hq hMA hT2 hOS hTi hf1 hcat hos hts ht2 hfs hoc hlt HC HMAC
        go_wp2_with fail
        with_reducible refine (CB.out _).mono ?_
        rintro e w1 ⟨rfl, hb⟩
        have HB1 := Lib.hid (HBr.out.trans (hb.mono HBr.out.size))
        clear hb
        go_wp2_with fail
        with_reducible refine (CM.out _).mono ?_
        rintro e w2 ⟨rfl, hb⟩
        have HB2 := Lib.hid (HB1.out.trans (hb.mono HB1.out.size))
        clear hb
        go_wp2
        go_roundw
        case rel => exact ⟨k1, by have := HK1.out; omega, by rw [HOC.out], by rw [HT2E.out], by have := HK1.out; go_num, HB2.out⟩
        case measure => have := HK1.out; simp [intOf]; omega
      · have hiM2 : i = M := by have := HMM.out; omega
        subst hiM2
        have hnlt : ¬ (((32 * i : Nat) : Int) < (m : Int)) := by omega
        obtain ⟨q, hq⟩ : ∃ q, 32 * i = q := ⟨_, rfl⟩
        rw [hq] at hosz hnlt
        have HYX : Hid (os.extract 0 m = ⟨X.toArray⟩) := Lib.hid (by rw [← hos, HX.out]; exact sv_to _ m)
        have hmq : (m : Int) ≤ (q : Int) := by omega
        rw [hos]
        clear hos hq hlt HC HMAC
        go_wp2
        go_ret2
        exact ⟨by rw [HE.out, ← HYX.out]; rfl, HBr.out⟩
  · have HE : Hid (exP k info n = .returned (.tuple #[.string ⟨#[]⟩, .int .i64 1])) := Lib.hid (by unfold exP; rw [if_neg hn])
    rw [hks0, his0]
    clear hks0 his0
    by_cases h0 : 0 ≤ n
    · have h8 : ¬ n ≤ 8160 := fun h => hn ⟨h0, h⟩
      clear hn
      go_enter Try.func22, Try.ntmps22
      go_wp2
      go_ret2
      exact ⟨HE.out.symm, Below.refl _ _⟩
    · clear hn
      go_enter Try.func22, Try.ntmps22
      go_wp2
      go_ret2
      exact ⟨HE.out.symm, Below.refl _ _⟩
end Go.Proofs.Ythjphechdhbenaa.Kd
