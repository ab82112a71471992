/- The walks of layer 5: Put, the program's. -/
import Derived.Test.YthhcpedaldlccaaDoorPmC
import Derived.Test.YthhcpedaldlccaaDoorPmG
import Derived.Test.YthhcpedaldlccaaDoorVmMany
namespace Go.Proofs.YthhcpedaldlccaaDoor.Pm
open Go.RowKit Vm
set_option linter.unusedVariables false
set_option linter.unusedSimpArgs false

/-- Parameters, as a value. -/
def pv (p : Prm) : Value := .agg #[.int .u64 p.idle, .int .u64 p.size, .int .u64 p.data, .int .u64 p.bl, .int .u64 p.br, .int .u64 p.uni, .int .u64 p.bidis, .int .u64 p.unis, .int .u64 p.expo, .int .u64 p.delay, .int .u64 p.ids, .string ⟨p.tok.toArray⟩]
/-- With a token that may be, all the bytes are few. -/
theorem putN_few (p : Prm) (h : p.tok.length ≤ 16) : ∀ k, (putN p k).length ≤ k * 40
  | 0 => Nat.zero_le _
  | k + 1 => by
    have h1 := putN_few p h k
    rw [putN, List.length_append]
    split
    · simp; omega
    · unfold pairL valL
      simp only [List.length_append]
      have h2 := ps_len ((k : Nat) : Int).toNat
      split
      · have h3 := ps_len p.tok.length
        omega
      · split
        · rename_i v hv
          have h3 := ps_len v.toNat
          have h4 := ps_len (ps v.toNat).length
          omega
        · have h4 := ps_len ([] : List UInt8).length
          simp only [List.length_nil] at *
          omega
theorem tok_16 {p : Prm} (h : chkB p = true) : p.tok.length ≤ 16 := by
  unfold chkB tokB at h
  rw [Bool.and_eq_true, Bool.or_eq_true] at h
  rcases h.2 with h1 | h1
  · rw [List.isEmpty_iff.1 h1]; exact Nat.zero_le _
  · exact Nat.le_of_eq (of_decide_eq_true h1)
/-- Between two rounds of Put's loop. -/
def PutRel (p : Prm) (w : World) (U : Nat) (iv : Value) (W : World) : Prop :=
  ∃ k : Nat, k ≤ 15 ∧ iv = .int .u64 (k : Nat) ∧ PBk w.heap.size p W ∧ PBk U usual W ∧ Lib.IsBuilder 47 5 (U + 1) (U + 1) (Lib.byteCells (putN p k)) W ∧ Below w.heap.size w W ∧ U + 2 ≤ W.heap.size
theorem putN_yes {p : Prm} {k : Nat} (h : valL p k = valL usual k) : putN p (k + 1) = putN p k := by rw [putN, if_pos h, List.append_nil]
theorem putN_no {p : Prm} {k : Nat} (h : ¬ valL p k = valL usual k) : putN p (k + 1) = putN p k ++ pairL (k : Nat) (valL p k) := by rw [putN, if_neg h]
set_option maxHeartbeats 4000000 in
theorem put_ok (p : Prm) (w : World) (ht : Tab w) (hL : Lim w) (hw : Wf p) (hc : chkB p = true) : Calls Tryd.prog 9 #[pv p] w fun e w' => e = .returned (.tuple #[.string ⟨(putL p).toArray⟩, .int .i64 0]) ∧ Below w.heap.size w w' := by
  have h16 := tok_16 hc
  have HW := Lib.hid hw
  have CC := Lib.hid (fun (w : World) (hL : Lim w) => check_any p w hL hw)
  rw [chkE_yes hc] at CC
  have hlt := ht.lt
  have hltL := hL.1
  have HT := Lib.hid ht
  have HL := Lib.hid hL
  have HF := Lib.hid (putN_few p h16)
  have VL := Lib.hid (fun n => valL_len p n hw.tok)
  have VL2 := Lib.hid (fun n => valL_len usual n usual_wf.tok)
  clear ht hL hw hc h16
  have H0 := Lib.hid (PBk.made w p)
  have HB0 := Lib.hid ((Below.refl w.heap.size w).alloc (Nat.le_refl _) (.cells #[.int .u64 p.idle, .int .u64 p.size, .int .u64 p.data, .int .u64 p.bl, .int .u64 p.br, .int .u64 p.uni, .int .u64 p.bidis, .int .u64 p.unis, .int .u64 p.expo, .int .u64 p.delay, .int .u64 p.ids, .string ⟨p.tok.toArray⟩] 24))
  unfold pv
  go_enter Tryd.func9, Tryd.ntmps9
  go_wp2_with fail
  refine (CC.out _ (HL.out.below HB0.out hltL)).mono ?_
  rintro e w1 ⟨rfl, hb1⟩
  have HB1 := Lib.hid (HB0.out.trans (hb1.mono (by simp)))
  have HP1 := Lib.hid (H0.out.keep hb1)
  have hs1 : w.heap.size + 1 ≤ w1.heap.size := by have := hb1.size; simpa using this
  clear hb1 H0 CC
  go_wp2_with fail
  refine (default_any _).mono ?_
  rintro e w2 ⟨rfl, hb2⟩
  have HB2 := Lib.hid (HB1.out.trans (hb2.mono (by omega)))
  have HP2 := Lib.hid (HP1.out.keep hb2)
  have hs2 : w.heap.size + 1 ≤ w2.heap.size := by have := hb2.size; omega
  clear hb2 HP1 HB1 hs1
  have HPU : Hid (PBk w2.heap.size usual (w2.alloc (.cells #[.int .u64 0, .int .u64 65527, .int .u64 0, .int .u64 0, .int .u64 0, .int .u64 0, .int .u64 0, .int .u64 0, .int .u64 3, .int .u64 25, .int .u64 2, .string ⟨#[]⟩] 24))) := Lib.hid (PBk.made w2 usual)
  have HBD := (Lib.fresh_isBuilder 47 5 (w2.alloc (.cells #[.int .u64 0, .int .u64 65527, .int .u64 0, .int .u64 0, .int .u64 0, .int .u64 0, .int .u64 0, .int .u64 0, .int .u64 3, .int .u64 25, .int .u64 2, .string ⟨#[]⟩] 24)))
  rw [World.size_alloc] at HBD
  replace HBD := Lib.hid HBD
  go_wp2
  go_loopw [15] (fun iv wr => PutRel p w w2.heap.size iv wr) (fun iv _ => 15 - (intOf iv).toNat)
  case atStart =>
    refine ⟨0, by decide, rfl, ?_, ?_, HBD.out, ?_, by simp⟩
    · exact HP2.out.keep (((Below.refl w2.heap.size w2).alloc (Nat.le_refl _) _).alloc (by simp) _)
    · exact HPU.out.keep ((Below.refl _ _).alloc (Nat.le_refl _) _)
    · exact (HB2.out.alloc (by omega) _).alloc (by simp; omega) _
  case round =>
    obtain ⟨k, hk, rfl, hP, hPU, hBd, hb, hsz⟩ := hrel
    have HTr := Lib.hid (HT.out.below hb hlt)
    have hUw : w2.heap.size < wr.heap.size := by omega
    have HB := Lib.hid hb
    have HPr := Lib.hid hP
    have HPUr := Lib.hid hPU
    have HBd := Lib.hid hBd
    clear hP hPU hBd hb
    by_cases hlt15 : k < 15
    · go_wp2_with fail
      refine (value_any w.heap.size p k _ HTr.out HPr.out HW.out).mono ?_
      rintro e w3 ⟨rfl, hb3⟩
      have hs3 := hb3.size
      have HT3 := Lib.hid (HTr.out.below hb3 (by have := HTr.out.lt; omega))
      have HPU3 := Lib.hid (HPUr.out.keep hb3)
      have HP3 := Lib.hid (HPr.out.keep hb3)
      have HBd3 := Lib.hid (builder_below HBd.out hb3)
      have HB3 := Lib.hid (HB.out.trans (hb3.mono HB.out.size))
      clear hb3
      go_wp2_with fail
      refine (value_any w2.heap.size usual k _ HT3.out HPU3.out usual_wf).mono ?_
      rintro e w4 ⟨rfl, hb4⟩
      have hs4 := hb4.size
      have HT4 := Lib.hid (HT3.out.below hb4 (by have := HT3.out.lt; omega))
      have HPU4 := Lib.hid (HPU3.out.keep hb4)
      have HP4 := Lib.hid (HP3.out.keep hb4)
      have HBd4 := Lib.hid (builder_below HBd3.out hb4)
      have HB4 := Lib.hid (HB3.out.trans (hb4.mono HB3.out.size))
      clear hb4
      by_cases hv : valL p k = valL usual k
      · have hne : (!valL p k == valL usual k) = false := by rw [hv, beq_self_eq_true]; rfl
        have HV := Lib.hid hv
        clear hv
        go_wp2
        refine ⟨⟨k + 1, by omega, by go_num, HP4.out, HPU4.out, by rw [putN_yes HV.out]; exact HBd4.out, HB4.out, by omega⟩, ?_⟩
        simp [intOf]; omega
      · have hne : (!valL p k == valL usual k) = true := by rw [beq_eq_false_iff_ne.2 hv]; rfl
        have HV := Lib.hid hv
        have hvl := VL.out k
        have hF := HF.out k
        have CP := Lib.hid (fun w (ht : Tab w) => pairPut_any (k : Nat) (valL p k) w ht (by omega) (by omega) hvl)
        have HPL := Lib.hid (show (pairL (k : Nat) (valL p k)).length ≤ 140737488351232 + 16 by
          have l1 := ps_len ((k : Nat) : Int).toNat
          have l2 := ps_len (valL p k).length
          unfold pairL
          simp only [List.length_append]
          omega)
        clear hv
        go_wp2_with fail
        refine (CP.out _ HT4.out).mono ?_
        rintro e w5 ⟨rfl, hb5⟩
        have hs5 := hb5.size
        have HPU5 := Lib.hid (HPU4.out.keep hb5)
        have HP5 := Lib.hid (HP4.out.keep hb5)
        have HBd5 := Lib.hid (builder_below HBd4.out hb5)
        have HB5 := Lib.hid (HB4.out.trans (hb5.mono HB4.out.size))
        have HZ : Hid ((Lib.byteCells (putN p k)).length + (⟨(pairL (k : Nat) (valL p k)).toArray⟩ : ByteArray).size ≤ 140737488355328) := Lib.hid (by rw [Lib.byteCells_length]; show (putN p k).length + (pairL (k : Nat) (valL p k)).length ≤ _; have := HPL.out; omega)
        clear hb5 hF hvl
        go_wp2_with fail
        refine (Bld.writeString (w2.heap.size + 1) (w2.heap.size + 1) _ ⟨(pairL (k : Nat) (valL p k)).toArray⟩ _ HBd5.out HZ.out (by omega)).mono ?_
        rintro e w6 ⟨rfl, hI6, hb6⟩
        have hs6 := hb6.size
        have HI6 := Lib.hid hI6
        have HPU6 := Lib.hid (HPU5.out.up hb6 (by omega))
        have HP6 := Lib.hid (HP5.out.up hb6 (by omega))
        have HB6 := Lib.hid (HB5.out.trans (hb6.mono (by omega)))
        clear hI6 hb6
        go_wp2
        refine ⟨⟨k + 1, by omega, by go_num, HP6.out, HPU6.out, ?_, HB6.out, by omega⟩, ?_⟩
        · rw [putN_no HV.out, Lib.byteCells_append]; exact HI6.out
        · simp [intOf]; omega
    · obtain rfl : k = 15 := by omega
      go_wp2_with fail
      refine (Tryd.Builder_String_any (w2.heap.size + 1) (w2.heap.size + 1) _ _ HBd.out (by omega)).mono ?_
      rintro e w3 ⟨rfl, hb3⟩
      have HB3 := Lib.hid (HB.out.trans (hb3.mono (by omega)))
      clear hb3
      go_wp2
      go_ret2
      exact ⟨rfl, HB3.out⟩
set_option maxHeartbeats 1000000 in
theorem put_not (p : Prm) (w : World) (ht : Tab w) (hL : Lim w) (hw : Wf p) (hc : chkB p = false) : Calls Tryd.prog 9 #[pv p] w fun e w' => e = .returned (.tuple #[.string ⟨#[]⟩, .int .i64 50]) ∧ Below w.heap.size w w' := by
  have CC := Lib.hid (fun (w : World) (hL : Lim w) => check_any p w hL hw)
  rw [chkE_no hc] at CC
  have hltL := hL.1
  have HL := Lib.hid hL
  clear hL hw hc
  have HB0 := Lib.hid ((Below.refl w.heap.size w).alloc (Nat.le_refl _) (.cells #[.int .u64 p.idle, .int .u64 p.size, .int .u64 p.data, .int .u64 p.bl, .int .u64 p.br, .int .u64 p.uni, .int .u64 p.bidis, .int .u64 p.unis, .int .u64 p.expo, .int .u64 p.delay, .int .u64 p.ids, .string ⟨p.tok.toArray⟩] 24))
  unfold pv
  go_enter Tryd.func9, Tryd.ntmps9
  go_wp2_with fail
  refine (CC.out _ (HL.out.below HB0.out hltL)).mono ?_
  rintro e w1 ⟨rfl, hb1⟩
  have HB1 := Lib.hid (HB0.out.trans (hb1.mono (by simp)))
  clear hb1
  go_wp2
  go_ret2
  exact ⟨rfl, HB1.out⟩
/-- PUT, in one word. -/
theorem put_any (p : Prm) (w : World) (ht : Tab w) (hL : Lim w) (hw : Wf p) : Calls Tryd.prog 9 #[pv p] w fun e w' => e = .returned (.tuple #[.string ⟨(putS p).toArray⟩, .int .i64 (putE p)]) ∧ Below w.heap.size w w' := by
  cases hc : chkB p with
  | true => rw [(put_yes hc).1, (put_yes hc).2]; exact put_ok p w ht hL hw hc
  | false => rw [(put_no hc).1, (put_no hc).2]; exact put_not p w ht hL hw hc
end Go.Proofs.YthhcpedaldlccaaDoor.Pm
