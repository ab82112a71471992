/- The document's Check of layer 5. By tools/gen-params-9.py. -/
import Derived.Test.YthhcpedaldlccaaDoorPrA
namespace Go.Proofs.YthhcpedaldlccaaDoor.Pm
open Go.RowKit Vm
set_option linter.unusedVariables false
set_option linter.unusedSimpArgs false

theorem rvN_big {p : Prm} {n : Nat} (hn : n < 15) (h : 4611686018427387903 < rvN p n) : chkB p = false := by
  refine ok_not hn ?_
  unfold rvN at h
  unfold okAt
  match hf : fld p n with
  | none => rw [hf] at h; simp at h
  | some v =>
    rw [hf] at h
    refine decide_eq_false (fun h2 => ?_)
    have h3 : hiN n ≤ 4611686018427387903 := by
      match n, hn with
      | 0, _ | 1, _ | 2, _ | 3, _ | 4, _ | 5, _ | 6, _ | 7, _ | 8, _ | 9, _ | 10, _ | 11, _ | 12, _ | 13, _ | 14, _ => decide
    simp only [Option.getD_some] at h
    omega
theorem rchk_yes {p : Prm} (hw : Wf p) (h : ∀ n, 1 ≤ n → n < 15 → rvN p n ≤ 4611686018427387903) (h1 : ¬ p.size < 1200) (h2 : ¬ 1152921504606846976 < p.bidis) (h3 : ¬ 1152921504606846976 < p.unis) (h4 : ¬ 20 < p.expo) (h5 : ¬ 16384 ≤ p.delay) (h6 : ¬ p.ids < 2) (ht : p.tok.length = 0 ∨ p.tok.length = 16) : chkB p = true := by
  unfold chkB
  rw [Bool.and_eq_true, List.all_eq_true]
  constructor
  · intro n hn
    have hn : n < 15 := by simpa using hn
    match n, hn with
    | 0, _ | 2, _ | 12, _ | 13, _ => rfl
    | 1, _ =>
      have e : p.idle ≤ 4611686018427387903 := h 1 (by decide) (by decide)
      have g := hw.idle.1
      refine decide_eq_true ?_
      show (0 : Int) ≤ p.idle ∧ p.idle ≤ 4611686018427387903
      omega
    | 3, _ =>
      have e : p.size ≤ 4611686018427387903 := h 3 (by decide) (by decide)
      have g := hw.size.1
      refine decide_eq_true ?_
      show (1200 : Int) ≤ p.size ∧ p.size ≤ 4611686018427387903
      omega
    | 4, _ =>
      have e : p.data ≤ 4611686018427387903 := h 4 (by decide) (by decide)
      have g := hw.data.1
      refine decide_eq_true ?_
      show (0 : Int) ≤ p.data ∧ p.data ≤ 4611686018427387903
      omega
    | 5, _ =>
      have e : p.bl ≤ 4611686018427387903 := h 5 (by decide) (by decide)
      have g := hw.bl.1
      refine decide_eq_true ?_
      show (0 : Int) ≤ p.bl ∧ p.bl ≤ 4611686018427387903
      omega
    | 6, _ =>
      have e : p.br ≤ 4611686018427387903 := h 6 (by decide) (by decide)
      have g := hw.br.1
      refine decide_eq_true ?_
      show (0 : Int) ≤ p.br ∧ p.br ≤ 4611686018427387903
      omega
    | 7, _ =>
      have e : p.uni ≤ 4611686018427387903 := h 7 (by decide) (by decide)
      have g := hw.uni.1
      refine decide_eq_true ?_
      show (0 : Int) ≤ p.uni ∧ p.uni ≤ 4611686018427387903
      omega
    | 8, _ =>
      have e : p.bidis ≤ 4611686018427387903 := h 8 (by decide) (by decide)
      have g := hw.bidis.1
      refine decide_eq_true ?_
      show (0 : Int) ≤ p.bidis ∧ p.bidis ≤ 1152921504606846976
      omega
    | 9, _ =>
      have e : p.unis ≤ 4611686018427387903 := h 9 (by decide) (by decide)
      have g := hw.unis.1
      refine decide_eq_true ?_
      show (0 : Int) ≤ p.unis ∧ p.unis ≤ 1152921504606846976
      omega
    | 10, _ =>
      have e : p.expo ≤ 4611686018427387903 := h 10 (by decide) (by decide)
      have g := hw.expo.1
      refine decide_eq_true ?_
      show (0 : Int) ≤ p.expo ∧ p.expo ≤ 20
      omega
    | 11, _ =>
      have e : p.delay ≤ 4611686018427387903 := h 11 (by decide) (by decide)
      have g := hw.delay.1
      refine decide_eq_true ?_
      show (0 : Int) ≤ p.delay ∧ p.delay ≤ 16383
      omega
    | 14, _ =>
      have e : p.ids ≤ 4611686018427387903 := h 14 (by decide) (by decide)
      have g := hw.ids.1
      refine decide_eq_true ?_
      show (2 : Int) ≤ p.ids ∧ p.ids ≤ 4611686018427387903
      omega
  · unfold tokB
    rw [Bool.or_eq_true]
    rcases ht with h | h
    · exact .inl (List.isEmpty_iff.2 (List.length_eq_zero_iff.1 h))
    · exact .inr (decide_eq_true h)
theorem chk_tok {p : Prm} (h0 : p.tok.length ≠ 0) (h1 : p.tok.length ≠ 16) : chkB p = false := by
  unfold chkB tokB
  rw [decide_eq_false h1, List.isEmpty_eq_false_iff.2 (fun h => h0 (by rw [h]; rfl))]
  simp
def RCRel (p : Prm) (w : World) (iv : Value) (W : World) : Prop :=
  ∃ k : Nat, 1 ≤ k ∧ k ≤ 15 ∧ iv = .int .u64 (k : Nat) ∧ (∀ n, 1 ≤ n → n < k → rvN p n ≤ 4611686018427387903) ∧ RBk w.heap.size p W ∧ Below w.heap.size w W
set_option maxHeartbeats 8000000 in
theorem rcheck_any (p : Prm) (w : World) (hw : Wf p) : Calls Tryd.prog 14 #[.agg #[.int .u64 p.idle, .int .u64 p.size, .int .u64 p.data, .int .u64 p.bl, .int .u64 p.br, .int .u64 p.uni, .int .u64 p.bidis, .int .u64 p.unis, .int .u64 p.expo, .int .u64 p.delay, .int .u64 p.ids, .string ⟨p.tok.toArray⟩]] w fun e w' => e = .returned (.int .i64 (chkE p)) ∧ Below w.heap.size w w' := by
  have HW := Lib.hid hw
  have HR : Hid (RBk w.heap.size p (w.alloc (.cells #[.int .u64 p.idle, .int .u64 p.size, .int .u64 p.data, .int .u64 p.bl, .int .u64 p.br, .int .u64 p.uni, .int .u64 p.bidis, .int .u64 p.unis, .int .u64 p.expo, .int .u64 p.delay, .int .u64 p.ids, .string ⟨p.tok.toArray⟩] 26))) := Lib.hid (RBk.made w p)
  clear hw
  go_enter Tryd.func14, Tryd.ntmps14
  go_wp2
  go_loopw [3] (fun iv wr => RCRel p w iv wr) (fun iv _ => 15 - (intOf iv).toNat)
  case atStart => exact ⟨1, by decide, by decide, rfl, fun n h1 h2 => by omega, HR.out, (Below.refl _ _).alloc (Nat.le_refl _) _⟩
  case round =>
    obtain ⟨k, hk1, hk, rfl, hall, hR, hb⟩ := hrel
    have HRr := Lib.hid hR
    have HA := Lib.hid hall
    have HB := Lib.hid hb
    clear hR hall hb
    have a0 := HRr.out.cell0
    have a1 := HRr.out.cell1
    have a2 := HRr.out.cell2
    have a3 := HRr.out.cell3
    have a4 := HRr.out.cell4
    have a5 := HRr.out.cell5
    have a6 := HRr.out.cell6
    have a7 := HRr.out.cell7
    have a8 := HRr.out.cell8
    have a9 := HRr.out.cell9
    have a10 := HRr.out.cell10
    have a11 := HRr.out.cell11
    by_cases hlt : k < 15
    · have CV := Lib.hid (fun w => rvalue_any p k w)
      obtain ⟨x, Ex⟩ : ∃ x, rvN p k = x := ⟨_, rfl⟩
      rw [Ex] at CV
      go_wp2_with fail
      refine (CV.out _).mono ?_
      rintro e w2 ⟨rfl, hb⟩
      have HR2 := Lib.hid (HRr.out.keep hb)
      have HB2 := Lib.hid (HB.out.trans (hb.mono HB.out.size))
      clear hb
      by_cases hx : 4611686018427387903 < x
      · have hc : chkB p = false := rvN_big hlt (by rw [Ex]; exact hx)
        clear Ex
        go_wp2
        go_ret
        exact ⟨by rw [chkE_no hc]; rfl, HB2.out⟩
      · have HX : Hid (∀ n, 1 ≤ n → n < k + 1 → rvN p n ≤ 4611686018427387903) := Lib.hid (fun n h1 h2 => by
          rcases Nat.lt_or_ge n k with h | h
          · exact HA.out n h1 h
          · have : n = k := by omega
            subst this
            omega)
        clear Ex
        go_wp2
        go_roundw
        case rel => exact ⟨k + 1, by omega, by omega, by go_num, HX.out, HR2.out, HB2.out⟩
        case measure => simp [intOf]; omega
    · obtain rfl : k = 15 := by omega
      by_cases t_size : p.size < 1200
      · have hc : chkB p = false := ok_not (k := 3) (by decide) (decide_eq_false (fun h => by have h1 := h.1; have h2 := h.2; simp only [loN, hiN] at h1 h2; omega))
        go_wp2
        go_ret
        exact ⟨by rw [chkE_no hc]; rfl, HB.out⟩
      by_cases t_bidis : 1152921504606846976 < p.bidis
      · have hc : chkB p = false := ok_not (k := 8) (by decide) (decide_eq_false (fun h => by have h1 := h.1; have h2 := h.2; simp only [loN, hiN] at h1 h2; omega))
        go_wp2
        go_ret
        exact ⟨by rw [chkE_no hc]; rfl, HB.out⟩
      by_cases t_unis : 1152921504606846976 < p.unis
      · have hc : chkB p = false := ok_not (k := 9) (by decide) (decide_eq_false (fun h => by have h1 := h.1; have h2 := h.2; simp only [loN, hiN] at h1 h2; omega))
        go_wp2
        go_ret
        exact ⟨by rw [chkE_no hc]; rfl, HB.out⟩
      by_cases t_expo : 20 < p.expo
      · have hc : chkB p = false := ok_not (k := 10) (by decide) (decide_eq_false (fun h => by have h1 := h.1; have h2 := h.2; simp only [loN, hiN] at h1 h2; omega))
        go_wp2
        go_ret
        exact ⟨by rw [chkE_no hc]; rfl, HB.out⟩
      by_cases t_delay : 16384 ≤ p.delay
      · have hc : chkB p = false := ok_not (k := 11) (by decide) (decide_eq_false (fun h => by have h1 := h.1; have h2 := h.2; simp only [loN, hiN] at h1 h2; omega))
        go_wp2
        go_ret
        exact ⟨by rw [chkE_no hc]; rfl, HB.out⟩
      by_cases t_ids : p.ids < 2
      · have hc : chkB p = false := ok_not (k := 14) (by decide) (decide_eq_false (fun h => by have h1 := h.1; have h2 := h.2; simp only [loN, hiN] at h1 h2; omega))
        go_wp2
        go_ret
        exact ⟨by rw [chkE_no hc]; rfl, HB.out⟩
      by_cases tk0 : p.tok.length = 0
      · have hc : chkB p = true := rchk_yes HW.out HA.out t_size t_bidis t_unis t_expo t_delay t_ids (.inl tk0)
        have n0 : (((p.tok.length : Nat) : Int) != 0) = false := by rw [tk0]; rfl
        go_wp2
        go_ret
        exact ⟨by rw [chkE_yes hc]; rfl, HB.out⟩
      have n0 : (((p.tok.length : Nat) : Int) != 0) = true := by rw [bne_iff_ne]; omega
      by_cases tk1 : p.tok.length = 16
      · have hc : chkB p = true := rchk_yes HW.out HA.out t_size t_bidis t_unis t_expo t_delay t_ids (.inr tk1)
        have n1 : (((p.tok.length : Nat) : Int) != 16) = false := by rw [tk1]; rfl
        clear tk1
        go_wp2
        go_ret
        exact ⟨by rw [chkE_yes hc]; rfl, HB.out⟩
      · have hc : chkB p = false := chk_tok tk0 tk1
        have n1 : (((p.tok.length : Nat) : Int) != 16) = true := by rw [bne_iff_ne]; omega
        go_wp2
        go_ret
        exact ⟨by rw [chkE_no hc]; rfl, HB.out⟩
end Go.Proofs.YthhcpedaldlccaaDoor.Pm
