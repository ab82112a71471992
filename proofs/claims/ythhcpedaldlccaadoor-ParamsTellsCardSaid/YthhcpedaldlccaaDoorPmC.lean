/- The walks of layer 5: Check, the program's. By tools/gen-params-3.py. -/
import Derived.Test.YthhcpedaldlccaaDoorPmL
import Derived.Deep.RegionWith
import Derived.Deep.QuietTactic
import Derived.BigQuiet
namespace Go.Proofs.YthhcpedaldlccaaDoor.Pm
open Go.RowKit Vm
set_option linter.unusedVariables false
set_option linter.unusedSimpArgs false

theorem Lim.below {B : Nat} {w w' : World} (h : Lim w) (hb : Below B w w') (hB : 0 < B) : Lim w' :=
  ⟨Nat.lt_of_lt_of_le h.1 hb.size, fun n hn => ⟨(hb.cell (p := ⟨0, 2 * n, none⟩) hB).trans (h.2 n hn).1, (hb.cell (p := ⟨0, 2 * n + 1, none⟩) hB).trans (h.2 n hn).2⟩⟩
theorem Lim.lo0 {w : World} (h : Lim w) : w.cell? ⟨0, 0, none⟩ = some (.int .u64 0) := (h.2 0 (by decide)).1
theorem Lim.hi0 {w : World} (h : Lim w) : w.cell? ⟨0, 1, none⟩ = some (.int .u64 0) := (h.2 0 (by decide)).2
theorem Lim.lo1 {w : World} (h : Lim w) : w.cell? ⟨0, 2, none⟩ = some (.int .u64 0) := (h.2 1 (by decide)).1
theorem Lim.hi1 {w : World} (h : Lim w) : w.cell? ⟨0, 3, none⟩ = some (.int .u64 4611686018427387903) := (h.2 1 (by decide)).2
theorem Lim.lo2 {w : World} (h : Lim w) : w.cell? ⟨0, 4, none⟩ = some (.int .u64 0) := (h.2 2 (by decide)).1
theorem Lim.hi2 {w : World} (h : Lim w) : w.cell? ⟨0, 5, none⟩ = some (.int .u64 0) := (h.2 2 (by decide)).2
theorem Lim.lo3 {w : World} (h : Lim w) : w.cell? ⟨0, 6, none⟩ = some (.int .u64 1200) := (h.2 3 (by decide)).1
theorem Lim.hi3 {w : World} (h : Lim w) : w.cell? ⟨0, 7, none⟩ = some (.int .u64 4611686018427387903) := (h.2 3 (by decide)).2
theorem Lim.lo4 {w : World} (h : Lim w) : w.cell? ⟨0, 8, none⟩ = some (.int .u64 0) := (h.2 4 (by decide)).1
theorem Lim.hi4 {w : World} (h : Lim w) : w.cell? ⟨0, 9, none⟩ = some (.int .u64 4611686018427387903) := (h.2 4 (by decide)).2
theorem Lim.lo5 {w : World} (h : Lim w) : w.cell? ⟨0, 10, none⟩ = some (.int .u64 0) := (h.2 5 (by decide)).1
theorem Lim.hi5 {w : World} (h : Lim w) : w.cell? ⟨0, 11, none⟩ = some (.int .u64 4611686018427387903) := (h.2 5 (by decide)).2
theorem Lim.lo6 {w : World} (h : Lim w) : w.cell? ⟨0, 12, none⟩ = some (.int .u64 0) := (h.2 6 (by decide)).1
theorem Lim.hi6 {w : World} (h : Lim w) : w.cell? ⟨0, 13, none⟩ = some (.int .u64 4611686018427387903) := (h.2 6 (by decide)).2
theorem Lim.lo7 {w : World} (h : Lim w) : w.cell? ⟨0, 14, none⟩ = some (.int .u64 0) := (h.2 7 (by decide)).1
theorem Lim.hi7 {w : World} (h : Lim w) : w.cell? ⟨0, 15, none⟩ = some (.int .u64 4611686018427387903) := (h.2 7 (by decide)).2
theorem Lim.lo8 {w : World} (h : Lim w) : w.cell? ⟨0, 16, none⟩ = some (.int .u64 0) := (h.2 8 (by decide)).1
theorem Lim.hi8 {w : World} (h : Lim w) : w.cell? ⟨0, 17, none⟩ = some (.int .u64 1152921504606846976) := (h.2 8 (by decide)).2
theorem Lim.lo9 {w : World} (h : Lim w) : w.cell? ⟨0, 18, none⟩ = some (.int .u64 0) := (h.2 9 (by decide)).1
theorem Lim.hi9 {w : World} (h : Lim w) : w.cell? ⟨0, 19, none⟩ = some (.int .u64 1152921504606846976) := (h.2 9 (by decide)).2
theorem Lim.lo10 {w : World} (h : Lim w) : w.cell? ⟨0, 20, none⟩ = some (.int .u64 0) := (h.2 10 (by decide)).1
theorem Lim.hi10 {w : World} (h : Lim w) : w.cell? ⟨0, 21, none⟩ = some (.int .u64 20) := (h.2 10 (by decide)).2
theorem Lim.lo11 {w : World} (h : Lim w) : w.cell? ⟨0, 22, none⟩ = some (.int .u64 0) := (h.2 11 (by decide)).1
theorem Lim.hi11 {w : World} (h : Lim w) : w.cell? ⟨0, 23, none⟩ = some (.int .u64 16383) := (h.2 11 (by decide)).2
theorem Lim.lo12 {w : World} (h : Lim w) : w.cell? ⟨0, 24, none⟩ = some (.int .u64 0) := (h.2 12 (by decide)).1
theorem Lim.hi12 {w : World} (h : Lim w) : w.cell? ⟨0, 25, none⟩ = some (.int .u64 0) := (h.2 12 (by decide)).2
theorem Lim.lo13 {w : World} (h : Lim w) : w.cell? ⟨0, 26, none⟩ = some (.int .u64 0) := (h.2 13 (by decide)).1
theorem Lim.hi13 {w : World} (h : Lim w) : w.cell? ⟨0, 27, none⟩ = some (.int .u64 0) := (h.2 13 (by decide)).2
theorem Lim.lo14 {w : World} (h : Lim w) : w.cell? ⟨0, 28, none⟩ = some (.int .u64 2) := (h.2 14 (by decide)).1
theorem Lim.hi14 {w : World} (h : Lim w) : w.cell? ⟨0, 29, none⟩ = some (.int .u64 4611686018427387903) := (h.2 14 (by decide)).2
theorem ok_succ {p : Prm} {k : Nat} (h : (List.range k).all (okAt p) = true) (h2 : okAt p k = true) : (List.range (k + 1)).all (okAt p) = true := by
  rw [List.range_succ, List.all_append, h]; simp [h2]
theorem ok_not {p : Prm} {k : Nat} (hk : k < 15) (h : okAt p k = false) : chkB p = false := by
  unfold chkB
  have : (List.range 15).all (okAt p) = false := by
    rw [List.all_eq_false]
    exact ⟨k, by simpa using hk, by rw [h]; decide⟩
  rw [this]; rfl
theorem tl_yes (l : List UInt8) (h : l = []) : (⟨l.toArray⟩ : ByteArray).toList.isEmpty = true := by subst h; exact empty_yes _ rfl
theorem tl_no (l : List UInt8) (h : l ≠ []) : (⟨l.toArray⟩ : ByteArray).toList.isEmpty = false := empty_no _ (by rw [size_len]; exact List.length_pos_iff.2 h)
/-- What Check answers. -/
def chkE (p : Prm) : Int := if chkB p = true then 0 else 50
theorem chkE_no {p : Prm} (h : chkB p = false) : chkE p = 50 := by unfold chkE; rw [h]; rfl
theorem chkE_yes {p : Prm} (h : chkB p = true) : chkE p = 0 := by unfold chkE; rw [h]; rfl
def CRel (p : Prm) (w : World) (iv : Value) (W : World) : Prop :=
  ∃ k : Nat, k ≤ 15 ∧ iv = .int .i64 k ∧ (List.range k).all (okAt p) = true ∧ PBk w.heap.size p W ∧ Lim W ∧ Below w.heap.size w W
set_option maxHeartbeats 8000000 in
theorem check_any (p : Prm) (w : World) (hL : Lim w) (hw : Wf p) : Calls Tryd.prog 13 #[.agg #[.int .u64 p.idle, .int .u64 p.size, .int .u64 p.data, .int .u64 p.bl, .int .u64 p.br, .int .u64 p.uni, .int .u64 p.bidis, .int .u64 p.unis, .int .u64 p.expo, .int .u64 p.delay, .int .u64 p.ids, .string ⟨p.tok.toArray⟩]] w fun e w' => e = .returned (.int .i64 (chkE p)) ∧ Below w.heap.size w w' := by
  have HP := Lib.hid (PBk.made w p)
  have hg := hL.1
  have HL := Lib.hid (hL.below ((Below.refl w.heap.size w).alloc (Nat.le_refl _) (.cells #[.int .u64 p.idle, .int .u64 p.size, .int .u64 p.data, .int .u64 p.bl, .int .u64 p.br, .int .u64 p.uni, .int .u64 p.bidis, .int .u64 p.unis, .int .u64 p.expo, .int .u64 p.delay, .int .u64 p.ids, .string ⟨p.tok.toArray⟩] 24)) hL.1)
  clear hL
  go_enter Tryd.func13, Tryd.ntmps13
  go_wp2_with fail
  refine (places_any w.heap.size _ (by simp)).mono ?_
  rintro e w1 ⟨rfl, hb1⟩
  replace HP := Lib.hid (HP.out.keep hb1)
  replace HL := Lib.hid (HL.out.below hb1 HL.out.1)
  have HB := Lib.hid (((Below.refl w.heap.size w).alloc (Nat.le_refl _) (.cells #[.int .u64 p.idle, .int .u64 p.size, .int .u64 p.data, .int .u64 p.bl, .int .u64 p.br, .int .u64 p.uni, .int .u64 p.bidis, .int .u64 p.unis, .int .u64 p.expo, .int .u64 p.delay, .int .u64 p.ids, .string ⟨p.tok.toArray⟩] 24)).trans (hb1.mono (by simp)))
  clear hb1
  go_wp2
  go_loopw [6] (fun iv W => CRel p w iv W) (fun iv _ => 15 - (intOf iv).toNat)
  case atStart => exact ⟨0, by decide, rfl, rfl, HP.out, HL.out, HB.out⟩
  case round =>
    obtain ⟨k, hk, rfl, hall, hbk, hlm, hbel⟩ := hrel
    have HBK := Lib.hid hbk
    have HLM := Lib.hid hlm
    clear hbk hlm
    match k, hk with
    | 0, _ =>
      have hok : okAt p 0 = true := rfl
      have HI := run_index_ptri #[.pointer none, .pointer (some ⟨w.heap.size, 0, none⟩), .pointer none, .pointer (some ⟨w.heap.size, 1, none⟩), .pointer (some ⟨w.heap.size, 2, none⟩), .pointer (some ⟨w.heap.size, 3, none⟩), .pointer (some ⟨w.heap.size, 4, none⟩), .pointer (some ⟨w.heap.size, 5, none⟩), .pointer (some ⟨w.heap.size, 6, none⟩), .pointer (some ⟨w.heap.size, 7, none⟩), .pointer (some ⟨w.heap.size, 8, none⟩), .pointer (some ⟨w.heap.size, 9, none⟩), .pointer none, .pointer none, .pointer (some ⟨w.heap.size, 10, none⟩)] 0 (.pointer none) wr (by decide) rfl
      go_wp2_with fail
      erw [HI]
      clear HI
      go_wp2_with fail
      go_quiet (fail)
      go_wp2
      go_roundw
      case rel => exact ⟨1, by decide, by go_num, ok_succ hall hok, HBK.out.keep (below_drewN (Below.refl _ _) _), HLM.out.below (below_drewN (Below.refl _ _) _) HLM.out.1, below_drewN hbel _⟩
      case measure => simp [intOf]
    | 1, _ =>
      by_cases hv : 0 ≤ p.idle ∧ p.idle ≤ 4611686018427387903
      · have hok : okAt p 1 = true := decide_eq_true hv
        have HTK := Lib.hid (fun w => takes_any 0 4611686018427387903 p.idle w (by decide) (by decide) (hw.idle).1)
        rw [decide_eq_true hv] at HTK
        clear hv
        have c0 := HBK.out.cell0
        have l0 := HLM.out.lo1
        have l1 := HLM.out.hi1
        have hlim := HLM.out.1
        have HI := run_index_ptri #[.pointer none, .pointer (some ⟨w.heap.size, 0, none⟩), .pointer none, .pointer (some ⟨w.heap.size, 1, none⟩), .pointer (some ⟨w.heap.size, 2, none⟩), .pointer (some ⟨w.heap.size, 3, none⟩), .pointer (some ⟨w.heap.size, 4, none⟩), .pointer (some ⟨w.heap.size, 5, none⟩), .pointer (some ⟨w.heap.size, 6, none⟩), .pointer (some ⟨w.heap.size, 7, none⟩), .pointer (some ⟨w.heap.size, 8, none⟩), .pointer (some ⟨w.heap.size, 9, none⟩), .pointer none, .pointer none, .pointer (some ⟨w.heap.size, 10, none⟩)] 1 (.pointer (some ⟨w.heap.size, 0, none⟩)) wr (by decide) rfl
        go_wp2_with fail
        erw [HI]
        clear HI
        go_wp2_with fail
        go_region_with ((go_at_call 29; (with_reducible refine (HTK.out _).mono ?_); rintro e W2 ⟨rfl, hb2⟩; have HB2 := Lib.hid (hbel.trans ((below_drewN (Below.refl wr.heap.size wr) 1 |>.trans hb2).mono hbel.size)); have HBK2 := Lib.hid (HBK.out.keep (below_drewN (Below.refl wr.heap.size wr) 1 |>.trans hb2)); have HLM2 := Lib.hid (HLM.out.below (below_drewN (Below.refl wr.heap.size wr) 1 |>.trans hb2) hlim); clear hb2))
        all_goals
          clear c0 l0 l1
          go_wp2
          go_roundw
          case rel => exact ⟨2, by decide, by go_num, ok_succ hall hok, HBK2.out, HLM2.out, HB2.out⟩
          case measure => simp [intOf]
      · have hok : okAt p 1 = false := decide_eq_false hv
        have HTK := Lib.hid (fun w => takes_any 0 4611686018427387903 p.idle w (by decide) (by decide) (hw.idle).1)
        rw [decide_eq_false hv] at HTK
        clear hv
        have c0 := HBK.out.cell0
        have l0 := HLM.out.lo1
        have l1 := HLM.out.hi1
        have hlim := HLM.out.1
        have HI := run_index_ptri #[.pointer none, .pointer (some ⟨w.heap.size, 0, none⟩), .pointer none, .pointer (some ⟨w.heap.size, 1, none⟩), .pointer (some ⟨w.heap.size, 2, none⟩), .pointer (some ⟨w.heap.size, 3, none⟩), .pointer (some ⟨w.heap.size, 4, none⟩), .pointer (some ⟨w.heap.size, 5, none⟩), .pointer (some ⟨w.heap.size, 6, none⟩), .pointer (some ⟨w.heap.size, 7, none⟩), .pointer (some ⟨w.heap.size, 8, none⟩), .pointer (some ⟨w.heap.size, 9, none⟩), .pointer none, .pointer none, .pointer (some ⟨w.heap.size, 10, none⟩)] 1 (.pointer (some ⟨w.heap.size, 0, none⟩)) wr (by decide) rfl
        go_wp2_with fail
        erw [HI]
        clear HI
        go_wp2_with fail
        go_region_with ((go_at_call 29; (with_reducible refine (HTK.out _).mono ?_); rintro e W2 ⟨rfl, hb2⟩; have HB2 := Lib.hid (hbel.trans ((below_drewN (Below.refl wr.heap.size wr) 1 |>.trans hb2).mono hbel.size)); have HBK2 := Lib.hid (HBK.out.keep (below_drewN (Below.refl wr.heap.size wr) 1 |>.trans hb2)); have HLM2 := Lib.hid (HLM.out.below (below_drewN (Below.refl wr.heap.size wr) 1 |>.trans hb2) hlim); clear hb2))
        all_goals
          clear c0 l0 l1
          go_wp2
          go_ret
          exact ⟨by rw [chkE_no (ok_not (by decide) hok)]; rfl, HB2.out⟩
    | 2, _ =>
      have hok : okAt p 2 = true := rfl
      have HI := run_index_ptri #[.pointer none, .pointer (some ⟨w.heap.size, 0, none⟩), .pointer none, .pointer (some ⟨w.heap.size, 1, none⟩), .pointer (some ⟨w.heap.size, 2, none⟩), .pointer (some ⟨w.heap.size, 3, none⟩), .pointer (some ⟨w.heap.size, 4, none⟩), .pointer (some ⟨w.heap.size, 5, none⟩), .pointer (some ⟨w.heap.size, 6, none⟩), .pointer (some ⟨w.heap.size, 7, none⟩), .pointer (some ⟨w.heap.size, 8, none⟩), .pointer (some ⟨w.heap.size, 9, none⟩), .pointer none, .pointer none, .pointer (some ⟨w.heap.size, 10, none⟩)] 2 (.pointer none) wr (by decide) rfl
      go_wp2_with fail
      erw [HI]
      clear HI
      go_wp2_with fail
      go_quiet (fail)
      go_wp2
      go_roundw
      case rel => exact ⟨3, by decide, by go_num, ok_succ hall hok, HBK.out.keep (below_drewN (Below.refl _ _) _), HLM.out.below (below_drewN (Below.refl _ _) _) HLM.out.1, below_drewN hbel _⟩
      case measure => simp [intOf]
    | 3, _ =>
      by_cases hv : 1200 ≤ p.size ∧ p.size ≤ 4611686018427387903
      · have hok : okAt p 3 = true := decide_eq_true hv
        have HTK := Lib.hid (fun w => takes_any 1200 4611686018427387903 p.size w (by decide) (by decide) (hw.size).1)
        rw [decide_eq_true hv] at HTK
        clear hv
        have c1 := HBK.out.cell1
        have l0 := HLM.out.lo3
        have l1 := HLM.out.hi3
        have hlim := HLM.out.1
        have HI := run_index_ptri #[.pointer none, .pointer (some ⟨w.heap.size, 0, none⟩), .pointer none, .pointer (some ⟨w.heap.size, 1, none⟩), .pointer (some ⟨w.heap.size, 2, none⟩), .pointer (some ⟨w.heap.size, 3, none⟩), .pointer (some ⟨w.heap.size, 4, none⟩), .pointer (some ⟨w.heap.size, 5, none⟩), .pointer (some ⟨w.heap.size, 6, none⟩), .pointer (some ⟨w.heap.size, 7, none⟩), .pointer (some ⟨w.heap.size, 8, none⟩), .pointer (some ⟨w.heap.size, 9, none⟩), .pointer none, .pointer none, .pointer (some ⟨w.heap.size, 10, none⟩)] 3 (.pointer (some ⟨w.heap.size, 1, none⟩)) wr (by decide) rfl
        go_wp2_with fail
        erw [HI]
        clear HI
        go_wp2_with fail
        go_region_with ((go_at_call 29; (with_reducible refine (HTK.out _).mono ?_); rintro e W2 ⟨rfl, hb2⟩; have HB2 := Lib.hid (hbel.trans ((below_drewN (Below.refl wr.heap.size wr) 1 |>.trans hb2).mono hbel.size)); have HBK2 := Lib.hid (HBK.out.keep (below_drewN (Below.refl wr.heap.size wr) 1 |>.trans hb2)); have HLM2 := Lib.hid (HLM.out.below (below_drewN (Below.refl wr.heap.size wr) 1 |>.trans hb2) hlim); clear hb2))
        all_goals
          clear c1 l0 l1
          go_wp2
          go_roundw
          case rel => exact ⟨4, by decide, by go_num, ok_succ hall hok, HBK2.out, HLM2.out, HB2.out⟩
          case measure => simp [intOf]
      · have hok : okAt p 3 = false := decide_eq_false hv
        have HTK := Lib.hid (fun w => takes_any 1200 4611686018427387903 p.size w (by decide) (by decide) (hw.size).1)
        rw [decide_eq_false hv] at HTK
        clear hv
        have c1 := HBK.out.cell1
        have l0 := HLM.out.lo3
        have l1 := HLM.out.hi3
        have hlim := HLM.out.1
        have HI := run_index_ptri #[.pointer none, .pointer (some ⟨w.heap.size, 0, none⟩), .pointer none, .pointer (some ⟨w.heap.size, 1, none⟩), .pointer (some ⟨w.heap.size, 2, none⟩), .pointer (some ⟨w.heap.size, 3, none⟩), .pointer (some ⟨w.heap.size, 4, none⟩), .pointer (some ⟨w.heap.size, 5, none⟩), .pointer (some ⟨w.heap.size, 6, none⟩), .pointer (some ⟨w.heap.size, 7, none⟩), .pointer (some ⟨w.heap.size, 8, none⟩), .pointer (some ⟨w.heap.size, 9, none⟩), .pointer none, .pointer none, .pointer (some ⟨w.heap.size, 10, none⟩)] 3 (.pointer (some ⟨w.heap.size, 1, none⟩)) wr (by decide) rfl
        go_wp2_with fail
        erw [HI]
        clear HI
        go_wp2_with fail
        go_region_with ((go_at_call 29; (with_reducible refine (HTK.out _).mono ?_); rintro e W2 ⟨rfl, hb2⟩; have HB2 := Lib.hid (hbel.trans ((below_drewN (Below.refl wr.heap.size wr) 1 |>.trans hb2).mono hbel.size)); have HBK2 := Lib.hid (HBK.out.keep (below_drewN (Below.refl wr.heap.size wr) 1 |>.trans hb2)); have HLM2 := Lib.hid (HLM.out.below (below_drewN (Below.refl wr.heap.size wr) 1 |>.trans hb2) hlim); clear hb2))
        all_goals
          clear c1 l0 l1
          go_wp2
          go_ret
          exact ⟨by rw [chkE_no (ok_not (by decide) hok)]; rfl, HB2.out⟩
    | 4, _ =>
      by_cases hv : 0 ≤ p.data ∧ p.data ≤ 4611686018427387903
      · have hok : okAt p 4 = true := decide_eq_true hv
        have HTK := Lib.hid (fun w => takes_any 0 4611686018427387903 p.data w (by decide) (by decide) (hw.data).1)
        rw [decide_eq_true hv] at HTK
        clear hv
        have c2 := HBK.out.cell2
        have l0 := HLM.out.lo4
        have l1 := HLM.out.hi4
        have hlim := HLM.out.1
        have HI := run_index_ptri #[.pointer none, .pointer (some ⟨w.heap.size, 0, none⟩), .pointer none, .pointer (some ⟨w.heap.size, 1, none⟩), .pointer (some ⟨w.heap.size, 2, none⟩), .pointer (some ⟨w.heap.size, 3, none⟩), .pointer (some ⟨w.heap.size, 4, none⟩), .pointer (some ⟨w.heap.size, 5, none⟩), .pointer (some ⟨w.heap.size, 6, none⟩), .pointer (some ⟨w.heap.size, 7, none⟩), .pointer (some ⟨w.heap.size, 8, none⟩), .pointer (some ⟨w.heap.size, 9, none⟩), .pointer none, .pointer none, .pointer (some ⟨w.heap.size, 10, none⟩)] 4 (.pointer (some ⟨w.heap.size, 2, none⟩)) wr (by decide) rfl
        go_wp2_with fail
        erw [HI]
        clear HI
        go_wp2_with fail
        go_region_with ((go_at_call 29; (with_reducible refine (HTK.out _).mono ?_); rintro e W2 ⟨rfl, hb2⟩; have HB2 := Lib.hid (hbel.trans ((below_drewN (Below.refl wr.heap.size wr) 1 |>.trans hb2).mono hbel.size)); have HBK2 := Lib.hid (HBK.out.keep (below_drewN (Below.refl wr.heap.size wr) 1 |>.trans hb2)); have HLM2 := Lib.hid (HLM.out.below (below_drewN (Below.refl wr.heap.size wr) 1 |>.trans hb2) hlim); clear hb2))
        all_goals
          clear c2 l0 l1
          go_wp2
          go_roundw
          case rel => exact ⟨5, by decide, by go_num, ok_succ hall hok, HBK2.out, HLM2.out, HB2.out⟩
          case measure => simp [intOf]
      · have hok : okAt p 4 = false := decide_eq_false hv
        have HTK := Lib.hid (fun w => takes_any 0 4611686018427387903 p.data w (by decide) (by decide) (hw.data).1)
        rw [decide_eq_false hv] at HTK
        clear hv
        have c2 := HBK.out.cell2
        have l0 := HLM.out.lo4
        have l1 := HLM.out.hi4
        have hlim := HLM.out.1
        have HI := run_index_ptri #[.pointer none, .pointer (some ⟨w.heap.size, 0, none⟩), .pointer none, .pointer (some ⟨w.heap.size, 1, none⟩), .pointer (some ⟨w.heap.size, 2, none⟩), .pointer (some ⟨w.heap.size, 3, none⟩), .pointer (some ⟨w.heap.size, 4, none⟩), .pointer (some ⟨w.heap.size, 5, none⟩), .pointer (some ⟨w.heap.size, 6, none⟩), .pointer (some ⟨w.heap.size, 7, none⟩), .pointer (some ⟨w.heap.size, 8, none⟩), .pointer (some ⟨w.heap.size, 9, none⟩), .pointer none, .pointer none, .pointer (some ⟨w.heap.size, 10, none⟩)] 4 (.pointer (some ⟨w.heap.size, 2, none⟩)) wr (by decide) rfl
        go_wp2_with fail
        erw [HI]
        clear HI
        go_wp2_with fail
        go_region_with ((go_at_call 29; (with_reducible refine (HTK.out _).mono ?_); rintro e W2 ⟨rfl, hb2⟩; have HB2 := Lib.hid (hbel.trans ((below_drewN (Below.refl wr.heap.size wr) 1 |>.trans hb2).mono hbel.size)); have HBK2 := Lib.hid (HBK.out.keep (below_drewN (Below.refl wr.heap.size wr) 1 |>.trans hb2)); have HLM2 := Lib.hid (HLM.out.below (below_drewN (Below.refl wr.heap.size wr) 1 |>.trans hb2) hlim); clear hb2))
        all_goals
          clear c2 l0 l1
          go_wp2
          go_ret
          exact ⟨by rw [chkE_no (ok_not (by decide) hok)]; rfl, HB2.out⟩
    | 5, _ =>
      by_cases hv : 0 ≤ p.bl ∧ p.bl ≤ 4611686018427387903
      · have hok : okAt p 5 = true := decide_eq_true hv
        have HTK := Lib.hid (fun w => takes_any 0 4611686018427387903 p.bl w (by decide) (by decide) (hw.bl).1)
        rw [decide_eq_true hv] at HTK
        clear hv
        have c3 := HBK.out.cell3
        have l0 := HLM.out.lo5
        have l1 := HLM.out.hi5
        have hlim := HLM.out.1
        have HI := run_index_ptri #[.pointer none, .pointer (some ⟨w.heap.size, 0, none⟩), .pointer none, .pointer (some ⟨w.heap.size, 1, none⟩), .pointer (some ⟨w.heap.size, 2, none⟩), .pointer (some ⟨w.heap.size, 3, none⟩), .pointer (some ⟨w.heap.size, 4, none⟩), .pointer (some ⟨w.heap.size, 5, none⟩), .pointer (some ⟨w.heap.size, 6, none⟩), .pointer (some ⟨w.heap.size, 7, none⟩), .pointer (some ⟨w.heap.size, 8, none⟩), .pointer (some ⟨w.heap.size, 9, none⟩), .pointer none, .pointer none, .pointer (some ⟨w.heap.size, 10, none⟩)] 5 (.pointer (some ⟨w.heap.size, 3, none⟩)) wr (by decide) rfl
        go_wp2_with fail
        erw [HI]
        clear HI
        go_wp2_with fail
        go_region_with ((go_at_call 29; (with_reducible refine (HTK.out _).mono ?_); rintro e W2 ⟨rfl, hb2⟩; have HB2 := Lib.hid (hbel.trans ((below_drewN (Below.refl wr.heap.size wr) 1 |>.trans hb2).mono hbel.size)); have HBK2 := Lib.hid (HBK.out.keep (below_drewN (Below.refl wr.heap.size wr) 1 |>.trans hb2)); have HLM2 := Lib.hid (HLM.out.below (below_drewN (Below.refl wr.heap.size wr) 1 |>.trans hb2) hlim); clear hb2))
        all_goals
          clear c3 l0 l1
          go_wp2
          go_roundw
          case rel => exact ⟨6, by decide, by go_num, ok_succ hall hok, HBK2.out, HLM2.out, HB2.out⟩
          case measure => simp [intOf]
      · have hok : okAt p 5 = false := decide_eq_false hv
        have HTK := Lib.hid (fun w => takes_any 0 4611686018427387903 p.bl w (by decide) (by decide) (hw.bl).1)
        rw [decide_eq_false hv] at HTK
        clear hv
        have c3 := HBK.out.cell3
        have l0 := HLM.out.lo5
        have l1 := HLM.out.hi5
        have hlim := HLM.out.1
        have HI := run_index_ptri #[.pointer none, .pointer (some ⟨w.heap.size, 0, none⟩), .pointer none, .pointer (some ⟨w.heap.size, 1, none⟩), .pointer (some ⟨w.heap.size, 2, none⟩), .pointer (some ⟨w.heap.size, 3, none⟩), .pointer (some ⟨w.heap.size, 4, none⟩), .pointer (some ⟨w.heap.size, 5, none⟩), .pointer (some ⟨w.heap.size, 6, none⟩), .pointer (some ⟨w.heap.size, 7, none⟩), .pointer (some ⟨w.heap.size, 8, none⟩), .pointer (some ⟨w.heap.size, 9, none⟩), .pointer none, .pointer none, .pointer (some ⟨w.heap.size, 10, none⟩)] 5 (.pointer (some ⟨w.heap.size, 3, none⟩)) wr (by decide) rfl
        go_wp2_with fail
        erw [HI]
        clear HI
        go_wp2_with fail
        go_region_with ((go_at_call 29; (with_reducible refine (HTK.out _).mono ?_); rintro e W2 ⟨rfl, hb2⟩; have HB2 := Lib.hid (hbel.trans ((below_drewN (Below.refl wr.heap.size wr) 1 |>.trans hb2).mono hbel.size)); have HBK2 := Lib.hid (HBK.out.keep (below_drewN (Below.refl wr.heap.size wr) 1 |>.trans hb2)); have HLM2 := Lib.hid (HLM.out.below (below_drewN (Below.refl wr.heap.size wr) 1 |>.trans hb2) hlim); clear hb2))
        all_goals
          clear c3 l0 l1
          go_wp2
          go_ret
          exact ⟨by rw [chkE_no (ok_not (by decide) hok)]; rfl, HB2.out⟩
    | 6, _ =>
      by_cases hv : 0 ≤ p.br ∧ p.br ≤ 4611686018427387903
      · have hok : okAt p 6 = true := decide_eq_true hv
        have HTK := Lib.hid (fun w => takes_any 0 4611686018427387903 p.br w (by decide) (by decide) (hw.br).1)
        rw [decide_eq_true hv] at HTK
        clear hv
        have c4 := HBK.out.cell4
        have l0 := HLM.out.lo6
        have l1 := HLM.out.hi6
        have hlim := HLM.out.1
        have HI := run_index_ptri #[.pointer none, .pointer (some ⟨w.heap.size, 0, none⟩), .pointer none, .pointer (some ⟨w.heap.size, 1, none⟩), .pointer (some ⟨w.heap.size, 2, none⟩), .pointer (some ⟨w.heap.size, 3, none⟩), .pointer (some ⟨w.heap.size, 4, none⟩), .pointer (some ⟨w.heap.size, 5, none⟩), .pointer (some ⟨w.heap.size, 6, none⟩), .pointer (some ⟨w.heap.size, 7, none⟩), .pointer (some ⟨w.heap.size, 8, none⟩), .pointer (some ⟨w.heap.size, 9, none⟩), .pointer none, .pointer none, .pointer (some ⟨w.heap.size, 10, none⟩)] 6 (.pointer (some ⟨w.heap.size, 4, none⟩)) wr (by decide) rfl
        go_wp2_with fail
        erw [HI]
        clear HI
        go_wp2_with fail
        go_region_with ((go_at_call 29; (with_reducible refine (HTK.out _).mono ?_); rintro e W2 ⟨rfl, hb2⟩; have HB2 := Lib.hid (hbel.trans ((below_drewN (Below.refl wr.heap.size wr) 1 |>.trans hb2).mono hbel.size)); have HBK2 := Lib.hid (HBK.out.keep (below_drewN (Below.refl wr.heap.size wr) 1 |>.trans hb2)); have HLM2 := Lib.hid (HLM.out.below (below_drewN (Below.refl wr.heap.size wr) 1 |>.trans hb2) hlim); clear hb2))
        all_goals
          clear c4 l0 l1
          go_wp2
          go_roundw
          case rel => exact ⟨7, by decide, by go_num, ok_succ hall hok, HBK2.out, HLM2.out, HB2.out⟩
          case measure => simp [intOf]
      · have hok : okAt p 6 = false := decide_eq_false hv
        have HTK := Lib.hid (fun w => takes_any 0 4611686018427387903 p.br w (by decide) (by decide) (hw.br).1)
        rw [decide_eq_false hv] at HTK
        clear hv
        have c4 := HBK.out.cell4
        have l0 := HLM.out.lo6
        have l1 := HLM.out.hi6
        have hlim := HLM.out.1
        have HI := run_index_ptri #[.pointer none, .pointer (some ⟨w.heap.size, 0, none⟩), .pointer none, .pointer (some ⟨w.heap.size, 1, none⟩), .pointer (some ⟨w.heap.size, 2, none⟩), .pointer (some ⟨w.heap.size, 3, none⟩), .pointer (some ⟨w.heap.size, 4, none⟩), .pointer (some ⟨w.heap.size, 5, none⟩), .pointer (some ⟨w.heap.size, 6, none⟩), .pointer (some ⟨w.heap.size, 7, none⟩), .pointer (some ⟨w.heap.size, 8, none⟩), .pointer (some ⟨w.heap.size, 9, none⟩), .pointer none, .pointer none, .pointer (some ⟨w.heap.size, 10, none⟩)] 6 (.pointer (some ⟨w.heap.size, 4, none⟩)) wr (by decide) rfl
        go_wp2_with fail
        erw [HI]
        clear HI
        go_wp2_with fail
        go_region_with ((go_at_call 29; (with_reducible refine (HTK.out _).mono ?_); rintro e W2 ⟨rfl, hb2⟩; have HB2 := Lib.hid (hbel.trans ((below_drewN (Below.refl wr.heap.size wr) 1 |>.trans hb2).mono hbel.size)); have HBK2 := Lib.hid (HBK.out.keep (below_drewN (Below.refl wr.heap.size wr) 1 |>.trans hb2)); have HLM2 := Lib.hid (HLM.out.below (below_drewN (Below.refl wr.heap.size wr) 1 |>.trans hb2) hlim); clear hb2))
        all_goals
          clear c4 l0 l1
          go_wp2
          go_ret
          exact ⟨by rw [chkE_no (ok_not (by decide) hok)]; rfl, HB2.out⟩
    | 7, _ =>
      by_cases hv : 0 ≤ p.uni ∧ p.uni ≤ 4611686018427387903
      · have hok : okAt p 7 = true := decide_eq_true hv
        have HTK := Lib.hid (fun w => takes_any 0 4611686018427387903 p.uni w (by decide) (by decide) (hw.uni).1)
        rw [decide_eq_true hv] at HTK
        clear hv
        have c5 := HBK.out.cell5
        have l0 := HLM.out.lo7
        have l1 := HLM.out.hi7
        have hlim := HLM.out.1
        have HI := run_index_ptri #[.pointer none, .pointer (some ⟨w.heap.size, 0, none⟩), .pointer none, .pointer (some ⟨w.heap.size, 1, none⟩), .pointer (some ⟨w.heap.size, 2, none⟩), .pointer (some ⟨w.heap.size, 3, none⟩), .pointer (some ⟨w.heap.size, 4, none⟩), .pointer (some ⟨w.heap.size, 5, none⟩), .pointer (some ⟨w.heap.size, 6, none⟩), .pointer (some ⟨w.heap.size, 7, none⟩), .pointer (some ⟨w.heap.size, 8, none⟩), .pointer (some ⟨w.heap.size, 9, none⟩), .pointer none, .pointer none, .pointer (some ⟨w.heap.size, 10, none⟩)] 7 (.pointer (some ⟨w.heap.size, 5, none⟩)) wr (by decide) rfl
        go_wp2_with fail
        erw [HI]
        clear HI
        go_wp2_with fail
        go_region_with ((go_at_call 29; (with_reducible refine (HTK.out _).mono ?_); rintro e W2 ⟨rfl, hb2⟩; have HB2 := Lib.hid (hbel.trans ((below_drewN (Below.refl wr.heap.size wr) 1 |>.trans hb2).mono hbel.size)); have HBK2 := Lib.hid (HBK.out.keep (below_drewN (Below.refl wr.heap.size wr) 1 |>.trans hb2)); have HLM2 := Lib.hid (HLM.out.below (below_drewN (Below.refl wr.heap.size wr) 1 |>.trans hb2) hlim); clear hb2))
        all_goals
          clear c5 l0 l1
          go_wp2
          go_roundw
          case rel => exact ⟨8, by decide, by go_num, ok_succ hall hok, HBK2.out, HLM2.out, HB2.out⟩
          case measure => simp [intOf]
      · have hok : okAt p 7 = false := decide_eq_false hv
        have HTK := Lib.hid (fun w => takes_any 0 4611686018427387903 p.uni w (by decide) (by decide) (hw.uni).1)
        rw [decide_eq_false hv] at HTK
        clear hv
        have c5 := HBK.out.cell5
        have l0 := HLM.out.lo7
        have l1 := HLM.out.hi7
        have hlim := HLM.out.1
        have HI := run_index_ptri #[.pointer none, .pointer (some ⟨w.heap.size, 0, none⟩), .pointer none, .pointer (some ⟨w.heap.size, 1, none⟩), .pointer (some ⟨w.heap.size, 2, none⟩), .pointer (some ⟨w.heap.size, 3, none⟩), .pointer (some ⟨w.heap.size, 4, none⟩), .pointer (some ⟨w.heap.size, 5, none⟩), .pointer (some ⟨w.heap.size, 6, none⟩), .pointer (some ⟨w.heap.size, 7, none⟩), .pointer (some ⟨w.heap.size, 8, none⟩), .pointer (some ⟨w.heap.size, 9, none⟩), .pointer none, .pointer none, .pointer (some ⟨w.heap.size, 10, none⟩)] 7 (.pointer (some ⟨w.heap.size, 5, none⟩)) wr (by decide) rfl
        go_wp2_with fail
        erw [HI]
        clear HI
        go_wp2_with fail
        go_region_with ((go_at_call 29; (with_reducible refine (HTK.out _).mono ?_); rintro e W2 ⟨rfl, hb2⟩; have HB2 := Lib.hid (hbel.trans ((below_drewN (Below.refl wr.heap.size wr) 1 |>.trans hb2).mono hbel.size)); have HBK2 := Lib.hid (HBK.out.keep (below_drewN (Below.refl wr.heap.size wr) 1 |>.trans hb2)); have HLM2 := Lib.hid (HLM.out.below (below_drewN (Below.refl wr.heap.size wr) 1 |>.trans hb2) hlim); clear hb2))
        all_goals
          clear c5 l0 l1
          go_wp2
          go_ret
          exact ⟨by rw [chkE_no (ok_not (by decide) hok)]; rfl, HB2.out⟩
    | 8, _ =>
      by_cases hv : 0 ≤ p.bidis ∧ p.bidis ≤ 1152921504606846976
      · have hok : okAt p 8 = true := decide_eq_true hv
        have HTK := Lib.hid (fun w => takes_any 0 1152921504606846976 p.bidis w (by decide) (by decide) (hw.bidis).1)
        rw [decide_eq_true hv] at HTK
        clear hv
        have c6 := HBK.out.cell6
        have l0 := HLM.out.lo8
        have l1 := HLM.out.hi8
        have hlim := HLM.out.1
        have HI := run_index_ptri #[.pointer none, .pointer (some ⟨w.heap.size, 0, none⟩), .pointer none, .pointer (some ⟨w.heap.size, 1, none⟩), .pointer (some ⟨w.heap.size, 2, none⟩), .pointer (some ⟨w.heap.size, 3, none⟩), .pointer (some ⟨w.heap.size, 4, none⟩), .pointer (some ⟨w.heap.size, 5, none⟩), .pointer (some ⟨w.heap.size, 6, none⟩), .pointer (some ⟨w.heap.size, 7, none⟩), .pointer (some ⟨w.heap.size, 8, none⟩), .pointer (some ⟨w.heap.size, 9, none⟩), .pointer none, .pointer none, .pointer (some ⟨w.heap.size, 10, none⟩)] 8 (.pointer (some ⟨w.heap.size, 6, none⟩)) wr (by decide) rfl
        go_wp2_with fail
        erw [HI]
        clear HI
        go_wp2_with fail
        go_region_with ((go_at_call 29; (with_reducible refine (HTK.out _).mono ?_); rintro e W2 ⟨rfl, hb2⟩; have HB2 := Lib.hid (hbel.trans ((below_drewN (Below.refl wr.heap.size wr) 1 |>.trans hb2).mono hbel.size)); have HBK2 := Lib.hid (HBK.out.keep (below_drewN (Below.refl wr.heap.size wr) 1 |>.trans hb2)); have HLM2 := Lib.hid (HLM.out.below (below_drewN (Below.refl wr.heap.size wr) 1 |>.trans hb2) hlim); clear hb2))
        all_goals
          clear c6 l0 l1
          go_wp2
          go_roundw
          case rel => exact ⟨9, by decide, by go_num, ok_succ hall hok, HBK2.out, HLM2.out, HB2.out⟩
          case measure => simp [intOf]
      · have hok : okAt p 8 = false := decide_eq_false hv
        have HTK := Lib.hid (fun w => takes_any 0 1152921504606846976 p.bidis w (by decide) (by decide) (hw.bidis).1)
        rw [decide_eq_false hv] at HTK
        clear hv
        have c6 := HBK.out.cell6
        have l0 := HLM.out.lo8
        have l1 := HLM.out.hi8
        have hlim := HLM.out.1
        have HI := run_index_ptri #[.pointer none, .pointer (some ⟨w.heap.size, 0, none⟩), .pointer none, .pointer (some ⟨w.heap.size, 1, none⟩), .pointer (some ⟨w.heap.size, 2, none⟩), .pointer (some ⟨w.heap.size, 3, none⟩), .pointer (some ⟨w.heap.size, 4, none⟩), .pointer (some ⟨w.heap.size, 5, none⟩), .pointer (some ⟨w.heap.size, 6, none⟩), .pointer (some ⟨w.heap.size, 7, none⟩), .pointer (some ⟨w.heap.size, 8, none⟩), .pointer (some ⟨w.heap.size, 9, none⟩), .pointer none, .pointer none, .pointer (some ⟨w.heap.size, 10, none⟩)] 8 (.pointer (some ⟨w.heap.size, 6, none⟩)) wr (by decide) rfl
        go_wp2_with fail
        erw [HI]
        clear HI
        go_wp2_with fail
        go_region_with ((go_at_call 29; (with_reducible refine (HTK.out _).mono ?_); rintro e W2 ⟨rfl, hb2⟩; have HB2 := Lib.hid (hbel.trans ((below_drewN (Below.refl wr.heap.size wr) 1 |>.trans hb2).mono hbel.size)); have HBK2 := Lib.hid (HBK.out.keep (below_drewN (Below.refl wr.heap.size wr) 1 |>.trans hb2)); have HLM2 := Lib.hid (HLM.out.below (below_drewN (Below.refl wr.heap.size wr) 1 |>.trans hb2) hlim); clear hb2))
        all_goals
          clear c6 l0 l1
          go_wp2
          go_ret
          exact ⟨by rw [chkE_no (ok_not (by decide) hok)]; rfl, HB2.out⟩
    | 9, _ =>
      by_cases hv : 0 ≤ p.unis ∧ p.unis ≤ 1152921504606846976
      · have hok : okAt p 9 = true := decide_eq_true hv
        have HTK := Lib.hid (fun w => takes_any 0 1152921504606846976 p.unis w (by decide) (by decide) (hw.unis).1)
        rw [decide_eq_true hv] at HTK
        clear hv
        have c7 := HBK.out.cell7
        have l0 := HLM.out.lo9
        have l1 := HLM.out.hi9
        have hlim := HLM.out.1
        have HI := run_index_ptri #[.pointer none, .pointer (some ⟨w.heap.size, 0, none⟩), .pointer none, .pointer (some ⟨w.heap.size, 1, none⟩), .pointer (some ⟨w.heap.size, 2, none⟩), .pointer (some ⟨w.heap.size, 3, none⟩), .pointer (some ⟨w.heap.size, 4, none⟩), .pointer (some ⟨w.heap.size, 5, none⟩), .pointer (some ⟨w.heap.size, 6, none⟩), .pointer (some ⟨w.heap.size, 7, none⟩), .pointer (some ⟨w.heap.size, 8, none⟩), .pointer (some ⟨w.heap.size, 9, none⟩), .pointer none, .pointer none, .pointer (some ⟨w.heap.size, 10, none⟩)] 9 (.pointer (some ⟨w.heap.size, 7, none⟩)) wr (by decide) rfl
        go_wp2_with fail
        erw [HI]
        clear HI
        go_wp2_with fail
        go_region_with ((go_at_call 29; (with_reducible refine (HTK.out _).mono ?_); rintro e W2 ⟨rfl, hb2⟩; have HB2 := Lib.hid (hbel.trans ((below_drewN (Below.refl wr.heap.size wr) 1 |>.trans hb2).mono hbel.size)); have HBK2 := Lib.hid (HBK.out.keep (below_drewN (Below.refl wr.heap.size wr) 1 |>.trans hb2)); have HLM2 := Lib.hid (HLM.out.below (below_drewN (Below.refl wr.heap.size wr) 1 |>.trans hb2) hlim); clear hb2))
        all_goals
          clear c7 l0 l1
          go_wp2
          go_roundw
          case rel => exact ⟨10, by decide, by go_num, ok_succ hall hok, HBK2.out, HLM2.out, HB2.out⟩
          case measure => simp [intOf]
      · have hok : okAt p 9 = false := decide_eq_false hv
        have HTK := Lib.hid (fun w => takes_any 0 1152921504606846976 p.unis w (by decide) (by decide) (hw.unis).1)
        rw [decide_eq_false hv] at HTK
        clear hv
        have c7 := HBK.out.cell7
        have l0 := HLM.out.lo9
        have l1 := HLM.out.hi9
        have hlim := HLM.out.1
        have HI := run_index_ptri #[.pointer none, .pointer (some ⟨w.heap.size, 0, none⟩), .pointer none, .pointer (some ⟨w.heap.size, 1, none⟩), .pointer (some ⟨w.heap.size, 2, none⟩), .pointer (some ⟨w.heap.size, 3, none⟩), .pointer (some ⟨w.heap.size, 4, none⟩), .pointer (some ⟨w.heap.size, 5, none⟩), .pointer (some ⟨w.heap.size, 6, none⟩), .pointer (some ⟨w.heap.size, 7, none⟩), .pointer (some ⟨w.heap.size, 8, none⟩), .pointer (some ⟨w.heap.size, 9, none⟩), .pointer none, .pointer none, .pointer (some ⟨w.heap.size, 10, none⟩)] 9 (.pointer (some ⟨w.heap.size, 7, none⟩)) wr (by decide) rfl
        go_wp2_with fail
        erw [HI]
        clear HI
        go_wp2_with fail
        go_region_with ((go_at_call 29; (with_reducible refine (HTK.out _).mono ?_); rintro e W2 ⟨rfl, hb2⟩; have HB2 := Lib.hid (hbel.trans ((below_drewN (Below.refl wr.heap.size wr) 1 |>.trans hb2).mono hbel.size)); have HBK2 := Lib.hid (HBK.out.keep (below_drewN (Below.refl wr.heap.size wr) 1 |>.trans hb2)); have HLM2 := Lib.hid (HLM.out.below (below_drewN (Below.refl wr.heap.size wr) 1 |>.trans hb2) hlim); clear hb2))
        all_goals
          clear c7 l0 l1
          go_wp2
          go_ret
          exact ⟨by rw [chkE_no (ok_not (by decide) hok)]; rfl, HB2.out⟩
    | 10, _ =>
      by_cases hv : 0 ≤ p.expo ∧ p.expo ≤ 20
      · have hok : okAt p 10 = true := decide_eq_true hv
        have HTK := Lib.hid (fun w => takes_any 0 20 p.expo w (by decide) (by decide) (hw.expo).1)
        rw [decide_eq_true hv] at HTK
        clear hv
        have c8 := HBK.out.cell8
        have l0 := HLM.out.lo10
        have l1 := HLM.out.hi10
        have hlim := HLM.out.1
        have HI := run_index_ptri #[.pointer none, .pointer (some ⟨w.heap.size, 0, none⟩), .pointer none, .pointer (some ⟨w.heap.size, 1, none⟩), .pointer (some ⟨w.heap.size, 2, none⟩), .pointer (some ⟨w.heap.size, 3, none⟩), .pointer (some ⟨w.heap.size, 4, none⟩), .pointer (some ⟨w.heap.size, 5, none⟩), .pointer (some ⟨w.heap.size, 6, none⟩), .pointer (some ⟨w.heap.size, 7, none⟩), .pointer (some ⟨w.heap.size, 8, none⟩), .pointer (some ⟨w.heap.size, 9, none⟩), .pointer none, .pointer none, .pointer (some ⟨w.heap.size, 10, none⟩)] 10 (.pointer (some ⟨w.heap.size, 8, none⟩)) wr (by decide) rfl
        go_wp2_with fail
        erw [HI]
        clear HI
        go_wp2_with fail
        go_region_with ((go_at_call 29; (with_reducible refine (HTK.out _).mono ?_); rintro e W2 ⟨rfl, hb2⟩; have HB2 := Lib.hid (hbel.trans ((below_drewN (Below.refl wr.heap.size wr) 1 |>.trans hb2).mono hbel.size)); have HBK2 := Lib.hid (HBK.out.keep (below_drewN (Below.refl wr.heap.size wr) 1 |>.trans hb2)); have HLM2 := Lib.hid (HLM.out.below (below_drewN (Below.refl wr.heap.size wr) 1 |>.trans hb2) hlim); clear hb2))
        all_goals
          clear c8 l0 l1
          go_wp2
          go_roundw
          case rel => exact ⟨11, by decide, by go_num, ok_succ hall hok, HBK2.out, HLM2.out, HB2.out⟩
          case measure => simp [intOf]
      · have hok : okAt p 10 = false := decide_eq_false hv
        have HTK := Lib.hid (fun w => takes_any 0 20 p.expo w (by decide) (by decide) (hw.expo).1)
        rw [decide_eq_false hv] at HTK
        clear hv
        have c8 := HBK.out.cell8
        have l0 := HLM.out.lo10
        have l1 := HLM.out.hi10
        have hlim := HLM.out.1
        have HI := run_index_ptri #[.pointer none, .pointer (some ⟨w.heap.size, 0, none⟩), .pointer none, .pointer (some ⟨w.heap.size, 1, none⟩), .pointer (some ⟨w.heap.size, 2, none⟩), .pointer (some ⟨w.heap.size, 3, none⟩), .pointer (some ⟨w.heap.size, 4, none⟩), .pointer (some ⟨w.heap.size, 5, none⟩), .pointer (some ⟨w.heap.size, 6, none⟩), .pointer (some ⟨w.heap.size, 7, none⟩), .pointer (some ⟨w.heap.size, 8, none⟩), .pointer (some ⟨w.heap.size, 9, none⟩), .pointer none, .pointer none, .pointer (some ⟨w.heap.size, 10, none⟩)] 10 (.pointer (some ⟨w.heap.size, 8, none⟩)) wr (by decide) rfl
        go_wp2_with fail
        erw [HI]
        clear HI
        go_wp2_with fail
        go_region_with ((go_at_call 29; (with_reducible refine (HTK.out _).mono ?_); rintro e W2 ⟨rfl, hb2⟩; have HB2 := Lib.hid (hbel.trans ((below_drewN (Below.refl wr.heap.size wr) 1 |>.trans hb2).mono hbel.size)); have HBK2 := Lib.hid (HBK.out.keep (below_drewN (Below.refl wr.heap.size wr) 1 |>.trans hb2)); have HLM2 := Lib.hid (HLM.out.below (below_drewN (Below.refl wr.heap.size wr) 1 |>.trans hb2) hlim); clear hb2))
        all_goals
          clear c8 l0 l1
          go_wp2
          go_ret
          exact ⟨by rw [chkE_no (ok_not (by decide) hok)]; rfl, HB2.out⟩
    | 11, _ =>
      by_cases hv : 0 ≤ p.delay ∧ p.delay ≤ 16383
      · have hok : okAt p 11 = true := decide_eq_true hv
        have HTK := Lib.hid (fun w => takes_any 0 16383 p.delay w (by decide) (by decide) (hw.delay).1)
        rw [decide_eq_true hv] at HTK
        clear hv
        have c9 := HBK.out.cell9
        have l0 := HLM.out.lo11
        have l1 := HLM.out.hi11
        have hlim := HLM.out.1
        have HI := run_index_ptri #[.pointer none, .pointer (some ⟨w.heap.size, 0, none⟩), .pointer none, .pointer (some ⟨w.heap.size, 1, none⟩), .pointer (some ⟨w.heap.size, 2, none⟩), .pointer (some ⟨w.heap.size, 3, none⟩), .pointer (some ⟨w.heap.size, 4, none⟩), .pointer (some ⟨w.heap.size, 5, none⟩), .pointer (some ⟨w.heap.size, 6, none⟩), .pointer (some ⟨w.heap.size, 7, none⟩), .pointer (some ⟨w.heap.size, 8, none⟩), .pointer (some ⟨w.heap.size, 9, none⟩), .pointer none, .pointer none, .pointer (some ⟨w.heap.size, 10, none⟩)] 11 (.pointer (some ⟨w.heap.size, 9, none⟩)) wr (by decide) rfl
        go_wp2_with fail
        erw [HI]
        clear HI
        go_wp2_with fail
        go_region_with ((go_at_call 29; (with_reducible refine (HTK.out _).mono ?_); rintro e W2 ⟨rfl, hb2⟩; have HB2 := Lib.hid (hbel.trans ((below_drewN (Below.refl wr.heap.size wr) 1 |>.trans hb2).mono hbel.size)); have HBK2 := Lib.hid (HBK.out.keep (below_drewN (Below.refl wr.heap.size wr) 1 |>.trans hb2)); have HLM2 := Lib.hid (HLM.out.below (below_drewN (Below.refl wr.heap.size wr) 1 |>.trans hb2) hlim); clear hb2))
        all_goals
          clear c9 l0 l1
          go_wp2
          go_roundw
          case rel => exact ⟨12, by decide, by go_num, ok_succ hall hok, HBK2.out, HLM2.out, HB2.out⟩
          case measure => simp [intOf]
      · have hok : okAt p 11 = false := decide_eq_false hv
        have HTK := Lib.hid (fun w => takes_any 0 16383 p.delay w (by decide) (by decide) (hw.delay).1)
        rw [decide_eq_false hv] at HTK
        clear hv
        have c9 := HBK.out.cell9
        have l0 := HLM.out.lo11
        have l1 := HLM.out.hi11
        have hlim := HLM.out.1
        have HI := run_index_ptri #[.pointer none, .pointer (some ⟨w.heap.size, 0, none⟩), .pointer none, .pointer (some ⟨w.heap.size, 1, none⟩), .pointer (some ⟨w.heap.size, 2, none⟩), .pointer (some ⟨w.heap.size, 3, none⟩), .pointer (some ⟨w.heap.size, 4, none⟩), .pointer (some ⟨w.heap.size, 5, none⟩), .pointer (some ⟨w.heap.size, 6, none⟩), .pointer (some ⟨w.heap.size, 7, none⟩), .pointer (some ⟨w.heap.size, 8, none⟩), .pointer (some ⟨w.heap.size, 9, none⟩), .pointer none, .pointer none, .pointer (some ⟨w.heap.size, 10, none⟩)] 11 (.pointer (some ⟨w.heap.size, 9, none⟩)) wr (by decide) rfl
        go_wp2_with fail
        erw [HI]
        clear HI
        go_wp2_with fail
        go_region_with ((go_at_call 29; (with_reducible refine (HTK.out _).mono ?_); rintro e W2 ⟨rfl, hb2⟩; have HB2 := Lib.hid (hbel.trans ((below_drewN (Below.refl wr.heap.size wr) 1 |>.trans hb2).mono hbel.size)); have HBK2 := Lib.hid (HBK.out.keep (below_drewN (Below.refl wr.heap.size wr) 1 |>.trans hb2)); have HLM2 := Lib.hid (HLM.out.below (below_drewN (Below.refl wr.heap.size wr) 1 |>.trans hb2) hlim); clear hb2))
        all_goals
          clear c9 l0 l1
          go_wp2
          go_ret
          exact ⟨by rw [chkE_no (ok_not (by decide) hok)]; rfl, HB2.out⟩
    | 12, _ =>
      have hok : okAt p 12 = true := rfl
      have HI := run_index_ptri #[.pointer none, .pointer (some ⟨w.heap.size, 0, none⟩), .pointer none, .pointer (some ⟨w.heap.size, 1, none⟩), .pointer (some ⟨w.heap.size, 2, none⟩), .pointer (some ⟨w.heap.size, 3, none⟩), .pointer (some ⟨w.heap.size, 4, none⟩), .pointer (some ⟨w.heap.size, 5, none⟩), .pointer (some ⟨w.heap.size, 6, none⟩), .pointer (some ⟨w.heap.size, 7, none⟩), .pointer (some ⟨w.heap.size, 8, none⟩), .pointer (some ⟨w.heap.size, 9, none⟩), .pointer none, .pointer none, .pointer (some ⟨w.heap.size, 10, none⟩)] 12 (.pointer none) wr (by decide) rfl
      go_wp2_with fail
      erw [HI]
      clear HI
      go_wp2_with fail
      go_quiet (fail)
      go_wp2
      go_roundw
      case rel => exact ⟨13, by decide, by go_num, ok_succ hall hok, HBK.out.keep (below_drewN (Below.refl _ _) _), HLM.out.below (below_drewN (Below.refl _ _) _) HLM.out.1, below_drewN hbel _⟩
      case measure => simp [intOf]
    | 13, _ =>
      have hok : okAt p 13 = true := rfl
      have HI := run_index_ptri #[.pointer none, .pointer (some ⟨w.heap.size, 0, none⟩), .pointer none, .pointer (some ⟨w.heap.size, 1, none⟩), .pointer (some ⟨w.heap.size, 2, none⟩), .pointer (some ⟨w.heap.size, 3, none⟩), .pointer (some ⟨w.heap.size, 4, none⟩), .pointer (some ⟨w.heap.size, 5, none⟩), .pointer (some ⟨w.heap.size, 6, none⟩), .pointer (some ⟨w.heap.size, 7, none⟩), .pointer (some ⟨w.heap.size, 8, none⟩), .pointer (some ⟨w.heap.size, 9, none⟩), .pointer none, .pointer none, .pointer (some ⟨w.heap.size, 10, none⟩)] 13 (.pointer none) wr (by decide) rfl
      go_wp2_with fail
      erw [HI]
      clear HI
      go_wp2_with fail
      go_quiet (fail)
      go_wp2
      go_roundw
      case rel => exact ⟨14, by decide, by go_num, ok_succ hall hok, HBK.out.keep (below_drewN (Below.refl _ _) _), HLM.out.below (below_drewN (Below.refl _ _) _) HLM.out.1, below_drewN hbel _⟩
      case measure => simp [intOf]
    | 14, _ =>
      by_cases hv : 2 ≤ p.ids ∧ p.ids ≤ 4611686018427387903
      · have hok : okAt p 14 = true := decide_eq_true hv
        have HTK := Lib.hid (fun w => takes_any 2 4611686018427387903 p.ids w (by decide) (by decide) (hw.ids).1)
        rw [decide_eq_true hv] at HTK
        clear hv
        have c10 := HBK.out.cell10
        have l0 := HLM.out.lo14
        have l1 := HLM.out.hi14
        have hlim := HLM.out.1
        have HI := run_index_ptri #[.pointer none, .pointer (some ⟨w.heap.size, 0, none⟩), .pointer none, .pointer (some ⟨w.heap.size, 1, none⟩), .pointer (some ⟨w.heap.size, 2, none⟩), .pointer (some ⟨w.heap.size, 3, none⟩), .pointer (some ⟨w.heap.size, 4, none⟩), .pointer (some ⟨w.heap.size, 5, none⟩), .pointer (some ⟨w.heap.size, 6, none⟩), .pointer (some ⟨w.heap.size, 7, none⟩), .pointer (some ⟨w.heap.size, 8, none⟩), .pointer (some ⟨w.heap.size, 9, none⟩), .pointer none, .pointer none, .pointer (some ⟨w.heap.size, 10, none⟩)] 14 (.pointer (some ⟨w.heap.size, 10, none⟩)) wr (by decide) rfl
        go_wp2_with fail
        erw [HI]
        clear HI
        go_wp2_with fail
        go_region_with ((go_at_call 29; (with_reducible refine (HTK.out _).mono ?_); rintro e W2 ⟨rfl, hb2⟩; have HB2 := Lib.hid (hbel.trans ((below_drewN (Below.refl wr.heap.size wr) 1 |>.trans hb2).mono hbel.size)); have HBK2 := Lib.hid (HBK.out.keep (below_drewN (Below.refl wr.heap.size wr) 1 |>.trans hb2)); have HLM2 := Lib.hid (HLM.out.below (below_drewN (Below.refl wr.heap.size wr) 1 |>.trans hb2) hlim); clear hb2))
        all_goals
          clear c10 l0 l1
          go_wp2
          go_roundw
          case rel => exact ⟨15, by decide, by go_num, ok_succ hall hok, HBK2.out, HLM2.out, HB2.out⟩
          case measure => simp [intOf]
      · have hok : okAt p 14 = false := decide_eq_false hv
        have HTK := Lib.hid (fun w => takes_any 2 4611686018427387903 p.ids w (by decide) (by decide) (hw.ids).1)
        rw [decide_eq_false hv] at HTK
        clear hv
        have c10 := HBK.out.cell10
        have l0 := HLM.out.lo14
        have l1 := HLM.out.hi14
        have hlim := HLM.out.1
        have HI := run_index_ptri #[.pointer none, .pointer (some ⟨w.heap.size, 0, none⟩), .pointer none, .pointer (some ⟨w.heap.size, 1, none⟩), .pointer (some ⟨w.heap.size, 2, none⟩), .pointer (some ⟨w.heap.size, 3, none⟩), .pointer (some ⟨w.heap.size, 4, none⟩), .pointer (some ⟨w.heap.size, 5, none⟩), .pointer (some ⟨w.heap.size, 6, none⟩), .pointer (some ⟨w.heap.size, 7, none⟩), .pointer (some ⟨w.heap.size, 8, none⟩), .pointer (some ⟨w.heap.size, 9, none⟩), .pointer none, .pointer none, .pointer (some ⟨w.heap.size, 10, none⟩)] 14 (.pointer (some ⟨w.heap.size, 10, none⟩)) wr (by decide) rfl
        go_wp2_with fail
        erw [HI]
        clear HI
        go_wp2_with fail
        go_region_with ((go_at_call 29; (with_reducible refine (HTK.out _).mono ?_); rintro e W2 ⟨rfl, hb2⟩; have HB2 := Lib.hid (hbel.trans ((below_drewN (Below.refl wr.heap.size wr) 1 |>.trans hb2).mono hbel.size)); have HBK2 := Lib.hid (HBK.out.keep (below_drewN (Below.refl wr.heap.size wr) 1 |>.trans hb2)); have HLM2 := Lib.hid (HLM.out.below (below_drewN (Below.refl wr.heap.size wr) 1 |>.trans hb2) hlim); clear hb2))
        all_goals
          clear c10 l0 l1
          go_wp2
          go_ret
          exact ⟨by rw [chkE_no (ok_not (by decide) hok)]; rfl, HB2.out⟩
    | 15, _ =>
      have c11 := HBK.out.cell11
      by_cases t0 : p.tok = []
      · have he := tl_yes p.tok t0
        have hok : chkB p = true := by unfold chkB tokB; rw [hall, t0]; rfl
        replace t0 := Lib.hid t0
        go_wp2
        go_ret
        exact ⟨by rw [chkE_yes hok]; rfl, hbel⟩
      · have he := tl_no p.tok t0
        have he3 : p.tok.isEmpty = false := by simpa using t0
        by_cases t1 : p.tok.length = 16
        · have hok : chkB p = true := by unfold chkB tokB; rw [hall, decide_eq_true t1]; simp
          have h16 : (((p.tok.length : Nat) : Int) != 16) = false := by rw [t1]; rfl
          replace t1 := Lib.hid t1
          go_wp2
          go_ret
          exact ⟨by rw [chkE_yes hok]; rfl, hbel⟩
        · have hok : chkB p = false := by unfold chkB tokB; rw [decide_eq_false t1]; simp [t0]
          have h16 : (((p.tok.length : Nat) : Int) != 16) = true := by rw [bne_iff_ne]; omega
          go_wp2
          go_ret
          exact ⟨by rw [chkE_no hok]; rfl, hbel⟩
    | k + 16, h => omega
end Go.Proofs.YthhcpedaldlccaaDoor.Pm
