/- The walks of layer 6: whether a frame's parts are bounded · The walks of layer 6: May. · Plain mathematics of many numbers as bytes; what a row or a builder of the call's own keeps while other memory is made. · The walks of layer 1: Gets, both ways; Same; Puts, both ways. · The walks of layer 1: Puts, both ways. -/
import Derived.Test.YtoblmhpjendbfaaGreatDoorJb18
import Derived.Test.YtoblmhpjendbfaaGreatDoorJb19
import Derived.Deep.RegionHeld3
import Derived.Deep.RegionWith
import Derived.Deep.QuietTactic
import Derived.BigQuiet
import Derived.Test.YtoblmhpjendbfaaGreatDoorJb15
namespace Go.Proofs.YtoblmhpjendbfaaGreatDoor.Fm
set_option maxRecDepth 20000
open Go.RowKit Vm
set_option linter.unusedVariables false
set_option linter.unusedSimpArgs false

/-- Whether a frame's numbers may be told. -/
def numB (f : Frm) : Bool := (List.range 7).all fun j => decide (nm f j ≤ 4611686018427387903)
theorem numB_yes {f : Frm} (h : ∀ j, j < 7 → nm f j ≤ 4611686018427387903) : numB f = true := List.all_eq_true.2 fun j hj => decide_eq_true (h j (List.mem_range.1 hj))
/-- Whether a frame's parts are those of its kind, by number and length; l: the ranges of its Set. -/
def kndB (f : Frm) (l : List Ran) : Bool :=
  if f.kind == 2 then ackB l
  else if f.kind == 6 || f.kind == 8 then decide (f.data.length ≤ 1200) && decide (f.off + f.data.length ≤ 4611686018427387903)
  else if f.kind == 28 || f.kind == 29 then decide (f.data.length ≤ 1200)
  else if f.kind == 18 || f.kind == 19 || f.kind == 22 || f.kind == 23 then decide (f.max ≤ 1152921504606846976)
  else if f.kind == 24 then decide (f.prior ≤ f.seq) && decide (f.cid.length = 8) && decide (f.token.length = 16)
  else if f.kind == 26 || f.kind == 27 then decide (f.token.length = 8)
  else true
def bndB (f : Frm) (l : List Ran) : Bool := numB f && kndB f l
theorem Rd.below {w w' : World} {v : Value} {l : List Ran} (h : Rd w v l) (hb : Below w.heap.size w w') : Rd w' v l := by
  obtain ⟨a, cap, hv, hcap, hrow⟩ := h
  refine ⟨a, cap, hv, hcap, fun hne => ?_⟩
  obtain ⟨b, off, ha, hc⟩ := hrow hne
  exact ⟨b, off, ha, fun i hi => ⟨cell_below hb (hc i hi).1 (World.block_lt_of_cell? _ _ (hc i hi).1), cell_below hb (hc i hi).2 (World.block_lt_of_cell? _ _ (hc i hi).2)⟩⟩
theorem numB_no {f : Frm} (i : Nat) (hi : i < 7) (h : ¬ nm f i ≤ 4611686018427387903) (l : List Ran) : bndB f l = false := by
  have e : numB f = false := by
    cases hn : numB f with
    | false => rfl
    | true => exact absurd (of_decide_eq_true (List.all_eq_true.1 hn i (List.mem_range.2 hi))) h
  rw [bndB, e, Bool.false_and]
set_option maxHeartbeats 16000000 in
theorem bounded_any (f : Frm) (l : List Ran) (w : World) (hrd : Rd w (.slice f.set.a f.set.n f.set.c) l) (hu : ∀ x ∈ l, 0 ≤ x.1 ∧ 0 ≤ x.2) (ho : 0 ≤ f.off) : Calls Tryz.prog 125 #[.agg #[.int .u64 f.kind, .int .u64 f.id, .int .u64 f.off, .int .u64 f.max, .int .u64 f.code, .int .u64 f.seq, .int .u64 f.prior, .int .u64 f.delay, .bool f.fin, .string ⟨f.data.toArray⟩, .string ⟨f.cid.toArray⟩, .string ⟨f.token.toArray⟩, .slice f.set.a f.set.n f.set.c]] w fun e w' => e = .returned (.bool (bndB f l)) ∧ Below w.heap.size w w' := by
  have CN := Lib.hid (fun w => numbers_any f w)
  have CA := Lib.hid (fun w hrd => acknowledges_any (.slice f.set.a f.set.n f.set.c) l w hrd hu)
  have hI0 := fun (u : World) => run_index_num7 #[.int .u64 f.id, .int .u64 f.off, .int .u64 f.code, .int .u64 f.max, .int .u64 f.seq, .int .u64 f.prior, .int .u64 f.delay] 0 (.int .u64 f.id) u (by decide) rfl
  have hI1 := fun (u : World) => run_index_num7 #[.int .u64 f.id, .int .u64 f.off, .int .u64 f.code, .int .u64 f.max, .int .u64 f.seq, .int .u64 f.prior, .int .u64 f.delay] 1 (.int .u64 f.off) u (by decide) rfl
  have hI2 := fun (u : World) => run_index_num7 #[.int .u64 f.id, .int .u64 f.off, .int .u64 f.code, .int .u64 f.max, .int .u64 f.seq, .int .u64 f.prior, .int .u64 f.delay] 2 (.int .u64 f.code) u (by decide) rfl
  have hI3 := fun (u : World) => run_index_num7 #[.int .u64 f.id, .int .u64 f.off, .int .u64 f.code, .int .u64 f.max, .int .u64 f.seq, .int .u64 f.prior, .int .u64 f.delay] 3 (.int .u64 f.max) u (by decide) rfl
  have hI4 := fun (u : World) => run_index_num7 #[.int .u64 f.id, .int .u64 f.off, .int .u64 f.code, .int .u64 f.max, .int .u64 f.seq, .int .u64 f.prior, .int .u64 f.delay] 4 (.int .u64 f.seq) u (by decide) rfl
  have hI5 := fun (u : World) => run_index_num7 #[.int .u64 f.id, .int .u64 f.off, .int .u64 f.code, .int .u64 f.max, .int .u64 f.seq, .int .u64 f.prior, .int .u64 f.delay] 5 (.int .u64 f.prior) u (by decide) rfl
  have hI6 := fun (u : World) => run_index_num7 #[.int .u64 f.id, .int .u64 f.off, .int .u64 f.code, .int .u64 f.max, .int .u64 f.seq, .int .u64 f.prior, .int .u64 f.delay] 6 (.int .u64 f.delay) u (by decide) rfl
  have HR := Lib.hid hrd
  clear hrd
  go_enter Tryz.func125, Tryz.ntmps125
  go_wp2_with fail
  refine (CN.out _).mono ?_
  rintro e w1 ⟨rfl, hb⟩
  have HB1 := Lib.hid (((Below.refl w.heap.size w).alloc (Nat.le_refl _) _).trans (hb.mono (by simp)))
  have hF : w1.heap[w.heap.size]? = some (.cells #[.int .u64 f.kind, .int .u64 f.id, .int .u64 f.off, .int .u64 f.max, .int .u64 f.code, .int .u64 f.seq, .int .u64 f.prior, .int .u64 f.delay, .bool f.fin, .string ⟨f.data.toArray⟩, .string ⟨f.cid.toArray⟩, .string ⟨f.token.toArray⟩, .slice f.set.a f.set.n f.set.c] 48 (0, 0)) := (hb.block _ (by simp)).trans (World.alloc_heap_new w _)
  have HF := Lib.hid hF
  clear hb hF
  go_wp2
  go_loop [7] (fun iv => ∃ k : Nat, k ≤ 7 ∧ iv = .int .i64 (k : Nat) ∧ ∀ j, j < k → nm f j ≤ 4611686018427387903) (fun iv => 7 - (intOf iv).toNat)
  case atStart => exact ⟨0, by decide, rfl, fun j h => absurd h (Nat.not_lt_zero _)⟩
  case round =>
    obtain ⟨k, hk, rfl, hj⟩ := hrel
    have HJ := Lib.hid hj
    clear hj
    match k, hk with
    | 0, _ =>
      by_cases h : f.id ≤ 4611686018427387903
      · have h1 : ¬ (4611686018427387903 : Int) < f.id := by omega
        go_wp2_with fail
        erw [hI0]
        go_wp2
        go_round
        case rel => exact ⟨1, by decide, rfl, fun j hj => by
          rcases Nat.lt_or_ge j 0 with h2 | h2
          · exact HJ.out j h2
          · have : j = 0 := by omega
            subst this; exact h⟩
        case measure => simp [intOf]
      · have h1 : (4611686018427387903 : Int) < f.id := by omega
        have hx : Hid (bndB f l = false) := Lib.hid (numB_no 0 (by decide) h l)
        clear h
        go_wp2_with fail
        erw [hI0]
        go_wp2
        go_ret
        exact ⟨by rw [hx.out]; rfl, HB1.out⟩
    | 1, _ =>
      by_cases h : f.off ≤ 4611686018427387903
      · have h1 : ¬ (4611686018427387903 : Int) < f.off := by omega
        go_wp2_with fail
        erw [hI1]
        go_wp2
        go_round
        case rel => exact ⟨2, by decide, rfl, fun j hj => by
          rcases Nat.lt_or_ge j 1 with h2 | h2
          · exact HJ.out j h2
          · have : j = 1 := by omega
            subst this; exact h⟩
        case measure => simp [intOf]
      · have h1 : (4611686018427387903 : Int) < f.off := by omega
        have hx : Hid (bndB f l = false) := Lib.hid (numB_no 1 (by decide) h l)
        clear h
        go_wp2_with fail
        erw [hI1]
        go_wp2
        go_ret
        exact ⟨by rw [hx.out]; rfl, HB1.out⟩
    | 2, _ =>
      by_cases h : f.code ≤ 4611686018427387903
      · have h1 : ¬ (4611686018427387903 : Int) < f.code := by omega
        go_wp2_with fail
        erw [hI2]
        go_wp2
        go_round
        case rel => exact ⟨3, by decide, rfl, fun j hj => by
          rcases Nat.lt_or_ge j 2 with h2 | h2
          · exact HJ.out j h2
          · have : j = 2 := by omega
            subst this; exact h⟩
        case measure => simp [intOf]
      · have h1 : (4611686018427387903 : Int) < f.code := by omega
        have hx : Hid (bndB f l = false) := Lib.hid (numB_no 2 (by decide) h l)
        clear h
        go_wp2_with fail
        erw [hI2]
        go_wp2
        go_ret
        exact ⟨by rw [hx.out]; rfl, HB1.out⟩
    | 3, _ =>
      by_cases h : f.max ≤ 4611686018427387903
      · have h1 : ¬ (4611686018427387903 : Int) < f.max := by omega
        go_wp2_with fail
        erw [hI3]
        go_wp2
        go_round
        case rel => exact ⟨4, by decide, rfl, fun j hj => by
          rcases Nat.lt_or_ge j 3 with h2 | h2
          · exact HJ.out j h2
          · have : j = 3 := by omega
            subst this; exact h⟩
        case measure => simp [intOf]
      · have h1 : (4611686018427387903 : Int) < f.max := by omega
        have hx : Hid (bndB f l = false) := Lib.hid (numB_no 3 (by decide) h l)
        clear h
        go_wp2_with fail
        erw [hI3]
        go_wp2
        go_ret
        exact ⟨by rw [hx.out]; rfl, HB1.out⟩
    | 4, _ =>
      by_cases h : f.seq ≤ 4611686018427387903
      · have h1 : ¬ (4611686018427387903 : Int) < f.seq := by omega
        go_wp2_with fail
        erw [hI4]
        go_wp2
        go_round
        case rel => exact ⟨5, by decide, rfl, fun j hj => by
          rcases Nat.lt_or_ge j 4 with h2 | h2
          · exact HJ.out j h2
          · have : j = 4 := by omega
            subst this; exact h⟩
        case measure => simp [intOf]
      · have h1 : (4611686018427387903 : Int) < f.seq := by omega
        have hx : Hid (bndB f l = false) := Lib.hid (numB_no 4 (by decide) h l)
        clear h
        go_wp2_with fail
        erw [hI4]
        go_wp2
        go_ret
        exact ⟨by rw [hx.out]; rfl, HB1.out⟩
    | 5, _ =>
      by_cases h : f.prior ≤ 4611686018427387903
      · have h1 : ¬ (4611686018427387903 : Int) < f.prior := by omega
        go_wp2_with fail
        erw [hI5]
        go_wp2
        go_round
        case rel => exact ⟨6, by decide, rfl, fun j hj => by
          rcases Nat.lt_or_ge j 5 with h2 | h2
          · exact HJ.out j h2
          · have : j = 5 := by omega
            subst this; exact h⟩
        case measure => simp [intOf]
      · have h1 : (4611686018427387903 : Int) < f.prior := by omega
        have hx : Hid (bndB f l = false) := Lib.hid (numB_no 5 (by decide) h l)
        clear h
        go_wp2_with fail
        erw [hI5]
        go_wp2
        go_ret
        exact ⟨by rw [hx.out]; rfl, HB1.out⟩
    | 6, _ =>
      by_cases h : f.delay ≤ 4611686018427387903
      · have h1 : ¬ (4611686018427387903 : Int) < f.delay := by omega
        go_wp2_with fail
        erw [hI6]
        go_wp2
        go_round
        case rel => exact ⟨7, by decide, rfl, fun j hj => by
          rcases Nat.lt_or_ge j 6 with h2 | h2
          · exact HJ.out j h2
          · have : j = 6 := by omega
            subst this; exact h⟩
        case measure => simp [intOf]
      · have h1 : (4611686018427387903 : Int) < f.delay := by omega
        have hx : Hid (bndB f l = false) := Lib.hid (numB_no 6 (by decide) h l)
        clear h
        go_wp2_with fail
        erw [hI6]
        go_wp2
        go_ret
        exact ⟨by rw [hx.out]; rfl, HB1.out⟩
    | 7, _ =>
      have hn : numB f = true := numB_yes HJ.out
      have hoff : f.off ≤ 4611686018427387903 := HJ.out 1 (by decide)
      have d0 : w1.cell? ⟨w.heap.size, 0, none⟩ = some (.int .u64 f.kind) := Lib.cell_of_heap HF.out 0
      have d2 : w1.cell? ⟨w.heap.size, 2, none⟩ = some (.int .u64 f.off) := Lib.cell_of_heap HF.out 2
      have d3 : w1.cell? ⟨w.heap.size, 3, none⟩ = some (.int .u64 f.max) := Lib.cell_of_heap HF.out 3
      have d5 : w1.cell? ⟨w.heap.size, 5, none⟩ = some (.int .u64 f.seq) := Lib.cell_of_heap HF.out 5
      have d6 : w1.cell? ⟨w.heap.size, 6, none⟩ = some (.int .u64 f.prior) := Lib.cell_of_heap HF.out 6
      have d9 : w1.cell? ⟨w.heap.size, 9, none⟩ = some (.string ⟨f.data.toArray⟩) := Lib.cell_of_heap HF.out 9
      have d10 : w1.cell? ⟨w.heap.size, 10, none⟩ = some (.string ⟨f.cid.toArray⟩) := Lib.cell_of_heap HF.out 10
      have d11 : w1.cell? ⟨w.heap.size, 11, none⟩ = some (.string ⟨f.token.toArray⟩) := Lib.cell_of_heap HF.out 11
      have d12 : w1.cell? ⟨w.heap.size, 12, none⟩ = some (.slice f.set.a f.set.n f.set.c) := Lib.cell_of_heap HF.out 12
      have hk0 : bndB f l = kndB f l := by unfold bndB; rw [hn, Bool.true_and]
      clear hn CN
      clear HJ HF hI0 hI1 hI2 hI3 hI4 hI5 hI6
      by_cases k2 : f.kind = 2
      · have c2 : (f.kind == 2) = true := by rw [k2]; rfl
        have HK : Hid (bndB f l = ackB l) := Lib.hid (by rw [hk0]; simp only [kndB, c2, Bool.or_true, Bool.or_false, Bool.true_or, Bool.false_or, Bool.and_true, Bool.true_and, Bool.and_false, Bool.false_and, if_true, if_false, Bool.false_eq_true, reduceIte, decide_true, decide_false])
        clear hk0
        go_wp2_with fail
        refine (CA.out _ (HR.out.below HB1.out)).mono ?_
        rintro e w2 ⟨rfl, hb2⟩
        have HB2 := Lib.hid (HB1.out.trans (hb2.mono HB1.out.size))
        clear hb2
        go_wp2
        go_ret
        exact ⟨by rw [HK.out]; rfl, HB2.out⟩
      have c2 : (f.kind == 2) = false := beq_eq_false_iff_ne.2 k2
      clear k2
      by_cases k6 : f.kind = 6
      · have c6 : (f.kind == 6) = true := by rw [k6]; rfl
        by_cases h1 : f.data.length ≤ 1200
        · have h1i : (f.data.length : Int) ≤ 1200 := by omega
          have HK : Hid (bndB f l = decide (f.off + f.data.length ≤ 4611686018427387903)) := Lib.hid (by rw [hk0]; simp only [kndB, c2, c6, h1, Bool.or_true, Bool.or_false, Bool.true_or, Bool.false_or, Bool.and_true, Bool.true_and, Bool.and_false, Bool.false_and, if_true, if_false, Bool.false_eq_true, reduceIte, decide_true, decide_false])
          clear hk0 h1
          go_wp2
          go_ret
          exact ⟨by rw [HK.out]; rfl, HB1.out⟩
        · have h1i : ¬ (f.data.length : Int) ≤ 1200 := by omega
          have HK : Hid (bndB f l = false) := Lib.hid (by rw [hk0]; simp only [kndB, c2, c6, h1, Bool.or_true, Bool.or_false, Bool.true_or, Bool.false_or, Bool.and_true, Bool.true_and, Bool.and_false, Bool.false_and, if_true, if_false, Bool.false_eq_true, reduceIte, decide_true, decide_false])
          clear hk0 h1
          go_wp2
          go_ret
          exact ⟨by rw [HK.out]; rfl, HB1.out⟩
      have c6 : (f.kind == 6) = false := beq_eq_false_iff_ne.2 k6
      clear k6
      by_cases k8 : f.kind = 8
      · have c8 : (f.kind == 8) = true := by rw [k8]; rfl
        by_cases h1 : f.data.length ≤ 1200
        · have h1i : (f.data.length : Int) ≤ 1200 := by omega
          have HK : Hid (bndB f l = decide (f.off + f.data.length ≤ 4611686018427387903)) := Lib.hid (by rw [hk0]; simp only [kndB, c2, c6, c8, h1, Bool.or_true, Bool.or_false, Bool.true_or, Bool.false_or, Bool.and_true, Bool.true_and, Bool.and_false, Bool.false_and, if_true, if_false, Bool.false_eq_true, reduceIte, decide_true, decide_false])
          clear hk0 h1
          go_wp2
          go_ret
          exact ⟨by rw [HK.out]; rfl, HB1.out⟩
        · have h1i : ¬ (f.data.length : Int) ≤ 1200 := by omega
          have HK : Hid (bndB f l = false) := Lib.hid (by rw [hk0]; simp only [kndB, c2, c6, c8, h1, Bool.or_true, Bool.or_false, Bool.true_or, Bool.false_or, Bool.and_true, Bool.true_and, Bool.and_false, Bool.false_and, if_true, if_false, Bool.false_eq_true, reduceIte, decide_true, decide_false])
          clear hk0 h1
          go_wp2
          go_ret
          exact ⟨by rw [HK.out]; rfl, HB1.out⟩
      have c8 : (f.kind == 8) = false := beq_eq_false_iff_ne.2 k8
      clear k8
      by_cases k28 : f.kind = 28
      · have c28 : (f.kind == 28) = true := by rw [k28]; rfl
        have hq : decide (f.data.length ≤ 1200) = decide ((f.data.length : Int) ≤ 1200) := decide_eq_decide.2 (by omega)
        have HK : Hid (bndB f l = decide ((f.data.length : Int) ≤ 1200)) := Lib.hid (by rw [hk0]; simp only [kndB, c2, c6, c8, c28, hq, Bool.or_true, Bool.or_false, Bool.true_or, Bool.false_or, Bool.and_true, Bool.true_and, Bool.and_false, Bool.false_and, if_true, if_false, Bool.false_eq_true, reduceIte, decide_true, decide_false])
        clear hk0 hq
        go_wp2
        go_ret
        exact ⟨by rw [HK.out]; rfl, HB1.out⟩
      have c28 : (f.kind == 28) = false := beq_eq_false_iff_ne.2 k28
      clear k28
      by_cases k29 : f.kind = 29
      · have c29 : (f.kind == 29) = true := by rw [k29]; rfl
        have hq : decide (f.data.length ≤ 1200) = decide ((f.data.length : Int) ≤ 1200) := decide_eq_decide.2 (by omega)
        have HK : Hid (bndB f l = decide ((f.data.length : Int) ≤ 1200)) := Lib.hid (by rw [hk0]; simp only [kndB, c2, c6, c8, c28, c29, hq, Bool.or_true, Bool.or_false, Bool.true_or, Bool.false_or, Bool.and_true, Bool.true_and, Bool.and_false, Bool.false_and, if_true, if_false, Bool.false_eq_true, reduceIte, decide_true, decide_false])
        clear hk0 hq
        go_wp2
        go_ret
        exact ⟨by rw [HK.out]; rfl, HB1.out⟩
      have c29 : (f.kind == 29) = false := beq_eq_false_iff_ne.2 k29
      clear k29
      by_cases k18 : f.kind = 18
      · have c18 : (f.kind == 18) = true := by rw [k18]; rfl
        have HK : Hid (bndB f l = decide (f.max ≤ 1152921504606846976)) := Lib.hid (by rw [hk0]; simp only [kndB, c2, c6, c8, c28, c29, c18, Bool.or_true, Bool.or_false, Bool.true_or, Bool.false_or, Bool.and_true, Bool.true_and, Bool.and_false, Bool.false_and, if_true, if_false, Bool.false_eq_true, reduceIte, decide_true, decide_false])
        clear hk0
        go_wp2
        go_ret
        exact ⟨by rw [HK.out]; rfl, HB1.out⟩
      have c18 : (f.kind == 18) = false := beq_eq_false_iff_ne.2 k18
      clear k18
      by_cases k19 : f.kind = 19
      · have c19 : (f.kind == 19) = true := by rw [k19]; rfl
        have HK : Hid (bndB f l = decide (f.max ≤ 1152921504606846976)) := Lib.hid (by rw [hk0]; simp only [kndB, c2, c6, c8, c28, c29, c18, c19, Bool.or_true, Bool.or_false, Bool.true_or, Bool.false_or, Bool.and_true, Bool.true_and, Bool.and_false, Bool.false_and, if_true, if_false, Bool.false_eq_true, reduceIte, decide_true, decide_false])
        clear hk0
        go_wp2
        go_ret
        exact ⟨by rw [HK.out]; rfl, HB1.out⟩
      have c19 : (f.kind == 19) = false := beq_eq_false_iff_ne.2 k19
      clear k19
      by_cases k22 : f.kind = 22
      · have c22 : (f.kind == 22) = true := by rw [k22]; rfl
        have HK : Hid (bndB f l = decide (f.max ≤ 1152921504606846976)) := Lib.hid (by rw [hk0]; simp only [kndB, c2, c6, c8, c28, c29, c18, c19, c22, Bool.or_true, Bool.or_false, Bool.true_or, Bool.false_or, Bool.and_true, Bool.true_and, Bool.and_false, Bool.false_and, if_true, if_false, Bool.false_eq_true, reduceIte, decide_true, decide_false])
        clear hk0
        go_wp2
        go_ret
        exact ⟨by rw [HK.out]; rfl, HB1.out⟩
      have c22 : (f.kind == 22) = false := beq_eq_false_iff_ne.2 k22
      clear k22
      by_cases k23 : f.kind = 23
      · have c23 : (f.kind == 23) = true := by rw [k23]; rfl
        have HK : Hid (bndB f l = decide (f.max ≤ 1152921504606846976)) := Lib.hid (by rw [hk0]; simp only [kndB, c2, c6, c8, c28, c29, c18, c19, c22, c23, Bool.or_true, Bool.or_false, Bool.true_or, Bool.false_or, Bool.and_true, Bool.true_and, Bool.and_false, Bool.false_and, if_true, if_false, Bool.false_eq_true, reduceIte, decide_true, decide_false])
        clear hk0
        go_wp2
        go_ret
        exact ⟨by rw [HK.out]; rfl, HB1.out⟩
      have c23 : (f.kind == 23) = false := beq_eq_false_iff_ne.2 k23
      clear k23
      by_cases k24 : f.kind = 24
      · have c24 : (f.kind == 24) = true := by rw [k24]; rfl
        have CK := Lib.hid tokenLen_id
        rw [k24] at d0
        by_cases h1 : f.prior ≤ f.seq
        · have g1 : decide (f.prior ≤ f.seq) = true := decide_eq_true h1
          by_cases h2 : f.cid.length = 8
          · have g2 : ((f.cid.length : Int) == 8) = true := by rw [h2]; rfl
            have hq : decide (f.token.length = 16) = ((f.token.length : Int) == 16) := by rw [Bool.eq_iff_iff]; simp; omega
            have HK : Hid (bndB f l = ((f.token.length : Int) == 16)) := Lib.hid (by rw [hk0]; simp only [kndB, c2, c6, c8, c28, c29, c18, c19, c22, c23, c24, h1, h2, hq, Bool.or_true, Bool.or_false, Bool.true_or, Bool.false_or, Bool.and_true, Bool.true_and, Bool.and_false, Bool.false_and, if_true, if_false, Bool.false_eq_true, reduceIte, decide_true, decide_false])
            clear hk0 h1 h2 hq
            go_wp2_with fail
            go_quiet ((go_at_call 158; exact Calls.quiet_of_same (CK.out _)))
            go_wp2
            go_ret
            exact ⟨by rw [HK.out]; rfl, below_drewN HB1.out _⟩
          · have g2 : ((f.cid.length : Int) == 8) = false := by rw [beq_eq_false_iff_ne]; omega
            have HK : Hid (bndB f l = false) := Lib.hid (by rw [hk0]; simp only [kndB, c2, c6, c8, c28, c29, c18, c19, c22, c23, c24, h1, h2, Bool.or_true, Bool.or_false, Bool.true_or, Bool.false_or, Bool.and_true, Bool.true_and, Bool.and_false, Bool.false_and, if_true, if_false, Bool.false_eq_true, reduceIte, decide_true, decide_false])
            clear hk0 h1 h2
            go_wp2_with fail
            go_quiet ((go_at_call 158; exact Calls.quiet_of_same (CK.out _)))
            go_wp2
            go_ret
            exact ⟨by rw [HK.out]; rfl, below_drewN HB1.out _⟩
        · have g1 : decide (f.prior ≤ f.seq) = false := decide_eq_false h1
          have HK : Hid (bndB f l = false) := Lib.hid (by rw [hk0]; simp only [kndB, c2, c6, c8, c28, c29, c18, c19, c22, c23, c24, h1, Bool.or_true, Bool.or_false, Bool.true_or, Bool.false_or, Bool.and_true, Bool.true_and, Bool.and_false, Bool.false_and, if_true, if_false, Bool.false_eq_true, reduceIte, decide_true, decide_false])
          clear hk0 h1
          go_wp2_with fail
          go_quiet ((go_at_call 158; exact Calls.quiet_of_same (CK.out _)))
          go_wp2
          go_ret
          exact ⟨by rw [HK.out]; rfl, below_drewN HB1.out _⟩
      have c24 : (f.kind == 24) = false := beq_eq_false_iff_ne.2 k24
      clear k24
      by_cases k26 : f.kind = 26
      · have c26 : (f.kind == 26) = true := by rw [k26]; rfl
        have CK := Lib.hid (fun w => tokenLen_path 26 (by decide) w)
        rw [k26] at d0
        have hq : decide (f.token.length = 8) = ((f.token.length : Int) == 8) := by rw [Bool.eq_iff_iff]; simp; omega
        have HK : Hid (bndB f l = ((f.token.length : Int) == 8)) := Lib.hid (by rw [hk0]; simp only [kndB, c2, c6, c8, c28, c29, c18, c19, c22, c23, c24, c26, hq, Bool.or_true, Bool.or_false, Bool.true_or, Bool.false_or, Bool.and_true, Bool.true_and, Bool.and_false, Bool.false_and, if_true, if_false, Bool.false_eq_true, reduceIte, decide_true, decide_false])
        clear hk0 hq
        go_wp2_with fail
        go_quiet ((go_at_call 158; exact Calls.quiet_of_same (CK.out _)))
        go_wp2
        go_ret
        exact ⟨by rw [HK.out]; rfl, below_drewN HB1.out _⟩
      have c26 : (f.kind == 26) = false := beq_eq_false_iff_ne.2 k26
      clear k26
      by_cases k27 : f.kind = 27
      · have c27 : (f.kind == 27) = true := by rw [k27]; rfl
        have CK := Lib.hid (fun w => tokenLen_path 27 (by decide) w)
        rw [k27] at d0
        have hq : decide (f.token.length = 8) = ((f.token.length : Int) == 8) := by rw [Bool.eq_iff_iff]; simp; omega
        have HK : Hid (bndB f l = ((f.token.length : Int) == 8)) := Lib.hid (by rw [hk0]; simp only [kndB, c2, c6, c8, c28, c29, c18, c19, c22, c23, c24, c26, c27, hq, Bool.or_true, Bool.or_false, Bool.true_or, Bool.false_or, Bool.and_true, Bool.true_and, Bool.and_false, Bool.false_and, if_true, if_false, Bool.false_eq_true, reduceIte, decide_true, decide_false])
        clear hk0 hq
        go_wp2_with fail
        go_quiet ((go_at_call 158; exact Calls.quiet_of_same (CK.out _)))
        go_wp2
        go_ret
        exact ⟨by rw [HK.out]; rfl, below_drewN HB1.out _⟩
      have c27 : (f.kind == 27) = false := beq_eq_false_iff_ne.2 k27
      clear k27
      have HK : Hid (bndB f l = true) := Lib.hid (by rw [hk0]; simp only [kndB, c2, c6, c8, c28, c29, c18, c19, c22, c23, c24, c26, c27, Bool.or_true, Bool.or_false, Bool.true_or, Bool.false_or, Bool.and_true, Bool.true_and, Bool.and_false, Bool.false_and, if_true, if_false, Bool.false_eq_true, reduceIte, decide_true, decide_false])
      clear hk0
      go_wp2
      go_ret
      exact ⟨by rw [HK.out]; rfl, HB1.out⟩
end Go.Proofs.YtoblmhpjendbfaaGreatDoor.Fm
namespace Go.Proofs.YtoblmhpjendbfaaGreatDoor.Fm
set_option maxRecDepth 20000
open Go.RowKit Vm
set_option linter.unusedVariables false
set_option linter.unusedSimpArgs false

/-- No bit of a number lies outside another's. -/
theorem andNot_sub (a p : Nat) (ha : a < 2 ^ 64) (hp : p < 2 ^ 64) : (bits .andNot .u64 (a : Int) (p : Int) == 0) = decide (a &&& p = a) := by
  have h1 : (BitVec.ofInt 64 (a : Int)).toNat = a := by
    rw [BitVec.ofInt_natCast, BitVec.toNat_ofNat]; exact Nat.mod_eq_of_lt ha
  have h2 : (BitVec.ofInt 64 (p : Int)).toNat = p := by
    rw [BitVec.ofInt_natCast, BitVec.toNat_ofNat]; exact Nat.mod_eq_of_lt hp
  have h3 : bits .andNot .u64 (a : Int) (p : Int) = IntKind.u64.wrap ((BitVec.ofInt 64 (a : Int) &&& ~~~ BitVec.ofInt 64 (p : Int)).toNat : Int) := rfl
  rw [h3, IntKind.wrap_u64]
  generalize BitVec.ofInt 64 (a : Int) = A at *
  generalize BitVec.ofInt 64 (p : Int) = B at *
  have h4 : ((((A &&& ~~~ B).toNat : Int) % 18446744073709551616 == 0) = true) ↔ A &&& ~~~ B = 0#64 := by
    rw [beq_iff_eq]
    have := (A &&& ~~~ B).isLt
    constructor
    · intro h; apply BitVec.eq_of_toNat_eq; rw [BitVec.toNat_ofNat]; omega
    · intro h; rw [h]; rfl
  have h5 : A &&& ~~~ B = 0#64 ↔ A &&& B = A := by
    constructor
    · intro h
      apply BitVec.eq_of_getLsbD_eq
      intro i hi
      have := congrArg (fun x : BitVec 64 => x.getLsbD i) h
      simp only [BitVec.getLsbD_and, BitVec.getLsbD_not, BitVec.getLsbD_zero, hi, decide_true, Bool.true_and] at this ⊢
      cases ha : A.getLsbD i <;> cases hb : B.getLsbD i <;> simp_all
    · intro h
      rw [← h]
      apply BitVec.eq_of_getLsbD_eq
      intro i hi
      simp only [BitVec.getLsbD_and, BitVec.getLsbD_not, BitVec.getLsbD_zero, hi, decide_true, Bool.true_and]
      cases A.getLsbD i <;> cases B.getLsbD i <;> rfl
  have h6 : A &&& B = A ↔ a &&& p = a := by
    rw [← h1, ← h2, ← BitVec.toNat_and]
    exact ⟨fun h => by rw [h], fun h => BitVec.eq_of_toNat_eq h⟩
  rw [Bool.eq_iff_iff, h4, h5, h6, decide_eq_true_iff]
theorem filN_lt (f : Frm) : filN f < 4096 := by
  have := fT_lt f 3
  unfold filN
  split <;> split <;> omega
/-- Whether a frame may be; k: its kind, l: the ranges of its Set. -/
def mayF (k : Nat) (f : Frm) (l : List Ran) : Bool := (partsN k).isSome && (decide (filN f &&& (partsN k).getD 0 = filN f) && bndB f l)
theorem partsN_lt (k : Nat) : (partsN k).getD 0 < 8192 := by
  unfold partsN
  split <;> decide
set_option maxHeartbeats 4000000 in
theorem may_frame (k : Nat) (f : Frm) (l : List Ran) (w : World) (hk : f.kind = (k : Nat)) (hrd : Rd w (.slice f.set.a f.set.n f.set.c) l) (hu : ∀ x ∈ l, 0 ≤ x.1 ∧ 0 ≤ x.2) (ho : 0 ≤ f.off) :
    Calls Tryz.prog 84 #[.agg #[.int .u64 f.kind, .int .u64 f.id, .int .u64 f.off, .int .u64 f.max, .int .u64 f.code, .int .u64 f.seq, .int .u64 f.prior, .int .u64 f.delay, .bool f.fin, .string ⟨f.data.toArray⟩, .string ⟨f.cid.toArray⟩, .string ⟨f.token.toArray⟩, .slice f.set.a f.set.n f.set.c]] w fun e w' => e = .returned (.bool (mayF k f l)) ∧ Below w.heap.size w w' := by
  have CP := Lib.hid (fun w => partsOf_any k w)
  rw [← hk] at CP
  have CF := Lib.hid (fun w => filled_any f w)
  have CB := Lib.hid (fun w hrd => bounded_any f l w hrd hu ho)
  have HM : Hid (mayF k f l = ((partsN k).isSome && (decide (filN f &&& (partsN k).getD 0 = filN f) && bndB f l))) := Lib.hid rfl
  have hA := andNot_sub (filN f) ((partsN k).getD 0) (Nat.lt_trans (filN_lt f) (by decide)) (Nat.lt_trans (partsN_lt k) (by decide))
  unfold pR at CP
  generalize (partsN k).isSome = ok at *
  generalize (partsN k).getD 0 = p at *
  generalize filN f = F at *
  generalize bndB f l = R at *
  rw [← hA] at HM
  clear hA
  have HR := Lib.hid hrd
  clear hrd hk
  have HB0 : Hid (Below w.heap.size w (w.alloc (.cells #[.int .u64 f.kind, .int .u64 f.id, .int .u64 f.off, .int .u64 f.max, .int .u64 f.code, .int .u64 f.seq, .int .u64 f.prior, .int .u64 f.delay, .bool f.fin, .string ⟨f.data.toArray⟩, .string ⟨f.cid.toArray⟩, .string ⟨f.token.toArray⟩, .slice f.set.a f.set.n f.set.c] 48 (0, 0)))) := Lib.hid ((Below.refl w.heap.size w).alloc (Nat.le_refl _) _)
  cases ok with
  | false =>
    rw [Bool.false_and] at HM
    go_enter Tryz.func84, Tryz.ntmps84
    go_wp2_with fail
    refine (CP.out _).mono ?_
    rintro e w1 ⟨rfl, rfl⟩
    go_wp2
    go_ret
    exact ⟨by rw [HM.out]; rfl, HB0.out⟩
  | true =>
    rw [Bool.true_and] at HM
    cases hq : (bits .andNot .u64 (F : Int) (p : Int) == 0) with
    | false =>
      rw [hq, Bool.false_and] at HM
      go_enter Tryz.func84, Tryz.ntmps84
      go_wp2_with fail
      refine (CP.out _).mono ?_
      rintro e w1 ⟨rfl, rfl⟩
      go_wp2_with fail
      refine (CF.out _).mono ?_
      rintro e w2 ⟨rfl, hb⟩
      have HB2 := Lib.hid (HB0.out.trans (hb.mono (by simp)))
      clear hb
      go_wp2
      go_ret
      exact ⟨by rw [HM.out]; rfl, HB2.out⟩
    | true =>
      rw [hq, Bool.true_and] at HM
      go_enter Tryz.func84, Tryz.ntmps84
      go_wp2_with fail
      refine (CP.out _).mono ?_
      rintro e w1 ⟨rfl, rfl⟩
      go_wp2_with fail
      refine (CF.out _).mono ?_
      rintro e w2 ⟨rfl, hb⟩
      have HB2 := Lib.hid (HB0.out.trans (hb.mono (by simp)))
      have hF : w2.heap[w.heap.size]? = some (.cells #[.int .u64 f.kind, .int .u64 f.id, .int .u64 f.off, .int .u64 f.max, .int .u64 f.code, .int .u64 f.seq, .int .u64 f.prior, .int .u64 f.delay, .bool f.fin, .string ⟨f.data.toArray⟩, .string ⟨f.cid.toArray⟩, .string ⟨f.token.toArray⟩, .slice f.set.a f.set.n f.set.c] 48 (0, 0)) := (hb.block _ (by simp)).trans (World.alloc_heap_new w _)
      have c0 : w2.cell? ⟨w.heap.size, 0, none⟩ = some (.int .u64 f.kind) := Lib.cell_of_heap hF 0
      have c1 : w2.cell? ⟨w.heap.size, 1, none⟩ = some (.int .u64 f.id) := Lib.cell_of_heap hF 1
      have c2 : w2.cell? ⟨w.heap.size, 2, none⟩ = some (.int .u64 f.off) := Lib.cell_of_heap hF 2
      have c3 : w2.cell? ⟨w.heap.size, 3, none⟩ = some (.int .u64 f.max) := Lib.cell_of_heap hF 3
      have c4 : w2.cell? ⟨w.heap.size, 4, none⟩ = some (.int .u64 f.code) := Lib.cell_of_heap hF 4
      have c5 : w2.cell? ⟨w.heap.size, 5, none⟩ = some (.int .u64 f.seq) := Lib.cell_of_heap hF 5
      have c6 : w2.cell? ⟨w.heap.size, 6, none⟩ = some (.int .u64 f.prior) := Lib.cell_of_heap hF 6
      have c7 : w2.cell? ⟨w.heap.size, 7, none⟩ = some (.int .u64 f.delay) := Lib.cell_of_heap hF 7
      have c8 : w2.cell? ⟨w.heap.size, 8, none⟩ = some (.bool f.fin) := Lib.cell_of_heap hF 8
      have c9 : w2.cell? ⟨w.heap.size, 9, none⟩ = some (.string ⟨f.data.toArray⟩) := Lib.cell_of_heap hF 9
      have c10 : w2.cell? ⟨w.heap.size, 10, none⟩ = some (.string ⟨f.cid.toArray⟩) := Lib.cell_of_heap hF 10
      have c11 : w2.cell? ⟨w.heap.size, 11, none⟩ = some (.string ⟨f.token.toArray⟩) := Lib.cell_of_heap hF 11
      have c12 : w2.cell? ⟨w.heap.size, 12, none⟩ = some (.slice f.set.a f.set.n f.set.c) := Lib.cell_of_heap hF 12
      clear hb hF
      go_wp2_with fail
      refine (CB.out _ (HR.out.below HB2.out)).mono ?_
      rintro e w3 ⟨rfl, hb⟩
      have HB3 := Lib.hid (HB2.out.trans (hb.mono HB2.out.size))
      clear hb
      go_wp2
      go_ret
      exact ⟨by rw [HM.out]; rfl, HB3.out⟩
end Go.Proofs.YtoblmhpjendbfaaGreatDoor.Fm
namespace Go.Proofs.YtoblmhpjendbfaaGreatDoor.Vm
set_option maxRecDepth 20000
open Go.RowKit
set_option linter.unusedVariables false

/-- The bytes of many numbers, one behind the other. -/
def pcat (zs : List Int) : List UInt8 := (zs.map fun z => pt z.toNat).flatten
theorem pcat_nil : pcat [] = [] := rfl
theorem pcat_cons (z : Int) (zs : List Int) : pcat (z :: zs) = pt z.toNat ++ pcat zs := by simp [pcat]
theorem pcat_append (xs ys : List Int) : pcat (xs ++ ys) = pcat xs ++ pcat ys := by simp [pcat]
theorem pcat_take (zs : List Int) (k : Nat) (h : k < zs.length) : pcat (zs.take (k + 1)) = pcat (zs.take k) ++ pt (zs.getD k 0).toNat := by
  rw [List.take_succ_eq_append_getElem h, pcat_append]
  congr 1
  simp [pcat, List.getD, List.getElem?_eq_getElem h]
theorem wd_le (p : Nat) (h : p ≤ 4) : wd p ≤ 16 := by
  unfold wd
  exact Nat.le_trans (Nat.pow_le_pow_right (by decide) h) (by decide)
theorem pcat_len (zs : List Int) : (pcat zs).length ≤ 16 * zs.length := by
  induction zs with
  | nil => simp [pcat]
  | cons z zs ih =>
    rw [pcat_cons, List.length_append, List.length_cons, pt_length]
    have := wd_le _ (pl_le z.toNat)
    omega
/-- A row of the call's own stays one while what lies below the heap's size stands. -/
theorem owns_below {w w' : World} {B : Nat} {e : TypeId} {size : Nat} {v : Value} {n : Nat} {xs : List Value} (h : w.ownsRow B e size v n xs) (hb : Below w.heap.size w w') : w'.ownsRow B e size v n xs := by
  refine ⟨h.1, ?_⟩
  rcases h.2 with hn | ⟨g, cap, cur, rfl, hg, hgg, rest⟩
  · exact .inl hn
  · refine .inr ⟨g, cap, cur, rfl, hg, ?_, rest⟩
    have hlt : g < w.heap.size := by
      rcases Nat.lt_or_ge g w.heap.size with h1 | h1
      · exact h1
      · rw [Array.getElem?_eq_none h1] at hgg; cases hgg
    rw [hb.block g hlt]; exact hgg
theorem builder_below {w w' : World} {T e : TypeId} {B b : Nat} {bs : List Value} (h : Lib.IsBuilder T e B b bs w) (hb : Below w.heap.size w w') : Lib.IsBuilder T e B b bs w' := by
  have one : ∀ p, Lib.BuilderAt T e B b p bs w → Lib.BuilderAt T e B b p bs w' := by
    intro p h
    have hlt := h.lt
    obtain ⟨hB, v, hbk, hown, hne⟩ := h
    exact ⟨hB, v, by rw [hb.block b hlt]; exact hbk, owns_below hown hb, hne⟩
  rcases h with h | h
  · exact .inl (one _ h)
  · exact .inr (one _ h)
end Go.Proofs.YtoblmhpjendbfaaGreatDoor.Vm
namespace Go.Proofs.YtoblmhpjendbfaaGreatDoor.Vm
set_option maxRecDepth 20000
open Go.RowKit
set_option linter.unusedVariables false

end Go.Proofs.YtoblmhpjendbfaaGreatDoor.Vm
namespace Go.Proofs.YtoblmhpjendbfaaGreatDoor.Vm
set_option maxRecDepth 20000
open Go.RowKit
set_option linter.unusedVariables false

/-- What Puts tells of numbers: their bytes, or the first error and nothing. -/
def allFit (zs : List Int) : Prop := ∀ z ∈ zs, pl z.toNat < 4
def PutsPost (zs : List Int) (w : World) (e : Ending) (w' : World) : Prop :=
  Below w.heap.size w w' ∧ ((allFit zs ∧ e = .returned (.tuple #[.string ⟨(pcat zs).toArray⟩, .int .i64 0])) ∨ (¬ allFit zs ∧ e = .returned (.tuple #[.string ⟨#[]⟩, .int .i64 1])))
theorem puts_good {zs : List Int} {w w' : World} {s : ByteArray} (h : allFit zs) (hs : s = ⟨(pcat zs).toArray⟩) (hb : Below w.heap.size w w') : PutsPost zs w (.returned (.tuple #[.string s, .int .i64 0])) w' := ⟨hb, .inl ⟨h, by rw [hs]⟩⟩
theorem puts_bad {zs : List Int} {w w' : World} (h : ¬ allFit zs) (hb : Below w.heap.size w w') : PutsPost zs w (.returned (.tuple #[.string ⟨#[]⟩, .int .i64 1])) w' := ⟨hb, .inr ⟨h, rfl⟩⟩
def fitTo (zs : List Int) (k : Nat) : Prop := ∀ i, i < k → pl (zs.getD i 0).toNat < 4
theorem fit_all {zs : List Int} (h : fitTo zs zs.length) : allFit zs := by
  intro z hz
  obtain ⟨i, hi, rfl⟩ := List.getElem_of_mem hz
  have := h i hi
  simpa [List.getD, List.getElem?_eq_getElem hi] using this
theorem fit_not {zs : List Int} {k : Nat} (hk : k < zs.length) (h : ¬ pl (zs.getD k 0).toNat < 4) : ¬ allFit zs := by
  intro ha
  apply h
  have := ha (zs[k]) (List.getElem_mem _)
  simpa [List.getD, List.getElem?_eq_getElem hk] using this
theorem fit_succ {zs : List Int} {k : Nat} (h : fitTo zs k) (h1 : pl (zs.getD k 0).toNat < 4) : fitTo zs (k + 1) := by
  intro i hi
  rcases Nat.lt_or_ge i k with h2 | h2
  · exact h i h2
  · obtain rfl : i = k := by omega
    exact h1
/-- The cells of the numbers that came in. -/
def NumRow (w : World) (b off : Nat) (zs : List Int) : Prop := b < w.heap.size ∧ ∀ i, i < zs.length → w.cell? ⟨b, off + i, none⟩ = some (.int .u64 (zs.getD i 0)) ∧ 0 ≤ zs.getD i 0
theorem NumRow.below {w w' : World} {b off : Nat} {zs : List Int} (h : NumRow w b off zs) {B : Nat} (hb : Below B w w') (hB : b < B) : NumRow w' b off zs :=
  ⟨Nat.lt_of_lt_of_le h.1 hb.size, fun i hi => ⟨(hb.cell (p := ⟨b, off + i, none⟩) hB).trans (h.2 i hi).1, (h.2 i hi).2⟩⟩

def VputsRel (zs : List Int) (w : World) (iv : Value) (wr : World) : Prop :=
  ∃ k : Nat, k ≤ zs.length ∧ fitTo zs k ∧ iv = .int .i64 k ∧ Lib.IsBuilder 142 5 w.heap.size w.heap.size (Lib.byteCells (pcat (zs.take k))) wr ∧ Below w.heap.size w wr

set_option maxHeartbeats 1000000 in
theorem vputs_nil (a : Option Addr) (cap : Nat) (w : World) : Calls Tryz.prog 159 #[.slice a 0 cap] w (PutsPost [] w) := by
  have HB := Lib.hid (Lib.fresh_isBuilder 142 5 w)
  go_enter Tryz.func159, Tryz.ntmps159
  go_wp2
  refine wp_loop_rounds 1 ?_
  rw [rounds_succ]
  go_wp2_with fail
  refine (Tryz.Builder_String_any w.heap.size w.heap.size [] _ HB.out (by simp)).mono ?_
  rintro e w1 ⟨rfl, hb1⟩
  go_wp2
  go_ret2
  exact puts_good (fun z hz => by simp at hz) rfl (((Below.refl _ _).alloc (Nat.le_refl _) _).trans hb1)

set_option maxHeartbeats 1000000 in
theorem vputs_row (b off cap : Nat) (zs : List Int) (w : World) (ht : Tab w) (hr : NumRow w b off zs) (hl : zs.length ≤ 1000) :
    Calls Tryz.prog 159 #[.slice (some ⟨b, off, none⟩) zs.length cap] w (PutsPost zs w) := by
  have hblt := hr.1
  have HR := Lib.hid hr
  clear hr
  have hlt0 := ht.lt
  have HT0 := Lib.hid ht
  clear ht
  have HB := Lib.hid (Lib.fresh_isBuilder 142 5 w)
  go_enter Tryz.func159, Tryz.ntmps159
  go_wp2
  go_loopw [11] (fun iv wr => VputsRel zs w iv wr) (fun iv _ => zs.length - (intOf iv).toNat)
  case atStart => exact ⟨0, Nat.zero_le _, fun i hi => by omega, rfl, HB.out, (Below.refl _ _).alloc (Nat.le_refl _) _⟩
  case round =>
    obtain ⟨k, hk, hf, rfl, hI, hb⟩ := hrel
    have HI := Lib.hid hI
    clear hI
    have HF := Lib.hid hf
    clear hf
    have hsz := hb.size
    have HTr := Lib.hid (HT0.out.below hb hlt0)
    have HRr := Lib.hid (HR.out.below hb hblt)
    by_cases hlt : k < zs.length
    · have hc := (HRr.out.2 k hlt).1
      have h0 := (HRr.out.2 k hlt).2
      have HT := Lib.hid (pcat_take zs k hlt)
      have hp := pcat_len (zs.take k)
      have hpl := List.length_take_le k zs
      have HN : Hid (¬ pl (zs.getD k 0).toNat < 4 → ¬ allFit zs) := Lib.hid (fun h => fit_not hlt h)
      have HS : Hid (pl (zs.getD k 0).toNat < 4 → fitTo zs (k + 1)) := Lib.hid (fun h => fit_succ HF.out h)
      have HL := Lib.hid (pl_le (zs.getD k 0).toNat)
      generalize zs.getD k 0 = z at *
      go_wp2_with fail
      refine (vput _ _ HTr.out h0).mono ?_
      rintro e w1 ⟨rfl, hb1⟩
      have hsz1 := hb1.size
      by_cases hok : pl z.toNat < 4
      · have HOK := Lib.hid hok
        clear hok
        rw [(ps_ok HOK.out).1, (ps_ok HOK.out).2]
        have hz := (pt_le z.toNat HOK.out).2
        have HI1 := Lib.hid (builder_below HI.out hb1)
        have HZ : Hid ((Lib.byteCells (pcat (zs.take k))).length + (⟨(pt z.toNat).toArray⟩ : ByteArray).size ≤ 140737488355328) := Lib.hid (by rw [Lib.byteCells_length, size_len]; simp; omega)
        go_wp2_with fail
        refine (Bld.writeString w.heap.size w.heap.size _ ⟨(pt z.toNat).toArray⟩ _ HI1.out HZ.out (by omega)).mono ?_
        rintro e w2 ⟨rfl, hI2, hb2⟩
        have HI2 := Lib.hid hI2
        clear hI2
        go_wp2
        go_roundw
        case rel => exact ⟨k + 1, by omega, HS.out HOK.out, by go_num, by rw [HT.out, Lib.byteCells_append]; exact HI2.out, (hb.trans (hb1.mono hsz)).trans hb2⟩
        case measure => simp [intOf]; omega
      · have HOK := Lib.hid hok
        clear hok
        have h4 := Lib.hid (show pl z.toNat = 4 by have := HL.out; have := HOK.out; omega)
        rw [(ps_no h4.out).1, (ps_no h4.out).2]
        go_wp2
        go_ret2
        exact puts_bad (HN.out HOK.out) (hb.trans (hb1.mono hsz))
    · obtain rfl : k = zs.length := by omega
      go_wp2_with fail
      refine (Tryz.Builder_String_any w.heap.size w.heap.size _ _ HI.out hsz).mono ?_
      rintro e w1 ⟨rfl, hb1⟩
      go_wp2
      go_ret2
      exact puts_good (fit_all HF.out) (by first | rfl | rw [List.take_length]) (hb.trans hb1)
end Go.Proofs.YtoblmhpjendbfaaGreatDoor.Vm
