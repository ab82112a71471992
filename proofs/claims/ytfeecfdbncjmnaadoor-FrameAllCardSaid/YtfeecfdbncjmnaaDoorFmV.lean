/- The walks of layer 6: whether a frame's parts are bounded. By tools/gen-frame-11.py. -/
import Derived.Test.YtfeecfdbncjmnaaDoorFmT
import Derived.Test.YtfeecfdbncjmnaaDoorFmU
import Derived.Deep.RegionHeld3
import Derived.Deep.RegionWith
import Derived.Deep.QuietTactic
import Derived.BigQuiet
namespace Go.Proofs.YtfeecfdbncjmnaaDoor.Fm
set_option maxRecDepth 20000
open Go.RowKit Vm
set_option linter.unusedVariables false
set_option linter.unusedSimpArgs false

/-- Whether a frame's numbers may be told. -/
def numB (f : Frm) : Bool := (List.range 7).all fun j => decide (nm f j ≤ 4611686018427387903)
theorem numB_yes {f : Frm} (h : ∀ j, j < 7 → nm f j ≤ 4611686018427387903) : numB f = true := List.all_eq_true.2 fun j hj => decide_eq_true (h j (List.mem_range.1 hj))
/-- Whether a frame's parts are those of its kind, by number and length; l: the ranges of its Set. -/
def kndB (f : Frm) (l : List Ran) : Bool :=
  if f.kind == 2 then ackB l
  else if f.kind == 6 || f.kind == 8 then decide (f.data.length ≤ 1200) && decide (f.off + f.data.length ≤ 4611686018427387903)
  else if f.kind == 28 || f.kind == 29 then decide (f.data.length ≤ 1200)
  else if f.kind == 18 || f.kind == 19 || f.kind == 22 || f.kind == 23 then decide (f.max ≤ 1152921504606846976)
  else if f.kind == 24 then decide (f.prior ≤ f.seq) && decide (f.cid.length = 8) && decide (f.token.length = 16)
  else if f.kind == 26 || f.kind == 27 then decide (f.token.length = 8)
  else true
def bndB (f : Frm) (l : List Ran) : Bool := numB f && kndB f l
theorem Rd.below {w w' : World} {v : Value} {l : List Ran} (h : Rd w v l) (hb : Below w.heap.size w w') : Rd w' v l := by
  obtain ⟨a, cap, hv, hcap, hrow⟩ := h
  refine ⟨a, cap, hv, hcap, fun hne => ?_⟩
  obtain ⟨b, off, ha, hc⟩ := hrow hne
  exact ⟨b, off, ha, fun i hi => ⟨cell_below hb (hc i hi).1 (World.block_lt_of_cell? _ _ (hc i hi).1), cell_below hb (hc i hi).2 (World.block_lt_of_cell? _ _ (hc i hi).2)⟩⟩
theorem numB_no {f : Frm} (i : Nat) (hi : i < 7) (h : ¬ nm f i ≤ 4611686018427387903) (l : List Ran) : bndB f l = false := by
  have e : numB f = false := by
    cases hn : numB f with
    | false => rfl
    | true => exact absurd (of_decide_eq_true (List.all_eq_true.1 hn i (List.mem_range.2 hi))) h
  rw [bndB, e, Bool.false_and]
set_option maxHeartbeats 16000000 in
theorem bounded_any (f : Frm) (l : List Ran) (w : World) (hrd : Rd w (.slice f.set.a f.set.n f.set.c) l) (hu : ∀ x ∈ l, 0 ≤ x.1 ∧ 0 ≤ x.2) (ho : 0 ≤ f.off) : Calls Tryd.prog 34 #[.agg #[.int .u64 f.kind, .int .u64 f.id, .int .u64 f.off, .int .u64 f.max, .int .u64 f.code, .int .u64 f.seq, .int .u64 f.prior, .int .u64 f.delay, .bool f.fin, .string ⟨f.data.toArray⟩, .string ⟨f.cid.toArray⟩, .string ⟨f.token.toArray⟩, .slice f.set.a f.set.n f.set.c]] w fun e w' => e = .returned (.bool (bndB f l)) ∧ Below w.heap.size w w' := by
  have CN := Lib.hid (fun w => numbers_any f w)
  have CA := Lib.hid (fun w hrd => acknowledges_any (.slice f.set.a f.set.n f.set.c) l w hrd hu)
  have hI0 := fun (u : World) => run_index_num7 #[.int .u64 f.id, .int .u64 f.off, .int .u64 f.code, .int .u64 f.max, .int .u64 f.seq, .int .u64 f.prior, .int .u64 f.delay] 0 (.int .u64 f.id) u (by decide) rfl
  have hI1 := fun (u : World) => run_index_num7 #[.int .u64 f.id, .int .u64 f.off, .int .u64 f.code, .int .u64 f.max, .int .u64 f.seq, .int .u64 f.prior, .int .u64 f.delay] 1 (.int .u64 f.off) u (by decide) rfl
  have hI2 := fun (u : World) => run_index_num7 #[.int .u64 f.id, .int .u64 f.off, .int .u64 f.code, .int .u64 f.max, .int .u64 f.seq, .int .u64 f.prior, .int .u64 f.delay] 2 (.int .u64 f.code) u (by decide) rfl
  have hI3 := fun (u : World) => run_index_num7 #[.int .u64 f.id, .int .u64 f.off, .int .u64 f.code, .int .u64 f.max, .int .u64 f.seq, .int .u64 f.prior, .int .u64 f.delay] 3 (.int .u64 f.max) u (by decide) rfl
  have hI4 := fun (u : World) => run_index_num7 #[.int .u64 f.id, .int .u64 f.off, .int .u64 f.code, .int .u64 f.max, .int .u64 f.seq, .int .u64 f.prior, .int .u64 f.delay] 4 (.int .u64 f.seq) u (by decide) rfl
  have hI5 := fun (u : World) => run_index_num7 #[.int .u64 f.id, .int .u64 f.off, .int .u64 f.code, .int .u64 f.max, .int .u64 f.seq, .int .u64 f.prior, .int .u64 f.delay] 5 (.int .u64 f.prior) u (by decide) rfl
  have hI6 := fun (u : World) => run_index_num7 #[.int .u64 f.id, .int .u64 f.off, .int .u64 f.code, .int .u64 f.max, .int .u64 f.seq, .int .u64 f.prior, .int .u64 f.delay] 6 (.int .u64 f.delay) u (by decide) rfl
  have HR := Lib.hid hrd
  clear hrd
  go_enter Tryd.func34, Tryd.ntmps34
  go_wp2_with fail
  refine (CN.out _).mono ?_
  rintro e w1 ⟨rfl, hb⟩
  have HB1 := Lib.hid (((Below.refl w.heap.size w).alloc (Nat.le_refl _) _).trans (hb.mono (by simp)))
  have hF : w1.heap[w.heap.size]? = some (.cells #[.int .u64 f.kind, .int .u64 f.id, .int .u64 f.off, .int .u64 f.max, .int .u64 f.code, .int .u64 f.seq, .int .u64 f.prior, .int .u64 f.delay, .bool f.fin, .string ⟨f.data.toArray⟩, .string ⟨f.cid.toArray⟩, .string ⟨f.token.toArray⟩, .slice f.set.a f.set.n f.set.c] 27 (0, 0)) := (hb.block _ (by simp)).trans (World.alloc_heap_new w _)
  have HF := Lib.hid hF
  clear hb hF
  go_wp2
  go_loop [7] (fun iv => ∃ k : Nat, k ≤ 7 ∧ iv = .int .i64 (k : Nat) ∧ ∀ j, j < k → nm f j ≤ 4611686018427387903) (fun iv => 7 - (intOf iv).toNat)
  case atStart => exact ⟨0, by decide, rfl, fun j h => absurd h (Nat.not_lt_zero _)⟩
  case round =>
    obtain ⟨k, hk, rfl, hj⟩ := hrel
    have HJ := Lib.hid hj
    clear hj
    match k, hk with
    | 0, _ =>
      by_cases h : f.id ≤ 4611686018427387903
      · have h1 : ¬ (4611686018427387903 : Int) < f.id := by omega
        go_wp2_with fail
        erw [hI0]
        go_wp2
        go_round
        case rel => exact ⟨1, by decide, rfl, fun j hj => by
          rcases Nat.lt_or_ge j 0 with h2 | h2
          · exact HJ.out j h2
          · have : j = 0 := by omega
            subst this; exact h⟩
        case measure => simp [intOf]
      · have h1 : (4611686018427387903 : Int) < f.id := by omega
        have hx : Hid (bndB f l = false) := Lib.hid (numB_no 0 (by decide) h l)
        clear h
        go_wp2_with fail
        erw [hI0]
        go_wp2
        go_ret
        exact ⟨by rw [hx.out]; rfl, HB1.out⟩
    | 1, _ =>
      by_cases h : f.off ≤ 4611686018427387903
      · have h1 : ¬ (4611686018427387903 : Int) < f.off := by omega
        go_wp2_with fail
        erw [hI1]
        go_wp2
        go_round
        case rel => exact ⟨2, by decide, rfl, fun j hj => by
          rcases Nat.lt_or_ge j 1 with h2 | h2
          · exact HJ.out j h2
          · have : j = 1 := by omega
            subst this; exact h⟩
        case measure => simp [intOf]
      · have h1 : (4611686018427387903 : Int) < f.off := by omega
        have hx : Hid (bndB f l = false) := Lib.hid (numB_no 1 (by decide) h l)
        clear h
        go_wp2_with fail
        erw [hI1]
        go_wp2
        go_ret
        exact ⟨by rw [hx.out]; rfl, HB1.out⟩
    | 2, _ =>
      by_cases h : f.code ≤ 4611686018427387903
      · have h1 : ¬ (4611686018427387903 : Int) < f.code := by omega
        go_wp2_with fail
        erw [hI2]
        go_wp2
        go_round
        case rel => exact ⟨3, by decide, rfl, fun j hj => by
          rcases Nat.lt_or_ge j 2 with h2 | h2
          · exact HJ.out j h2
          · have : j = 2 := by omega
            subst this; exact h⟩
        case measure => simp [intOf]
      · have h1 : (4611686018427387903 : Int) < f.code := by omega
        have hx : Hid (bndB f l = false) := Lib.hid (numB_no 2 (by decide) h l)
        clear h
        go_wp2_with fail
        erw [hI2]
        go_wp2
        go_ret
        exact ⟨by rw [hx.out]; rfl, HB1.out⟩
    | 3, _ =>
      by_cases h : f.max ≤ 4611686018427387903
      · have h1 : ¬ (4611686018427387903 : Int) < f.max := by omega
        go_wp2_with fail
        erw [hI3]
        go_wp2
        go_round
        case rel => exact ⟨4, by decide, rfl, fun j hj => by
          rcases Nat.lt_or_ge j 3 with h2 | h2
          · exact HJ.out j h2
          · have : j = 3 := by omega
            subst this; exact h⟩
        case measure => simp [intOf]
      · have h1 : (4611686018427387903 : Int) < f.max := by omega
        have hx : Hid (bndB f l = false) := Lib.hid (numB_no 3 (by decide) h l)
        clear h
        go_wp2_with fail
        erw [hI3]
        go_wp2
        go_ret
        exact ⟨by rw [hx.out]; rfl, HB1.out⟩
    | 4, _ =>
      by_cases h : f.seq ≤ 4611686018427387903
      · have h1 : ¬ (4611686018427387903 : Int) < f.seq := by omega
        go_wp2_with fail
        erw [hI4]
        go_wp2
        go_round
        case rel => exact ⟨5, by decide, rfl, fun j hj => by
          rcases Nat.lt_or_ge j 4 with h2 | h2
          · exact HJ.out j h2
          · have : j = 4 := by omega
            subst this; exact h⟩
        case measure => simp [intOf]
      · have h1 : (4611686018427387903 : Int) < f.seq := by omega
        have hx : Hid (bndB f l = false) := Lib.hid (numB_no 4 (by decide) h l)
        clear h
        go_wp2_with fail
        erw [hI4]
        go_wp2
        go_ret
        exact ⟨by rw [hx.out]; rfl, HB1.out⟩
    | 5, _ =>
      by_cases h : f.prior ≤ 4611686018427387903
      · have h1 : ¬ (4611686018427387903 : Int) < f.prior := by omega
        go_wp2_with fail
        erw [hI5]
        go_wp2
        go_round
        case rel => exact ⟨6, by decide, rfl, fun j hj => by
          rcases Nat.lt_or_ge j 5 with h2 | h2
          · exact HJ.out j h2
          · have : j = 5 := by omega
            subst this; exact h⟩
        case measure => simp [intOf]
      · have h1 : (4611686018427387903 : Int) < f.prior := by omega
        have hx : Hid (bndB f l = false) := Lib.hid (numB_no 5 (by decide) h l)
        clear h
        go_wp2_with fail
        erw [hI5]
        go_wp2
        go_ret
        exact ⟨by rw [hx.out]; rfl, HB1.out⟩
    | 6, _ =>
      by_cases h : f.delay ≤ 4611686018427387903
      · have h1 : ¬ (4611686018427387903 : Int) < f.delay := by omega
        go_wp2_with fail
        erw [hI6]
        go_wp2
        go_round
        case rel => exact ⟨7, by decide, rfl, fun j hj => by
          rcases Nat.lt_or_ge j 6 with h2 | h2
          · exact HJ.out j h2
          · have : j = 6 := by omega
            subst this; exact h⟩
        case measure => simp [intOf]
      · have h1 : (4611686018427387903 : Int) < f.delay := by omega
        have hx : Hid (bndB f l = false) := Lib.hid (numB_no 6 (by decide) h l)
        clear h
        go_wp2_with fail
        erw [hI6]
        go_wp2
        go_ret
        exact ⟨by rw [hx.out]; rfl, HB1.out⟩
    | 7, _ =>
      have hn : numB f = true := numB_yes HJ.out
      have hoff : f.off ≤ 4611686018427387903 := HJ.out 1 (by decide)
      have d0 : w1.cell? ⟨w.heap.size, 0, none⟩ = some (.int .u64 f.kind) := Lib.cell_of_heap HF.out 0
      have d2 : w1.cell? ⟨w.heap.size, 2, none⟩ = some (.int .u64 f.off) := Lib.cell_of_heap HF.out 2
      have d3 : w1.cell? ⟨w.heap.size, 3, none⟩ = some (.int .u64 f.max) := Lib.cell_of_heap HF.out 3
      have d5 : w1.cell? ⟨w.heap.size, 5, none⟩ = some (.int .u64 f.seq) := Lib.cell_of_heap HF.out 5
      have d6 : w1.cell? ⟨w.heap.size, 6, none⟩ = some (.int .u64 f.prior) := Lib.cell_of_heap HF.out 6
      have d9 : w1.cell? ⟨w.heap.size, 9, none⟩ = some (.string ⟨f.data.toArray⟩) := Lib.cell_of_heap HF.out 9
      have d10 : w1.cell? ⟨w.heap.size, 10, none⟩ = some (.string ⟨f.cid.toArray⟩) := Lib.cell_of_heap HF.out 10
      have d11 : w1.cell? ⟨w.heap.size, 11, none⟩ = some (.string ⟨f.token.toArray⟩) := Lib.cell_of_heap HF.out 11
      have d12 : w1.cell? ⟨w.heap.size, 12, none⟩ = some (.slice f.set.a f.set.n f.set.c) := Lib.cell_of_heap HF.out 12
      have hk0 : bndB f l = kndB f l := by unfold bndB; rw [hn, Bool.true_and]
      clear hn CN
      clear HJ HF hI0 hI1 hI2 hI3 hI4 hI5 hI6
      by_cases k2 : f.kind = 2
      · have c2 : (f.kind == 2) = true := by rw [k2]; rfl
        have HK : Hid (bndB f l = ackB l) := Lib.hid (by rw [hk0]; simp only [kndB, c2, Bool.or_true, Bool.or_false, Bool.true_or, Bool.false_or, Bool.and_true, Bool.true_and, Bool.and_false, Bool.false_and, if_true, if_false, Bool.false_eq_true, reduceIte, decide_true, decide_false])
        clear hk0
        go_wp2_with fail
        refine (CA.out _ (HR.out.below HB1.out)).mono ?_
        rintro e w2 ⟨rfl, hb2⟩
        have HB2 := Lib.hid (HB1.out.trans (hb2.mono HB1.out.size))
        clear hb2
        go_wp2
        go_ret
        exact ⟨by rw [HK.out]; rfl, HB2.out⟩
      have c2 : (f.kind == 2) = false := beq_eq_false_iff_ne.2 k2
      clear k2
      by_cases k6 : f.kind = 6
      · have c6 : (f.kind == 6) = true := by rw [k6]; rfl
        by_cases h1 : f.data.length ≤ 1200
        · have h1i : (f.data.length : Int) ≤ 1200 := by omega
          have HK : Hid (bndB f l = decide (f.off + f.data.length ≤ 4611686018427387903)) := Lib.hid (by rw [hk0]; simp only [kndB, c2, c6, h1, Bool.or_true, Bool.or_false, Bool.true_or, Bool.false_or, Bool.and_true, Bool.true_and, Bool.and_false, Bool.false_and, if_true, if_false, Bool.false_eq_true, reduceIte, decide_true, decide_false])
          clear hk0 h1
          go_wp2
          go_ret
          exact ⟨by rw [HK.out]; rfl, HB1.out⟩
        · have h1i : ¬ (f.data.length : Int) ≤ 1200 := by omega
          have HK : Hid (bndB f l = false) := Lib.hid (by rw [hk0]; simp only [kndB, c2, c6, h1, Bool.or_true, Bool.or_false, Bool.true_or, Bool.false_or, Bool.and_true, Bool.true_and, Bool.and_false, Bool.false_and, if_true, if_false, Bool.false_eq_true, reduceIte, decide_true, decide_false])
          clear hk0 h1
          go_wp2
          go_ret
          exact ⟨by rw [HK.out]; rfl, HB1.out⟩
      have c6 : (f.kind == 6) = false := beq_eq_false_iff_ne.2 k6
      clear k6
      by_cases k8 : f.kind = 8
      · have c8 : (f.kind == 8) = true := by rw [k8]; rfl
        by_cases h1 : f.data.length ≤ 1200
        · have h1i : (f.data.length : Int) ≤ 1200 := by omega
          have HK : Hid (bndB f l = decide (f.off + f.data.length ≤ 4611686018427387903)) := Lib.hid (by rw [hk0]; simp only [kndB, c2, c6, c8, h1, Bool.or_true, Bool.or_false, Bool.true_or, Bool.false_or, Bool.and_true, Bool.true_and, Bool.and_false, Bool.false_and, if_true, if_false, Bool.false_eq_true, reduceIte, decide_true, decide_false])
          clear hk0 h1
          go_wp2
          go_ret
          exact ⟨by rw [HK.out]; rfl, HB1.out⟩
        · have h1i : ¬ (f.data.length : Int) ≤ 1200 := by omega
          have HK : Hid (bndB f l = false) := Lib.hid (by rw [hk0]; simp only [kndB, c2, c6, c8, h1, Bool.or_true, Bool.or_false, Bool.true_or, Bool.false_or, Bool.and_true, Bool.true_and, Bool.and_false, Bool.false_and, if_true, if_false, Bool.false_eq_true, reduceIte, decide_true, decide_false])
          clear hk0 h1
          go_wp2
          go_ret
          exact ⟨by rw [HK.out]; rfl, HB1.out⟩
      have c8 : (f.kind == 8) = false := beq_eq_false_iff_ne.2 k8
      clear k8
      by_cases k28 : f.kind = 28
      · have c28 : (f.kind == 28) = true := by rw [k28]; rfl
        have hq : decide (f.data.length ≤ 1200) = decide ((f.data.length : Int) ≤ 1200) := decide_eq_decide.2 (by omega)
        have HK : Hid (bndB f l = decide ((f.data.length : Int) ≤ 1200)) := Lib.hid (by rw [hk0]; simp only [kndB, c2, c6, c8, c28, hq, Bool.or_true, Bool.or_false, Bool.true_or, Bool.false_or, Bool.and_true, Bool.true_and, Bool.and_false, Bool.false_and, if_true, if_false, Bool.false_eq_true, reduceIte, decide_true, decide_false])
        clear hk0 hq
        go_wp2
        go_ret
        exact ⟨by rw [HK.out]; rfl, HB1.out⟩
      have c28 : (f.kind == 28) = false := beq_eq_false_iff_ne.2 k28
      clear k28
      by_cases k29 : f.kind = 29
      · have c29 : (f.kind == 29) = true := by rw [k29]; rfl
        have hq : decide (f.data.length ≤ 1200) = decide ((f.data.length : Int) ≤ 1200) := decide_eq_decide.2 (by omega)
        have HK : Hid (bndB f l = decide ((f.data.length : Int) ≤ 1200)) := Lib.hid (by rw [hk0]; simp only [kndB, c2, c6, c8, c28, c29, hq, Bool.or_true, Bool.or_false, Bool.true_or, Bool.false_or, Bool.and_true, Bool.true_and, Bool.and_false, Bool.false_and, if_true, if_false, Bool.false_eq_true, reduceIte, decide_true, decide_false])
        clear hk0 hq
        go_wp2
        go_ret
        exact ⟨by rw [HK.out]; rfl, HB1.out⟩
      have c29 : (f.kind == 29) = false := beq_eq_false_iff_ne.2 k29
      clear k29
      by_cases k18 : f.kind = 18
      · have c18 : (f.kind == 18) = true := by rw [k18]; rfl
        have HK : Hid (bndB f l = decide (f.max ≤ 1152921504606846976)) := Lib.hid (by rw [hk0]; simp only [kndB, c2, c6, c8, c28, c29, c18, Bool.or_true, Bool.or_false, Bool.true_or, Bool.false_or, Bool.and_true, Bool.true_and, Bool.and_false, Bool.false_and, if_true, if_false, Bool.false_eq_true, reduceIte, decide_true, decide_false])
        clear hk0
        go_wp2
        go_ret
        exact ⟨by rw [HK.out]; rfl, HB1.out⟩
      have c18 : (f.kind == 18) = false := beq_eq_false_iff_ne.2 k18
      clear k18
      by_cases k19 : f.kind = 19
      · have c19 : (f.kind == 19) = true := by rw [k19]; rfl
        have HK : Hid (bndB f l = decide (f.max ≤ 1152921504606846976)) := Lib.hid (by rw [hk0]; simp only [kndB, c2, c6, c8, c28, c29, c18, c19, Bool.or_true, Bool.or_false, Bool.true_or, Bool.false_or, Bool.and_true, Bool.true_and, Bool.and_false, Bool.false_and, if_true, if_false, Bool.false_eq_true, reduceIte, decide_true, decide_false])
        clear hk0
        go_wp2
        go_ret
        exact ⟨by rw [HK.out]; rfl, HB1.out⟩
      have c19 : (f.kind == 19) = false := beq_eq_false_iff_ne.2 k19
      clear k19
      by_cases k22 : f.kind = 22
      · have c22 : (f.kind == 22) = true := by rw [k22]; rfl
        have HK : Hid (bndB f l = decide (f.max ≤ 1152921504606846976)) := Lib.hid (by rw [hk0]; simp only [kndB, c2, c6, c8, c28, c29, c18, c19, c22, Bool.or_true, Bool.or_false, Bool.true_or, Bool.false_or, Bool.and_true, Bool.true_and, Bool.and_false, Bool.false_and, if_true, if_false, Bool.false_eq_true, reduceIte, decide_true, decide_false])
        clear hk0
        go_wp2
        go_ret
        exact ⟨by rw [HK.out]; rfl, HB1.out⟩
      have c22 : (f.kind == 22) = false := beq_eq_false_iff_ne.2 k22
      clear k22
      by_cases k23 : f.kind = 23
      · have c23 : (f.kind == 23) = true := by rw [k23]; rfl
        have HK : Hid (bndB f l = decide (f.max ≤ 1152921504606846976)) := Lib.hid (by rw [hk0]; simp only [kndB, c2, c6, c8, c28, c29, c18, c19, c22, c23, Bool.or_true, Bool.or_false, Bool.true_or, Bool.false_or, Bool.and_true, Bool.true_and, Bool.and_false, Bool.false_and, if_true, if_false, Bool.false_eq_true, reduceIte, decide_true, decide_false])
        clear hk0
        go_wp2
        go_ret
        exact ⟨by rw [HK.out]; rfl, HB1.out⟩
      have c23 : (f.kind == 23) = false := beq_eq_false_iff_ne.2 k23
      clear k23
      by_cases k24 : f.kind = 24
      · have c24 : (f.kind == 24) = true := by rw [k24]; rfl
        have CK := Lib.hid tokenLen_id
        rw [k24] at d0
        by_cases h1 : f.prior ≤ f.seq
        · have g1 : decide (f.prior ≤ f.seq) = true := decide_eq_true h1
          by_cases h2 : f.cid.length = 8
          · have g2 : ((f.cid.length : Int) == 8) = true := by rw [h2]; rfl
            have hq : decide (f.token.length = 16) = ((f.token.length : Int) == 16) := by rw [Bool.eq_iff_iff]; simp; omega
            have HK : Hid (bndB f l = ((f.token.length : Int) == 16)) := Lib.hid (by rw [hk0]; simp only [kndB, c2, c6, c8, c28, c29, c18, c19, c22, c23, c24, h1, h2, hq, Bool.or_true, Bool.or_false, Bool.true_or, Bool.false_or, Bool.and_true, Bool.true_and, Bool.and_false, Bool.false_and, if_true, if_false, Bool.false_eq_true, reduceIte, decide_true, decide_false])
            clear hk0 h1 h2 hq
            go_wp2_with fail
            go_quiet ((go_at_call 58; exact Calls.quiet_of_same (CK.out _)))
            go_wp2
            go_ret
            exact ⟨by rw [HK.out]; rfl, below_drewN HB1.out _⟩
          · have g2 : ((f.cid.length : Int) == 8) = false := by rw [beq_eq_false_iff_ne]; omega
            have HK : Hid (bndB f l = false) := Lib.hid (by rw [hk0]; simp only [kndB, c2, c6, c8, c28, c29, c18, c19, c22, c23, c24, h1, h2, Bool.or_true, Bool.or_false, Bool.true_or, Bool.false_or, Bool.and_true, Bool.true_and, Bool.and_false, Bool.false_and, if_true, if_false, Bool.false_eq_true, reduceIte, decide_true, decide_false])
            clear hk0 h1 h2
            go_wp2_with fail
            go_quiet ((go_at_call 58; exact Calls.quiet_of_same (CK.out _)))
            go_wp2
            go_ret
            exact ⟨by rw [HK.out]; rfl, below_drewN HB1.out _⟩
        · have g1 : decide (f.prior ≤ f.seq) = false := decide_eq_false h1
          have HK : Hid (bndB f l = false) := Lib.hid (by rw [hk0]; simp only [kndB, c2, c6, c8, c28, c29, c18, c19, c22, c23, c24, h1, Bool.or_true, Bool.or_false, Bool.true_or, Bool.false_or, Bool.and_true, Bool.true_and, Bool.and_false, Bool.false_and, if_true, if_false, Bool.false_eq_true, reduceIte, decide_true, decide_false])
          clear hk0 h1
          go_wp2_with fail
          go_quiet ((go_at_call 58; exact Calls.quiet_of_same (CK.out _)))
          go_wp2
          go_ret
          exact ⟨by rw [HK.out]; rfl, below_drewN HB1.out _⟩
      have c24 : (f.kind == 24) = false := beq_eq_false_iff_ne.2 k24
      clear k24
      by_cases k26 : f.kind = 26
      · have c26 : (f.kind == 26) = true := by rw [k26]; rfl
        have CK := Lib.hid (fun w => tokenLen_path 26 (by decide) w)
        rw [k26] at d0
        have hq : decide (f.token.length = 8) = ((f.token.length : Int) == 8) := by rw [Bool.eq_iff_iff]; simp; omega
        have HK : Hid (bndB f l = ((f.token.length : Int) == 8)) := Lib.hid (by rw [hk0]; simp only [kndB, c2, c6, c8, c28, c29, c18, c19, c22, c23, c24, c26, hq, Bool.or_true, Bool.or_false, Bool.true_or, Bool.false_or, Bool.and_true, Bool.true_and, Bool.and_false, Bool.false_and, if_true, if_false, Bool.false_eq_true, reduceIte, decide_true, decide_false])
        clear hk0 hq
        go_wp2_with fail
        go_quiet ((go_at_call 58; exact Calls.quiet_of_same (CK.out _)))
        go_wp2
        go_ret
        exact ⟨by rw [HK.out]; rfl, below_drewN HB1.out _⟩
      have c26 : (f.kind == 26) = false := beq_eq_false_iff_ne.2 k26
      clear k26
      by_cases k27 : f.kind = 27
      · have c27 : (f.kind == 27) = true := by rw [k27]; rfl
        have CK := Lib.hid (fun w => tokenLen_path 27 (by decide) w)
        rw [k27] at d0
        have hq : decide (f.token.length = 8) = ((f.token.length : Int) == 8) := by rw [Bool.eq_iff_iff]; simp; omega
        have HK : Hid (bndB f l = ((f.token.length : Int) == 8)) := Lib.hid (by rw [hk0]; simp only [kndB, c2, c6, c8, c28, c29, c18, c19, c22, c23, c24, c26, c27, hq, Bool.or_true, Bool.or_false, Bool.true_or, Bool.false_or, Bool.and_true, Bool.true_and, Bool.and_false, Bool.false_and, if_true, if_false, Bool.false_eq_true, reduceIte, decide_true, decide_false])
        clear hk0 hq
        go_wp2_with fail
        go_quiet ((go_at_call 58; exact Calls.quiet_of_same (CK.out _)))
        go_wp2
        go_ret
        exact ⟨by rw [HK.out]; rfl, below_drewN HB1.out _⟩
      have c27 : (f.kind == 27) = false := beq_eq_false_iff_ne.2 k27
      clear k27
      have HK : Hid (bndB f l = true) := Lib.hid (by rw [hk0]; simp only [kndB, c2, c6, c8, c28, c29, c18, c19, c22, c23, c24, c26, c27, Bool.or_true, Bool.or_false, Bool.true_or, Bool.false_or, Bool.and_true, Bool.true_and, Bool.and_false, Bool.false_and, if_true, if_false, Bool.false_eq_true, reduceIte, decide_true, decide_false])
      clear hk0
      go_wp2
      go_ret
      exact ⟨by rw [HK.out]; rfl, HB1.out⟩
end Go.Proofs.YtfeecfdbncjmnaaDoor.Fm
