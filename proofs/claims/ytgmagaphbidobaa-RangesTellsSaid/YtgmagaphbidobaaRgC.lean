/- The walk of layer 3's document function Cut. -/
import Derived.Test.YtgmagaphbidobaaRgF
namespace Go.Proofs.Ytgmagaphbidobaa.Rg
open Go.RowKit Go.Shelf
set_option linter.unusedVariables false

def cut1 (r x : Ran) : List Ran := if r.2 < r.1 ∨ r.2 < x.1 ∨ x.2 < r.1 then [x] else (if x.1 < r.1 then [(x.1, r.1 - 1)] else []) ++ (if r.2 < x.2 then [(r.2 + 1, x.2)] else [])
theorem cut1_can {r x : Ran} (h0 : 0 ≤ r.1) (hx : 0 ≤ x.1 ∧ x.1 ≤ x.2 ∧ x.2 < 9223372036854775808) : Can (cut1 r x) ∧ (∀ y ∈ cut1 r x, x.1 ≤ y.1 ∧ y.2 ≤ x.2 ∧ (y.2 = x.2 ∨ y.2 = r.1 - 1)) ∧ (∀ n, mem (cut1 r x) n ↔ inn x n ∧ ¬ inn r n) ∧ (cut1 r x).length ≤ 2 := by
  unfold cut1
  by_cases hn : r.2 < r.1 ∨ r.2 < x.1 ∨ x.2 < r.1
  · rw [if_pos hn]
    refine ⟨Can.single hx, fun y hy => ?_, fun n => ?_, by simp⟩
    · rw [List.mem_singleton.1 hy]; exact ⟨Int.le_refl _, Int.le_refl _, .inl rfl⟩
    · rw [mem_single]; simp only [inn]; omega
  · rw [if_neg hn]
    by_cases ha : x.1 < r.1 <;> by_cases hb : r.2 < x.2
    · rw [if_pos ha, if_pos hb]
      refine ⟨(Can.single (x := (r.2 + 1, x.2)) ⟨by simp only; omega, by simp only; omega, by simp only; omega⟩).cons (x := (x.1, r.1 - 1)) ⟨by simp only; omega, by simp only; omega, by simp only; omega⟩ (fun y hy => by rw [List.mem_singleton.1 hy]; simp only; omega), fun y hy => ?_, fun n => ?_, by simp⟩
      · rcases List.mem_cons.1 hy with rfl | hy
        · exact ⟨Int.le_refl _, by simp only; omega, .inr rfl⟩
        · rw [List.mem_singleton.1 hy]; exact ⟨by simp only; omega, Int.le_refl _, .inl rfl⟩
      · rw [List.singleton_append, mem_cons, mem_single]; simp only [inn]; omega
    · rw [if_pos ha, if_neg hb, List.append_nil]
      refine ⟨Can.single (x := (x.1, r.1 - 1)) ⟨by simp only; omega, by simp only; omega, by simp only; omega⟩, fun y hy => ?_, fun n => ?_, by simp⟩
      · rw [List.mem_singleton.1 hy]; exact ⟨Int.le_refl _, by simp only; omega, .inr rfl⟩
      · rw [mem_single]; simp only [inn]; omega
    · rw [if_neg ha, if_pos hb, List.nil_append]
      refine ⟨Can.single (x := (r.2 + 1, x.2)) ⟨by simp only; omega, by simp only; omega, by simp only; omega⟩, fun y hy => ?_, fun n => ?_, by simp⟩
      · rw [List.mem_singleton.1 hy]; exact ⟨by simp only; omega, Int.le_refl _, .inl rfl⟩
      · rw [mem_single]; simp only [inn]; omega
    · rw [if_neg ha, if_neg hb, List.append_nil]
      refine ⟨Can.nil, (fun y hy => by cases hy), fun n => ?_, by simp⟩
      exact ⟨fun h => absurd h (mem_nil n), fun h => absurd h.1 (by have := h.2; simp only [inn] at this ⊢; omega)⟩
theorem cuts_can {l : List Ran} (hl : Can l) (r : Ran) (h0 : 0 ≤ r.1) : Can (l.flatMap (cut1 r)) ∧ (∀ n, mem (l.flatMap (cut1 r)) n ↔ mem l n ∧ ¬ inn r n) ∧ (l.flatMap (cut1 r)).length ≤ l.length + 1 := by
  have hc : Can (l.flatMap (cut1 r)) := flat_can hl (fun x hx => ⟨(cut1_can h0 (hl.good x hx)).1, fun y hy => ⟨((cut1_can h0 (hl.good x hx)).2.1 y hy).1, ((cut1_can h0 (hl.good x hx)).2.1 y hy).2.1⟩⟩)
  refine ⟨hc, fun n => ?_, ?_⟩
  · rw [flat_mem]
    constructor
    · rintro ⟨x, hx, h⟩
      have := ((cut1_can h0 (hl.good x hx)).2.2.1 n).1 h
      exact ⟨⟨x, hx, this.1⟩, this.2⟩
    · rintro ⟨⟨x, hx, h⟩, hn⟩
      exact ⟨x, hx, ((cut1_can h0 (hl.good x hx)).2.2.1 n).2 ⟨h, hn⟩⟩
  · have := sub_len ((l.flatMap (cut1 r)).map (·.2)) ((r.1 - 1) :: l.map (·.2)) hc.ends (fun y hy => by
      obtain ⟨z, hz, rfl⟩ := List.mem_map.1 hy
      obtain ⟨x, hx, hz⟩ := List.mem_flatMap.1 hz
      rcases ((cut1_can h0 (hl.good x hx)).2.1 z hz).2.2 with h | h
      · exact List.mem_cons_of_mem _ (List.mem_map.2 ⟨x, hx, h.symm⟩)
      · rw [h]; exact List.mem_cons_self ..)
    simpa using this

def CutRel (l : List Ran) (lo hi' : Int) (w : World) (n : Nat) (sv iv : Value) (wr : World) : Prop :=
  ∃ (k : Nat) (out : List Ran), k ≤ n ∧ iv = .int .i64 k ∧ Ow wr (w.heap.size + 1) 28 sv out ∧ out = (l.take k).flatMap (cut1 (lo, hi')) ∧ out.length ≤ 2 * k ∧
    wr.heap[w.heap.size]? = some (.cells #[.int .u64 lo, .int .u64 hi'] 28 (0, 0)) ∧ Below w.heap.size w wr

set_option maxHeartbeats 16000000 in
theorem rcut_row (a : Option Addr) (n cap : Nat) (l : List Ran) (lo hi' : Int) (hcan : Can l) (hln : l.length = n) (hl : n ≤ 20000) (w : World) (h0 : 0 ≤ lo) (h00 : lo < 9223372036854775808) (h01 : 0 ≤ hi') (h1 : hi' < 9223372036854775808)
    (hc : ∀ i, i < n → ∃ b off, a = some ⟨b, off, none⟩ ∧ b < w.heap.size ∧ w.cell? ⟨b, off + i * 2, none⟩ = some (.int .u64 (l.getD i (0, 0)).1) ∧ w.cell? ⟨b, off + i * 2 + 1, none⟩ = some (.int .u64 (l.getD i (0, 0)).2)) :
    Calls Try.prog 17 #[.slice a n cap, .agg #[.int .u64 lo, .int .u64 hi']] w fun e w' => ∃ v, e = .returned v ∧ Rd w' v (l.flatMap (cut1 (lo, hi'))) ∧ Below w.heap.size w w' := by
  obtain ⟨i0, hi, hz0, hz1, hz2⟩ := info_parts infoD
  have hz1 := Lib.hid hz1; have hz2 := Lib.hid hz2; have hz0 := Lib.hid hz0; have hi := Lib.hid hi
  have HC := Lib.hid hc
  clear hc
  go_enter Try.func17, Try.ntmps17
  go_wp2
  go_loopw [5, 6] (fun sv iv wr => CutRel l lo hi' w n sv iv wr) (fun _ iv _ => n - (intOf iv).toNat)
  case atStart =>
    refine ⟨0, [], Nat.zero_le _, rfl, ?_, rfl, Nat.zero_le _, ?_, (made w _).trans (made' (by simp) _)⟩
    · have h := ow_made (w.alloc (.cells #[.int .u64 lo, .int .u64 hi'] 28)) 28
      simpa using h
    · exact ((made' (B := w.heap.size + 1) (by simp) _).block _ (Nat.lt_succ_self _)).trans (heap_new _ _)
  case round =>
    obtain ⟨k, out, hk, rfl, hown, heq, hlen, hbox, hbl⟩ := hrel
    have hsz := hbl.size
    obtain ⟨hq1, hq2, hq3, hq4⟩ := two_cells hbox
    have hwl : w.heap.size < wr.heap.size := (Array.getElem?_eq_some_iff.1 hbox).1
    have HB := Lib.hid hbl
    have HEQ := Lib.hid heq
    have HBX := Lib.hid hbox
    obtain ⟨a3, c3, rfl⟩ := hown.form
    obtain ⟨ol, hol⟩ : ∃ ol, out.length = ol := ⟨_, rfl⟩
    have HOL := Lib.hid hol
    have HOW : Hid (wr.ownsRow (w.heap.size + 1) 28 2 (.slice a3 ol c3) ol (cellsOf out)) := Lib.hid (by have h := hown; unfold Ow at h; rwa [hol] at h)
    have HLT : Hid (∀ q, (Value.slice a3 ol c3).ownBlock = some q → w.heap.size + 1 ≤ q ∧ q < wr.heap.size) := Lib.hid (fun q hq => World.ownsRow.lt HOW.out q hq)
    rw [hol] at hlen ⊢
    clear hbl hown heq hbox hol
    by_cases hlt : k < n
    · obtain ⟨b, off, rfl, hb, hcx⟩ := HC.out k hlt
      have hc1 := cell_below HB.out hcx.1 hb
      have hc2 := cell_below HB.out hcx.2 hb
      have hgx := hcan.good (l.getD k (0, 0)) (by rw [getD_get (by omega)]; exact List.getElem_mem _)
      have heq := take_succ_getD l (0, 0) (by omega : k < l.length)
      clear hcx
      generalize l.getD k (0, 0) = x at *
      obtain ⟨x1, x2⟩ := x
      simp only at hc1 hc2 hgx
      have HEQ2 : Hid ((l.take (k + 1)).flatMap (cut1 (lo, hi')) = out ++ cut1 (lo, hi') (x1, x2)) := Lib.hid (by rw [heq, List.flatMap_append, HEQ.out]; simp)
      clear heq HEQ
      by_cases q1 : hi' < lo
      · have d1 : decide (hi' < lo) = true := decide_eq_true q1
        have HCUT : Hid (cut1 (lo, hi') (x1, x2) = [(x1, x2)]) := Lib.hid (if_pos (.inl q1))
        go_wp2_with (at_builtin; refine wpList_append_own _ rfl _ _ 32 rfl (w.heap.size + 1) 28 i0 (.agg #[.int .u64 0, .int .u64 0]) 2 16 Try.underlying32 hi.out hz0.out hz1.out hz2.out rfl (by decide) (.slice a3 ol c3) ol (cellsOf out) rfl (World.ownsRow.alloc (World.ownsRow.alloc HOW.out (.cells #[.int .u64 x1, .int .u64 x2] 28)) _) ⟨wr.heap.size + 1, 0, none⟩ 1 1 [.int .u64 x1, .int .u64 x2] rfl rfl (by have h := cell_two_new (wr.alloc (.cells #[.int .u64 x1, .int .u64 x2] 28)) (.int .u64 x1) (.int .u64 x2) 28; simpa using h) (by simp [Value.oneCell']) (by unfold maxLen; omega) (by omega) (by simp; omega) ?_)
        intro v' w3 hown' hgrow _
        have hbb : Below (w.heap.size + 1) wr w3 := ((made' (by omega) _).trans (made' (by simp; omega) _)).grown hgrow (by simp; omega) (fun q hq => (HLT.out q hq).1)
        have HOF := Lib.hid (ow_app HOL.out hown')
        have HBF := Lib.hid hbb
        clear hown' hgrow hbb
        go_wp2
        go_roundw
        case rel => exact ⟨k + 1, out ++ [(x1, x2)], by omega, by go_num, HOF.out, by rw [HEQ2.out, HCUT.out], by simp [HOL.out]; omega, (HBF.out.block _ (Nat.lt_succ_self _)).trans HBX.out, HB.out.trans (HBF.out.mono (Nat.le_succ _))⟩
        case measure => simp [intOf]; omega
      · have d1 : decide (hi' < lo) = false := decide_eq_false q1
        by_cases q2 : hi' < x1
        · have d2 : decide (hi' < x1) = true := decide_eq_true q2
          have HCUT : Hid (cut1 (lo, hi') (x1, x2) = [(x1, x2)]) := Lib.hid (if_pos (.inr (.inl q2)))
          go_wp2_with (at_builtin; refine wpList_append_own _ rfl _ _ 32 rfl (w.heap.size + 1) 28 i0 (.agg #[.int .u64 0, .int .u64 0]) 2 16 Try.underlying32 hi.out hz0.out hz1.out hz2.out rfl (by decide) (.slice a3 ol c3) ol (cellsOf out) rfl (World.ownsRow.alloc (World.ownsRow.alloc HOW.out (.cells #[.int .u64 x1, .int .u64 x2] 28)) _) ⟨wr.heap.size + 1, 0, none⟩ 1 1 [.int .u64 x1, .int .u64 x2] rfl rfl (by have h := cell_two_new (wr.alloc (.cells #[.int .u64 x1, .int .u64 x2] 28)) (.int .u64 x1) (.int .u64 x2) 28; simpa using h) (by simp [Value.oneCell']) (by unfold maxLen; omega) (by omega) (by simp; omega) ?_)
          intro v' w3 hown' hgrow _
          have hbb : Below (w.heap.size + 1) wr w3 := ((made' (by omega) _).trans (made' (by simp; omega) _)).grown hgrow (by simp; omega) (fun q hq => (HLT.out q hq).1)
          have HOF := Lib.hid (ow_app HOL.out hown')
          have HBF := Lib.hid hbb
          clear hown' hgrow hbb
          go_wp2
          go_roundw
          case rel => exact ⟨k + 1, out ++ [(x1, x2)], by omega, by go_num, HOF.out, by rw [HEQ2.out, HCUT.out], by simp [HOL.out]; omega, (HBF.out.block _ (Nat.lt_succ_self _)).trans HBX.out, HB.out.trans (HBF.out.mono (Nat.le_succ _))⟩
          case measure => simp [intOf]; omega
        · have d2 : decide (hi' < x1) = false := decide_eq_false q2
          by_cases q3 : x2 < lo
          · have d3 : decide (x2 < lo) = true := decide_eq_true q3
            have HCUT : Hid (cut1 (lo, hi') (x1, x2) = [(x1, x2)]) := Lib.hid (if_pos (.inr (.inr q3)))
            go_wp2_with (at_builtin; refine wpList_append_own _ rfl _ _ 32 rfl (w.heap.size + 1) 28 i0 (.agg #[.int .u64 0, .int .u64 0]) 2 16 Try.underlying32 hi.out hz0.out hz1.out hz2.out rfl (by decide) (.slice a3 ol c3) ol (cellsOf out) rfl (World.ownsRow.alloc (World.ownsRow.alloc HOW.out (.cells #[.int .u64 x1, .int .u64 x2] 28)) _) ⟨wr.heap.size + 1, 0, none⟩ 1 1 [.int .u64 x1, .int .u64 x2] rfl rfl (by have h := cell_two_new (wr.alloc (.cells #[.int .u64 x1, .int .u64 x2] 28)) (.int .u64 x1) (.int .u64 x2) 28; simpa using h) (by simp [Value.oneCell']) (by unfold maxLen; omega) (by omega) (by simp; omega) ?_)
            intro v' w3 hown' hgrow _
            have hbb : Below (w.heap.size + 1) wr w3 := ((made' (by omega) _).trans (made' (by simp; omega) _)).grown hgrow (by simp; omega) (fun q hq => (HLT.out q hq).1)
            have HOF := Lib.hid (ow_app HOL.out hown')
            have HBF := Lib.hid hbb
            clear hown' hgrow hbb
            go_wp2
            go_roundw
            case rel => exact ⟨k + 1, out ++ [(x1, x2)], by omega, by go_num, HOF.out, by rw [HEQ2.out, HCUT.out], by simp [HOL.out]; omega, (HBF.out.block _ (Nat.lt_succ_self _)).trans HBX.out, HB.out.trans (HBF.out.mono (Nat.le_succ _))⟩
            case measure => simp [intOf]; omega
          · have d3 : decide (x2 < lo) = false := decide_eq_false q3
            by_cases ha : x1 < lo
            · by_cases hb : hi' < x2
              · have d4 : decide (x1 < lo) = true := decide_eq_true ha
                have d5 : decide (hi' < x2) = true := decide_eq_true hb
                have HCUT : Hid (cut1 (lo, hi') (x1, x2) = [(x1, lo - 1), (hi' + 1, x2)]) := Lib.hid (by unfold cut1; rw [if_neg (show ¬ ((lo, hi').2 < (lo, hi').1 ∨ (lo, hi').2 < (x1, x2).1 ∨ (x1, x2).2 < (lo, hi').1) by simp only; omega), if_pos (show (x1, x2).1 < (lo, hi').1 from ha), if_pos (show (lo, hi').2 < (x1, x2).2 from hb)]; rfl)
                go_wp2_with (at_builtin; refine wpList_append_own _ rfl _ _ 32 rfl (w.heap.size + 1) 28 i0 (.agg #[.int .u64 0, .int .u64 0]) 2 16 Try.underlying32 hi.out hz0.out hz1.out hz2.out rfl (by decide) (.slice a3 ol c3) ol (cellsOf out) rfl (World.ownsRow.alloc (World.ownsRow.alloc HOW.out (.cells #[.int .u64 x1, .int .u64 x2] 28)) _) ⟨wr.heap.size + 1, 0, none⟩ 1 1 [.int .u64 x1, .int .u64 (lo - 1)] rfl rfl (by have h := cell_two_new (wr.alloc (.cells #[.int .u64 x1, .int .u64 x2] 28)) (.int .u64 x1) (.int .u64 (lo - 1)) 28; simpa using h) (by simp [Value.oneCell']) (by unfold maxLen; omega) (by omega) (by simp; omega) ?_)
                intro v4 w3 hown' hgrow _
                have hbb : Below (w.heap.size + 1) wr w3 := ((made' (by omega) _).trans (made' (by simp; omega) _)).grown hgrow (by simp; omega) (fun q hq => (HLT.out q hq).1)
                have hk1 : w3.cell? ⟨wr.heap.size, 0, none⟩ = some (.int .u64 x1) := hgrow.cell (by simp [go_sem]) (fun h => by have := (HLT.out _ h.symm).2; simp only at this; omega)
                have hk2 : w3.cell? ⟨wr.heap.size, 1, none⟩ = some (.int .u64 x2) := hgrow.cell (by simp [go_sem]) (fun h => by have := (HLT.out _ h.symm).2; simp only at this; omega)
                have hz3 := hgrow.size
                simp only [World.size_alloc] at hz3
                obtain ⟨p1, p2, -, -⟩ := two_cells ((hbb.block _ (Nat.lt_succ_self _)).trans HBX.out)
                have HW3 := Lib.hid hown'
                have HBB := Lib.hid hbb
                have HLT3 : Hid (∀ q, v4.ownBlock = some q → w.heap.size + 1 ≤ q ∧ q < w3.heap.size) := Lib.hid (fun q hq => World.ownsRow.lt HW3.out q hq)
                clear hown' hgrow hbb
                go_wp2_with (at_builtin; refine wpList_append_own _ rfl _ _ 32 rfl (w.heap.size + 1) 28 i0 (.agg #[.int .u64 0, .int .u64 0]) 2 16 Try.underlying32 hi.out hz0.out hz1.out hz2.out rfl (by decide) v4 (ol + 1) (cellsOf out ++ [.int .u64 x1, .int .u64 (lo - 1)]) rfl (World.ownsRow.alloc HW3.out _) ⟨w3.heap.size, 0, none⟩ 1 1 [.int .u64 (hi' + 1), .int .u64 x2] rfl rfl (by have h := cell_two_new (w3) (.int .u64 (hi' + 1)) (.int .u64 x2) 28; simpa using h) (by simp [Value.oneCell']) (by unfold maxLen; omega) (by omega) (by simp; omega) ?_)
                intro v' w5 hown' hgrow _
                have hbb : Below (w.heap.size + 1) w3 w5 := (made' (by omega) _).grown hgrow (by simp; omega) (fun q hq => (HLT3.out q hq).1)
                have HOF : Hid (Ow w5 (w.heap.size + 1) 28 v' (out ++ [(x1, lo - 1)] ++ [(hi' + 1, x2)])) := Lib.hid (ow_app (ol := ol + 1) (by simp [HOL.out]) (by rw [cellsOf_append, List.append_assoc]; exact hown'))
                have HBF := Lib.hid (HBB.out.trans hbb)
                clear hown' hgrow hbb
                go_wp2
                go_roundw
                case rel => exact ⟨k + 1, out ++ [(x1, lo - 1)] ++ [(hi' + 1, x2)], by omega, by go_num, HOF.out, by rw [HEQ2.out, HCUT.out]; simp, by simp [HOL.out]; omega, (HBF.out.block _ (Nat.lt_succ_self _)).trans HBX.out, HB.out.trans (HBF.out.mono (Nat.le_succ _))⟩
                case measure => simp [intOf]; omega
              · have d4 : decide (x1 < lo) = true := decide_eq_true ha
                have d5 : decide (hi' < x2) = false := decide_eq_false hb
                have HCUT : Hid (cut1 (lo, hi') (x1, x2) = [(x1, lo - 1)]) := Lib.hid (by unfold cut1; rw [if_neg (show ¬ ((lo, hi').2 < (lo, hi').1 ∨ (lo, hi').2 < (x1, x2).1 ∨ (x1, x2).2 < (lo, hi').1) by simp only; omega), if_pos (show (x1, x2).1 < (lo, hi').1 from ha), if_neg (show ¬ (lo, hi').2 < (x1, x2).2 from hb)]; rfl)
                go_wp2_with (at_builtin; refine wpList_append_own _ rfl _ _ 32 rfl (w.heap.size + 1) 28 i0 (.agg #[.int .u64 0, .int .u64 0]) 2 16 Try.underlying32 hi.out hz0.out hz1.out hz2.out rfl (by decide) (.slice a3 ol c3) ol (cellsOf out) rfl (World.ownsRow.alloc (World.ownsRow.alloc HOW.out (.cells #[.int .u64 x1, .int .u64 x2] 28)) _) ⟨wr.heap.size + 1, 0, none⟩ 1 1 [.int .u64 x1, .int .u64 (lo - 1)] rfl rfl (by have h := cell_two_new (wr.alloc (.cells #[.int .u64 x1, .int .u64 x2] 28)) (.int .u64 x1) (.int .u64 (lo - 1)) 28; simpa using h) (by simp [Value.oneCell']) (by unfold maxLen; omega) (by omega) (by simp; omega) ?_)
                intro v' w3 hown' hgrow _
                have hbb : Below (w.heap.size + 1) wr w3 := ((made' (by omega) _).trans (made' (by simp; omega) _)).grown hgrow (by simp; omega) (fun q hq => (HLT.out q hq).1)
                have HOF := Lib.hid (ow_app HOL.out hown')
                have HBF := Lib.hid hbb
                have hk1 : w3.cell? ⟨wr.heap.size, 0, none⟩ = some (.int .u64 x1) := hgrow.cell (by simp [go_sem]) (fun h => by have := (HLT.out _ h.symm).2; simp only at this; omega)
                have hk2 : w3.cell? ⟨wr.heap.size, 1, none⟩ = some (.int .u64 x2) := hgrow.cell (by simp [go_sem]) (fun h => by have := (HLT.out _ h.symm).2; simp only at this; omega)
                obtain ⟨p1, p2, -, -⟩ := two_cells ((hbb.block _ (Nat.lt_succ_self _)).trans HBX.out)
                clear hown' hgrow hbb
                go_wp2
                go_roundw
                case rel => exact ⟨k + 1, out ++ [(x1, lo - 1)], by omega, by go_num, HOF.out, by rw [HEQ2.out, HCUT.out], by simp [HOL.out]; omega, (HBF.out.block _ (Nat.lt_succ_self _)).trans HBX.out, HB.out.trans (HBF.out.mono (Nat.le_succ _))⟩
                case measure => simp [intOf]; omega
            · by_cases hb : hi' < x2
              · have d4 : decide (x1 < lo) = false := decide_eq_false ha
                have d5 : decide (hi' < x2) = true := decide_eq_true hb
                have HCUT : Hid (cut1 (lo, hi') (x1, x2) = [(hi' + 1, x2)]) := Lib.hid (by unfold cut1; rw [if_neg (show ¬ ((lo, hi').2 < (lo, hi').1 ∨ (lo, hi').2 < (x1, x2).1 ∨ (x1, x2).2 < (lo, hi').1) by simp only; omega), if_neg (show ¬ (x1, x2).1 < (lo, hi').1 from ha), if_pos (show (lo, hi').2 < (x1, x2).2 from hb)]; rfl)
                go_wp2_with (at_builtin; refine wpList_append_own _ rfl _ _ 32 rfl (w.heap.size + 1) 28 i0 (.agg #[.int .u64 0, .int .u64 0]) 2 16 Try.underlying32 hi.out hz0.out hz1.out hz2.out rfl (by decide) (.slice a3 ol c3) ol (cellsOf out) rfl (World.ownsRow.alloc (World.ownsRow.alloc HOW.out (.cells #[.int .u64 x1, .int .u64 x2] 28)) _) ⟨wr.heap.size + 1, 0, none⟩ 1 1 [.int .u64 (hi' + 1), .int .u64 x2] rfl rfl (by have h := cell_two_new (wr.alloc (.cells #[.int .u64 x1, .int .u64 x2] 28)) (.int .u64 (hi' + 1)) (.int .u64 x2) 28; simpa using h) (by simp [Value.oneCell']) (by unfold maxLen; omega) (by omega) (by simp; omega) ?_)
                intro v' w3 hown' hgrow _
                have hbb : Below (w.heap.size + 1) wr w3 := ((made' (by omega) _).trans (made' (by simp; omega) _)).grown hgrow (by simp; omega) (fun q hq => (HLT.out q hq).1)
                have HOF := Lib.hid (ow_app HOL.out hown')
                have HBF := Lib.hid hbb
                have hk1 : w3.cell? ⟨wr.heap.size, 0, none⟩ = some (.int .u64 x1) := hgrow.cell (by simp [go_sem]) (fun h => by have := (HLT.out _ h.symm).2; simp only at this; omega)
                have hk2 : w3.cell? ⟨wr.heap.size, 1, none⟩ = some (.int .u64 x2) := hgrow.cell (by simp [go_sem]) (fun h => by have := (HLT.out _ h.symm).2; simp only at this; omega)
                obtain ⟨p1, p2, -, -⟩ := two_cells ((hbb.block _ (Nat.lt_succ_self _)).trans HBX.out)
                clear hown' hgrow hbb
                go_wp2
                go_roundw
                case rel => exact ⟨k + 1, out ++ [(hi' + 1, x2)], by omega, by go_num, HOF.out, by rw [HEQ2.out, HCUT.out], by simp [HOL.out]; omega, (HBF.out.block _ (Nat.lt_succ_self _)).trans HBX.out, HB.out.trans (HBF.out.mono (Nat.le_succ _))⟩
                case measure => simp [intOf]; omega
              · have d4 : decide (x1 < lo) = false := decide_eq_false ha
                have d5 : decide (hi' < x2) = false := decide_eq_false hb
                have HCUT : Hid (cut1 (lo, hi') (x1, x2) = []) := Lib.hid (by unfold cut1; rw [if_neg (show ¬ ((lo, hi').2 < (lo, hi').1 ∨ (lo, hi').2 < (x1, x2).1 ∨ (x1, x2).2 < (lo, hi').1) by simp only; omega), if_neg (show ¬ (x1, x2).1 < (lo, hi').1 from ha), if_neg (show ¬ (lo, hi').2 < (x1, x2).2 from hb)]; rfl)
                go_wp2
                go_roundw
                case rel =>
                  have h2 : Ow wr (w.heap.size + 1) 28 (.slice a3 ol c3) out := by unfold Ow; rw [HOL.out]; exact HOW.out
                  exact ⟨k + 1, out, by omega, by go_num, World.ownsRow.alloc h2 _, by rw [HEQ2.out, HCUT.out, List.append_nil], by rw [HOL.out]; omega, ((made' (B := w.heap.size + 1) (by omega) _).block _ (Nat.lt_succ_self _)).trans HBX.out, HB.out.alloc hsz _⟩
                case measure => simp [intOf]; omega
    · obtain rfl : k = n := by omega
      have heq := HEQ.out
      rw [← hln, List.take_length] at heq
      clear HEQ
      have HO3 : Hid (Rd wr (.slice a3 ol c3) out) := Lib.hid (by have h : Ow wr (w.heap.size + 1) 28 (.slice a3 ol c3) out := by unfold Ow; rw [HOL.out]; exact HOW.out
                                                                  exact h.rd)
      have HE2 := Lib.hid heq
      clear heq
      go_wp2
      go_ret
      exact ⟨_, rfl, HE2.out ▸ HO3.out, HB.out⟩
/-- The document's Cut. -/
theorem rcut' (v : Value) (l : List Ran) (lo hi' : Int) (w : World) (hl : l.length ≤ 20000) (hcan : Can l) (h0 : 0 ≤ lo) (h00 : lo < 9223372036854775808) (h01 : 0 ≤ hi') (h1 : hi' < 9223372036854775808) (hrd : Rd w v l) :
    Gives 17 #[v, .agg #[.int .u64 lo, .int .u64 hi']] w (fun n => mem l n ∧ ¬ inn (lo, hi') n) (l.length + 1) := by
  obtain ⟨a, cap, rfl, hc⟩ := rows_of hrd
  refine (rcut_row a l.length cap l lo hi' hcan rfl hl w h0 h00 h01 h1 hc).mono ?_
  rintro e w' ⟨v, rfl, hr, hb⟩
  obtain ⟨c1, c2, c3⟩ := cuts_can hcan (lo, hi') h0
  exact ⟨v, _, rfl, c1, c2, c3, hr, hb⟩
end Go.Proofs.Ytgmagaphbidobaa.Rg
