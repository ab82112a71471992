/- The walks of layer 3's document functions: its, Same, Has, Count, May. · The walks of layer 3's document functions: May. · The walks of layer 3's laws: low, shown. · Layer 3: every call's contract in one form: a set, by its numbers. · The walks of layer 3's Of and its, once more: the slice that each gives is its own. -/
import Derived.Test.YtoblmhpjendbfaaGreatDoorJb08
namespace Go.Proofs.YtoblmhpjendbfaaGreatDoor.Rg
set_option maxRecDepth 20000
open Go.RowKit Go.Shelf
set_option linter.unusedVariables false

theorem ow_made (w : World) (e : TypeId) : Ow (w.alloc (.cells #[] e)) w.heap.size e (.slice (some ⟨w.heap.size, 0, none⟩) 0 0) [] := World.ownsRow_made w #[] 0 (Nat.le_refl _) (by unfold maxLen; omega) rfl

end Go.Proofs.YtoblmhpjendbfaaGreatDoor.Rg
namespace Go.Proofs.YtoblmhpjendbfaaGreatDoor.Rg
set_option maxRecDepth 20000
open Go.RowKit Go.Shelf
set_option linter.unusedVariables false

end Go.Proofs.YtoblmhpjendbfaaGreatDoor.Rg
namespace Go.Proofs.YtoblmhpjendbfaaGreatDoor.Rg
set_option maxRecDepth 20000
open Go.RowKit Go.Shelf
set_option linter.unusedVariables false

theorem next {w w1 w2 : World} (h : Below w.heap.size w w1) (h2 : Below w1.heap.size w1 w2) : Below w.heap.size w w2 := h.trans (h2.mono h.size)

def LowTo (l : List Ran) (k : Nat) : Prop := ∀ i, i < k → (l.getD i (0, 0)).1 < 9223372036854775808 ∧ (l.getD i (0, 0)).2 < 9223372036854775808
/-- Are all numbers below 2^63, and no more than 40 ranges? -/
def LowP (l : List Ran) : Prop := LowTo l l.length ∧ l.length ≤ 40
instance (l : List Ran) : Decidable (LowP l) := by unfold LowP LowTo; exact inferInstance
end Go.Proofs.YtoblmhpjendbfaaGreatDoor.Rg
namespace Go.Proofs.YtoblmhpjendbfaaGreatDoor.Rg
set_option maxRecDepth 20000
open Go.RowKit Go.Shelf
set_option linter.unusedVariables false

theorem Can.ends {l : List Ran} (h : Can l) : (l.map (·.2)).Pairwise (· < ·) := by
  rw [List.pairwise_map]
  exact (List.Pairwise.and_mem.1 h.rise).imp (fun {a b} ⟨ha, hb, hab⟩ => by have := h.good b hb; omega)
theorem made (A : World) (o : Obj) : Below A.heap.size A (A.alloc o) := (Below.refl _ _).alloc (Nat.le_refl _) _
theorem Rd.go {A A' : World} {v : Value} {l : List Ran} (h : Rd A v l) (hb : Below A.heap.size A A') : Rd A' v l := h.below hb (Nat.le_refl _)
end Go.Proofs.YtoblmhpjendbfaaGreatDoor.Rg
namespace Go.Proofs.YtoblmhpjendbfaaGreatDoor.Rg
set_option maxRecDepth 20000
open Go.RowKit Go.Shelf
set_option linter.unusedVariables false
set_option maxHeartbeats 2000000 in
theorem of_fresh (a : Option Addr) (n cap : Nat) (l : List Ran) (hl : l.length ≤ 1000) (hgood : ∀ x ∈ l, 0 ≤ x.1 ∧ x.2 < 9223372036854775808) (w : World) (hrd : Rd w (.slice a n cap) l) :
    Calls Tryz.prog 148 #[.slice a n cap] w fun e w' => ∃ v l', e = .returned v ∧ Can l' ∧ (∀ n, mem l' n ↔ mem l n) ∧ l'.length ≤ l.length ∧ Rd w' v l' ∧ (∀ k, Blk v k → w.heap.size ≤ k) ∧ Below w.heap.size w w' := by
  have HG := Lib.hid hgood
  have HRD := Lib.hid hrd
  clear hgood hrd
  obtain ⟨i0, hi, hz0, hz1, hz2⟩ := info_parts infoR
  have hz1 := Lib.hid hz1; have hz2 := Lib.hid hz2; have hz0 := Lib.hid hz0; have hi := Lib.hid hi
  go_enter Tryz.func148, Tryz.ntmps148
  go_wp2_with fail
  refine (walk_any _ _ _ _).mono ?_
  rintro e w1 ⟨rfl, rfl⟩
  have HIT := Lib.hid (walk_iter w.heap.size (.slice a n cap) l (w.alloc (.cells #[.slice a n cap] 27)) hl (by simp [go_sem]) (HRD.out.below ((Below.refl w.heap.size _).alloc (Nat.le_refl _) _) (Nat.le_refl _)))
  have HS := Lib.hid (sorted_any _ _ _ _ _ (w.alloc (.cells #[.slice a n cap] 27)) (enters_of Tryz.func199 (by kernel_rfl) rfl) HIT.out (fun q hq => ⟨by
    rcases hq with rfl | hq
    · simp
    · have := HRD.out.blk hq; simp; omega, rfl⟩) (Nat.le_refl _) (by have := List.length_filter_le (fun b => decide (ok b)) l; omega))
  go_wp2_with fail
  refine HS.out.mono ?_
  rintro e w2 ⟨v, l', rfl, p1, p2, p3, h3⟩
  clear HS HIT
  have hll : l'.length ≤ l.length := by rw [p1.length_eq]; exact List.length_filter_le _ _
  have hgd : ∀ x ∈ l', 0 ≤ x.1 ∧ x.1 ≤ x.2 ∧ x.2 < 9223372036854775808 := fun x hx => by
    obtain ⟨h1, h2⟩ := List.mem_filter.1 (p1.mem_iff.1 hx)
    have := HG.out x h1
    exact ⟨this.1, of_decide_eq_true h2, this.2⟩
  have HGD := Lib.hid hgd
  have P2 := Lib.hid p2
  have P1 := Lib.hid p1
  have H3 := Lib.hid h3
  have hz := h3.size
  obtain ⟨a2, cap2, rfl, hcap2, hrow⟩ := p3
  have HROW := Lib.hid hrow
  clear p1 p2 h3 hgd hrow
  generalize hm : l'.length = m at *
  have HM := Lib.hid hm
  go_wp2_with fail
  go_loopw [3, 5, 6, 11] (fun sv _ _ iv wr => OfRel l' w2 m sv iv wr) (fun _ _ _ iv _ => m - (intOf iv).toNat)
  case atStart => exact ⟨0, Nat.zero_le _, rfl, Ow.nil _ _ _, Below.refl _ _⟩
  case round =>
    obtain ⟨k, hk, rfl, hown, hb⟩ := hrel
    have HOW := Lib.hid hown
    have HB := Lib.hid hb
    have hsz := hb.size
    clear hown hb
    by_cases hlt : k < m
    · obtain ⟨b, off, rfl, hc⟩ := HROW.out (fun e => by rw [e] at hm; simp at hm; omega)
      have hc1 := cell_below HB.out (hc k hlt).1 (World.block_lt_of_cell? w2 _ (hc k hlt).1)
      have hc2 := cell_below HB.out (hc k hlt).2 (World.block_lt_of_cell? w2 _ (hc k hlt).2)
      have hgx := HGD.out (l'.getD k (0, 0)) (by rw [getD_get (by omega)]; exact List.getElem_mem _)
      have HT := Lib.hid (take_succ_getD l' (0, 0) (by omega : k < l'.length))
      clear hc
      generalize l'.getD k (0, 0) = x at *
      obtain ⟨lo, hj1⟩ := x
      obtain ⟨S, hS⟩ : ∃ S, (l'.take k).foldl join [] = S := ⟨_, rfl⟩
      have hS2 : Hid ((l'.take (k + 1)).foldl join [] = join S (lo, hj1)) := Lib.hid (by rw [HT.out, List.foldl_append, hS]; rfl)
      have hcan : Hid (Can S ∧ S.length ≤ k) := Lib.hid (by
        have h1 := joins_can (l'.take k) [] Can.nil (fun r hr => HGD.out r (List.mem_of_mem_take hr)) (take_pair P2.out k) (fun x hx => by cases hx)
        have h2 := joins_len (l'.take k) []
        rw [hS] at h1 h2
        rw [List.length_take] at h2
        exact ⟨h1.1, by simp at h2; omega⟩)
      rw [hS] at HOW
      clear hS HT
      rcases List.eq_nil_or_concat S with rfl | ⟨t, y, rfl⟩
      · obtain ⟨a3, cap3, rfl⟩ := HOW.out.form
        have hown2 : Hid ((wr.alloc (.cells #[.int .u64 lo, .int .u64 hj1] 153)).ownsRow w2.heap.size 153 2 (.slice a3 0 cap3) 0 []) := Lib.hid (World.ownsRow.alloc HOW.out _)
        have hlt3 : Hid (∀ j, (Value.slice a3 0 cap3).ownBlock = some j → w2.heap.size ≤ j) := Lib.hid (fun j hj => (World.ownsRow.lt HOW.out j hj).1)
        have hbx := Lib.hid (HB.out.alloc hsz (.cells #[.int .u64 lo, .int .u64 hj1] 153))
        clear HROW HGD
        go_wp2_with fail
        go_quiet (fail)
        rename_i nq
        have hown3 : Hid (((wr.alloc (.cells #[.int .u64 lo, .int .u64 hj1] 153)).drewN nq).ownsRow w2.heap.size 153 2 (.slice a3 0 cap3) 0 []) := Lib.hid (Ow.only (l := []) hown2.out (only_drewN (fun _ => False) _ _) (fun _ _ h => h))
        have hby := Lib.hid (below_drewN hbx.out nq)
        go_wp2_with (at_builtin; refine wpList_append_own _ rfl _ _ 28 rfl w2.heap.size 153 i0 (.agg #[.int .u64 0, .int .u64 0]) 2 16 Tryz.underlying28 hi.out hz0.out hz1.out hz2.out rfl (by decide) (.slice a3 0 cap3) _ _ rfl (World.ownsRow.alloc hown3.out _) ⟨wr.heap.size + 1, 0, none⟩ 1 1 [.int .u64 lo, .int .u64 hj1] rfl rfl ?c1 ?c2 ?c3 ?c4 ?c5 ?_)
        case c1 =>
          have h := cell_two_new ((wr.alloc (.cells #[.int .u64 lo, .int .u64 hj1] 153)).drewN nq) (.int .u64 lo) (.int .u64 hj1) 153
          simpa using h
        case c2 => intro u hu; simp at hu; rcases hu with rfl | rfl <;> rfl
        case c3 => unfold maxLen; omega
        case c4 => omega
        case c5 => simp; omega
        intro v' w3 hown' hgrow _
        have hb3 : Hid (Below w2.heap.size w2 w3) := Lib.hid ((hby.out.alloc (by simp; omega) _).grown hgrow (by simp; omega) hlt3.out)
        have hO3 : Hid (Ow w3 w2.heap.size 153 v' ((l'.take (k + 1)).foldl join [])) := Lib.hid (by rw [hS2.out]; exact hown')
        clear hown' hgrow
        go_wp2
        go_roundw
        case rel => exact ⟨k + 1, by omega, by go_num, hO3.out, hb3.out⟩
        case measure => simp [intOf]; omega
      · rw [List.concat_eq_append] at *
        have hy := hcan.out.1.good y (by simp)
        obtain ⟨y1, y2⟩ := y
        have hO := HOW.out
        rcases hO.2 with ⟨_, hn⟩ | ⟨g, cap3, cur, rfl, hgb, hgg, hnc, _⟩
        · simp at hn
        · have hlast : wr.cell? ⟨g, t.length * 2 + 1, none⟩ = some (.int .u64 y2) := by
            rw [World.ownsRow.cellAt hO (t.length * 2 + 1) (by simp; omega)]
            have := (cellsOf_get (t ++ [(y1, y2)]) t.length (by simp)).2
            rw [this]
            simp [List.getD]
          have hgl : g < wr.heap.size := (Array.getElem?_eq_some_iff.1 hgg).1
          have hfro : wr.frozen? ⟨g, t.length * 2 + 1, none⟩ = false := by simp [World.frozen?, hgg]
          clear hgg hnc
          have HOWa := Lib.hid (World.ownsRow.alloc hO (.cells #[.int .u64 lo, .int .u64 hj1] 153))
          rw [List.length_append, List.length_singleton] at HOWa
          clear hO
          have hqk0 : t.length + 1 ≤ 1000 := by have := hcan.out.2; rw [List.length_append, List.length_singleton] at this; omega
          generalize hq : t.length = q at *
          have hqt := Lib.hid hq
          have HOWq : Hid ((wr.alloc (.cells #[.int .u64 lo, .int .u64 hj1] 153)).ownsRow w2.heap.size 153 2 (.slice (some ⟨g, 0, none⟩) (q + 1) cap3) (q + 1) (cellsOf (t ++ [(y1, y2)]))) := HOWa
          clear HOWa
          simp only at hy hgx
          by_cases hj : lo ≤ y2 + 1
          · have d1 : decide (lo ≤ y2 + 1) = true := decide_eq_true hj
            obtain ⟨z, hzz⟩ : ∃ z, max y2 hj1 = z := ⟨_, rfl⟩
            have hmx := max_run y2 hj1 z hzz
            go_wp2_with fail
            go_quiet (fail)
            go_wp2_with fail
            go_region
            all_goals go_wp2
            refine ⟨⟨k + 1, by omega, by go_num, ?_, ?_⟩, by simp [intOf]; omega⟩
            · rw [hS2.out, join_snoc, if_pos (show lo ≤ y2 + 1 from hj)]
              have h1 : ((wr.alloc (.cells #[.int .u64 lo, .int .u64 hj1] 153)).drewN (nq + 1)).ownsRow w2.heap.size 153 2 (.slice (some ⟨g, 0, none⟩) (q + 1) cap3) (q + 1) (cellsOf (t ++ [(y1, y2)])) := HOWq.out.of_only (only_drewN (fun _ => False) _ _) (fun _ h => h)
              have h2 := owns_set h1 (i := q * 2 + 1) (by omega) (.int .u64 z)
              rw [← hqt.out, cellsOf_set t (y1, y2) z, hqt.out] at h2
              unfold Ow
              rw [show (t ++ [((y1, y2).1, max (y1, y2).2 (lo, hj1).2)]).length = q + 1 by simp [hqt.out], show max (y1, y2).2 (lo, hj1).2 = z from hzz]
              exact h2
            · exact (below_drewN (HB.out.alloc hsz _) _).setCell (p := ⟨g, q * 2 + 1, none⟩) hgb _
          · have d1 : decide (lo ≤ y2 + 1) = false := decide_eq_false hj
            go_wp2_with fail
            go_quiet (fail)
            rename_i nq
            have hown3 := Lib.hid (HOWq.out.of_only (only_drewN (fun _ => False) (wr.alloc (.cells #[.int .u64 lo, .int .u64 hj1] 153)) nq) (fun _ h => h))
            have hby := Lib.hid (below_drewN (HB.out.alloc hsz (.cells #[.int .u64 lo, .int .u64 hj1] 153)) nq)
            go_wp2_with (at_builtin; refine wpList_append_own _ rfl _ _ 28 rfl w2.heap.size 153 i0 (.agg #[.int .u64 0, .int .u64 0]) 2 16 Tryz.underlying28 hi.out hz0.out hz1.out hz2.out rfl (by decide) (.slice (some ⟨g, 0, none⟩) (q + 1) cap3) _ _ rfl (World.ownsRow.alloc hown3.out _) ⟨wr.heap.size + 1, 0, none⟩ 1 1 [.int .u64 lo, .int .u64 hj1] rfl rfl ?c1 ?c2 ?c3 ?c4 ?c5 ?_)
            case c1 =>
              have h := cell_two_new ((wr.alloc (.cells #[.int .u64 lo, .int .u64 hj1] 153)).drewN nq) (.int .u64 lo) (.int .u64 hj1) 153
              simpa using h
            case c2 => intro u hu; simp at hu; rcases hu with rfl | rfl <;> rfl
            case c3 => unfold maxLen; omega
            case c4 => omega
            case c5 => simp; omega
            intro v' w3 hown' hgrow _
            have hb3 : Hid (Below w2.heap.size w2 w3) := Lib.hid ((hby.out.alloc (by simp; omega) _).grown hgrow (by simp; omega) (fun j hj' => by cases hj'; exact hgb))
            have hO3 : Hid (Ow w3 w2.heap.size 153 v' ((l'.take (k + 1)).foldl join [])) := Lib.hid (by
              rw [hS2.out, join_snoc, if_neg (show ¬ lo ≤ y2 + 1 by omega)]
              unfold Ow
              rw [show (t ++ [(y1, y2)] ++ [(lo, hj1)]).length = q + 1 + 1 by simp [hqt.out], cellsOf_append]
              exact hown')
            clear hown' hgrow
            go_wp2
            go_roundw
            case rel => exact ⟨k + 1, by omega, by go_num, hO3.out, hb3.out⟩
            case measure => simp [intOf]; omega
    · obtain rfl : k = m := by omega
      have hfin := joins_can l' [] Can.nil HGD.out P2.out (fun x hx => by cases hx)
      have hlen := joins_len l' []
      have HF := Lib.hid hfin
      rw [← HM.out, List.take_length] at HOW
      obtain ⟨a3, cap3, rfl⟩ := HOW.out.form
      clear hfin HROW HGD
      go_wp2
      go_ret
      refine ⟨_, _, rfl, HF.out.1, fun n => ?_, by have := HM.out; simp at hlen; omega, HOW.out.rd, (fun q hq => by
        have hz' := hz
        have h4 := (Ow.lt HOW.out (k := q) (by
          cases a3 with
          | none => exact hq.elim
          | some a => exact congrArg some hq.2)).1
        simp at hz'
        omega), (((Below.refl _ _).alloc (Nat.le_refl _) _).trans (H3.out.mono (by simp))).trans (HB.out.mono (by have := hz; simp at this; omega))⟩
      rw [HF.out.2]
      constructor
      · rintro (h | h)
        · exact absurd h (mem_nil n)
        · obtain ⟨x, hx, hn⟩ := h
          exact ⟨x, (List.mem_filter.1 (P1.out.mem_iff.1 hx)).1, hn⟩
      · rintro ⟨x, hx, hn⟩
        exact .inr ⟨x, P1.out.mem_iff.2 (List.mem_filter.2 ⟨hx, decide_eq_true (show ok x by have := hn.1; have := hn.2; simp only [ok]; omega)⟩), hn⟩
end Go.Proofs.YtoblmhpjendbfaaGreatDoor.Rg
