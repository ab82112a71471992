/- The walks of layer 3's document functions: Add, Cut. -/
import Derived.Test.YtgmagaphbidobaaRgK
namespace Go.Proofs.Ytgmagaphbidobaa.Rg
open Go.RowKit Go.Shelf
set_option linter.unusedVariables false

def add1 : List Ran → Ran → Bool → List Ran
  | [], r, put => if put then [] else [r]
  | x :: s, r, put => if x.2 + 1 < r.1 then x :: add1 s r put else if r.2 + 1 < x.1 then (if put then x :: add1 s r true else r :: x :: add1 s r true) else add1 s (min r.1 x.1, max r.2 x.2) put
theorem add1_put : ∀ (s : List Ran) (r : Ran), Can s → (∀ x ∈ s, r.2 + 1 < x.1) → r.1 ≤ r.2 → add1 s r true = s
  | [], r, _, _, _ => rfl
  | x :: s, r, hs, h, hr => by
    have hx := hs.head
    have hxr := h x (List.mem_cons_self ..)
    have ih := add1_put s r hs.tail (fun y hy => h y (List.mem_cons_of_mem _ hy)) hr
    rw [add1, if_neg (by omega), if_pos hxr]
    simp [ih]
theorem add1_can : ∀ (s : List Ran) (r : Ran), Can s → 0 ≤ r.1 ∧ r.1 ≤ r.2 ∧ r.2 < 9223372036854775808 →
    Can (add1 s r false) ∧ (∀ n, mem (add1 s r false) n ↔ mem s n ∨ inn r n) ∧ (∀ b, b + 2 ≤ r.1 → (∀ x ∈ s, b + 2 ≤ x.1) → ∀ y ∈ add1 s r false, b + 2 ≤ y.1) ∧ (add1 s r false).length ≤ s.length + 1
  | [], r, _, hr => by
    refine ⟨Can.single hr, fun n => ?_, fun b hb _ y hy => ?_, by simp [add1]⟩
    · rw [show add1 [] r false = [r] from rfl, mem_single]; exact ⟨.inr, fun h => h.resolve_left (mem_nil n)⟩
    · rw [List.mem_singleton.1 hy]; exact hb
  | x :: s, r, hs, hr => by
    have hx := hs.head
    rw [add1]
    by_cases h1 : x.2 + 1 < r.1
    · obtain ⟨c1, c2, c3, c4⟩ := add1_can s r hs.tail hr
      rw [if_pos h1]
      refine ⟨c1.cons hx (c3 x.2 (by omega) hs.next), fun n => ?_, fun b hb hl y hy => ?_, by simp; omega⟩
      · rw [mem_cons, mem_cons, c2, or_assoc]
      · rcases List.mem_cons.1 hy with rfl | hy
        · exact hl _ (List.mem_cons_self ..)
        · exact c3 b hb (fun z hz => hl z (List.mem_cons_of_mem _ hz)) y hy
    · rw [if_neg h1]
      by_cases h2 : r.2 + 1 < x.1
      · rw [if_pos h2]
        simp only [Bool.false_eq_true, if_false]
        rw [add1_put s r hs.tail (fun y hy => by have := hs.next y hy; omega) hr.2.1]
        refine ⟨hs.cons hr (fun y hy => ?_), fun n => ?_, fun b hb hl y hy => ?_, by simp⟩
        · rcases List.mem_cons.1 hy with rfl | hy
          · omega
          · have := hs.next y hy; omega
        · rw [mem_cons (x := r)]; exact Or.comm
        · rcases List.mem_cons.1 hy with rfl | hy
          · exact hb
          · exact hl y hy
      · rw [if_neg h2]
        obtain ⟨c1, c2, c3, c4⟩ := add1_can s (min r.1 x.1, max r.2 x.2) hs.tail ⟨by simp only; omega, by simp only; omega, by simp only; omega⟩
        refine ⟨c1, fun n => ?_, fun b hb hl y hy => ?_, by simp; omega⟩
        · rw [c2, mem_cons]
          simp only [inn]
          constructor
          · rintro (h | h)
            · exact .inl (.inr h)
            · by_cases h3 : x.1 ≤ n ∧ n ≤ x.2
              · exact .inl (.inl h3)
              · exact .inr (by omega)
          · rintro ((h | h) | h)
            · exact .inr (by omega)
            · exact .inl h
            · exact .inr (by omega)
        · refine c3 b ?_ (fun z hz => hl z (List.mem_cons_of_mem _ hz)) y hy
          have := hl x (List.mem_cons_self ..)
          simp only
          omega

def AddRel (l : List Ran) (r0 : Ran) (w : World) (n : Nat) (sv pv iv : Value) (wr : World) : Prop :=
  ∃ (k : Nat) (out : List Ran) (r : Ran) (put : Bool), k ≤ n ∧ iv = .int .i64 k ∧ pv = .bool put ∧ Ow wr (w.heap.size + 1) 28 sv out ∧ out ++ add1 (l.drop k) r put = add1 l r0 false ∧ out.length ≤ 2 * k ∧
    wr.heap[w.heap.size]? = some (.cells #[.int .u64 r.1, .int .u64 r.2] 28 (0, 0)) ∧ 0 ≤ r.1 ∧ r.1 < 9223372036854775808 ∧ 0 ≤ r.2 ∧ r.2 < 9223372036854775808 ∧ Below w.heap.size w wr
theorem drop_getD {l : List Ran} {k : Nat} (h : k < l.length) : l.drop k = l.getD k (0, 0) :: l.drop (k + 1) := by
  rw [getD_get h]; exact List.drop_eq_getElem_cons h

/-- One range more on a slice of our own. -/
theorem ow_app {w3 : World} {base : Nat} {e : TypeId} {v' : Value} {out : List Ran} {ol : Nat} {x1 x2 : Int} (hol : out.length = ol) (h : w3.ownsRow base e 2 v' (ol + 1) (cellsOf out ++ [.int .u64 x1, .int .u64 x2])) : Ow w3 base e v' (out ++ [(x1, x2)]) := by
  unfold Ow
  rw [List.length_append, hol, cellsOf_append]
  exact h
theorem set_both {A : World} {B : Nat} {u v : Value} {t : TypeId} (h : A.heap[B]? = some (.cells #[u, v] t (0, 0))) (u' v' : Value) : ((A.setCell ⟨B, 0, none⟩ u').setCell ⟨B, 1, none⟩ v').heap[B]? = some (.cells #[u', v'] t (0, 0)) := by
  have h2 := set_first h u'
  obtain ⟨hlt, hk⟩ := Array.getElem?_eq_some_iff.1 h2
  show ((A.setCell ⟨B, 0, none⟩ u').heap.modify B _)[B]? = _
  rw [Array.getElem?_eq_getElem (by rw [Array.size_modify]; exact hlt), Array.getElem_modify_self, hk]
  rfl
theorem heap_new (w : World) (o : Obj) : (w.alloc o).heap[w.heap.size]? = some o := by
  show (w.heap.push o)[w.heap.size]? = _
  exact Array.getElem?_push_size
theorem made' {B : Nat} {A : World} (h : B ≤ A.heap.size) (o : Obj) : Below B A (A.alloc o) := (Below.refl _ _).alloc h _

set_option maxHeartbeats 8000000 in
theorem radd_row (a : Option Addr) (n cap : Nat) (l : List Ran) (lo hi' : Int) (hcan : Can l) (hln : l.length = n) (hl : n ≤ 20000) (w : World) (h0 : 0 ≤ lo) (hok : lo ≤ hi') (h1 : hi' < 9223372036854775808)
    (hc : ∀ i, i < n → ∃ b off, a = some ⟨b, off, none⟩ ∧ b < w.heap.size ∧ w.cell? ⟨b, off + i * 2, none⟩ = some (.int .u64 (l.getD i (0, 0)).1) ∧ w.cell? ⟨b, off + i * 2 + 1, none⟩ = some (.int .u64 (l.getD i (0, 0)).2)) :
    Calls Try.prog 15 #[.slice a n cap, .agg #[.int .u64 lo, .int .u64 hi']] w fun e w' => ∃ v, e = .returned v ∧ Rd w' v (add1 l (lo, hi') false) ∧ Below w.heap.size w w' := by
  obtain ⟨i0, hi, hz0, hz1, hz2⟩ := info_parts infoD
  have hz1 := Lib.hid hz1; have hz2 := Lib.hid hz2; have hz0 := Lib.hid hz0; have hi := Lib.hid hi
  have HC := Lib.hid hc
  have hd0 : decide (hi' < lo) = false := decide_eq_false (by omega)
  clear hc
  go_enter Try.func15, Try.ntmps15
  go_wp2
  go_loopw [5, 6, 7] (fun sv pv iv wr => AddRel l (lo, hi') w n sv pv iv wr) (fun _ _ iv _ => n - (intOf iv).toNat)
  case atStart =>
    refine ⟨0, [], (lo, hi'), false, Nat.zero_le _, rfl, rfl, ?_, rfl, Nat.zero_le _, ?_, h0, by simp only; omega, by simp only; omega, h1, (made w _).trans (made' (by simp) _)⟩
    · have h := ow_made (w.alloc (.cells #[.int .u64 lo, .int .u64 hi'] 28)) 28
      simpa using h
    · exact ((made' (B := w.heap.size + 1) (by simp) _).block _ (Nat.lt_succ_self _)).trans (heap_new _ _)
  case round =>
    obtain ⟨k, out, ⟨r1, r2⟩, put, hk, rfl, rfl, hown, heq, hlen, hbox, g1, g2, g3, g4, hbl⟩ := hrel
    have hsz := hbl.size
    simp only at g1 g2 g3 g4 hbox
    obtain ⟨hq1, hq2, hq3, hq4⟩ := two_cells hbox
    have hwl : w.heap.size < wr.heap.size := (Array.getElem?_eq_some_iff.1 hbox).1
    have HB := Lib.hid hbl
    have HEQ := Lib.hid heq
    have HBX := Lib.hid hbox
    obtain ⟨a3, c3, rfl⟩ := hown.form
    obtain ⟨ol, hol⟩ : ∃ ol, out.length = ol := ⟨_, rfl⟩
    have HOL := Lib.hid hol
    have HOW : Hid (wr.ownsRow (w.heap.size + 1) 28 2 (.slice a3 ol c3) ol (cellsOf out)) := Lib.hid (by have h := hown; unfold Ow at h; rwa [hol] at h)
    have HLT : Hid (∀ q, (Value.slice a3 ol c3).ownBlock = some q → w.heap.size + 1 ≤ q ∧ q < wr.heap.size) := Lib.hid (fun q hq => World.ownsRow.lt HOW.out q hq)
    rw [hol] at hlen ⊢
    clear hbl hown heq hbox hol
    by_cases hlt : k < n
    · obtain ⟨b, off, rfl, hb, hcx⟩ := HC.out k hlt
      have hc1 := cell_below HB.out hcx.1 hb
      have hc2 := cell_below HB.out hcx.2 hb
      have hgx := hcan.good (l.getD k (0, 0)) (by rw [getD_get (by omega)]; exact List.getElem_mem _)
      have heq := HEQ.out
      rw [drop_getD (by omega)] at heq
      clear hcx HEQ
      generalize l.getD k (0, 0) = x at *
      obtain ⟨x1, x2⟩ := x
      simp only at hc1 hc2 hgx
      have HEQ := Lib.hid heq
      clear heq
      by_cases hA : x2 + 1 < r1
      · have d1 : decide (x2 + 1 < r1) = true := decide_eq_true hA
        have HE2 : Hid ((out ++ [(x1, x2)]) ++ add1 (l.drop (k + 1)) (r1, r2) put = add1 l (lo, hi') false) := Lib.hid (by rw [← HEQ.out, add1, if_pos (show (x1, x2).2 + 1 < (r1, r2).1 from hA)]; simp)
        clear HEQ
        go_wp2_with (at_builtin; refine wpList_append_own _ rfl _ _ 32 rfl (w.heap.size + 1) 28 i0 (.agg #[.int .u64 0, .int .u64 0]) 2 16 Try.underlying32 hi.out hz0.out hz1.out hz2.out rfl (by decide) (.slice a3 ol c3) ol (cellsOf out) rfl (World.ownsRow.alloc (World.ownsRow.alloc HOW.out (.cells #[.int .u64 x1, .int .u64 x2] 28)) _) ⟨wr.heap.size + 1, 0, none⟩ 1 1 [.int .u64 x1, .int .u64 x2] rfl rfl (by have h := cell_two_new (wr.alloc (.cells #[.int .u64 x1, .int .u64 x2] 28)) (.int .u64 x1) (.int .u64 x2) 28; simpa using h) (by simp [Value.oneCell']) (by unfold maxLen; omega) (by omega) (by simp; omega) ?_)
        intro v' w3 hown' hgrow _
        have hbb : Below (w.heap.size + 1) wr w3 := ((made' (by omega) _).trans (made' (by simp; omega) _)).grown hgrow (by simp; omega) (fun q hq => (HLT.out q hq).1)
        have HO3 := Lib.hid (ow_app HOL.out hown')
        have HBB := Lib.hid hbb
        clear hown' hgrow hbb
        go_wp2
        go_roundw
        case rel => exact ⟨k + 1, out ++ [(x1, x2)], (r1, r2), put, by omega, by go_num, rfl, HO3.out, HE2.out, by rw [List.length_append, HOL.out]; simp; omega, (HBB.out.block _ (Nat.lt_succ_self _)).trans HBX.out, g1, g2, g3, g4, HB.out.trans (HBB.out.mono (Nat.le_succ _))⟩
        case measure => simp [intOf]; omega
      · have d1 : decide (x2 + 1 < r1) = false := decide_eq_false hA
        by_cases hB : r2 + 1 < x1
        · have d2 : decide (r2 + 1 < x1) = true := decide_eq_true hB
          cases put
          · have HE2 : Hid ((out ++ [(r1, r2)] ++ [(x1, x2)]) ++ add1 (l.drop (k + 1)) (r1, r2) true = add1 l (lo, hi') false) := Lib.hid (by rw [← HEQ.out, add1, if_neg (show ¬ (x1, x2).2 + 1 < (r1, r2).1 from hA), if_pos (show (r1, r2).2 + 1 < (x1, x2).1 from hB)]; simp)
            clear HEQ
            go_wp2_with (at_builtin; refine wpList_append_own _ rfl _ _ 32 rfl (w.heap.size + 1) 28 i0 (.agg #[.int .u64 0, .int .u64 0]) 2 16 Try.underlying32 hi.out hz0.out hz1.out hz2.out rfl (by decide) (.slice a3 ol c3) ol (cellsOf out) rfl (World.ownsRow.alloc (World.ownsRow.alloc HOW.out (.cells #[.int .u64 x1, .int .u64 x2] 28)) _) ⟨wr.heap.size + 1, 0, none⟩ 1 1 [.int .u64 r1, .int .u64 r2] rfl rfl (by have h := cell_two_new (wr.alloc (.cells #[.int .u64 x1, .int .u64 x2] 28)) (.int .u64 r1) (.int .u64 r2) 28; simpa using h) (by simp [Value.oneCell']) (by unfold maxLen; omega) (by omega) (by simp; omega) ?_)
            intro v4 w3 hown' hgrow _
            have hbb : Below (w.heap.size + 1) wr w3 := ((made' (by omega) _).trans (made' (by simp; omega) _)).grown hgrow (by simp; omega) (fun q hq => (HLT.out q hq).1)
            have hk1 : w3.cell? ⟨wr.heap.size, 0, none⟩ = some (.int .u64 x1) := hgrow.cell (by simp [go_sem]) (fun h => by have := (HLT.out _ h.symm).2; simp only at this; omega)
            have hk2 : w3.cell? ⟨wr.heap.size, 1, none⟩ = some (.int .u64 x2) := hgrow.cell (by simp [go_sem]) (fun h => by have := (HLT.out _ h.symm).2; simp only at this; omega)
            have hz3 := hgrow.size
            simp only [World.size_alloc] at hz3
            have HO3 := Lib.hid (ow_app HOL.out hown')
            have HW3 := Lib.hid hown'
            have HBB := Lib.hid hbb
            have HLT3 : Hid (∀ q, v4.ownBlock = some q → w.heap.size + 1 ≤ q ∧ q < w3.heap.size) := Lib.hid (fun q hq => World.ownsRow.lt HW3.out q hq)
            clear hown' hgrow hbb
            go_wp2_with (at_builtin; refine wpList_append_own _ rfl _ _ 32 rfl (w.heap.size + 1) 28 i0 (.agg #[.int .u64 0, .int .u64 0]) 2 16 Try.underlying32 hi.out hz0.out hz1.out hz2.out rfl (by decide) v4 (ol + 1) (cellsOf out ++ [.int .u64 r1, .int .u64 r2]) rfl (World.ownsRow.alloc HW3.out _) ⟨w3.heap.size, 0, none⟩ 1 1 [.int .u64 x1, .int .u64 x2] rfl rfl (by have h := cell_two_new (w3) (.int .u64 x1) (.int .u64 x2) 28; simpa using h) (by simp [Value.oneCell']) (by unfold maxLen; omega) (by omega) (by simp; omega) ?_)
            intro v' w5 hown' hgrow _
            have hbb : Below (w.heap.size + 1) w3 w5 := (made' (by omega) _).grown hgrow (by simp; omega) (fun q hq => (HLT3.out q hq).1)
            have HO5 : Hid (Ow w5 (w.heap.size + 1) 28 v' (out ++ [(r1, r2)] ++ [(x1, x2)])) := Lib.hid (ow_app (ol := ol + 1) (by simp [HOL.out]) (by rw [cellsOf_append, List.append_assoc]; exact hown'))
            have HB5 := Lib.hid (HBB.out.trans hbb)
            clear hown' hgrow hbb
            go_wp2
            go_roundw
            case rel => exact ⟨k + 1, out ++ [(r1, r2)] ++ [(x1, x2)], (r1, r2), true, by omega, by go_num, rfl, HO5.out, HE2.out, by rw [List.length_append, List.length_append, HOL.out]; simp; omega, (HB5.out.block _ (Nat.lt_succ_self _)).trans HBX.out, g1, g2, g3, g4, HB.out.trans (HB5.out.mono (Nat.le_succ _))⟩
            case measure => simp [intOf]; omega
          · have HE2 : Hid ((out ++ [(x1, x2)]) ++ add1 (l.drop (k + 1)) (r1, r2) true = add1 l (lo, hi') false) := Lib.hid (by rw [← HEQ.out, add1, if_neg (show ¬ (x1, x2).2 + 1 < (r1, r2).1 from hA), if_pos (show (r1, r2).2 + 1 < (x1, x2).1 from hB)]; simp)
            clear HEQ
            go_wp2_with (at_builtin; refine wpList_append_own _ rfl _ _ 32 rfl (w.heap.size + 1) 28 i0 (.agg #[.int .u64 0, .int .u64 0]) 2 16 Try.underlying32 hi.out hz0.out hz1.out hz2.out rfl (by decide) (.slice a3 ol c3) ol (cellsOf out) rfl (World.ownsRow.alloc (World.ownsRow.alloc HOW.out (.cells #[.int .u64 x1, .int .u64 x2] 28)) _) ⟨wr.heap.size + 1, 0, none⟩ 1 1 [.int .u64 x1, .int .u64 x2] rfl rfl (by have h := cell_two_new (wr.alloc (.cells #[.int .u64 x1, .int .u64 x2] 28)) (.int .u64 x1) (.int .u64 x2) 28; simpa using h) (by simp [Value.oneCell']) (by unfold maxLen; omega) (by omega) (by simp; omega) ?_)
            intro v' w3 hown' hgrow _
            have hbb : Below (w.heap.size + 1) wr w3 := ((made' (by omega) _).trans (made' (by simp; omega) _)).grown hgrow (by simp; omega) (fun q hq => (HLT.out q hq).1)
            have HO3 := Lib.hid (ow_app HOL.out hown')
            have HBB := Lib.hid hbb
            clear hown' hgrow hbb
            go_wp2
            go_roundw
            case rel => exact ⟨k + 1, out ++ [(x1, x2)], (r1, r2), true, by omega, by go_num, rfl, HO3.out, HE2.out, by rw [List.length_append, HOL.out]; simp; omega, (HBB.out.block _ (Nat.lt_succ_self _)).trans HBX.out, g1, g2, g3, g4, HB.out.trans (HBB.out.mono (Nat.le_succ _))⟩
            case measure => simp [intOf]; omega
        · have d2 : decide (r2 + 1 < x1) = false := decide_eq_false hB
          have HE2 : Hid (out ++ add1 (l.drop (k + 1)) (min r1 x1, max r2 x2) put = add1 l (lo, hi') false) := Lib.hid (by rw [← HEQ.out, add1, if_neg (show ¬ (x1, x2).2 + 1 < (r1, r2).1 from hA), if_neg (show ¬ (r1, r2).2 + 1 < (x1, x2).1 from hB)])
          clear HEQ
          obtain ⟨z1, hz1'⟩ : ∃ z, min r1 x1 = z := ⟨_, rfl⟩
          obtain ⟨z2, hz2'⟩ : ∃ z, max r2 x2 = z := ⟨_, rfl⟩
          have hmn := min_run r1 x1 z1 hz1'
          have hmx := max_run r2 x2 z2 hz2'
          rw [hz1', hz2'] at HE2
          have b1 : 0 ≤ z1 ∧ z1 < 9223372036854775808 := by omega
          have b2 : 0 ≤ z2 ∧ z2 < 9223372036854775808 := by omega
          clear hz1' hz2'
          go_wp2
          go_roundw
          case rel =>
            have h2 : Ow wr (w.heap.size + 1) 28 (.slice a3 ol c3) out := by unfold Ow; rw [HOL.out]; exact HOW.out
            have h3 := (h2.only (Only.setCell (O := fun q => q = w.heap.size) (p := ⟨w.heap.size, 0, none⟩) rfl wr (.int .u64 z1)) (fun q hq e => by have := (HLT.out q hq).1; omega)).only (Only.setCell (O := fun q => q = w.heap.size) (p := ⟨w.heap.size, 1, none⟩) rfl _ (.int .u64 z2)) (fun q hq e => by have := (HLT.out q hq).1; omega)
            refine ⟨k + 1, out, (z1, z2), put, by omega, by go_num, rfl, World.ownsRow.alloc h3 _, HE2.out, by rw [HOL.out]; omega, ?_, b1.1, b1.2, b2.1, b2.2, ((HB.out.setCell (p := ⟨w.heap.size, 0, none⟩) (Nat.le_refl _) _).setCell (p := ⟨w.heap.size, 1, none⟩) (Nat.le_refl _) _).alloc (by simp; omega) _⟩
            exact ((made' (B := w.heap.size + 1) (by simp; omega) _).block _ (Nat.lt_succ_self _)).trans (set_both HBX.out _ _)
          case measure => simp [intOf]; omega
    · obtain rfl : k = n := by omega
      have heq := HEQ.out
      rw [← hln, List.drop_length] at heq
      clear HEQ
      cases put
      · have HE2 : Hid (out ++ [(r1, r2)] = add1 l (lo, hi') false) := Lib.hid (by rw [← heq]; rfl)
        clear heq
        go_wp2_with (at_builtin; refine wpList_append_own _ rfl _ _ 32 rfl (w.heap.size + 1) 28 i0 (.agg #[.int .u64 0, .int .u64 0]) 2 16 Try.underlying32 hi.out hz0.out hz1.out hz2.out rfl (by decide) (.slice a3 ol c3) ol (cellsOf out) rfl (World.ownsRow.alloc HOW.out _) ⟨wr.heap.size, 0, none⟩ 1 1 [.int .u64 r1, .int .u64 r2] rfl rfl (by have h := cell_two_new (wr) (.int .u64 r1) (.int .u64 r2) 28; simpa using h) (by simp [Value.oneCell']) (by unfold maxLen; omega) (by omega) (by simp; omega) ?_)
        intro v5 w3 hown' hgrow _
        have hbb : Below (w.heap.size + 1) wr w3 := (made' (by omega) _).grown hgrow (by simp; omega) (fun q hq => (HLT.out q hq).1)
        have HO3 := Lib.hid (ow_app HOL.out hown')
        have HBB := Lib.hid hbb
        clear hown' hgrow hbb
        go_wp2
        go_ret
        exact ⟨_, rfl, HE2.out ▸ HO3.out.rd, HB.out.trans (HBB.out.mono (Nat.le_succ _))⟩
      · have HE2 : Hid (out = add1 l (lo, hi') false) := Lib.hid (by rw [← heq]; simp [add1])
        clear heq
        have HO3 : Hid (Rd wr (.slice a3 ol c3) out) := Lib.hid (by have h : Ow wr (w.heap.size + 1) 28 (.slice a3 ol c3) out := by unfold Ow; rw [HOL.out]; exact HOW.out
                                                                    exact h.rd)
        go_wp2
        go_ret
        exact ⟨_, rfl, HE2.out ▸ HO3.out, HB.out⟩
theorem rows_of {w : World} {v : Value} {l : List Ran} (h : Rd w v l) : ∃ a cap, v = .slice a l.length cap ∧ ∀ i, i < l.length → ∃ b off, a = some ⟨b, off, none⟩ ∧ b < w.heap.size ∧ w.cell? ⟨b, off + i * 2, none⟩ = some (.int .u64 (l.getD i (0, 0)).1) ∧ w.cell? ⟨b, off + i * 2 + 1, none⟩ = some (.int .u64 (l.getD i (0, 0)).2) := by
  obtain ⟨a, cap, rfl, _, hrow⟩ := h
  refine ⟨a, cap, rfl, fun i hi => ?_⟩
  obtain ⟨b, off, rfl, hc⟩ := hrow (by intro e; rw [e] at hi; simp at hi)
  exact ⟨b, off, rfl, World.block_lt_of_cell? w ⟨b, _, none⟩ (hc i hi).1, hc i hi⟩
set_option maxHeartbeats 2000000 in
theorem radd_no (v : Value) (l : List Ran) (lo hi' : Int) (hl : l.length ≤ 20000) (w : World) (hok : hi' < lo) (hrd : Rd w v l) :
    Calls Try.prog 15 #[v, .agg #[.int .u64 lo, .int .u64 hi']] w fun e w' => ∃ v, e = .returned v ∧ Rd w' v l ∧ Below w.heap.size w w' := by
  obtain ⟨i0, hi, hz0, hz1, hz2⟩ := info_parts infoD
  have hz1 := Lib.hid hz1; have hz2 := Lib.hid hz2; have hz0 := Lib.hid hz0; have hi := Lib.hid hi
  have HR := Lib.hid hrd
  have hd0 : decide (hi' < lo) = true := decide_eq_true hok
  have hown : Ow ((w.alloc (.cells #[.int .u64 lo, .int .u64 hi'] 28)).alloc (.cells #[] 28)) (w.heap.size + 1) 28 (.slice (some ⟨w.heap.size + 1, 0, none⟩) 0 0) [] := by simpa using ow_made (w.alloc (.cells #[.int .u64 lo, .int .u64 hi'] 28)) 28
  have HO := Lib.hid hown
  have bl : Below w.heap.size w ((w.alloc (.cells #[.int .u64 lo, .int .u64 hi'] 28)).alloc (.cells #[] 28)) := (made w _).trans (made' (by simp) _)
  have HB := Lib.hid bl
  clear hrd hown bl
  go_enter Try.func15, Try.ntmps15
  go_wp2_with (at_builtin; refine wpList_append_rd _ rfl _ _ 32 rfl (w.heap.size + 1) 28 i0 (.agg #[.int .u64 0, .int .u64 0]) Try.underlying32 hi.out hz0.out hz1.out hz2.out rfl (.slice (some ⟨w.heap.size + 1, 0, none⟩) 0 0) rfl [] HO.out v rfl l (HR.out.below HB.out (Nat.le_refl _)) (by (try simp); omega) (by simp) ?_)
  intro a1 n1 c1 w3 o g _
  have HR3 : Hid (Rd w3 (.slice a1 n1 c1) l) := Lib.hid o.rd
  have HB3 : Hid (Below w.heap.size w w3) := Lib.hid (HB.out.grown g (by simp; omega) (fun q hq => by have := (HO.out.lt hq).1; omega))
  clear o g
  go_wp2
  go_ret
  exact ⟨_, rfl, HR3.out, HB3.out⟩
/-- The document's Add. -/
theorem radd' (v : Value) (l : List Ran) (lo hi' : Int) (w : World) (hl : l.length ≤ 20000) (hcan : Can l) (h0 : 0 ≤ lo) (h1 : hi' < 9223372036854775808) (hrd : Rd w v l) :
    Gives 15 #[v, .agg #[.int .u64 lo, .int .u64 hi']] w (fun n => mem l n ∨ inn (lo, hi') n) (l.length + 1) := by
  by_cases hok : lo ≤ hi'
  · obtain ⟨a, cap, rfl, hc⟩ := rows_of hrd
    refine (radd_row a l.length cap l lo hi' hcan rfl hl w h0 hok h1 hc).mono ?_
    rintro e w' ⟨v, rfl, hr, hb⟩
    obtain ⟨c1, c2, _, c4⟩ := add1_can l (lo, hi') hcan ⟨h0, hok, h1⟩
    exact ⟨v, _, rfl, c1, c2, c4, hr, hb⟩
  · refine (radd_no v l lo hi' hl w (by omega) hrd).mono ?_
    rintro e w' ⟨v, rfl, hr, hb⟩
    exact ⟨v, l, rfl, hcan, fun n => ⟨.inl, fun h => h.elim id (fun h => absurd h (by simp only [inn]; omega))⟩, Nat.le_succ _, hr, hb⟩
end Go.Proofs.Ytgmagaphbidobaa.Rg
