/- Layer 14: the law GatherAgain. By tools/gen-gather-10.py. -/
import Derived.Test.YtndnlpohdimgaaaGaL
import Derived.Lib.ConvBytes
import Derived.Laws.MakeOwn
import Derived.Laws.IdiomStrings
namespace Go.Proofs.Ytndnlpohdimgaaa.Rg
set_option maxRecDepth 20000
open Go.RowKit Go.Shelf
set_option linter.unusedVariables false
set_option linter.unusedSimpArgs false

theorem infoBy : (Try.prog.info? 5).map (fun i => (i.zero, i.size, i.bytes)) = some (some (.int .u8 0), 1, 1) := by kernel_rfl
theorem made_runG (m : Nat) (hm : m ≤ 1000) (W : World) : (Instr.makeSlice 23 (.int .i64 (m : Nat)) (.int .i64 (m : Nat))).run Try.prog W = .ok (.slice (some ⟨W.heap.size, 0, none⟩) m m) (W.alloc (.cells (madeCells #[.int .u8 0] m) 5)) := by
  obtain ⟨i0, hi, hz0, hz1, hz2⟩ := info_parts infoBy
  have h := run_makeSlice (P := Try.prog) W 23 5 i0 (.int .u8 0) Try.underlying23 hi hz0 .i64 .i64 (m : Nat) (m : Nat) (by omega) (by omega) (by rw [hz1]; omega) (by rw [hz2]; omega) (by omega)
  rw [h, hz1]
  simp only [Int.toNat_natCast, Nat.mul_one]
  rfl
theorem conv_atG (V : World) (m g : Nat) (h : V.heap[g]? = some (.cells (madeCells #[.int .u8 0] m) 5 (0, 0))) : (convert 23 9 (.slice (some ⟨g, 0, none⟩) m m)).run Try.prog V = .ok (.string ⟨(List.replicate m (0 : UInt8)).toArray⟩) V := by
  have := run_convert_bytes_back (P := Try.prog) V 23 9 5 ⟨g, 0, none⟩ m (List.replicate m (0 : UInt8)) Try.underlying23 Try.underlying5 Try.underlying9 (by
    intro j hj
    have hj2 : j < m := by simpa using hj
    have e : (⟨g, 0, none⟩ : Addr).add j = ⟨g, j, none⟩ := by unfold Addr.add; split <;> simp_all
    have e2 := congrArg (·[j]?) (toList_madeCells_one (.int .u8 0) m)
    simp only [List.getElem?_replicate, hj2, if_true, Array.getElem?_toList] at e2
    rw [e, Lib.cell_of_heap h j, e2]
    simp)
  rwa [List.length_replicate] at this
theorem strongG {P : Program} {md : Region.Mode} {ops : Array Oper} {Q : Exit → Act → World → Prop} {S S' : World → Prop} (h : ∀ w, S' w → S w) : ∀ (fuel : Nat) (listed : Array Bool) (a : Act) (w : World), wpAnyH P md ops Q S' fuel listed a w → wpAnyH P md ops Q S fuel listed a w
  | 0, _, _, _, x => x
  | fuel + 1, _, _, _, x => ⟨x.1, fun i hi => wpOp_mono (fun a' w' h' => ⟨h _ h'.1, strongG h fuel _ a' w' h'.2⟩) (x.2 i hi)⟩

theorem again_out (T : ByteArray) (a1 : Option Addr) (n1 c1 : Nat) (w : World) (h : 200 < (T.size : Int) ∨ 40 < (n1 : Int)) :
    Calls Try.prog 4 #[.string T, .slice a1 n1 c1] w fun e w' => e = .returned (.bool true) ∧ Below w.heap.size w w' := by
  have CS := Lib.hid shown14_any
  by_cases h1 : 200 < (T.size : Int)
  · clear h
    go_enter Try.func4, Try.ntmps4
    go_wp2_with fail
    with_reducible refine (CS.out _).mono ?_
    rintro e w1 ⟨rfl, hb⟩
    have HB1 := Lib.hid hb
    clear hb
    go_wp2_with fail
    go_ret
    exact ⟨rfl, HB1.out⟩
  · have h2 : 40 < (n1 : Int) := h.resolve_left h1
    clear h
    go_enter Try.func4, Try.ntmps4
    go_wp2_with fail
    with_reducible refine (CS.out _).mono ?_
    rintro e w1 ⟨rfl, hb⟩
    have HB1 := Lib.hid hb
    clear hb
    go_wp2_with fail
    go_ret
    exact ⟨rfl, HB1.out⟩
/-- Put of what is there already. -/
theorem put_again (T : ByteArray) (L : List Ran) (a : Option Addr) (n c : Nat) (A E : Int) (d : ByteArray) (W : World) (hok : GsOk T ⟨0, L, 0, false⟩) (hT : T.size ≤ 250) (hn : L.length = n) (hr : RowG W (.slice a n c) T L) (h0 : 0 ≤ A) (hE : A + (d.size : Int) = E) (hE1 : E ≤ (T.size : Int))
    (hm : ∀ k, A ≤ k → k < E → mem L k) :
    Calls Try.prog 6 #[.agg #[.int .u64 0, .slice a n c, .int .u64 0, .bool false], .int .u64 A, .string d, .bool false] W fun e w' => ∃ a' c', e = .returned (.tuple #[.agg #[.int .u64 0, .slice a' n c', .int .u64 0, .bool false], .int .i64 0]) ∧ RowG w' (.slice a' n c') T L ∧ (∀ q, Blk (.slice a' n c') q → W.heap.size ≤ q) ∧ Below W.heap.size W w' := by
  have hp := put_ok T ⟨0, L, 0, false⟩ a n c A d false E W hok hT hn hr h0 hE hE1 (fun h => by cases h) (fun r h1 h2 h3 h4 => absurd (hm r.1 h1 (by omega)) (h4 r.1 ⟨Int.le_refl _, h2⟩).2)
  refine hp.mono ?_
  rintro e w' ⟨a', c', l', rfl, q2, q3, q4, q5, q6⟩
  obtain rfl : l' = L := can_ext q2.can hok.can (fun k => by
    rw [q3]
    exact ⟨fun h => h.elim id (fun h => hm k h.1.1 h.1.2), .inl⟩)
  simp only [hn] at q4 q5 ⊢
  exact ⟨a', c', rfl, q4, q5, q6⟩
/-- Between two rounds. -/
def AgRel (w : World) (g : Nat) (T : ByteArray) (n : Nat) (iv : Value) (wr : World) : Prop :=
  ∃ (k : Nat) (a : Option Addr) (c : Nat) (L : List Ran), k ≤ n ∧ iv = .int .i64 k ∧ GsOk T ⟨0, L, 0, false⟩ ∧ Gb wr g 28 ⟨0, L, 0, false⟩ (.slice a L.length c) ∧ RowG wr (.slice a L.length c) T L ∧ ¬ Blk (.slice a L.length c) g ∧ Below w.heap.size w wr
set_option maxHeartbeats 16000000 in
theorem again_law (T : ByteArray) (a1 : Option Addr) (n1 c1 : Nat) (l : List (Int × Int)) (w : World) (hT : T.size ≤ 200) (hn : n1 ≤ 40) (hl : Pcs w a1 n1 c1 l) :
    Calls Try.prog 4 #[.string T, .slice a1 n1 c1] w fun e w' => e = .returned (.bool true) ∧ Below w.heap.size w w' := by
  have CS := Lib.hid shown14_any
  have HL := Lib.hid hl
  have hTI : (T.size : Int) ≤ 200 := by omega
  have hnI : (n1 : Int) ≤ 40 := by omega
  have hnc : (n1 : Int) ≤ (c1 : Int) := by have := hl.1; omega
  clear hl hT
  go_enter Try.func4, Try.ntmps4
  go_wp2_with fail
  with_reducible refine (CS.out _).mono ?_
  rintro e w1 ⟨rfl, hb⟩
  have hA := (Below.refl w1.heap.size w1).alloc (Nat.le_refl _) (.cells #[.int .u64 0, .slice none 0 0, .int .u64 0, .bool false] 28)
  have HS0 : Hid (Gb (w1.alloc (.cells #[.int .u64 0, .slice none 0 0, .int .u64 0, .bool false] 28)) w1.heap.size 28 ⟨0, [], 0, false⟩ (.slice none 0 0)) := Lib.hid (gb_made _ _ ⟨0, [], 0, false⟩ _)
  have HB0 := Lib.hid (nextG hb hA)
  have hg0 : w.heap.size ≤ w1.heap.size := hb.size
  clear hb hA
  go_wp2_with fail
  generalize w1.alloc (.cells #[.int .u64 0, .slice none 0 0, .int .u64 0, .bool false] 28) = W0 at *
  generalize w1.heap.size = g at *
  go_loopw [6, 7, 8, 9, 10, 11, 12, 13, 14] (fun iv _ _ _ _ _ _ _ _ wr => AgRel w g T n1 iv wr) (fun iv _ _ _ _ _ _ _ _ _ => n1 - (intOf iv).toNat)
  case atStart => exact ⟨0, none, 0, [], Nat.zero_le _, rfl, gs_zero T, HS0.out, RowG.nil _ _, fun h => h.elim, HB0.out⟩
  case round =>
    obtain ⟨k, a, c, ll, hk, rfl, hok, hgb, hrow, hnb, hbb⟩ := hrel
    obtain ⟨m, hm⟩ : ∃ m, ll.length = m := ⟨_, rfl⟩
    rw [hm] at hgb hrow hnb
    have HOK := Lib.hid hok
    have HGB := Lib.hid hgb
    have HROW := Lib.hid hrow
    have HNB := Lib.hid hnb
    have HBB := Lib.hid hbb
    have HM := Lib.hid hm
    have hgl := hgb.lt
    by_cases hlt : k < n1
    · have hltI : (k : Int) < (n1 : Int) := by omega
      obtain ⟨pb, po, pe, hpc, hp0, hp1⟩ := HL.out.2 k hlt
      subst pe
      generalize l.getD k (0, 0) = px at hpc hp0 hp1
      obtain ⟨pa, pl⟩ := px
      simp only at hpc hp0 hp1
      obtain ⟨kk0, kk1⟩ := hpc wr HBB.out
      have pa0 := hp0.1
      have pl0 := hp1.1
      have v0 : IntKind.i64.wrap pa = pa := IntWalk.i64_in _ (by omega)
      have v1 : IntKind.i64.wrap pl = pl := IntWalk.i64_in _ (by omega)
      obtain ⟨A, hA⟩ : ∃ A, pa % ((T.size : Int) + 1) = A := ⟨_, rfl⟩
      have hA0 : 0 ≤ A := by rw [← hA]; exact Int.emod_nonneg _ (by omega)
      have hA1 : A ≤ (T.size : Int) := by have := Int.emod_lt_of_pos pa (show (0 : Int) < (T.size : Int) + 1 by omega); omega
      obtain ⟨Lg, hLg⟩ : ∃ A', pl % ((T.size : Int) - A + 1) = A' := ⟨_, rfl⟩
      have hL0 : 0 ≤ Lg := by rw [← hLg]; exact Int.emod_nonneg _ (by omega)
      have hL1 : Lg ≤ (T.size : Int) - A := by have := Int.emod_lt_of_pos pl (show (0 : Int) < (T.size : Int) - A + 1 by omega); omega
      have w64a : wrap64 ((T.size : Int) - A) = (T.size : Int) - A := IntWalk.wrap64_in _ (by omega)
      have w64b : wrap64 ((T.size : Int) - A + 1) = (T.size : Int) - A + 1 := IntWalk.wrap64_in _ (by omega)
      obtain ⟨E, hE⟩ : ∃ E, A + Lg = E := ⟨_, rfl⟩
      have w64c : wrap64 (A + Lg) = E := by rw [hE]; exact IntWalk.wrap64_in _ (by omega)
      have dd1 : ((T.size : Int) - A + 1 == 0) = false := by rw [beq_eq_false_iff_ne]; omega
      have hE0 : A ≤ E := by omega
      have hE1 : E ≤ (T.size : Int) := by omega
      have vA : IntKind.u64.wrap A = A := IntWalk.u64_in _ (by omega)
      obtain ⟨D, hD⟩ : ∃ D, T.extract A.toNat E.toNat = D := ⟨_, rfl⟩
      have hDz : (D.size : Int) = E - A := by rw [← hD, ByteArray.size_extract]; omega
      obtain ⟨q, hq⟩ : ∃ q : Nat, E - A = (q : Int) := ⟨(E - A).toNat, by omega⟩
      have vq : IntKind.i64.wrap (E - A) = (q : Int) := by rw [hq]; exact IntWalk.i64_in _ (by omega)
      have vq2 : wrap64 (E - A) = (q : Int) := by rw [hq]; exact IntWalk.wrap64_in _ (by omega)
      have vq3 : IntKind.i64.wrap (q : Int) = (q : Int) := IntWalk.i64_in _ (by omega)
      have HQ900 : Hid (q ≤ 900) := Lib.hid (by omega)
      obtain ⟨ZB, hZB⟩ : ∃ r : ByteArray, ⟨(List.replicate q (0 : UInt8)).toArray⟩ = r := ⟨_, rfl⟩
      have HCV : Hid (∀ (V : World) (g : Nat), V.heap[g]? = some (.cells (madeCells #[.int .u8 0] q) 5 (0, 0)) → (convert 23 9 (.slice (some ⟨g, 0, none⟩) q q)).run Try.prog V = .ok (.string ZB) V) := Lib.hid (fun V g h => by rw [← hZB]; exact conv_atG V q g h)
      have hZz : ZB.size = q := by rw [← hZB]; show (List.replicate q (0 : UInt8)).toArray.size = q; simp
      have KP : Hid (∀ W, RowG W (.slice a m c) T ll → Calls Try.prog 6 #[.agg #[.int .u64 0, .slice a m c, .int .u64 0, .bool false], .int .u64 A, .string D, .bool false] W fun e w' => ∃ a' c' l', e = .returned (.tuple #[.agg #[.int .u64 0, .slice a' (List.length l') c', .int .u64 0, .bool false], .int .i64 0]) ∧ (GsOk T ⟨0, l', 0, false⟩ ∧ ∀ k, A ≤ k → k < E → mem l' k) ∧ RowG w' (.slice a' (List.length l') c') T l' ∧ (∀ q, Blk (.slice a' (List.length l') c') q → W.heap.size ≤ q) ∧ Below W.heap.size W w') := Lib.hid (fun W h => by
        have hp := put_ok T ⟨0, ll, 0, false⟩ a m c A D false E W HOK.out (by omega) HM.out h hA0 (by omega) hE1 (fun h => by cases h) (fun r h1 h2 h3 _ => by
          have e1 := ext_same (T := T) (a := A.toNat) (b := E.toNat) (by omega)
          rw [hD] at e1
          exact piece_of hA0 e1 h1 h2 h3)
        refine hp.mono ?_
        rintro e w' ⟨a', c', l', q1, q2, q3, q4, q5, q6⟩
        exact ⟨a', c', l', q1, ⟨q2, fun k h1 h2 => (q3 k).2 (.inr ⟨⟨h1, h2⟩, by simp only; omega⟩)⟩, q4, q5, q6⟩)
      have KQ : Hid (∀ (d : ByteArray) (L : List Ran) (a : Option Addr) (n c : Nat) W, (d = D ∨ d = ZB) → GsOk T ⟨0, L, 0, false⟩ → (∀ k, A ≤ k → k < E → mem L k) → L.length = n → RowG W (.slice a n c) T L → Calls Try.prog 6 #[.agg #[.int .u64 0, .slice a n c, .int .u64 0, .bool false], .int .u64 A, .string d, .bool false] W fun e w' => ∃ a' c', e = .returned (.tuple #[.agg #[.int .u64 0, .slice a' n c', .int .u64 0, .bool false], .int .i64 0]) ∧ RowG w' (.slice a' n c') T L ∧ (∀ q, Blk (.slice a' n c') q → W.heap.size ≤ q) ∧ Below W.heap.size W w') := Lib.hid (fun d L a n c W hd h1 h2 h3 h4 => put_again T L a n c A E d W h1 (by omega) h3 h4 hA0 (by rcases hd with rfl | rfl <;> omega) hE1 h2)
      have HE := Lib.hid hE
      have hHd : Hid (Below wr.heap.size wr wr.drew) := Lib.hid (Below.refl _ _).drew
      have HSD := Lib.hid (HGB.out.go hHd.out)
      have HRD := Lib.hid (HROW.out.go hHd.out)
      clear hpc hgb hrow hnb hbb hm hok hDz hp0 hp1 hE hZB hZz
      go_wp2_with fail
      try rw [hA]
      try rw [HE.out]
      clear v0 v1 pa0 pl0 kk0 kk1 hA hLg w64a w64b w64c dd1 hL0 hL1
      go_cut [9, 10] from 64 to 74 (fun v9 v10 W => ∃ (b : Nat) (ua : Option Addr) (un uc : Nat) (L : List Ran), v9 = .pointer (some ⟨b, 0, none⟩) ∧ v10 = .int .i64 0 ∧ L.length = un ∧ (GsOk T ⟨0, L, 0, false⟩ ∧ ∀ k, A ≤ k → k < E → mem L k) ∧ Gb W b 28 ⟨0, L, 0, false⟩ (.slice ua un uc) ∧ RowG W (.slice ua un uc) T L ∧ (∀ q, Blk (.slice ua un uc) q → wr.heap.size ≤ q) ∧ wr.heap.size ≤ b ∧ Below wr.heap.size wr W)
      case first =>
        refine wp_region_noPanic ?_
        refine wp_region_held_drew (S := fun W : World => Below wr.drew.heap.size wr.drew W) (by kernel_rfl) ?_ (fun hHeld => ?_)
        · exact Below.refl wr.drew.heap.size wr.drew
        refine wpAnyH_take (i := 0) (v := ?_) rfl (by kernel_rfl) (by kernel_rfl) (by kernel_rfl) (fun _ _ _ h => h) (Or.inl ⟨by rfl, ?_⟩) (by assumption) ?_
        rotate_left
        · (intro w hSw; (have hSb := hSw; clear hSw; have c0 := (HSD.out.go hSb).c0; have c1 := (HSD.out.go hSb).c1; have c2 := (HSD.out.go hSb).c2; have c3 := (HSD.out.go hSb).c3; simp only at c0 c2 c3; clear hSb); go_simp; (try with_reducible rfl))
        try simp only [Act.put, List.getElem_toArray, List.getElem_cons_zero, List.getElem_cons_succ, List.setIfInBounds_toArray, List.set_cons_zero, List.set_cons_succ]
        refine wpAnyH_take (i := 1) (v := ?_) rfl (by kernel_rfl) (by kernel_rfl) (by kernel_rfl) (fun _ _ _ h => h) (Or.inl ⟨by rfl, ?_⟩) (by assumption) ?_
        rotate_left
        · (intro w hSw; (have hSb := hSw; clear hSw; have c0 := (HSD.out.go hSb).c0; have c1 := (HSD.out.go hSb).c1; have c2 := (HSD.out.go hSb).c2; have c3 := (HSD.out.go hSb).c3; simp only at c0 c2 c3; clear hSb); go_simp; (try with_reducible rfl))
        try simp only [Act.put, List.getElem_toArray, List.getElem_cons_zero, List.getElem_cons_succ, List.setIfInBounds_toArray, List.set_cons_zero, List.set_cons_succ]
        refine wpAnyH_take (i := 2) (v := ?_) rfl (by kernel_rfl) (by kernel_rfl) (by kernel_rfl) (fun _ _ _ h => h) (Or.inl ⟨by rfl, ?_⟩) (by assumption) ?_
        rotate_left
        · (intro w hSw; (have hSb := hSw; clear hSw; have c0 := (HSD.out.go hSb).c0; have c1 := (HSD.out.go hSb).c1; have c2 := (HSD.out.go hSb).c2; have c3 := (HSD.out.go hSb).c3; simp only at c0 c2 c3; clear hSb); go_simp; (try with_reducible rfl))
        try simp only [Act.put, List.getElem_toArray, List.getElem_cons_zero, List.getElem_cons_succ, List.setIfInBounds_toArray, List.set_cons_zero, List.set_cons_succ]
        refine wpAnyH_take (i := 3) (v := ?_) rfl (by kernel_rfl) (by kernel_rfl) (by kernel_rfl) (fun _ _ _ h => h) (Or.inl ⟨by rfl, ?_⟩) (by assumption) ?_
        rotate_left
        · (intro w hSw; (have hSb := hSw; clear hSw; have c0 := (HSD.out.go hSb).c0; have c1 := (HSD.out.go hSb).c1; have c2 := (HSD.out.go hSb).c2; have c3 := (HSD.out.go hSb).c3; simp only at c0 c2 c3; clear hSb); go_simp; (try with_reducible rfl))
        try simp only [Act.put, List.getElem_toArray, List.getElem_cons_zero, List.getElem_cons_succ, List.setIfInBounds_toArray, List.set_cons_zero, List.set_cons_succ]
        refine wpAnyH_take (i := 4) (v := ?_) rfl (by kernel_rfl) (by kernel_rfl) (by kernel_rfl) (fun _ _ _ h => h) (Or.inl ⟨by rfl, ?_⟩) (by assumption) ?_
        rotate_left
        · (intro w hSw; (have hSb := hSw; clear hSw; have c0 := (HSD.out.go hSb).c0; have c1 := (HSD.out.go hSb).c1; have c2 := (HSD.out.go hSb).c2; have c3 := (HSD.out.go hSb).c3; simp only at c0 c2 c3; clear hSb); go_simp; (try with_reducible rfl))
        try simp only [Act.put, List.getElem_toArray, List.getElem_cons_zero, List.getElem_cons_succ, List.setIfInBounds_toArray, List.set_cons_zero, List.set_cons_succ]
        refine wpAnyH_take (i := 5) (v := ?_) rfl (by kernel_rfl) (by kernel_rfl) (by kernel_rfl) (fun _ _ _ h => h) (Or.inl ⟨by rfl, ?_⟩) (by assumption) ?_
        rotate_left
        · (intro w hSw; (have hSb := hSw; clear hSw; have c0 := (HSD.out.go hSb).c0; have c1 := (HSD.out.go hSb).c1; have c2 := (HSD.out.go hSb).c2; have c3 := (HSD.out.go hSb).c3; simp only at c0 c2 c3; clear hSb); go_simp; (try with_reducible rfl))
        try simp only [Act.put, List.getElem_toArray, List.getElem_cons_zero, List.getElem_cons_succ, List.setIfInBounds_toArray, List.set_cons_zero, List.set_cons_succ]
        refine wpAnyH_take (i := 6) (v := ?_) rfl (by kernel_rfl) (by kernel_rfl) (by kernel_rfl) (fun _ _ _ h => h) (Or.inl ⟨by rfl, ?_⟩) (by assumption) ?_
        rotate_left
        · (intro w hSw; (have hSb := hSw; clear hSw; have c0 := (HSD.out.go hSb).c0; have c1 := (HSD.out.go hSb).c1; have c2 := (HSD.out.go hSb).c2; have c3 := (HSD.out.go hSb).c3; simp only at c0 c2 c3; clear hSb); go_simp; (try with_reducible rfl))
        try simp only [Act.put, List.getElem_toArray, List.getElem_cons_zero, List.getElem_cons_succ, List.setIfInBounds_toArray, List.set_cons_zero, List.set_cons_succ]
        refine wpAnyH_ready (rs := [7, 11]) (by kernel_rfl) (by simp) ?_
        refine AllReadyH.cons rfl (fun K hK => ?_) (AllReadyH.cons rfl (fun K hK => ?_) AllReadyH.nil)
        · rw [if_pos (by rfl)]
          go_simp
          with_reducible refine (KP.out wr.drew (HRD.out.go (Below.refl _ _))).mono ?_
          rintro e w3 ⟨ua, uc, L, rfl, hok, hr, hq, hb⟩
          obtain ⟨un, hun⟩ : ∃ n, L.length = n := ⟨_, rfl⟩
          rw [hun] at hr hq
          try simp only [hun]
          have HUN := Lib.hid hun
          have HOKL := Lib.hid hok
          have HQ : Hid (∀ q, Blk (.slice ua un uc) q → wr.heap.size ≤ q) := Lib.hid (fun q h => Nat.le_trans (by simp) (hq q h))
          clear hun hok
          have HR3 := Lib.hid hr
          have HB3 := Lib.hid hb
          have HNB : Hid (¬ Blk (.slice ua un uc) w3.heap.size) := Lib.hid (fun h => by have := hr.blk h; omega)
          clear hr hq hb
          refine hK.out _ _ ?_ (fun hHeld => ?_)
          · exact HB3.out
          clear hK K
          try simp only [Act.put, List.getElem_toArray, List.getElem_cons_zero, List.getElem_cons_succ, List.setIfInBounds_toArray, List.set_cons_zero, List.set_cons_succ]
          refine wpAnyH_take (i := 8) (v := ?_) rfl (by kernel_rfl) (by kernel_rfl) (by kernel_rfl) (fun _ _ _ h => h) (Or.inl ⟨by rfl, ?_⟩) (by assumption) ?_
          rotate_left
          · (intro w hSw; (have hSb := hSw; clear hSw; have c0 := (HSD.out.go hSb).c0; have c1 := (HSD.out.go hSb).c1; have c2 := (HSD.out.go hSb).c2; have c3 := (HSD.out.go hSb).c3; simp only at c0 c2 c3; clear hSb); go_simp; (try with_reducible rfl))
          try simp only [Act.put, List.getElem_toArray, List.getElem_cons_zero, List.getElem_cons_succ, List.setIfInBounds_toArray, List.set_cons_zero, List.set_cons_succ]
          refine wpAnyH_take (i := 9) (v := ?_) rfl (by kernel_rfl) (by kernel_rfl) (by kernel_rfl) (fun _ _ _ h => h) (Or.inl ⟨by rfl, ?_⟩) (by assumption) ?_
          rotate_left
          · (intro w hSw; (have hSb := hSw; clear hSw; have c0 := (HSD.out.go hSb).c0; have c1 := (HSD.out.go hSb).c1; have c2 := (HSD.out.go hSb).c2; have c3 := (HSD.out.go hSb).c3; simp only at c0 c2 c3; clear hSb); go_simp; (try with_reducible rfl))
          try simp only [Act.put, List.getElem_toArray, List.getElem_cons_zero, List.getElem_cons_succ, List.setIfInBounds_toArray, List.set_cons_zero, List.set_cons_succ]
          refine wpAnyH_take (i := 10) (v := ?_) rfl (by kernel_rfl) (by kernel_rfl) (by kernel_rfl) (fun _ _ _ h => h) (Or.inl ⟨by rfl, ?_⟩) (by assumption) ?_
          rotate_left
          · (intro w hSw; (have hSb := hSw; clear hSw; have c0 := (HSD.out.go hSb).c0; have c1 := (HSD.out.go hSb).c1; have c2 := (HSD.out.go hSb).c2; have c3 := (HSD.out.go hSb).c3; simp only at c0 c2 c3; clear hSb); go_simp; (try with_reducible rfl))
          try simp only [Act.put, List.getElem_toArray, List.getElem_cons_zero, List.getElem_cons_succ, List.setIfInBounds_toArray, List.set_cons_zero, List.set_cons_succ]
          refine wpAnyH_ready (rs := [11]) (by kernel_rfl) (by simp) ?_
          refine AllReadyH.cons rfl (fun K hK => ?_) AllReadyH.nil
          rw [if_pos (by rfl)]
          go_simp
          refine hK.out _ _ ?_ (fun hHeld => ?_)
          · exact HB3.out.alloc HB3.out.size _
          clear hK K
          try simp only [Act.put, List.getElem_toArray, List.getElem_cons_zero, List.getElem_cons_succ, List.setIfInBounds_toArray, List.set_cons_zero, List.set_cons_succ]
          refine wpAnyH_ready (rs := [12]) (by kernel_rfl) (by simp) ?_
          refine AllReadyH.cons rfl (fun K hK => ?_) AllReadyH.nil
          rw [if_pos (by rfl)]
          go_simp
          refine hK.out _ _ ?_ (fun hHeld => ?_)
          · exact HB3.out.alloc HB3.out.size _
          clear hK K
          try simp only [Act.put, List.getElem_toArray, List.getElem_cons_zero, List.getElem_cons_succ, List.setIfInBounds_toArray, List.set_cons_zero, List.set_cons_succ]
          refine wpAnyH_take (i := 13) (v := ?_) rfl (by kernel_rfl) (by kernel_rfl) (by kernel_rfl) (fun _ _ _ h => h) (Or.inl ⟨by rfl, ?_⟩) (by assumption) ?_
          rotate_left
          · (intro w hSw; (have hSb := hSw; clear hSw; have c0 := (HSD.out.go hSb).c0; have c1 := (HSD.out.go hSb).c1; have c2 := (HSD.out.go hSb).c2; have c3 := (HSD.out.go hSb).c3; simp only at c0 c2 c3; clear hSb); go_simp; (try with_reducible rfl))
          try simp only [Act.put, List.getElem_toArray, List.getElem_cons_zero, List.getElem_cons_succ, List.setIfInBounds_toArray, List.set_cons_zero, List.set_cons_succ]
          refine wpAnyH_done (by kernel_rfl) (NoPanic.normal ?_) _
          go_wp2_with fail
          go_meet
          case rel => exact ⟨_, ua, un, uc, L, rfl, rfl, HUN.out, HOKL.out, heap_alloc_new w3 _, HR3.out.go ((Below.refl _ _).alloc (Nat.le_refl _) _), HQ.out, HB3.out.size, hHd.out.trans hHeld⟩
        · rw [if_pos (by rfl)]
          go_simp
          refine hK.out _ _ ?_ (fun hHeld => ?_)
          · exact (Below.refl wr.drew.heap.size wr.drew).alloc (Nat.le_refl _) _
          clear hK K
          try simp only [Act.put, List.getElem_toArray, List.getElem_cons_zero, List.getElem_cons_succ, List.setIfInBounds_toArray, List.set_cons_zero, List.set_cons_succ]
          refine wpAnyH_ready (rs := [7]) (by kernel_rfl) (by simp) ?_
          refine AllReadyH.cons rfl (fun K hK => ?_) AllReadyH.nil
          rw [if_pos (by rfl)]
          go_simp
          refine (KP.out (wr.drew.alloc (.cells #[.int .u64 0, .slice none 0 0, .int .u64 0, .bool false] 28)) (HRD.out.go ((Below.refl _ _).alloc (Nat.le_refl _) _))).mono ?_
          rintro e w3 ⟨ua, uc, L, rfl, hok, hr, hq, hb⟩
          obtain ⟨un, hun⟩ : ∃ n, L.length = n := ⟨_, rfl⟩
          rw [hun] at hr hq
          try simp only [hun]
          have HUN := Lib.hid hun
          have HOKL := Lib.hid hok
          have HQ : Hid (∀ q, Blk (.slice ua un uc) q → wr.heap.size ≤ q) := Lib.hid (fun q h => Nat.le_trans (by simp) (hq q h))
          clear hun hok
          have HR3 := Lib.hid hr
          have HB3 := Lib.hid (nextG ((Below.refl wr.drew.heap.size wr.drew).alloc (Nat.le_refl _) (.cells #[.int .u64 0, .slice none 0 0, .int .u64 0, .bool false] 28)) hb)
          have HZ : Hid (Gb w3 wr.heap.size 28 ⟨0, [], 0, false⟩ (.slice none 0 0)) := Lib.hid ((hb.block wr.heap.size (by simp)).trans (heap_alloc_new wr.drew (.cells #[.int .u64 0, .slice none 0 0, .int .u64 0, .bool false] 28)))
          have HNB : Hid (¬ Blk (.slice ua un uc) wr.heap.size) := Lib.hid (fun h => by have h5 := hq _ h; rw [World.size_alloc] at h5; exact absurd h5 (Nat.not_succ_le_self _))
          have z0 : w3.cell? ⟨wr.heap.size, 0, none⟩ = _ := Lib.cell_of_heap HZ.out 0
          have z1 : w3.cell? ⟨wr.heap.size, 1, none⟩ = _ := Lib.cell_of_heap HZ.out 1
          have z2 : w3.cell? ⟨wr.heap.size, 2, none⟩ = _ := Lib.cell_of_heap HZ.out 2
          have z3 : w3.cell? ⟨wr.heap.size, 3, none⟩ = _ := Lib.cell_of_heap HZ.out 3
          have zf : ∀ k, w3.frozen? ⟨wr.heap.size, k, none⟩ = false := fun k => Lib.frozen_of_heap HZ.out k
          clear hr hq hb
          refine hK.out _ _ ?_ (fun hHeld => ?_)
          · exact HB3.out
          clear hK K
          try simp only [Act.put, List.getElem_toArray, List.getElem_cons_zero, List.getElem_cons_succ, List.setIfInBounds_toArray, List.set_cons_zero, List.set_cons_succ]
          refine wpAnyH_take (i := 8) (v := ?_) rfl (by kernel_rfl) (by kernel_rfl) (by kernel_rfl) (fun _ _ _ h => h) (Or.inl ⟨by rfl, ?_⟩) (by assumption) ?_
          rotate_left
          · (intro w hSw; (have hSb := hSw; clear hSw; have c0 := (HSD.out.go hSb).c0; have c1 := (HSD.out.go hSb).c1; have c2 := (HSD.out.go hSb).c2; have c3 := (HSD.out.go hSb).c3; simp only at c0 c2 c3; clear hSb); go_simp; (try with_reducible rfl))
          try simp only [Act.put, List.getElem_toArray, List.getElem_cons_zero, List.getElem_cons_succ, List.setIfInBounds_toArray, List.set_cons_zero, List.set_cons_succ]
          refine wpAnyH_take (i := 9) (v := ?_) rfl (by kernel_rfl) (by kernel_rfl) (by kernel_rfl) (fun _ _ _ h => h) (Or.inl ⟨by rfl, ?_⟩) (by assumption) ?_
          rotate_left
          · (intro w hSw; (have hSb := hSw; clear hSw; have c0 := (HSD.out.go hSb).c0; have c1 := (HSD.out.go hSb).c1; have c2 := (HSD.out.go hSb).c2; have c3 := (HSD.out.go hSb).c3; simp only at c0 c2 c3; clear hSb); go_simp; (try with_reducible rfl))
          try simp only [Act.put, List.getElem_toArray, List.getElem_cons_zero, List.getElem_cons_succ, List.setIfInBounds_toArray, List.set_cons_zero, List.set_cons_succ]
          refine wpAnyH_take (i := 10) (v := ?_) rfl (by kernel_rfl) (by kernel_rfl) (by kernel_rfl) (fun _ _ _ h => h) (Or.inl ⟨by rfl, ?_⟩) (by assumption) ?_
          rotate_left
          · (intro w hSw; (have hSb := hSw; clear hSw; have c0 := (HSD.out.go hSb).c0; have c1 := (HSD.out.go hSb).c1; have c2 := (HSD.out.go hSb).c2; have c3 := (HSD.out.go hSb).c3; simp only at c0 c2 c3; clear hSb); go_simp; (try with_reducible rfl))
          try simp only [Act.put, List.getElem_toArray, List.getElem_cons_zero, List.getElem_cons_succ, List.setIfInBounds_toArray, List.set_cons_zero, List.set_cons_succ]
          refine wpAnyH_ready (rs := [12]) (by kernel_rfl) (by simp) ?_
          refine AllReadyH.cons rfl (fun K hK => ?_) AllReadyH.nil
          rw [if_pos (by rfl)]
          go_simp
          refine hK.out _ _ ?_ (fun hHeld => ?_)
          · exact below_put4 HB3.out (g := wr.heap.size) (Nat.le_refl _) (.int .u64 0) (.slice ua un uc) (.int .u64 0) (.bool false)
          clear hK K
          try simp only [Act.put, List.getElem_toArray, List.getElem_cons_zero, List.getElem_cons_succ, List.setIfInBounds_toArray, List.set_cons_zero, List.set_cons_succ]
          refine wpAnyH_take (i := 13) (v := ?_) rfl (by kernel_rfl) (by kernel_rfl) (by kernel_rfl) (fun _ _ _ h => h) (Or.inl ⟨by rfl, ?_⟩) (by assumption) ?_
          rotate_left
          · (intro w hSw; (have hSb := hSw; clear hSw; have c0 := (HSD.out.go hSb).c0; have c1 := (HSD.out.go hSb).c1; have c2 := (HSD.out.go hSb).c2; have c3 := (HSD.out.go hSb).c3; simp only at c0 c2 c3; clear hSb); go_simp; (try with_reducible rfl))
          try simp only [Act.put, List.getElem_toArray, List.getElem_cons_zero, List.getElem_cons_succ, List.setIfInBounds_toArray, List.set_cons_zero, List.set_cons_succ]
          refine wpAnyH_done (by kernel_rfl) (NoPanic.normal ?_) _
          go_wp2_with fail
          go_meet
          case rel => exact ⟨_, ua, un, uc, L, rfl, rfl, HUN.out, HOKL.out, HZ.out.put ⟨0, L, 0, false⟩ (.slice ua un uc), HR3.out.put4 HNB.out (.int .u64 0) (.slice ua un uc) (.int .u64 0) (.bool false), HQ.out, Nat.le_refl _, hHd.out.trans hHeld⟩
      case rest =>
        obtain ⟨b1, ua, un, uc, L, rfl, rfl, hLn, hokL, hgbL, hrL, hqL, hb1, hbL⟩ := hcut
        have HUN := Lib.hid hLn
        have HOKL := Lib.hid hokL
        have HSG := Lib.hid (HGB.out.go hbL)
        have HB1 := Lib.hid (HBB.out.trans (hbL.mono HBB.out.size))
        have HNG : Hid (¬ Blk (.slice ua un uc) g) := Lib.hid (fun h => by have := hqL g h; omega)
        have HG1 := Lib.hid hgbL
        have HR1 := Lib.hid hrL
        have hgb1 : g ≠ b1 := by omega
        clear hLn hokL hgbL hrL hqL hbL HSD HRD KP hHd
        generalize wc = W5 at *
        have hHd : Hid (Below W5.heap.size W5 W5.drew) := Lib.hid (Below.refl _ _).drew
        have HSD := Lib.hid (HG1.out.go hHd.out)
        have HRD := Lib.hid (HR1.out.go hHd.out)
        go_wp2_with fail
        go_cut [11, 12] from 75 to 85 (fun v9 v10 W => ∃ (b : Nat) (va : Option Addr) (vc : Nat), v9 = .pointer (some ⟨b, 0, none⟩) ∧ v10 = .int .i64 0 ∧ Gb W b 28 ⟨0, L, 0, false⟩ (.slice va un vc) ∧ RowG W (.slice va un vc) T L ∧ W5.heap.size ≤ b ∧ Below W5.heap.size W5 W)
        case first =>
          refine wp_region_noPanic ?_
          refine wp_region_held_drew (S := fun W : World => Below W5.drew.heap.size W5.drew W) (by kernel_rfl) ?_ (fun hHeld => ?_)
          · exact Below.refl W5.drew.heap.size W5.drew
          refine wpAnyH_take (i := 0) (v := ?_) rfl (by kernel_rfl) (by kernel_rfl) (by kernel_rfl) (fun _ _ _ h => h) (Or.inl ⟨by rfl, ?_⟩) (by assumption) ?_
          rotate_left
          · (intro w hSw; (have hSb := hSw; clear hSw; have c0 := (HSD.out.go hSb).c0; have c1 := (HSD.out.go hSb).c1; have c2 := (HSD.out.go hSb).c2; have c3 := (HSD.out.go hSb).c3; simp only at c0 c2 c3; clear hSb); go_simp; (try with_reducible rfl))
          try simp only [Act.put, List.getElem_toArray, List.getElem_cons_zero, List.getElem_cons_succ, List.setIfInBounds_toArray, List.set_cons_zero, List.set_cons_succ]
          refine wpAnyH_take (i := 1) (v := ?_) rfl (by kernel_rfl) (by kernel_rfl) (by kernel_rfl) (fun _ _ _ h => h) (Or.inl ⟨by rfl, ?_⟩) (by assumption) ?_
          rotate_left
          · (intro w hSw; (have hSb := hSw; clear hSw; have c0 := (HSD.out.go hSb).c0; have c1 := (HSD.out.go hSb).c1; have c2 := (HSD.out.go hSb).c2; have c3 := (HSD.out.go hSb).c3; simp only at c0 c2 c3; clear hSb); go_simp; (try with_reducible rfl))
          try simp only [Act.put, List.getElem_toArray, List.getElem_cons_zero, List.getElem_cons_succ, List.setIfInBounds_toArray, List.set_cons_zero, List.set_cons_succ]
          refine wpAnyH_take (i := 2) (v := ?_) rfl (by kernel_rfl) (by kernel_rfl) (by kernel_rfl) (fun _ _ _ h => h) (Or.inl ⟨by rfl, ?_⟩) (by assumption) ?_
          rotate_left
          · (intro w hSw; (have hSb := hSw; clear hSw; have c0 := (HSD.out.go hSb).c0; have c1 := (HSD.out.go hSb).c1; have c2 := (HSD.out.go hSb).c2; have c3 := (HSD.out.go hSb).c3; simp only at c0 c2 c3; clear hSb); go_simp; (try with_reducible rfl))
          try simp only [Act.put, List.getElem_toArray, List.getElem_cons_zero, List.getElem_cons_succ, List.setIfInBounds_toArray, List.set_cons_zero, List.set_cons_succ]
          refine wpAnyH_take (i := 3) (v := ?_) rfl (by kernel_rfl) (by kernel_rfl) (by kernel_rfl) (fun _ _ _ h => h) (Or.inl ⟨by rfl, ?_⟩) (by assumption) ?_
          rotate_left
          · (intro w hSw; (have hSb := hSw; clear hSw; have c0 := (HSD.out.go hSb).c0; have c1 := (HSD.out.go hSb).c1; have c2 := (HSD.out.go hSb).c2; have c3 := (HSD.out.go hSb).c3; simp only at c0 c2 c3; clear hSb); go_simp; (try with_reducible rfl))
          try simp only [Act.put, List.getElem_toArray, List.getElem_cons_zero, List.getElem_cons_succ, List.setIfInBounds_toArray, List.set_cons_zero, List.set_cons_succ]
          refine wpAnyH_take (i := 4) (v := ?_) rfl (by kernel_rfl) (by kernel_rfl) (by kernel_rfl) (fun _ _ _ h => h) (Or.inl ⟨by rfl, ?_⟩) (by assumption) ?_
          rotate_left
          · (intro w hSw; (have hSb := hSw; clear hSw; have c0 := (HSD.out.go hSb).c0; have c1 := (HSD.out.go hSb).c1; have c2 := (HSD.out.go hSb).c2; have c3 := (HSD.out.go hSb).c3; simp only at c0 c2 c3; clear hSb); go_simp; (try with_reducible rfl))
          try simp only [Act.put, List.getElem_toArray, List.getElem_cons_zero, List.getElem_cons_succ, List.setIfInBounds_toArray, List.set_cons_zero, List.set_cons_succ]
          refine wpAnyH_take (i := 5) (v := ?_) rfl (by kernel_rfl) (by kernel_rfl) (by kernel_rfl) (fun _ _ _ h => h) (Or.inl ⟨by rfl, ?_⟩) (by assumption) ?_
          rotate_left
          · (intro w hSw; (have hSb := hSw; clear hSw; have c0 := (HSD.out.go hSb).c0; have c1 := (HSD.out.go hSb).c1; have c2 := (HSD.out.go hSb).c2; have c3 := (HSD.out.go hSb).c3; simp only at c0 c2 c3; clear hSb); go_simp; (try with_reducible rfl))
          try simp only [Act.put, List.getElem_toArray, List.getElem_cons_zero, List.getElem_cons_succ, List.setIfInBounds_toArray, List.set_cons_zero, List.set_cons_succ]
          refine wpAnyH_take (i := 6) (v := ?_) rfl (by kernel_rfl) (by kernel_rfl) (by kernel_rfl) (fun _ _ _ h => h) (Or.inl ⟨by rfl, ?_⟩) (by assumption) ?_
          rotate_left
          · (intro w hSw; (have hSb := hSw; clear hSw; have c0 := (HSD.out.go hSb).c0; have c1 := (HSD.out.go hSb).c1; have c2 := (HSD.out.go hSb).c2; have c3 := (HSD.out.go hSb).c3; simp only at c0 c2 c3; clear hSb); go_simp; (try with_reducible rfl))
          try simp only [Act.put, List.getElem_toArray, List.getElem_cons_zero, List.getElem_cons_succ, List.setIfInBounds_toArray, List.set_cons_zero, List.set_cons_succ]
          refine wpAnyH_ready (rs := [7, 11]) (by kernel_rfl) (by simp) ?_
          refine AllReadyH.cons rfl (fun K hK => ?_) (AllReadyH.cons rfl (fun K hK => ?_) AllReadyH.nil)
          · rw [if_pos (by rfl)]
            go_simp
            with_reducible refine (KQ.out D L ua un uc W5.drew (.inl rfl) HOKL.out.1 HOKL.out.2 HUN.out (HRD.out.go (Below.refl _ _))).mono ?_
            rintro e w3 ⟨va, vc, rfl, hr, hq, hb⟩
            have HR3 := Lib.hid hr
            have HB3 := Lib.hid hb
            have HNB : Hid (¬ Blk (.slice va un vc) w3.heap.size) := Lib.hid (fun h => by have := hr.blk h; omega)
            clear hr hq hb
            refine hK.out _ _ ?_ (fun hHeld => ?_)
            · exact HB3.out
            clear hK K
            try simp only [Act.put, List.getElem_toArray, List.getElem_cons_zero, List.getElem_cons_succ, List.setIfInBounds_toArray, List.set_cons_zero, List.set_cons_succ]
            refine wpAnyH_take (i := 8) (v := ?_) rfl (by kernel_rfl) (by kernel_rfl) (by kernel_rfl) (fun _ _ _ h => h) (Or.inl ⟨by rfl, ?_⟩) (by assumption) ?_
            rotate_left
            · (intro w hSw; (have hSb := hSw; clear hSw; have c0 := (HSD.out.go hSb).c0; have c1 := (HSD.out.go hSb).c1; have c2 := (HSD.out.go hSb).c2; have c3 := (HSD.out.go hSb).c3; simp only at c0 c2 c3; clear hSb); go_simp; (try with_reducible rfl))
            try simp only [Act.put, List.getElem_toArray, List.getElem_cons_zero, List.getElem_cons_succ, List.setIfInBounds_toArray, List.set_cons_zero, List.set_cons_succ]
            refine wpAnyH_take (i := 9) (v := ?_) rfl (by kernel_rfl) (by kernel_rfl) (by kernel_rfl) (fun _ _ _ h => h) (Or.inl ⟨by rfl, ?_⟩) (by assumption) ?_
            rotate_left
            · (intro w hSw; (have hSb := hSw; clear hSw; have c0 := (HSD.out.go hSb).c0; have c1 := (HSD.out.go hSb).c1; have c2 := (HSD.out.go hSb).c2; have c3 := (HSD.out.go hSb).c3; simp only at c0 c2 c3; clear hSb); go_simp; (try with_reducible rfl))
            try simp only [Act.put, List.getElem_toArray, List.getElem_cons_zero, List.getElem_cons_succ, List.setIfInBounds_toArray, List.set_cons_zero, List.set_cons_succ]
            refine wpAnyH_take (i := 10) (v := ?_) rfl (by kernel_rfl) (by kernel_rfl) (by kernel_rfl) (fun _ _ _ h => h) (Or.inl ⟨by rfl, ?_⟩) (by assumption) ?_
            rotate_left
            · (intro w hSw; (have hSb := hSw; clear hSw; have c0 := (HSD.out.go hSb).c0; have c1 := (HSD.out.go hSb).c1; have c2 := (HSD.out.go hSb).c2; have c3 := (HSD.out.go hSb).c3; simp only at c0 c2 c3; clear hSb); go_simp; (try with_reducible rfl))
            try simp only [Act.put, List.getElem_toArray, List.getElem_cons_zero, List.getElem_cons_succ, List.setIfInBounds_toArray, List.set_cons_zero, List.set_cons_succ]
            refine wpAnyH_ready (rs := [11]) (by kernel_rfl) (by simp) ?_
            refine AllReadyH.cons rfl (fun K hK => ?_) AllReadyH.nil
            rw [if_pos (by rfl)]
            go_simp
            refine hK.out _ _ ?_ (fun hHeld => ?_)
            · exact HB3.out.alloc HB3.out.size _
            clear hK K
            try simp only [Act.put, List.getElem_toArray, List.getElem_cons_zero, List.getElem_cons_succ, List.setIfInBounds_toArray, List.set_cons_zero, List.set_cons_succ]
            refine wpAnyH_ready (rs := [12]) (by kernel_rfl) (by simp) ?_
            refine AllReadyH.cons rfl (fun K hK => ?_) AllReadyH.nil
            rw [if_pos (by rfl)]
            go_simp
            refine hK.out _ _ ?_ (fun hHeld => ?_)
            · exact HB3.out.alloc HB3.out.size _
            clear hK K
            try simp only [Act.put, List.getElem_toArray, List.getElem_cons_zero, List.getElem_cons_succ, List.setIfInBounds_toArray, List.set_cons_zero, List.set_cons_succ]
            refine wpAnyH_take (i := 13) (v := ?_) rfl (by kernel_rfl) (by kernel_rfl) (by kernel_rfl) (fun _ _ _ h => h) (Or.inl ⟨by rfl, ?_⟩) (by assumption) ?_
            rotate_left
            · (intro w hSw; (have hSb := hSw; clear hSw; have c0 := (HSD.out.go hSb).c0; have c1 := (HSD.out.go hSb).c1; have c2 := (HSD.out.go hSb).c2; have c3 := (HSD.out.go hSb).c3; simp only at c0 c2 c3; clear hSb); go_simp; (try with_reducible rfl))
            try simp only [Act.put, List.getElem_toArray, List.getElem_cons_zero, List.getElem_cons_succ, List.setIfInBounds_toArray, List.set_cons_zero, List.set_cons_succ]
            refine wpAnyH_done (by kernel_rfl) (NoPanic.normal ?_) _
            go_wp2_with fail
            go_meet
            case rel => exact ⟨_, va, vc, rfl, rfl, heap_alloc_new w3 _, HR3.out.go ((Below.refl _ _).alloc (Nat.le_refl _) _), HB3.out.size, hHd.out.trans hHeld⟩
          · rw [if_pos (by rfl)]
            go_simp
            refine hK.out _ _ ?_ (fun hHeld => ?_)
            · exact (Below.refl W5.drew.heap.size W5.drew).alloc (Nat.le_refl _) _
            clear hK K
            try simp only [Act.put, List.getElem_toArray, List.getElem_cons_zero, List.getElem_cons_succ, List.setIfInBounds_toArray, List.set_cons_zero, List.set_cons_succ]
            refine wpAnyH_ready (rs := [7]) (by kernel_rfl) (by simp) ?_
            refine AllReadyH.cons rfl (fun K hK => ?_) AllReadyH.nil
            rw [if_pos (by rfl)]
            go_simp
            refine (KQ.out D L ua un uc (W5.drew.alloc (.cells #[.int .u64 0, .slice none 0 0, .int .u64 0, .bool false] 28)) (.inl rfl) HOKL.out.1 HOKL.out.2 HUN.out (HRD.out.go ((Below.refl _ _).alloc (Nat.le_refl _) _))).mono ?_
            rintro e w3 ⟨va, vc, rfl, hr, hq, hb⟩
            have HR3 := Lib.hid hr
            have HB3 := Lib.hid (nextG ((Below.refl W5.drew.heap.size W5.drew).alloc (Nat.le_refl _) (.cells #[.int .u64 0, .slice none 0 0, .int .u64 0, .bool false] 28)) hb)
            have HZ : Hid (Gb w3 W5.heap.size 28 ⟨0, [], 0, false⟩ (.slice none 0 0)) := Lib.hid ((hb.block W5.heap.size (by simp)).trans (heap_alloc_new W5.drew (.cells #[.int .u64 0, .slice none 0 0, .int .u64 0, .bool false] 28)))
            have HNB : Hid (¬ Blk (.slice va un vc) W5.heap.size) := Lib.hid (fun h => by have h5 := hq _ h; rw [World.size_alloc] at h5; exact absurd h5 (Nat.not_succ_le_self _))
            have z0 : w3.cell? ⟨W5.heap.size, 0, none⟩ = _ := Lib.cell_of_heap HZ.out 0
            have z1 : w3.cell? ⟨W5.heap.size, 1, none⟩ = _ := Lib.cell_of_heap HZ.out 1
            have z2 : w3.cell? ⟨W5.heap.size, 2, none⟩ = _ := Lib.cell_of_heap HZ.out 2
            have z3 : w3.cell? ⟨W5.heap.size, 3, none⟩ = _ := Lib.cell_of_heap HZ.out 3
            have zf : ∀ k, w3.frozen? ⟨W5.heap.size, k, none⟩ = false := fun k => Lib.frozen_of_heap HZ.out k
            clear hr hq hb
            refine hK.out _ _ ?_ (fun hHeld => ?_)
            · exact HB3.out
            clear hK K
            try simp only [Act.put, List.getElem_toArray, List.getElem_cons_zero, List.getElem_cons_succ, List.setIfInBounds_toArray, List.set_cons_zero, List.set_cons_succ]
            refine wpAnyH_take (i := 8) (v := ?_) rfl (by kernel_rfl) (by kernel_rfl) (by kernel_rfl) (fun _ _ _ h => h) (Or.inl ⟨by rfl, ?_⟩) (by assumption) ?_
            rotate_left
            · (intro w hSw; (have hSb := hSw; clear hSw; have c0 := (HSD.out.go hSb).c0; have c1 := (HSD.out.go hSb).c1; have c2 := (HSD.out.go hSb).c2; have c3 := (HSD.out.go hSb).c3; simp only at c0 c2 c3; clear hSb); go_simp; (try with_reducible rfl))
            try simp only [Act.put, List.getElem_toArray, List.getElem_cons_zero, List.getElem_cons_succ, List.setIfInBounds_toArray, List.set_cons_zero, List.set_cons_succ]
            refine wpAnyH_take (i := 9) (v := ?_) rfl (by kernel_rfl) (by kernel_rfl) (by kernel_rfl) (fun _ _ _ h => h) (Or.inl ⟨by rfl, ?_⟩) (by assumption) ?_
            rotate_left
            · (intro w hSw; (have hSb := hSw; clear hSw; have c0 := (HSD.out.go hSb).c0; have c1 := (HSD.out.go hSb).c1; have c2 := (HSD.out.go hSb).c2; have c3 := (HSD.out.go hSb).c3; simp only at c0 c2 c3; clear hSb); go_simp; (try with_reducible rfl))
            try simp only [Act.put, List.getElem_toArray, List.getElem_cons_zero, List.getElem_cons_succ, List.setIfInBounds_toArray, List.set_cons_zero, List.set_cons_succ]
            refine wpAnyH_take (i := 10) (v := ?_) rfl (by kernel_rfl) (by kernel_rfl) (by kernel_rfl) (fun _ _ _ h => h) (Or.inl ⟨by rfl, ?_⟩) (by assumption) ?_
            rotate_left
            · (intro w hSw; (have hSb := hSw; clear hSw; have c0 := (HSD.out.go hSb).c0; have c1 := (HSD.out.go hSb).c1; have c2 := (HSD.out.go hSb).c2; have c3 := (HSD.out.go hSb).c3; simp only at c0 c2 c3; clear hSb); go_simp; (try with_reducible rfl))
            try simp only [Act.put, List.getElem_toArray, List.getElem_cons_zero, List.getElem_cons_succ, List.setIfInBounds_toArray, List.set_cons_zero, List.set_cons_succ]
            refine wpAnyH_ready (rs := [12]) (by kernel_rfl) (by simp) ?_
            refine AllReadyH.cons rfl (fun K hK => ?_) AllReadyH.nil
            rw [if_pos (by rfl)]
            go_simp
            refine hK.out _ _ ?_ (fun hHeld => ?_)
            · exact below_put4 HB3.out (g := W5.heap.size) (Nat.le_refl _) (.int .u64 0) (.slice va un vc) (.int .u64 0) (.bool false)
            clear hK K
            try simp only [Act.put, List.getElem_toArray, List.getElem_cons_zero, List.getElem_cons_succ, List.setIfInBounds_toArray, List.set_cons_zero, List.set_cons_succ]
            refine wpAnyH_take (i := 13) (v := ?_) rfl (by kernel_rfl) (by kernel_rfl) (by kernel_rfl) (fun _ _ _ h => h) (Or.inl ⟨by rfl, ?_⟩) (by assumption) ?_
            rotate_left
            · (intro w hSw; (have hSb := hSw; clear hSw; have c0 := (HSD.out.go hSb).c0; have c1 := (HSD.out.go hSb).c1; have c2 := (HSD.out.go hSb).c2; have c3 := (HSD.out.go hSb).c3; simp only at c0 c2 c3; clear hSb); go_simp; (try with_reducible rfl))
            try simp only [Act.put, List.getElem_toArray, List.getElem_cons_zero, List.getElem_cons_succ, List.setIfInBounds_toArray, List.set_cons_zero, List.set_cons_succ]
            refine wpAnyH_done (by kernel_rfl) (NoPanic.normal ?_) _
            go_wp2_with fail
            go_meet
            case rel => exact ⟨_, va, vc, rfl, rfl, HZ.out.put ⟨0, L, 0, false⟩ (.slice va un vc), HR3.out.put4 HNB.out (.int .u64 0) (.slice va un vc) (.int .u64 0) (.bool false), Nat.le_refl _, hHd.out.trans hHeld⟩
        case rest =>
          obtain ⟨b2, va, vc, rfl, rfl, hgb2, hr2, hb2, hbL⟩ := hcut
          replace HSG := Lib.hid (HSG.out.go hbL)
          replace HG1 := Lib.hid (HG1.out.go hbL)
          replace HR1 := Lib.hid (HR1.out.go hbL)
          replace HB1 := Lib.hid (HB1.out.trans (hbL.mono HB1.out.size))
          have HG2 := Lib.hid hgb2
          have HR2 := Lib.hid hr2
          clear hgb2 hr2 hb2 hbL HSD HRD hHd
          generalize wc = W6 at *
          have hHd : Hid (Below W6.heap.size W6 W6.drew) := Lib.hid (Below.refl _ _).drew
          have HSD := Lib.hid (HG1.out.go hHd.out)
          have HRD := Lib.hid (HR1.out.go hHd.out)
          have HMK : ∀ W, (Instr.makeSlice 23 (.int .i64 (q : Nat)) (.int .i64 (q : Nat))).run Try.prog W = .ok (.slice (some ⟨W.heap.size, 0, none⟩) q q) (W.alloc (.cells (madeCells #[.int .u8 0] q) 5)) := made_runG q (by have := HQ900.out; omega)
          have HWA : Hid (Below W6.drew.heap.size W6.drew (W6.alloc (.cells (madeCells #[.int .u8 0] q) 5)).drew ∧ (W6.alloc (.cells (madeCells #[.int .u8 0] q) 5)).drew.heap[W6.heap.size]? = some (.cells (madeCells #[.int .u8 0] q) 5 (0, 0))) := Lib.hid ⟨(Below.refl W6.drew.heap.size W6.drew).alloc (Nat.le_refl _) _, heap_alloc_new W6 _⟩
          have HWZ : Hid (Below W6.drew.heap.size W6.drew (W6.alloc (.cells #[.int .u64 0, .slice none 0 0, .int .u64 0, .bool false] 28)).drew ∧ Gb (W6.alloc (.cells #[.int .u64 0, .slice none 0 0, .int .u64 0, .bool false] 28)).drew W6.heap.size 28 ⟨0, [], 0, false⟩ (.slice none 0 0)) := Lib.hid ⟨(Below.refl W6.drew.heap.size W6.drew).alloc (Nat.le_refl _) _, heap_alloc_new W6 _⟩
          have HGG : Hid (W6.heap.size = W6.drew.heap.size) := Lib.hid rfl
          go_wp2_with fail
          generalize madeCells #[.int .u8 0] q = MC at *
          go_cut [13, 14] from 86 to 97 (fun v9 v10 W => ∃ (b : Nat) (xa : Option Addr) (xc : Nat), v9 = .pointer (some ⟨b, 0, none⟩) ∧ v10 = .int .i64 0 ∧ Gb W b 28 ⟨0, L, 0, false⟩ (.slice xa un xc) ∧ RowG W (.slice xa un xc) T L ∧ Below W6.heap.size W6 W)
          case first =>
            refine wp_region_noPanic ?_
            refine wp_region_held_drew (S := fun W : World => Below W6.drew.heap.size W6.drew W) (by kernel_rfl) ?_ (fun hHeld => ?_)
            · exact Below.refl W6.drew.heap.size W6.drew
            refine wpAnyH_take (i := 0) (v := ?_) rfl (by kernel_rfl) (by kernel_rfl) (by kernel_rfl) (fun _ _ _ h => h) (Or.inl ⟨by rfl, ?_⟩) (by assumption) ?_
            rotate_left
            · (intro w hSw; (have hSb := hSw; clear hSw; have c0 := (HSD.out.go hSb).c0; have c1 := (HSD.out.go hSb).c1; have c2 := (HSD.out.go hSb).c2; have c3 := (HSD.out.go hSb).c3; simp only at c0 c2 c3; clear hSb); go_simp; (try with_reducible rfl))
            try simp only [Act.put, List.getElem_toArray, List.getElem_cons_zero, List.getElem_cons_succ, List.setIfInBounds_toArray, List.set_cons_zero, List.set_cons_succ]
            refine wpAnyH_take (i := 1) (v := ?_) rfl (by kernel_rfl) (by kernel_rfl) (by kernel_rfl) (fun _ _ _ h => h) (Or.inl ⟨by rfl, ?_⟩) (by assumption) ?_
            rotate_left
            · (intro w hSw; (have hSb := hSw; clear hSw; have c0 := (HSD.out.go hSb).c0; have c1 := (HSD.out.go hSb).c1; have c2 := (HSD.out.go hSb).c2; have c3 := (HSD.out.go hSb).c3; simp only at c0 c2 c3; clear hSb); go_simp; (try with_reducible rfl))
            try simp only [Act.put, List.getElem_toArray, List.getElem_cons_zero, List.getElem_cons_succ, List.setIfInBounds_toArray, List.set_cons_zero, List.set_cons_succ]
            refine wpAnyH_take (i := 2) (v := ?_) rfl (by kernel_rfl) (by kernel_rfl) (by kernel_rfl) (fun _ _ _ h => h) (Or.inl ⟨by rfl, ?_⟩) (by assumption) ?_
            rotate_left
            · (intro w hSw; (have hSb := hSw; clear hSw; have c0 := (HSD.out.go hSb).c0; have c1 := (HSD.out.go hSb).c1; have c2 := (HSD.out.go hSb).c2; have c3 := (HSD.out.go hSb).c3; simp only at c0 c2 c3; clear hSb); go_simp; (try with_reducible rfl))
            try simp only [Act.put, List.getElem_toArray, List.getElem_cons_zero, List.getElem_cons_succ, List.setIfInBounds_toArray, List.set_cons_zero, List.set_cons_succ]
            refine wpAnyH_take (i := 3) (v := ?_) rfl (by kernel_rfl) (by kernel_rfl) (by kernel_rfl) (fun _ _ _ h => h) (Or.inl ⟨by rfl, ?_⟩) (by assumption) ?_
            rotate_left
            · (intro w hSw; (have hSb := hSw; clear hSw; have c0 := (HSD.out.go hSb).c0; have c1 := (HSD.out.go hSb).c1; have c2 := (HSD.out.go hSb).c2; have c3 := (HSD.out.go hSb).c3; simp only at c0 c2 c3; clear hSb); go_simp; (try with_reducible rfl))
            try simp only [Act.put, List.getElem_toArray, List.getElem_cons_zero, List.getElem_cons_succ, List.setIfInBounds_toArray, List.set_cons_zero, List.set_cons_succ]
            refine wpAnyH_take (i := 4) (v := ?_) rfl (by kernel_rfl) (by kernel_rfl) (by kernel_rfl) (fun _ _ _ h => h) (Or.inl ⟨by rfl, ?_⟩) (by assumption) ?_
            rotate_left
            · (intro w hSw; (have hSb := hSw; clear hSw; have c0 := (HSD.out.go hSb).c0; have c1 := (HSD.out.go hSb).c1; have c2 := (HSD.out.go hSb).c2; have c3 := (HSD.out.go hSb).c3; simp only at c0 c2 c3; clear hSb); go_simp; (try with_reducible rfl))
            try simp only [Act.put, List.getElem_toArray, List.getElem_cons_zero, List.getElem_cons_succ, List.setIfInBounds_toArray, List.set_cons_zero, List.set_cons_succ]
            refine wpAnyH_take (i := 5) (v := ?_) rfl (by kernel_rfl) (by kernel_rfl) (by kernel_rfl) (fun _ _ _ h => h) (Or.inl ⟨by rfl, ?_⟩) (by assumption) ?_
            rotate_left
            · (intro w hSw; (have hSb := hSw; clear hSw; have c0 := (HSD.out.go hSb).c0; have c1 := (HSD.out.go hSb).c1; have c2 := (HSD.out.go hSb).c2; have c3 := (HSD.out.go hSb).c3; simp only at c0 c2 c3; clear hSb); go_simp; (try with_reducible rfl))
            try simp only [Act.put, List.getElem_toArray, List.getElem_cons_zero, List.getElem_cons_succ, List.setIfInBounds_toArray, List.set_cons_zero, List.set_cons_succ]
            refine wpAnyH_ready (rs := [6, 12]) (by kernel_rfl) (by simp) ?_
            refine AllReadyH.cons rfl (fun K hK => ?_) (AllReadyH.cons rfl (fun K hK => ?_) AllReadyH.nil)
            · rw [if_pos (by rfl)]
              go_simp
              refine hK.out _ _ ?_ (fun hHeld => ?_)
              · exact HWA.out.1
              clear hK K
              try simp only [Act.put, List.getElem_toArray, List.getElem_cons_zero, List.getElem_cons_succ, List.setIfInBounds_toArray, List.set_cons_zero, List.set_cons_succ]
              generalize (W6.alloc (.cells MC 5)).drew = WA at HWA ⊢
              generalize hgA : W6.heap.size = gA at HWA ⊢
              refine strongG (S' := fun W : World => Below W6.drew.heap.size W6.drew W ∧ W.heap[gA]? = some (.cells MC 5 (0, 0))) (fun _ h => h.1) _ _ _ _ ?_
              have hHeld := HWA.out
              refine wpAnyH_take (i := 7) (v := ?_) rfl (by kernel_rfl) (by kernel_rfl) (by kernel_rfl) (fun _ _ _ h => h) (Or.inl ⟨by rfl, ?_⟩) (by assumption) ?_
              rotate_left
              · (intro w hSw; (obtain ⟨hSb, hs4⟩ := hSw; have c0 := (HSD.out.go hSb).c0; have c1 := (HSD.out.go hSb).c1; have c2 := (HSD.out.go hSb).c2; have c3 := (HSD.out.go hSb).c3; simp only at c0 c2 c3; have zz := HCV.out _ gA hs4; clear hSb hs4); go_simp; (try with_reducible rfl))
              try simp only [Act.put, List.getElem_toArray, List.getElem_cons_zero, List.getElem_cons_succ, List.setIfInBounds_toArray, List.set_cons_zero, List.set_cons_succ]
              refine wpAnyH_ready (rs := [8, 12]) (by kernel_rfl) (by simp) ?_
              refine AllReadyH.cons rfl (fun K hK => ?_) (AllReadyH.cons rfl (fun K hK => ?_) AllReadyH.nil)
              · rw [if_pos (by rfl)]
                go_simp
                refine (KQ.out ZB L ua un uc _ (.inr rfl) HOKL.out.1 HOKL.out.2 HUN.out (HRD.out.go HWA.out.1)).mono ?_
                rintro e w3 ⟨xa, xc, rfl, hr, hq, hb⟩
                have HR3 := Lib.hid hr
                have HB3 := Lib.hid (nextG HWA.out.1 hb)
                have HM3 := Lib.hid ((hb.block gA (Array.getElem?_eq_some_iff.1 HWA.out.2).1).trans HWA.out.2)
                have HNB : Hid (¬ Blk (.slice xa un xc) w3.heap.size) := Lib.hid (fun h => by have := hr.blk h; omega)
                clear hr hq hb
                refine hK.out _ _ ?_ (fun hHeld => ?_)
                · exact ⟨HB3.out, HM3.out⟩
                clear hK K
                try simp only [Act.put, List.getElem_toArray, List.getElem_cons_zero, List.getElem_cons_succ, List.setIfInBounds_toArray, List.set_cons_zero, List.set_cons_succ]
                refine wpAnyH_take (i := 9) (v := ?_) rfl (by kernel_rfl) (by kernel_rfl) (by kernel_rfl) (fun _ _ _ h => h) (Or.inl ⟨by rfl, ?_⟩) (by assumption) ?_
                rotate_left
                · (intro w hSw; (obtain ⟨hSb, hs4⟩ := hSw; have c0 := (HSD.out.go hSb).c0; have c1 := (HSD.out.go hSb).c1; have c2 := (HSD.out.go hSb).c2; have c3 := (HSD.out.go hSb).c3; simp only at c0 c2 c3; have zz := HCV.out _ gA hs4; clear hSb hs4); go_simp; (try with_reducible rfl))
                try simp only [Act.put, List.getElem_toArray, List.getElem_cons_zero, List.getElem_cons_succ, List.setIfInBounds_toArray, List.set_cons_zero, List.set_cons_succ]
                refine wpAnyH_take (i := 10) (v := ?_) rfl (by kernel_rfl) (by kernel_rfl) (by kernel_rfl) (fun _ _ _ h => h) (Or.inl ⟨by rfl, ?_⟩) (by assumption) ?_
                rotate_left
                · (intro w hSw; (obtain ⟨hSb, hs4⟩ := hSw; have c0 := (HSD.out.go hSb).c0; have c1 := (HSD.out.go hSb).c1; have c2 := (HSD.out.go hSb).c2; have c3 := (HSD.out.go hSb).c3; simp only at c0 c2 c3; have zz := HCV.out _ gA hs4; clear hSb hs4); go_simp; (try with_reducible rfl))
                try simp only [Act.put, List.getElem_toArray, List.getElem_cons_zero, List.getElem_cons_succ, List.setIfInBounds_toArray, List.set_cons_zero, List.set_cons_succ]
                refine wpAnyH_take (i := 11) (v := ?_) rfl (by kernel_rfl) (by kernel_rfl) (by kernel_rfl) (fun _ _ _ h => h) (Or.inl ⟨by rfl, ?_⟩) (by assumption) ?_
                rotate_left
                · (intro w hSw; (obtain ⟨hSb, hs4⟩ := hSw; have c0 := (HSD.out.go hSb).c0; have c1 := (HSD.out.go hSb).c1; have c2 := (HSD.out.go hSb).c2; have c3 := (HSD.out.go hSb).c3; simp only at c0 c2 c3; have zz := HCV.out _ gA hs4; clear hSb hs4); go_simp; (try with_reducible rfl))
                try simp only [Act.put, List.getElem_toArray, List.getElem_cons_zero, List.getElem_cons_succ, List.setIfInBounds_toArray, List.set_cons_zero, List.set_cons_succ]
                refine wpAnyH_ready (rs := [12]) (by kernel_rfl) (by simp) ?_
                refine AllReadyH.cons rfl (fun K hK => ?_) AllReadyH.nil
                rw [if_pos (by rfl)]
                go_simp
                refine hK.out _ _ ?_ (fun hHeld => ?_)
                · exact ⟨HB3.out.alloc HB3.out.size _, (Below.heap_alloc w3 _ gA (Array.getElem?_eq_some_iff.1 HM3.out).1).trans HM3.out⟩
                clear hK K
                try simp only [Act.put, List.getElem_toArray, List.getElem_cons_zero, List.getElem_cons_succ, List.setIfInBounds_toArray, List.set_cons_zero, List.set_cons_succ]
                refine wpAnyH_ready (rs := [13]) (by kernel_rfl) (by simp) ?_
                refine AllReadyH.cons rfl (fun K hK => ?_) AllReadyH.nil
                rw [if_pos (by rfl)]
                go_simp
                refine hK.out _ _ ?_ (fun hHeld => ?_)
                · exact ⟨HB3.out.alloc HB3.out.size _, (Below.heap_alloc w3 _ gA (Array.getElem?_eq_some_iff.1 HM3.out).1).trans HM3.out⟩
                clear hK K
                try simp only [Act.put, List.getElem_toArray, List.getElem_cons_zero, List.getElem_cons_succ, List.setIfInBounds_toArray, List.set_cons_zero, List.set_cons_succ]
                refine wpAnyH_take (i := 14) (v := ?_) rfl (by kernel_rfl) (by kernel_rfl) (by kernel_rfl) (fun _ _ _ h => h) (Or.inl ⟨by rfl, ?_⟩) (by assumption) ?_
                rotate_left
                · (intro w hSw; (obtain ⟨hSb, hs4⟩ := hSw; have c0 := (HSD.out.go hSb).c0; have c1 := (HSD.out.go hSb).c1; have c2 := (HSD.out.go hSb).c2; have c3 := (HSD.out.go hSb).c3; simp only at c0 c2 c3; have zz := HCV.out _ gA hs4; clear hSb hs4); go_simp; (try with_reducible rfl))
                try simp only [Act.put, List.getElem_toArray, List.getElem_cons_zero, List.getElem_cons_succ, List.setIfInBounds_toArray, List.set_cons_zero, List.set_cons_succ]
                refine wpAnyH_done (by kernel_rfl) (NoPanic.normal ?_) _
                go_wp2_with fail
                go_meet
                case rel => exact ⟨_, xa, xc, rfl, rfl, heap_alloc_new w3 _, HR3.out.go ((Below.refl _ _).alloc (Nat.le_refl _) _), hHd.out.trans hHeld.1⟩
              · rw [if_pos (by rfl)]
                go_simp
                refine hK.out _ _ ?_ (fun hHeld => ?_)
                · exact ⟨HWA.out.1.alloc HWA.out.1.size _, (Below.heap_alloc WA _ gA (Array.getElem?_eq_some_iff.1 HWA.out.2).1).trans HWA.out.2⟩
                clear hK K
                try simp only [Act.put, List.getElem_toArray, List.getElem_cons_zero, List.getElem_cons_succ, List.setIfInBounds_toArray, List.set_cons_zero, List.set_cons_succ]
                refine wpAnyH_ready (rs := [8]) (by kernel_rfl) (by simp) ?_
                refine AllReadyH.cons rfl (fun K hK => ?_) AllReadyH.nil
                rw [if_pos (by rfl)]
                go_simp
                have hA1 := (Below.refl WA.heap.size WA).alloc (Nat.le_refl _) (.cells #[.int .u64 0, .slice none 0 0, .int .u64 0, .bool false] 28)
                refine (KQ.out ZB L ua un uc _ (.inr rfl) HOKL.out.1 HOKL.out.2 HUN.out (HRD.out.go (nextG HWA.out.1 hA1))).mono ?_
                rintro e w3 ⟨xa, xc, rfl, hr, hq, hb⟩
                have HR3 := Lib.hid hr
                have HB3 := Lib.hid (nextG (nextG HWA.out.1 hA1) hb)
                have HM3 := Lib.hid (((hb.block gA (by have := (Array.getElem?_eq_some_iff.1 HWA.out.2).1; simp; omega)).trans (hA1.block gA (Array.getElem?_eq_some_iff.1 HWA.out.2).1)).trans HWA.out.2)
                have HZ : Hid (Gb w3 WA.heap.size 28 ⟨0, [], 0, false⟩ (.slice none 0 0)) := Lib.hid ((hb.block WA.heap.size (by simp)).trans (heap_alloc_new WA (.cells #[.int .u64 0, .slice none 0 0, .int .u64 0, .bool false] 28)))
                have HNB : Hid (¬ Blk (.slice xa un xc) WA.heap.size) := Lib.hid (fun h => by have h5 := hq _ h; rw [World.size_alloc] at h5; exact absurd h5 (Nat.not_succ_le_self _))
                have HNE : Hid (gA ≠ WA.heap.size ∧ W6.drew.heap.size ≤ WA.heap.size) := Lib.hid ⟨by have := (Array.getElem?_eq_some_iff.1 HWA.out.2).1; omega, HWA.out.1.size⟩
                have z0 : w3.cell? ⟨WA.heap.size, 0, none⟩ = _ := Lib.cell_of_heap HZ.out 0
                have z1 : w3.cell? ⟨WA.heap.size, 1, none⟩ = _ := Lib.cell_of_heap HZ.out 1
                have z2 : w3.cell? ⟨WA.heap.size, 2, none⟩ = _ := Lib.cell_of_heap HZ.out 2
                have z3 : w3.cell? ⟨WA.heap.size, 3, none⟩ = _ := Lib.cell_of_heap HZ.out 3
                have zf : ∀ k, w3.frozen? ⟨WA.heap.size, k, none⟩ = false := fun k => Lib.frozen_of_heap HZ.out k
                clear hr hq hb hA1
                refine hK.out _ _ ?_ (fun hHeld => ?_)
                · exact ⟨HB3.out, HM3.out⟩
                clear hK K
                try simp only [Act.put, List.getElem_toArray, List.getElem_cons_zero, List.getElem_cons_succ, List.setIfInBounds_toArray, List.set_cons_zero, List.set_cons_succ]
                refine wpAnyH_take (i := 9) (v := ?_) rfl (by kernel_rfl) (by kernel_rfl) (by kernel_rfl) (fun _ _ _ h => h) (Or.inl ⟨by rfl, ?_⟩) (by assumption) ?_
                rotate_left
                · (intro w hSw; (obtain ⟨hSb, hs4⟩ := hSw; have c0 := (HSD.out.go hSb).c0; have c1 := (HSD.out.go hSb).c1; have c2 := (HSD.out.go hSb).c2; have c3 := (HSD.out.go hSb).c3; simp only at c0 c2 c3; have zz := HCV.out _ gA hs4; clear hSb hs4); go_simp; (try with_reducible rfl))
                try simp only [Act.put, List.getElem_toArray, List.getElem_cons_zero, List.getElem_cons_succ, List.setIfInBounds_toArray, List.set_cons_zero, List.set_cons_succ]
                refine wpAnyH_take (i := 10) (v := ?_) rfl (by kernel_rfl) (by kernel_rfl) (by kernel_rfl) (fun _ _ _ h => h) (Or.inl ⟨by rfl, ?_⟩) (by assumption) ?_
                rotate_left
                · (intro w hSw; (obtain ⟨hSb, hs4⟩ := hSw; have c0 := (HSD.out.go hSb).c0; have c1 := (HSD.out.go hSb).c1; have c2 := (HSD.out.go hSb).c2; have c3 := (HSD.out.go hSb).c3; simp only at c0 c2 c3; have zz := HCV.out _ gA hs4; clear hSb hs4); go_simp; (try with_reducible rfl))
                try simp only [Act.put, List.getElem_toArray, List.getElem_cons_zero, List.getElem_cons_succ, List.setIfInBounds_toArray, List.set_cons_zero, List.set_cons_succ]
                refine wpAnyH_take (i := 11) (v := ?_) rfl (by kernel_rfl) (by kernel_rfl) (by kernel_rfl) (fun _ _ _ h => h) (Or.inl ⟨by rfl, ?_⟩) (by assumption) ?_
                rotate_left
                · (intro w hSw; (obtain ⟨hSb, hs4⟩ := hSw; have c0 := (HSD.out.go hSb).c0; have c1 := (HSD.out.go hSb).c1; have c2 := (HSD.out.go hSb).c2; have c3 := (HSD.out.go hSb).c3; simp only at c0 c2 c3; have zz := HCV.out _ gA hs4; clear hSb hs4); go_simp; (try with_reducible rfl))
                try simp only [Act.put, List.getElem_toArray, List.getElem_cons_zero, List.getElem_cons_succ, List.setIfInBounds_toArray, List.set_cons_zero, List.set_cons_succ]
                refine wpAnyH_ready (rs := [13]) (by kernel_rfl) (by simp) ?_
                refine AllReadyH.cons rfl (fun K hK => ?_) AllReadyH.nil
                rw [if_pos (by rfl)]
                go_simp
                refine hK.out _ _ ?_ (fun hHeld => ?_)
                · exact ⟨below_put4 HB3.out (g := WA.heap.size) HNE.out.2 (.int .u64 0) (.slice xa un xc) (.int .u64 0) (.bool false), (((Below.heap_setCell _ ⟨WA.heap.size, 3, none⟩ _ gA HNE.out.1).trans (Below.heap_setCell _ ⟨WA.heap.size, 2, none⟩ _ gA HNE.out.1)).trans ((Below.heap_setCell _ ⟨WA.heap.size, 1, none⟩ _ gA HNE.out.1).trans (Below.heap_setCell _ ⟨WA.heap.size, 0, none⟩ _ gA HNE.out.1))).trans HM3.out⟩
                clear hK K
                try simp only [Act.put, List.getElem_toArray, List.getElem_cons_zero, List.getElem_cons_succ, List.setIfInBounds_toArray, List.set_cons_zero, List.set_cons_succ]
                refine wpAnyH_take (i := 14) (v := ?_) rfl (by kernel_rfl) (by kernel_rfl) (by kernel_rfl) (fun _ _ _ h => h) (Or.inl ⟨by rfl, ?_⟩) (by assumption) ?_
                rotate_left
                · (intro w hSw; (obtain ⟨hSb, hs4⟩ := hSw; have c0 := (HSD.out.go hSb).c0; have c1 := (HSD.out.go hSb).c1; have c2 := (HSD.out.go hSb).c2; have c3 := (HSD.out.go hSb).c3; simp only at c0 c2 c3; have zz := HCV.out _ gA hs4; clear hSb hs4); go_simp; (try with_reducible rfl))
                try simp only [Act.put, List.getElem_toArray, List.getElem_cons_zero, List.getElem_cons_succ, List.setIfInBounds_toArray, List.set_cons_zero, List.set_cons_succ]
                refine wpAnyH_done (by kernel_rfl) (NoPanic.normal ?_) _
                go_wp2_with fail
                go_meet
                case rel => exact ⟨_, xa, xc, rfl, rfl, HZ.out.put ⟨0, L, 0, false⟩ (.slice xa un xc), HR3.out.put4 HNB.out (.int .u64 0) (.slice xa un xc) (.int .u64 0) (.bool false), hHd.out.trans hHeld.1⟩
            · rw [if_pos (by rfl)]
              go_simp
              refine hK.out _ _ ?_ (fun hHeld => ?_)
              · exact HWZ.out.1
              clear hK K
              try simp only [Act.put, List.getElem_toArray, List.getElem_cons_zero, List.getElem_cons_succ, List.setIfInBounds_toArray, List.set_cons_zero, List.set_cons_succ]
              generalize (W6.alloc (.cells #[.int .u64 0, .slice none 0 0, .int .u64 0, .bool false] 28)).drew = WZ at HWZ ⊢
              generalize hgZ : W6.heap.size = gZ at HWZ ⊢
              refine wpAnyH_ready (rs := [6]) (by kernel_rfl) (by simp) ?_
              refine AllReadyH.cons rfl (fun K hK => ?_) AllReadyH.nil
              rw [if_pos (by rfl)]
              go_simp
              refine hK.out _ _ ?_ (fun hHeld => ?_)
              · exact HWZ.out.1.alloc HWZ.out.1.size _
              clear hK K
              try simp only [Act.put, List.getElem_toArray, List.getElem_cons_zero, List.getElem_cons_succ, List.setIfInBounds_toArray, List.set_cons_zero, List.set_cons_succ]
              have HW2 : Hid (Below W6.drew.heap.size W6.drew (WZ.alloc (.cells MC 5)) ∧ (WZ.alloc (.cells MC 5)).heap[WZ.heap.size]? = some (.cells MC 5 (0, 0))) := Lib.hid ⟨HWZ.out.1.alloc HWZ.out.1.size _, heap_alloc_new WZ _⟩
              have HG2z := Lib.hid (HWZ.out.2.go ((Below.refl WZ.heap.size WZ).alloc (Nat.le_refl _) (.cells MC 5)))
              have HNE : Hid (WZ.heap.size ≠ gZ ∧ W6.drew.heap.size ≤ gZ) := Lib.hid ⟨by have := HWZ.out.2.lt; omega, Nat.le_of_eq (HGG.out.symm.trans hgZ)⟩
              generalize WZ.alloc (.cells MC 5) = W8 at HW2 HG2z ⊢
              generalize WZ.heap.size = gA at HW2 HNE ⊢
              refine strongG (S' := fun W : World => Below W6.drew.heap.size W6.drew W ∧ W.heap[gA]? = some (.cells MC 5 (0, 0))) (fun _ h => h.1) _ _ _ _ ?_
              have hHeld := HW2.out
              refine wpAnyH_take (i := 7) (v := ?_) rfl (by kernel_rfl) (by kernel_rfl) (by kernel_rfl) (fun _ _ _ h => h) (Or.inl ⟨by rfl, ?_⟩) (by assumption) ?_
              rotate_left
              · (intro w hSw; (obtain ⟨hSb, hs4⟩ := hSw; have c0 := (HSD.out.go hSb).c0; have c1 := (HSD.out.go hSb).c1; have c2 := (HSD.out.go hSb).c2; have c3 := (HSD.out.go hSb).c3; simp only at c0 c2 c3; have zz := HCV.out _ gA hs4; clear hSb hs4); go_simp; (try with_reducible rfl))
              try simp only [Act.put, List.getElem_toArray, List.getElem_cons_zero, List.getElem_cons_succ, List.setIfInBounds_toArray, List.set_cons_zero, List.set_cons_succ]
              refine wpAnyH_ready (rs := [8]) (by kernel_rfl) (by simp) ?_
              refine AllReadyH.cons rfl (fun K hK => ?_) AllReadyH.nil
              rw [if_pos (by rfl)]
              go_simp
              refine (KQ.out ZB L ua un uc _ (.inr rfl) HOKL.out.1 HOKL.out.2 HUN.out (HRD.out.go HW2.out.1)).mono ?_
              rintro e w3 ⟨xa, xc, rfl, hr, hq, hb⟩
              have HR3 := Lib.hid hr
              have HB3 := Lib.hid (nextG HW2.out.1 hb)
              have HM3 := Lib.hid ((hb.block gA (Array.getElem?_eq_some_iff.1 HW2.out.2).1).trans HW2.out.2)
              have HZ := Lib.hid (HG2z.out.go hb)
              have HNB : Hid (¬ Blk (.slice xa un xc) gZ) := Lib.hid (fun h => by have h5 := hq _ h; have := HG2z.out.lt; omega)
              have z0 : w3.cell? ⟨gZ, 0, none⟩ = _ := Lib.cell_of_heap HZ.out 0
              have z1 : w3.cell? ⟨gZ, 1, none⟩ = _ := Lib.cell_of_heap HZ.out 1
              have z2 : w3.cell? ⟨gZ, 2, none⟩ = _ := Lib.cell_of_heap HZ.out 2
              have z3 : w3.cell? ⟨gZ, 3, none⟩ = _ := Lib.cell_of_heap HZ.out 3
              have zf : ∀ k, w3.frozen? ⟨gZ, k, none⟩ = false := fun k => Lib.frozen_of_heap HZ.out k
              clear hr hq hb
              refine hK.out _ _ ?_ (fun hHeld => ?_)
              · exact ⟨HB3.out, HM3.out⟩
              clear hK K
              try simp only [Act.put, List.getElem_toArray, List.getElem_cons_zero, List.getElem_cons_succ, List.setIfInBounds_toArray, List.set_cons_zero, List.set_cons_succ]
              refine wpAnyH_take (i := 9) (v := ?_) rfl (by kernel_rfl) (by kernel_rfl) (by kernel_rfl) (fun _ _ _ h => h) (Or.inl ⟨by rfl, ?_⟩) (by assumption) ?_
              rotate_left
              · (intro w hSw; (obtain ⟨hSb, hs4⟩ := hSw; have c0 := (HSD.out.go hSb).c0; have c1 := (HSD.out.go hSb).c1; have c2 := (HSD.out.go hSb).c2; have c3 := (HSD.out.go hSb).c3; simp only at c0 c2 c3; have zz := HCV.out _ gA hs4; clear hSb hs4); go_simp; (try with_reducible rfl))
              try simp only [Act.put, List.getElem_toArray, List.getElem_cons_zero, List.getElem_cons_succ, List.setIfInBounds_toArray, List.set_cons_zero, List.set_cons_succ]
              refine wpAnyH_take (i := 10) (v := ?_) rfl (by kernel_rfl) (by kernel_rfl) (by kernel_rfl) (fun _ _ _ h => h) (Or.inl ⟨by rfl, ?_⟩) (by assumption) ?_
              rotate_left
              · (intro w hSw; (obtain ⟨hSb, hs4⟩ := hSw; have c0 := (HSD.out.go hSb).c0; have c1 := (HSD.out.go hSb).c1; have c2 := (HSD.out.go hSb).c2; have c3 := (HSD.out.go hSb).c3; simp only at c0 c2 c3; have zz := HCV.out _ gA hs4; clear hSb hs4); go_simp; (try with_reducible rfl))
              try simp only [Act.put, List.getElem_toArray, List.getElem_cons_zero, List.getElem_cons_succ, List.setIfInBounds_toArray, List.set_cons_zero, List.set_cons_succ]
              refine wpAnyH_take (i := 11) (v := ?_) rfl (by kernel_rfl) (by kernel_rfl) (by kernel_rfl) (fun _ _ _ h => h) (Or.inl ⟨by rfl, ?_⟩) (by assumption) ?_
              rotate_left
              · (intro w hSw; (obtain ⟨hSb, hs4⟩ := hSw; have c0 := (HSD.out.go hSb).c0; have c1 := (HSD.out.go hSb).c1; have c2 := (HSD.out.go hSb).c2; have c3 := (HSD.out.go hSb).c3; simp only at c0 c2 c3; have zz := HCV.out _ gA hs4; clear hSb hs4); go_simp; (try with_reducible rfl))
              try simp only [Act.put, List.getElem_toArray, List.getElem_cons_zero, List.getElem_cons_succ, List.setIfInBounds_toArray, List.set_cons_zero, List.set_cons_succ]
              refine wpAnyH_ready (rs := [13]) (by kernel_rfl) (by simp) ?_
              refine AllReadyH.cons rfl (fun K hK => ?_) AllReadyH.nil
              rw [if_pos (by rfl)]
              go_simp
              refine hK.out _ _ ?_ (fun hHeld => ?_)
              · exact ⟨below_put4 HB3.out (g := gZ) HNE.out.2 (.int .u64 0) (.slice xa un xc) (.int .u64 0) (.bool false), (((Below.heap_setCell _ ⟨gZ, 3, none⟩ _ gA HNE.out.1).trans (Below.heap_setCell _ ⟨gZ, 2, none⟩ _ gA HNE.out.1)).trans ((Below.heap_setCell _ ⟨gZ, 1, none⟩ _ gA HNE.out.1).trans (Below.heap_setCell _ ⟨gZ, 0, none⟩ _ gA HNE.out.1))).trans HM3.out⟩
              clear hK K
              try simp only [Act.put, List.getElem_toArray, List.getElem_cons_zero, List.getElem_cons_succ, List.setIfInBounds_toArray, List.set_cons_zero, List.set_cons_succ]
              refine wpAnyH_take (i := 14) (v := ?_) rfl (by kernel_rfl) (by kernel_rfl) (by kernel_rfl) (fun _ _ _ h => h) (Or.inl ⟨by rfl, ?_⟩) (by assumption) ?_
              rotate_left
              · (intro w hSw; (obtain ⟨hSb, hs4⟩ := hSw; have c0 := (HSD.out.go hSb).c0; have c1 := (HSD.out.go hSb).c1; have c2 := (HSD.out.go hSb).c2; have c3 := (HSD.out.go hSb).c3; simp only at c0 c2 c3; have zz := HCV.out _ gA hs4; clear hSb hs4); go_simp; (try with_reducible rfl))
              try simp only [Act.put, List.getElem_toArray, List.getElem_cons_zero, List.getElem_cons_succ, List.setIfInBounds_toArray, List.set_cons_zero, List.set_cons_succ]
              refine wpAnyH_done (by kernel_rfl) (NoPanic.normal ?_) _
              go_wp2_with fail
              go_meet
              case rel => exact ⟨_, xa, xc, rfl, rfl, HZ.out.put ⟨0, L, 0, false⟩ (.slice xa un xc), HR3.out.put4 HNB.out (.int .u64 0) (.slice xa un xc) (.int .u64 0) (.bool false), hHd.out.trans hHeld.1⟩
          case rest =>
            obtain ⟨b3, xa, xc, rfl, rfl, hgb3, hr3, hbL⟩ := hcut
            replace HSG := Lib.hid (HSG.out.go hbL)
            replace HG1 := Lib.hid (HG1.out.go hbL)
            replace HR1 := Lib.hid (HR1.out.go hbL)
            replace HG2 := Lib.hid (HG2.out.go hbL)
            replace HR2 := Lib.hid (HR2.out.go hbL)
            replace HB1 := Lib.hid (HB1.out.trans (hbL.mono HB1.out.size))
            have HG3 := Lib.hid hgb3
            have HR3 := Lib.hid hr3
            clear hgb3 hr3 hbL HSD HRD hHd HWA HWZ HGG HMK HCV KQ vq vq2 vq3
            generalize wc = W7 at *
            have hHd : Hid (Below W7.heap.size W7 W7.drew) := Lib.hid (Below.refl _ _).drew
            have HX1 := Lib.hid (HG1.out.go hHd.out)
            have HX2 := Lib.hid (HG2.out.go hHd.out)
            have HX3 := Lib.hid (HG3.out.go hHd.out)
            have HY1 := Lib.hid (HR1.out.go hHd.out)
            have HY2 := Lib.hid (HR2.out.go hHd.out)
            have HY3 := Lib.hid (HR3.out.go hHd.out)
            have hun : (un : Int) ≤ 200 := by have := HOKL.out.1.len; have := HUN.out; simp only at *; omega
            have KI := Lib.hid (fun a n c W (h : RowG W (.slice a n c) T L) => itsG_any T 0 0 false a n c L W h (by have h1 := h.cells.1; have := HUN.out; omega))
            have KS := Lib.hid (fun a a2 n c c2 W (h1 : RowG W (.slice a n c) T L) (h2 : RowG W (.slice a2 n c2) T L) => sameG_any T 0 0 false a a2 n c c2 L W h1 h2 (by have h3 := h1.cells.1; have := HUN.out; omega))
            go_wp2_with fail
            refine wp_region_noPanic ?_
            refine wp_region_held_drew (S := fun W : World => Below W7.drew.heap.size W7.drew W) (by kernel_rfl) ?_ (fun hHeld => ?_)
            · exact Below.refl W7.drew.heap.size W7.drew
            refine wpAnyH_take (i := 0) (v := ?_) rfl (by kernel_rfl) (by kernel_rfl) (by kernel_rfl) (fun _ _ _ h => h) (Or.inl ⟨by rfl, ?_⟩) (by assumption) ?_
            rotate_left
            · (intro w hSw; (have hSb := hSw; clear hSw; have c0 := (HX1.out.go hSb).c0; have d0 := (HX2.out.go hSb).c0; have e0 := (HX3.out.go hSb).c0; have c1 := (HX1.out.go hSb).c1; have d1 := (HX2.out.go hSb).c1; have e1 := (HX3.out.go hSb).c1; have c2 := (HX1.out.go hSb).c2; have d2 := (HX2.out.go hSb).c2; have e2 := (HX3.out.go hSb).c2; have c3 := (HX1.out.go hSb).c3; have d3 := (HX2.out.go hSb).c3; have e3 := (HX3.out.go hSb).c3; simp only at c0 c2 c3 d0 d2 d3 e0 e2 e3; clear hSb); go_simp; (try with_reducible rfl))
            try simp only [Act.put, List.getElem_toArray, List.getElem_cons_zero, List.getElem_cons_succ, List.setIfInBounds_toArray, List.set_cons_zero, List.set_cons_succ]
            refine wpAnyH_take (i := 1) (v := ?_) rfl (by kernel_rfl) (by kernel_rfl) (by kernel_rfl) (fun _ _ _ h => h) (Or.inl ⟨by rfl, ?_⟩) (by assumption) ?_
            rotate_left
            · (intro w hSw; (have hSb := hSw; clear hSw; have c0 := (HX1.out.go hSb).c0; have d0 := (HX2.out.go hSb).c0; have e0 := (HX3.out.go hSb).c0; have c1 := (HX1.out.go hSb).c1; have d1 := (HX2.out.go hSb).c1; have e1 := (HX3.out.go hSb).c1; have c2 := (HX1.out.go hSb).c2; have d2 := (HX2.out.go hSb).c2; have e2 := (HX3.out.go hSb).c2; have c3 := (HX1.out.go hSb).c3; have d3 := (HX2.out.go hSb).c3; have e3 := (HX3.out.go hSb).c3; simp only at c0 c2 c3 d0 d2 d3 e0 e2 e3; clear hSb); go_simp; (try with_reducible rfl))
            try simp only [Act.put, List.getElem_toArray, List.getElem_cons_zero, List.getElem_cons_succ, List.setIfInBounds_toArray, List.set_cons_zero, List.set_cons_succ]
            refine wpAnyH_take (i := 2) (v := ?_) rfl (by kernel_rfl) (by kernel_rfl) (by kernel_rfl) (fun _ _ _ h => h) (Or.inl ⟨by rfl, ?_⟩) (by assumption) ?_
            rotate_left
            · (intro w hSw; (have hSb := hSw; clear hSw; have c0 := (HX1.out.go hSb).c0; have d0 := (HX2.out.go hSb).c0; have e0 := (HX3.out.go hSb).c0; have c1 := (HX1.out.go hSb).c1; have d1 := (HX2.out.go hSb).c1; have e1 := (HX3.out.go hSb).c1; have c2 := (HX1.out.go hSb).c2; have d2 := (HX2.out.go hSb).c2; have e2 := (HX3.out.go hSb).c2; have c3 := (HX1.out.go hSb).c3; have d3 := (HX2.out.go hSb).c3; have e3 := (HX3.out.go hSb).c3; simp only at c0 c2 c3 d0 d2 d3 e0 e2 e3; clear hSb); go_simp; (try with_reducible rfl))
            try simp only [Act.put, List.getElem_toArray, List.getElem_cons_zero, List.getElem_cons_succ, List.setIfInBounds_toArray, List.set_cons_zero, List.set_cons_succ]
            refine wpAnyH_take (i := 3) (v := ?_) rfl (by kernel_rfl) (by kernel_rfl) (by kernel_rfl) (fun _ _ _ h => h) (Or.inl ⟨by rfl, ?_⟩) (by assumption) ?_
            rotate_left
            · (intro w hSw; (have hSb := hSw; clear hSw; have c0 := (HX1.out.go hSb).c0; have d0 := (HX2.out.go hSb).c0; have e0 := (HX3.out.go hSb).c0; have c1 := (HX1.out.go hSb).c1; have d1 := (HX2.out.go hSb).c1; have e1 := (HX3.out.go hSb).c1; have c2 := (HX1.out.go hSb).c2; have d2 := (HX2.out.go hSb).c2; have e2 := (HX3.out.go hSb).c2; have c3 := (HX1.out.go hSb).c3; have d3 := (HX2.out.go hSb).c3; have e3 := (HX3.out.go hSb).c3; simp only at c0 c2 c3 d0 d2 d3 e0 e2 e3; clear hSb); go_simp; (try with_reducible rfl))
            try simp only [Act.put, List.getElem_toArray, List.getElem_cons_zero, List.getElem_cons_succ, List.setIfInBounds_toArray, List.set_cons_zero, List.set_cons_succ]
            refine wpAnyH_take (i := 4) (v := ?_) rfl (by kernel_rfl) (by kernel_rfl) (by kernel_rfl) (fun _ _ _ h => h) (Or.inl ⟨by rfl, ?_⟩) (by assumption) ?_
            rotate_left
            · (intro w hSw; (have hSb := hSw; clear hSw; have c0 := (HX1.out.go hSb).c0; have d0 := (HX2.out.go hSb).c0; have e0 := (HX3.out.go hSb).c0; have c1 := (HX1.out.go hSb).c1; have d1 := (HX2.out.go hSb).c1; have e1 := (HX3.out.go hSb).c1; have c2 := (HX1.out.go hSb).c2; have d2 := (HX2.out.go hSb).c2; have e2 := (HX3.out.go hSb).c2; have c3 := (HX1.out.go hSb).c3; have d3 := (HX2.out.go hSb).c3; have e3 := (HX3.out.go hSb).c3; simp only at c0 c2 c3 d0 d2 d3 e0 e2 e3; clear hSb); go_simp; (try with_reducible rfl))
            try simp only [Act.put, List.getElem_toArray, List.getElem_cons_zero, List.getElem_cons_succ, List.setIfInBounds_toArray, List.set_cons_zero, List.set_cons_succ]
            refine wpAnyH_take (i := 5) (v := ?_) rfl (by kernel_rfl) (by kernel_rfl) (by kernel_rfl) (fun _ _ _ h => h) (Or.inl ⟨by rfl, ?_⟩) (by assumption) ?_
            rotate_left
            · (intro w hSw; (have hSb := hSw; clear hSw; have c0 := (HX1.out.go hSb).c0; have d0 := (HX2.out.go hSb).c0; have e0 := (HX3.out.go hSb).c0; have c1 := (HX1.out.go hSb).c1; have d1 := (HX2.out.go hSb).c1; have e1 := (HX3.out.go hSb).c1; have c2 := (HX1.out.go hSb).c2; have d2 := (HX2.out.go hSb).c2; have e2 := (HX3.out.go hSb).c2; have c3 := (HX1.out.go hSb).c3; have d3 := (HX2.out.go hSb).c3; have e3 := (HX3.out.go hSb).c3; simp only at c0 c2 c3 d0 d2 d3 e0 e2 e3; clear hSb); go_simp; (try with_reducible rfl))
            try simp only [Act.put, List.getElem_toArray, List.getElem_cons_zero, List.getElem_cons_succ, List.setIfInBounds_toArray, List.set_cons_zero, List.set_cons_succ]
            refine wpAnyH_take (i := 6) (v := ?_) rfl (by kernel_rfl) (by kernel_rfl) (by kernel_rfl) (fun _ _ _ h => h) (Or.inl ⟨by rfl, ?_⟩) (by assumption) ?_
            rotate_left
            · (intro w hSw; (have hSb := hSw; clear hSw; have c0 := (HX1.out.go hSb).c0; have d0 := (HX2.out.go hSb).c0; have e0 := (HX3.out.go hSb).c0; have c1 := (HX1.out.go hSb).c1; have d1 := (HX2.out.go hSb).c1; have e1 := (HX3.out.go hSb).c1; have c2 := (HX1.out.go hSb).c2; have d2 := (HX2.out.go hSb).c2; have e2 := (HX3.out.go hSb).c2; have c3 := (HX1.out.go hSb).c3; have d3 := (HX2.out.go hSb).c3; have e3 := (HX3.out.go hSb).c3; simp only at c0 c2 c3 d0 d2 d3 e0 e2 e3; clear hSb); go_simp; (try with_reducible rfl))
            try simp only [Act.put, List.getElem_toArray, List.getElem_cons_zero, List.getElem_cons_succ, List.setIfInBounds_toArray, List.set_cons_zero, List.set_cons_succ]
            refine wpAnyH_take (i := 7) (v := ?_) rfl (by kernel_rfl) (by kernel_rfl) (by kernel_rfl) (fun _ _ _ h => h) (Or.inl ⟨by rfl, ?_⟩) (by assumption) ?_
            rotate_left
            · (intro w hSw; (have hSb := hSw; clear hSw; have c0 := (HX1.out.go hSb).c0; have d0 := (HX2.out.go hSb).c0; have e0 := (HX3.out.go hSb).c0; have c1 := (HX1.out.go hSb).c1; have d1 := (HX2.out.go hSb).c1; have e1 := (HX3.out.go hSb).c1; have c2 := (HX1.out.go hSb).c2; have d2 := (HX2.out.go hSb).c2; have e2 := (HX3.out.go hSb).c2; have c3 := (HX1.out.go hSb).c3; have d3 := (HX2.out.go hSb).c3; have e3 := (HX3.out.go hSb).c3; simp only at c0 c2 c3 d0 d2 d3 e0 e2 e3; clear hSb); go_simp; (try with_reducible rfl))
            try simp only [Act.put, List.getElem_toArray, List.getElem_cons_zero, List.getElem_cons_succ, List.setIfInBounds_toArray, List.set_cons_zero, List.set_cons_succ]
            refine wpAnyH_take (i := 8) (v := ?_) rfl (by kernel_rfl) (by kernel_rfl) (by kernel_rfl) (fun _ _ _ h => h) (Or.inl ⟨by rfl, ?_⟩) (by assumption) ?_
            rotate_left
            · (intro w hSw; (have hSb := hSw; clear hSw; have c0 := (HX1.out.go hSb).c0; have d0 := (HX2.out.go hSb).c0; have e0 := (HX3.out.go hSb).c0; have c1 := (HX1.out.go hSb).c1; have d1 := (HX2.out.go hSb).c1; have e1 := (HX3.out.go hSb).c1; have c2 := (HX1.out.go hSb).c2; have d2 := (HX2.out.go hSb).c2; have e2 := (HX3.out.go hSb).c2; have c3 := (HX1.out.go hSb).c3; have d3 := (HX2.out.go hSb).c3; have e3 := (HX3.out.go hSb).c3; simp only at c0 c2 c3 d0 d2 d3 e0 e2 e3; clear hSb); go_simp; (try with_reducible rfl))
            try simp only [Act.put, List.getElem_toArray, List.getElem_cons_zero, List.getElem_cons_succ, List.setIfInBounds_toArray, List.set_cons_zero, List.set_cons_succ]
            refine wpAnyH_take (i := 9) (v := ?_) rfl (by kernel_rfl) (by kernel_rfl) (by kernel_rfl) (fun _ _ _ h => h) (Or.inl ⟨by rfl, ?_⟩) (by assumption) ?_
            rotate_left
            · (intro w hSw; (have hSb := hSw; clear hSw; have c0 := (HX1.out.go hSb).c0; have d0 := (HX2.out.go hSb).c0; have e0 := (HX3.out.go hSb).c0; have c1 := (HX1.out.go hSb).c1; have d1 := (HX2.out.go hSb).c1; have e1 := (HX3.out.go hSb).c1; have c2 := (HX1.out.go hSb).c2; have d2 := (HX2.out.go hSb).c2; have e2 := (HX3.out.go hSb).c2; have c3 := (HX1.out.go hSb).c3; have d3 := (HX2.out.go hSb).c3; have e3 := (HX3.out.go hSb).c3; simp only at c0 c2 c3 d0 d2 d3 e0 e2 e3; clear hSb); go_simp; (try with_reducible rfl))
            try simp only [Act.put, List.getElem_toArray, List.getElem_cons_zero, List.getElem_cons_succ, List.setIfInBounds_toArray, List.set_cons_zero, List.set_cons_succ]
            refine wpAnyH_take (i := 10) (v := ?_) rfl (by kernel_rfl) (by kernel_rfl) (by kernel_rfl) (fun _ _ _ h => h) (Or.inl ⟨by rfl, ?_⟩) (by assumption) ?_
            rotate_left
            · (intro w hSw; (have hSb := hSw; clear hSw; have c0 := (HX1.out.go hSb).c0; have d0 := (HX2.out.go hSb).c0; have e0 := (HX3.out.go hSb).c0; have c1 := (HX1.out.go hSb).c1; have d1 := (HX2.out.go hSb).c1; have e1 := (HX3.out.go hSb).c1; have c2 := (HX1.out.go hSb).c2; have d2 := (HX2.out.go hSb).c2; have e2 := (HX3.out.go hSb).c2; have c3 := (HX1.out.go hSb).c3; have d3 := (HX2.out.go hSb).c3; have e3 := (HX3.out.go hSb).c3; simp only at c0 c2 c3 d0 d2 d3 e0 e2 e3; clear hSb); go_simp; (try with_reducible rfl))
            try simp only [Act.put, List.getElem_toArray, List.getElem_cons_zero, List.getElem_cons_succ, List.setIfInBounds_toArray, List.set_cons_zero, List.set_cons_succ]
            refine wpAnyH_take (i := 11) (v := ?_) rfl (by kernel_rfl) (by kernel_rfl) (by kernel_rfl) (fun _ _ _ h => h) (Or.inl ⟨by rfl, ?_⟩) (by assumption) ?_
            rotate_left
            · (intro w hSw; (have hSb := hSw; clear hSw; have c0 := (HX1.out.go hSb).c0; have d0 := (HX2.out.go hSb).c0; have e0 := (HX3.out.go hSb).c0; have c1 := (HX1.out.go hSb).c1; have d1 := (HX2.out.go hSb).c1; have e1 := (HX3.out.go hSb).c1; have c2 := (HX1.out.go hSb).c2; have d2 := (HX2.out.go hSb).c2; have e2 := (HX3.out.go hSb).c2; have c3 := (HX1.out.go hSb).c3; have d3 := (HX2.out.go hSb).c3; have e3 := (HX3.out.go hSb).c3; simp only at c0 c2 c3 d0 d2 d3 e0 e2 e3; clear hSb); go_simp; (try with_reducible rfl))
            try simp only [Act.put, List.getElem_toArray, List.getElem_cons_zero, List.getElem_cons_succ, List.setIfInBounds_toArray, List.set_cons_zero, List.set_cons_succ]
            refine wpAnyH_take (i := 13) (v := ?_) rfl (by kernel_rfl) (by kernel_rfl) (by kernel_rfl) (fun _ _ _ h => h) (Or.inl ⟨by rfl, ?_⟩) (by assumption) ?_
            rotate_left
            · (intro w hSw; (have hSb := hSw; clear hSw; have c0 := (HX1.out.go hSb).c0; have d0 := (HX2.out.go hSb).c0; have e0 := (HX3.out.go hSb).c0; have c1 := (HX1.out.go hSb).c1; have d1 := (HX2.out.go hSb).c1; have e1 := (HX3.out.go hSb).c1; have c2 := (HX1.out.go hSb).c2; have d2 := (HX2.out.go hSb).c2; have e2 := (HX3.out.go hSb).c2; have c3 := (HX1.out.go hSb).c3; have d3 := (HX2.out.go hSb).c3; have e3 := (HX3.out.go hSb).c3; simp only at c0 c2 c3 d0 d2 d3 e0 e2 e3; clear hSb); go_simp; (try with_reducible rfl))
            try simp only [Act.put, List.getElem_toArray, List.getElem_cons_zero, List.getElem_cons_succ, List.setIfInBounds_toArray, List.set_cons_zero, List.set_cons_succ]
            refine wpAnyH_ready (rs := [12]) (by kernel_rfl) (by simp) ?_
            refine AllReadyH.cons rfl (fun K hK => ?_) AllReadyH.nil
            rw [if_pos (by rfl)]
            go_simp
            with_reducible refine (KI.out ua un uc _ (HY1.out.go (Below.refl _ _))).mono ?_
            rintro e t1 ⟨ja1, jc1, rfl, hr, hb⟩
            have HB1k := Lib.hid (nextG (Below.refl _ _) hb)
            have HI1 := Lib.hid hr
            clear hr hb
            refine hK.out _ _ ?_ (fun hHeld => ?_)
            · exact HB1k.out
            clear hK K
            try simp only [Act.put, List.getElem_toArray, List.getElem_cons_zero, List.getElem_cons_succ, List.setIfInBounds_toArray, List.set_cons_zero, List.set_cons_succ]
            refine wpAnyH_ready (rs := [14]) (by kernel_rfl) (by simp) ?_
            refine AllReadyH.cons rfl (fun K hK => ?_) AllReadyH.nil
            rw [if_pos (by rfl)]
            go_simp
            with_reducible refine (KI.out va un vc _ (HY2.out.go HB1k.out)).mono ?_
            rintro e t2 ⟨ja2, jc2, rfl, hr, hb⟩
            have HB2k := Lib.hid (nextG HB1k.out hb)
            have HI2 := Lib.hid hr
            replace HI1 := Lib.hid (HI1.out.go hb)
            clear hr hb
            refine hK.out _ _ ?_ (fun hHeld => ?_)
            · exact HB2k.out
            clear hK K
            try simp only [Act.put, List.getElem_toArray, List.getElem_cons_zero, List.getElem_cons_succ, List.setIfInBounds_toArray, List.set_cons_zero, List.set_cons_succ]
            refine wpAnyH_ready (rs := [15]) (by kernel_rfl) (by simp) ?_
            refine AllReadyH.cons rfl (fun K hK => ?_) AllReadyH.nil
            rw [if_pos (by rfl)]
            go_simp
            with_reducible refine (KS.out ja1 ja2 un jc1 jc2 _ HI1.out HI2.out).mono ?_
            rintro e t3 ⟨rfl, hb⟩
            have HB3k := Lib.hid (nextG HB2k.out hb)
            clear hb
            refine hK.out _ _ ?_ (fun hHeld => ?_)
            · exact HB3k.out
            clear hK K
            try simp only [Act.put, List.getElem_toArray, List.getElem_cons_zero, List.getElem_cons_succ, List.setIfInBounds_toArray, List.set_cons_zero, List.set_cons_succ]
            refine wpAnyH_take (i := 16) (v := ?_) rfl (by kernel_rfl) (by kernel_rfl) (by kernel_rfl) (fun _ _ _ h => h) (Or.inl ⟨by rfl, ?_⟩) (by assumption) ?_
            rotate_left
            · (intro w hSw; (have hSb := hSw; clear hSw; have c0 := (HX1.out.go hSb).c0; have d0 := (HX2.out.go hSb).c0; have e0 := (HX3.out.go hSb).c0; have c1 := (HX1.out.go hSb).c1; have d1 := (HX2.out.go hSb).c1; have e1 := (HX3.out.go hSb).c1; have c2 := (HX1.out.go hSb).c2; have d2 := (HX2.out.go hSb).c2; have e2 := (HX3.out.go hSb).c2; have c3 := (HX1.out.go hSb).c3; have d3 := (HX2.out.go hSb).c3; have e3 := (HX3.out.go hSb).c3; simp only at c0 c2 c3 d0 d2 d3 e0 e2 e3; clear hSb); go_simp; (try with_reducible rfl))
            try simp only [Act.put, List.getElem_toArray, List.getElem_cons_zero, List.getElem_cons_succ, List.setIfInBounds_toArray, List.set_cons_zero, List.set_cons_succ]
            refine wpAnyH_take (i := 17) (v := ?_) rfl (by kernel_rfl) (by kernel_rfl) (by kernel_rfl) (fun _ _ _ h => h) (Or.inl ⟨by rfl, ?_⟩) (by assumption) ?_
            rotate_left
            · (intro w hSw; (have hSb := hSw; clear hSw; have c0 := (HX1.out.go hSb).c0; have d0 := (HX2.out.go hSb).c0; have e0 := (HX3.out.go hSb).c0; have c1 := (HX1.out.go hSb).c1; have d1 := (HX2.out.go hSb).c1; have e1 := (HX3.out.go hSb).c1; have c2 := (HX1.out.go hSb).c2; have d2 := (HX2.out.go hSb).c2; have e2 := (HX3.out.go hSb).c2; have c3 := (HX1.out.go hSb).c3; have d3 := (HX2.out.go hSb).c3; have e3 := (HX3.out.go hSb).c3; simp only at c0 c2 c3 d0 d2 d3 e0 e2 e3; clear hSb); go_simp; (try with_reducible rfl))
            try simp only [Act.put, List.getElem_toArray, List.getElem_cons_zero, List.getElem_cons_succ, List.setIfInBounds_toArray, List.set_cons_zero, List.set_cons_succ]
            refine wpAnyH_take (i := 18) (v := ?_) rfl (by kernel_rfl) (by kernel_rfl) (by kernel_rfl) (fun _ _ _ h => h) (Or.inl ⟨by rfl, ?_⟩) (by assumption) ?_
            rotate_left
            · (intro w hSw; (have hSb := hSw; clear hSw; have c0 := (HX1.out.go hSb).c0; have d0 := (HX2.out.go hSb).c0; have e0 := (HX3.out.go hSb).c0; have c1 := (HX1.out.go hSb).c1; have d1 := (HX2.out.go hSb).c1; have e1 := (HX3.out.go hSb).c1; have c2 := (HX1.out.go hSb).c2; have d2 := (HX2.out.go hSb).c2; have e2 := (HX3.out.go hSb).c2; have c3 := (HX1.out.go hSb).c3; have d3 := (HX2.out.go hSb).c3; have e3 := (HX3.out.go hSb).c3; simp only at c0 c2 c3 d0 d2 d3 e0 e2 e3; clear hSb); go_simp; (try with_reducible rfl))
            try simp only [Act.put, List.getElem_toArray, List.getElem_cons_zero, List.getElem_cons_succ, List.setIfInBounds_toArray, List.set_cons_zero, List.set_cons_succ]
            refine wpAnyH_take (i := 19) (v := ?_) rfl (by kernel_rfl) (by kernel_rfl) (by kernel_rfl) (fun _ _ _ h => h) (Or.inl ⟨by rfl, ?_⟩) (by assumption) ?_
            rotate_left
            · (intro w hSw; (have hSb := hSw; clear hSw; have c0 := (HX1.out.go hSb).c0; have d0 := (HX2.out.go hSb).c0; have e0 := (HX3.out.go hSb).c0; have c1 := (HX1.out.go hSb).c1; have d1 := (HX2.out.go hSb).c1; have e1 := (HX3.out.go hSb).c1; have c2 := (HX1.out.go hSb).c2; have d2 := (HX2.out.go hSb).c2; have e2 := (HX3.out.go hSb).c2; have c3 := (HX1.out.go hSb).c3; have d3 := (HX2.out.go hSb).c3; have e3 := (HX3.out.go hSb).c3; simp only at c0 c2 c3 d0 d2 d3 e0 e2 e3; clear hSb); go_simp; (try with_reducible rfl))
            try simp only [Act.put, List.getElem_toArray, List.getElem_cons_zero, List.getElem_cons_succ, List.setIfInBounds_toArray, List.set_cons_zero, List.set_cons_succ]
            refine wpAnyH_take (i := 21) (v := ?_) rfl (by kernel_rfl) (by kernel_rfl) (by kernel_rfl) (fun _ _ _ h => h) (Or.inl ⟨by rfl, ?_⟩) (by assumption) ?_
            rotate_left
            · (intro w hSw; (have hSb := hSw; clear hSw; have c0 := (HX1.out.go hSb).c0; have d0 := (HX2.out.go hSb).c0; have e0 := (HX3.out.go hSb).c0; have c1 := (HX1.out.go hSb).c1; have d1 := (HX2.out.go hSb).c1; have e1 := (HX3.out.go hSb).c1; have c2 := (HX1.out.go hSb).c2; have d2 := (HX2.out.go hSb).c2; have e2 := (HX3.out.go hSb).c2; have c3 := (HX1.out.go hSb).c3; have d3 := (HX2.out.go hSb).c3; have e3 := (HX3.out.go hSb).c3; simp only at c0 c2 c3 d0 d2 d3 e0 e2 e3; clear hSb); go_simp; (try with_reducible rfl))
            try simp only [Act.put, List.getElem_toArray, List.getElem_cons_zero, List.getElem_cons_succ, List.setIfInBounds_toArray, List.set_cons_zero, List.set_cons_succ]
            refine wpAnyH_ready (rs := [20]) (by kernel_rfl) (by simp) ?_
            refine AllReadyH.cons rfl (fun K hK => ?_) AllReadyH.nil
            rw [if_pos (by rfl)]
            go_simp
            with_reducible refine (KI.out ua un uc _ (HY1.out.go HB3k.out)).mono ?_
            rintro e t4 ⟨ja4, jc4, rfl, hr, hb⟩
            have HB4k := Lib.hid (nextG HB3k.out hb)
            have HI4 := Lib.hid hr
            clear hr hb
            refine hK.out _ _ ?_ (fun hHeld => ?_)
            · exact HB4k.out
            clear hK K
            try simp only [Act.put, List.getElem_toArray, List.getElem_cons_zero, List.getElem_cons_succ, List.setIfInBounds_toArray, List.set_cons_zero, List.set_cons_succ]
            refine wpAnyH_ready (rs := [22]) (by kernel_rfl) (by simp) ?_
            refine AllReadyH.cons rfl (fun K hK => ?_) AllReadyH.nil
            rw [if_pos (by rfl)]
            go_simp
            with_reducible refine (KI.out xa un xc _ (HY3.out.go HB4k.out)).mono ?_
            rintro e t5 ⟨ja5, jc5, rfl, hr, hb⟩
            have HB5k := Lib.hid (nextG HB4k.out hb)
            have HI5 := Lib.hid hr
            replace HI4 := Lib.hid (HI4.out.go hb)
            clear hr hb
            refine hK.out _ _ ?_ (fun hHeld => ?_)
            · exact HB5k.out
            clear hK K
            try simp only [Act.put, List.getElem_toArray, List.getElem_cons_zero, List.getElem_cons_succ, List.setIfInBounds_toArray, List.set_cons_zero, List.set_cons_succ]
            refine wpAnyH_ready (rs := [23]) (by kernel_rfl) (by simp) ?_
            refine AllReadyH.cons rfl (fun K hK => ?_) AllReadyH.nil
            rw [if_pos (by rfl)]
            go_simp
            with_reducible refine (KS.out ja4 ja5 un jc4 jc5 _ HI4.out HI5.out).mono ?_
            rintro e t6 ⟨rfl, hb⟩
            have HB6k := Lib.hid (nextG HB5k.out hb)
            clear hb
            refine hK.out _ _ ?_ (fun hHeld => ?_)
            · exact HB6k.out
            clear hK K
            try simp only [Act.put, List.getElem_toArray, List.getElem_cons_zero, List.getElem_cons_succ, List.setIfInBounds_toArray, List.set_cons_zero, List.set_cons_succ]
            refine wpAnyH_take (i := 24) (v := ?_) rfl (by kernel_rfl) (by kernel_rfl) (by kernel_rfl) (fun _ _ _ h => h) (Or.inl ⟨by rfl, ?_⟩) (by assumption) ?_
            rotate_left
            · (intro w hSw; (have hSb := hSw; clear hSw; have c0 := (HX1.out.go hSb).c0; have d0 := (HX2.out.go hSb).c0; have e0 := (HX3.out.go hSb).c0; have c1 := (HX1.out.go hSb).c1; have d1 := (HX2.out.go hSb).c1; have e1 := (HX3.out.go hSb).c1; have c2 := (HX1.out.go hSb).c2; have d2 := (HX2.out.go hSb).c2; have e2 := (HX3.out.go hSb).c2; have c3 := (HX1.out.go hSb).c3; have d3 := (HX2.out.go hSb).c3; have e3 := (HX3.out.go hSb).c3; simp only at c0 c2 c3 d0 d2 d3 e0 e2 e3; clear hSb); go_simp; (try with_reducible rfl))
            try simp only [Act.put, List.getElem_toArray, List.getElem_cons_zero, List.getElem_cons_succ, List.setIfInBounds_toArray, List.set_cons_zero, List.set_cons_succ]
            refine wpAnyH_take (i := 25) (v := ?_) rfl (by kernel_rfl) (by kernel_rfl) (by kernel_rfl) (fun _ _ _ h => h) (Or.inl ⟨by rfl, ?_⟩) (by assumption) ?_
            rotate_left
            · (intro w hSw; (have hSb := hSw; clear hSw; have c0 := (HX1.out.go hSb).c0; have d0 := (HX2.out.go hSb).c0; have e0 := (HX3.out.go hSb).c0; have c1 := (HX1.out.go hSb).c1; have d1 := (HX2.out.go hSb).c1; have e1 := (HX3.out.go hSb).c1; have c2 := (HX1.out.go hSb).c2; have d2 := (HX2.out.go hSb).c2; have e2 := (HX3.out.go hSb).c2; have c3 := (HX1.out.go hSb).c3; have d3 := (HX2.out.go hSb).c3; have e3 := (HX3.out.go hSb).c3; simp only at c0 c2 c3 d0 d2 d3 e0 e2 e3; clear hSb); go_simp; (try with_reducible rfl))
            try simp only [Act.put, List.getElem_toArray, List.getElem_cons_zero, List.getElem_cons_succ, List.setIfInBounds_toArray, List.set_cons_zero, List.set_cons_succ]
            refine wpAnyH_done (by kernel_rfl) (NoPanic.normal ?_) _
            have HXT := Lib.hid (HX1.out.go HB6k.out)
            have HRT := Lib.hid (HY1.out.go HB6k.out)
            have HXG := Lib.hid ((HSG.out.go hHd.out).go HB6k.out)
            have HBT := Lib.hid (HB1.out.trans ((hHd.out.trans HB6k.out).mono HB1.out.size))
            have HSF := Lib.hid (HXG.out.put ⟨0, L, 0, false⟩ (.slice ua un uc))
            have HRF := Lib.hid (HRT.out.put4 HNG.out (.int .u64 0) (.slice ua un uc) (.int .u64 0) (.bool false))
            have HBF := Lib.hid (below_put4 HBT.out (g := g) hg0 (.int .u64 0) (.slice ua un uc) (.int .u64 0) (.bool false))
            have y0 := HXT.out.c0
            have y1 := HXT.out.c1
            have y2 := HXT.out.c2
            have y3 := HXT.out.c3
            simp only at y0 y2 y3
            have z0 := HXG.out.c0
            have z1 := HXG.out.c1
            have z2 := HXG.out.c2
            have z3 := HXG.out.c3
            simp only at z0 z2 z3
            have zf := HXG.out.fz
            have hgt := HXG.out.lt
            go_wp2_with fail
            go_roundw
            case rel => exact ⟨k + 1, ua, uc, L, by omega, by go_num, HOKL.out.1, by rw [HUN.out]; exact HSF.out, by rw [HUN.out]; exact HRF.out, by rw [HUN.out]; exact HNG.out, HBF.out⟩
            case measure => simp [intOf]; omega
    · have hnlt : ¬ (k : Int) < (n1 : Int) := by omega
      have KR := Lib.hid (fun W h => Ready_any T ⟨0, ll, 0, false⟩ a m c W HOK.out (by omega) h)
      have KT := Lib.hid (fun n W h => take_any T ⟨0, ll, 0, false⟩ a m c n W HOK.out (by omega) HM.out h)
      have hrr := rdy_range HOK.out
      obtain ⟨R, hR⟩ : ∃ r, rdy ⟨0, ll, 0, false⟩ = r := ⟨_, rfl⟩
      have htk : tk ⟨0, ll, 0, false⟩ R = R := by unfold tk; rw [hR] at hrr ⊢; omega
      rw [hR] at KR hrr
      replace KT := Lib.hid (KT.out R)
      rw [htk] at KT
      simp only [Bool.false_and, Int.zero_add] at KR KT hrr
      obtain ⟨LT, hLT⟩ : ∃ r, dropL ⟨0, ll, 0, false⟩ R = r := ⟨_, rfl⟩
      rw [hLT] at KT
      obtain ⟨DR, hDR⟩ : ∃ r, T.extract 0 R.toNat = r := ⟨_, rfl⟩
      rw [show (0 : Int).toNat = 0 from rfl, hDR] at KT
      have hdz : (DR.size : Int) = R := by rw [← hDR, ext_size (by omega)]; omega
      have hr0 : 0 ≤ R := hrr.1
      have hr1 : R ≤ (T.size : Int) := hrr.2
      have y0 := hgb.c0
      have y1 := hgb.c1
      have y2 := hgb.c2
      have y3 := hgb.c3
      simp only at y0 y2 y3
      clear hrow hnb hbb hm hok hR htk hrr hLT
      go_wp2_with fail
      with_reducible refine (KR.out _ HROW.out).mono ?_
      rintro e w2 ⟨rfl, hb⟩
      have HG2 := Lib.hid (HGB.out.go hb)
      have HR2 := Lib.hid (HROW.out.go hb)
      have HB2 := Lib.hid (HBB.out.trans (hb.mono HBB.out.size))
      clear y0 y1 y2 y3 hb hgb
      have y0 := HG2.out.c0
      have y1 := HG2.out.c1
      have y2 := HG2.out.c2
      have y3 := HG2.out.c3
      simp only at y0 y2 y3
      go_wp2_with fail
      with_reducible refine (KT.out _ HR2.out).mono ?_
      rintro e w3 ⟨ta, tc, rfl, q1, q2, hb⟩
      have HB3 := Lib.hid (HB2.out.trans (hb.mono HB2.out.size))
      have HB4 := Lib.hid (HB3.out.alloc HB3.out.size (.cells #[.int .u64 R, .slice ta (List.length LT) tc, .int .u64 0, .bool false] 28))
      clear y0 y1 y2 y3 q1 q2 hb
      go_wp2_with fail
      go_ret
      exact ⟨rfl, HB4.out⟩
theorem law_again (T : ByteArray) (a1 : Option Addr) (n1 c1 : Nat) (l : List (Int × Int)) (w : World) (hs : T.size ≤ maxLen) (hln : l.length = n1) (hm : n1 ≤ maxLen) (hl : Pcs w a1 n1 c1 l) :
    Calls Try.prog 4 #[.string T, .slice a1 n1 c1] w fun e w' => e = .returned (.bool true) ∧ Below w.heap.size w w' := by
  by_cases h : 200 < (T.size : Int) ∨ 40 < (n1 : Int)
  · exact again_out T a1 n1 c1 w h
  · exact again_law T a1 n1 c1 l w (by omega) (by omega) hl
end Go.Proofs.Ytndnlpohdimgaaa.Rg
