/- The walks of layer 3: Cut, Meet. -/
import Derived.Test.YtedijfcagkedaaaRgU
namespace Go.Proofs.Ytedijfcagkedaaa.Rg
set_option maxRecDepth 20000
open Go.RowKit Go.Shelf
set_option linter.unusedVariables false

theorem flat_len {f : Ran → List Ran} (c : Nat) (h : ∀ x, (f x).length ≤ c) : ∀ l : List Ran, (l.flatMap f).length ≤ c * l.length
  | [] => by simp
  | x :: l => by
    have h1 := flat_len c h l
    have h2 := h x
    rw [List.flatMap_cons, List.length_append, List.length_cons, Nat.mul_add]
    omega
/-- Between two rounds of a loop that appends to a variable: the variable lies at B, and holds what has come of f; all else lies as it lay when the loop began. -/
def FlatI (W : World) (B : Nat) (f : Ran → List Ran) (R : Nat → Prop) (pre : List Ran) (O : Nat → Prop) (A : World) : Prop :=
  ∃ v, A.heap[B]? = some (.cells #[v] 27 (0, 0)) ∧ Ow A W.heap.size 68 v (pre.flatMap f) ∧ (∀ k, v.ownBlock = some k → ¬ O k) ∧ (∀ q, O q → W.heap.size ≤ q) ∧ W.heap.size ≤ A.heap.size ∧ Only (fun k => k = B ∨ W.heap.size ≤ k) W A
theorem flatI_stable (W : World) (B : Nat) (f : Ran → List Ran) (R : Nat → Prop) (hB : B < W.heap.size) : Stable (FlatI W B f R) := by
  rintro pre O O' A B' ⟨v, h1, h2, h3, h4, h5, h6⟩ ho g2
  refine ⟨v, ho.heap h1 (fun h => by have := h4 _ h; omega), h2.only ho (fun k hk => h3 k hk), fun k hk => fun h => ?_, grow_ge h4 h5 g2, Nat.le_trans h5 ho.size, h6.trans' ho (fun i hi h => by have := h4 i h; omega)⟩
  rcases g2 k h with h' | h'
  · exact h3 k hk h'
  · have := (h2.lt hk).2; omega

attribute [local go_sem] Oper.semAt_some
set_option maxHeartbeats 2000000 in
theorem cut_any (a : Option Addr) (n cap : Nat) (l : List Ran) (lo hi : Int) (w : World) (hl : l.length ≤ 100) (hcan : Can l) (h0 : 0 ≤ lo) (h1 : hi < 9223372036854775808) (hrd : Rd w (.slice a n cap) l) :
    Calls Try.prog 35 #[.slice a n cap, .agg #[.int .u64 lo, .int .u64 hi]] w fun e w' => ∃ v g, e = .returned v ∧ Can g ∧ (∀ n, mem g n ↔ inn (lo, hi) n) ∧ Rd w' v (cutP g l) ∧ g.length ≤ 1 ∧ Below w.heap.size w w' := by
  refine (callsIn_wide (n := 0)).1 ?_
  have HRD := Lib.hid hrd
  clear hrd
  refine callsIn_of_wp_marks Try.func35 rfl trivial ?_ rfl
  simp only [Try.ntmps35, List.size_toArray, List.length_cons, List.length_nil, Nat.reduceAdd, Nat.reduceSub, Array.replicate_succ, Array.replicate_zero, List.push_toArray, List.append_toArray, List.nil_append, List.cons_append]
  gi_wp2_with fail
  have hrg : Rd ((w.alloc (.cells #[.int .u64 lo, .int .u64 hi] 68)).alloc (.cells #[.int .u64 lo, .int .u64 hi] 68)) (.slice (some ⟨w.heap.size + 1, 0, none⟩) 1 1) [(lo, hi)] :=
    ⟨_, 1, rfl, Nat.le_refl _, fun _ => ⟨_, 0, rfl, fun i hi => by
      obtain rfl : i = 0 := by simp at hi; omega
      simp [go_sem]⟩⟩
  refine ⟨trivial, rfl, (callsIn_wide.2 (of_loop (some ⟨w.heap.size + 1, 0, none⟩) 1 1 [(lo, hi)] (by simp) (by intro x hx; rw [List.mem_singleton.1 hx]; exact ⟨h0, h1⟩) _ hrg)).mono ?_⟩
  rintro e w2 ⟨v1, g, rfl, gc, gm, gl, gr, gb⟩
  obtain ⟨a1, cap1, rfl, -, -⟩ := id gr
  have hz2 := gb.size
  rw [World.size_alloc, World.size_alloc] at hz2 gb
  have GC := Lib.hid gc
  have GM := Lib.hid gm
  have GL := Lib.hid gl
  have GR := Lib.hid gr
  have GB : Hid (Below w.heap.size w w2) := Lib.hid ((((Below.refl _ w).alloc (Nat.le_refl _) _).alloc (by simp) _).trans (gb.mono (by omega)))
  clear gc gm gl gr gb hrg
  gi_wp2_with fail
  refine ⟨trivial, rfl, (callsIn_wide.2 (walk_any _ _ _ _)).mono ?_⟩
  rintro e w3 ⟨rfl, rfl⟩
  gi_wp2_with fail
  have oldq : ∀ q, q < w2.heap.size → (((w2.alloc (.cells #[.slice a1 g.length cap1] 27)).alloc (.cells #[.slice none 0 0] 27)).alloc (.cells #[.slice a n cap] 26)).heap[q]? = w2.heap[q]? := fun q hq => by
    rw [Below.heap_alloc _ _ _ (by simp <;> omega), Below.heap_alloc _ _ _ (by simp <;> omega), Below.heap_alloc _ _ _ (by omega)]
  have b0 : (((w2.alloc (.cells #[.slice a1 g.length cap1] 27)).alloc (.cells #[.slice none 0 0] 27)).alloc (.cells #[.slice a n cap] 26)).heap[w2.heap.size]? = some (.cells #[.slice a1 g.length cap1] 27 (0, 0)) := by
    rw [Below.heap_alloc _ _ _ (by simp <;> omega), Below.heap_alloc _ _ _ (by simp)]
    exact World.alloc_heap_new w2 _
  have b1 : (((w2.alloc (.cells #[.slice a1 g.length cap1] 27)).alloc (.cells #[.slice none 0 0] 27)).alloc (.cells #[.slice a n cap] 26)).heap[w2.heap.size + 1]? = some (.cells #[.slice none 0 0] 27 (0, 0)) := by
    rw [Below.heap_alloc _ _ _ (by simp)]
    have := World.alloc_heap_new (w2.alloc (.cells #[.slice a1 g.length cap1] 27)) (.cells #[.slice none 0 0] 27)
    rwa [World.size_alloc] at this
  have c2 : (((w2.alloc (.cells #[.slice a1 g.length cap1] 27)).alloc (.cells #[.slice none 0 0] 27)).alloc (.cells #[.slice a n cap] 26)).cell? ⟨w2.heap.size + 1 + 1, 0, none⟩ = some (.slice a n cap) := by simp [go_sem]
  have z5 : (((w2.alloc (.cells #[.slice a1 g.length cap1] 27)).alloc (.cells #[.slice none 0 0] 27)).alloc (.cells #[.slice a n cap] 26)).heap.size = w2.heap.size + 3 := by simp
  have hB5 : Below w2.heap.size w2 (((w2.alloc (.cells #[.slice a1 g.length cap1] 27)).alloc (.cells #[.slice none 0 0] 27)).alloc (.cells #[.slice a n cap] 26)) := (((Below.refl _ w2).alloc (Nat.le_refl _) _).alloc (by simp) _).alloc (by simp; omega) _
  generalize ((w2.alloc (.cells #[.slice a1 g.length cap1] 27)).alloc (.cells #[.slice none 0 0] 27)).alloc (.cells #[.slice a n cap] 26) = W5 at *
  have hRD5 := Lib.hid ((HRD.out.below GB.out (Nat.le_refl _)).below hB5 (Nat.le_refl _))
  have hGR5 := Lib.hid (GR.out.below hB5 (Nat.le_refl _))
  have hGB5 := Lib.hid (GB.out.trans (hB5.mono (by omega)))
  have hit := walk_iter (w2.heap.size + 1 + 1) (.slice a n cap) l W5 (by omega) c2 hRD5.out
  rw [hcan.ok] at hit
  have Z5 := Lib.hid z5
  have B0 := Lib.hid b0
  clear oldq c2 hB5
  refine wp_range rfl (enters_of Try.func65 (by kernel_rfl) rfl) hit (fun q hq => ⟨?_, rfl⟩) (Nat.le_refl _) rfl
    (FlatI W5 (w2.heap.size + 1) (lack g) (fun _ => False)) (fun _ _ _ _ => False) (flatI_stable W5 _ _ _ (by omega)) (fun _ _ _ _ _ _ h _ _ => h) ?h0 ?round ?done ?stop
  case round =>
    rintro lq pre ⟨x1, x2⟩ O A hpx hw hOl ⟨v, h1, h2, h3, h4, h5, h6⟩
    obtain ⟨S, hS⟩ : ∃ S, pre.flatMap (lack g) = S := ⟨_, rfl⟩
    rw [hS] at h2
    have hcp := hcan.prefix hpx
    have hxg := hcp.good (x1, x2) (by simp)
    have hplen : pre.length + 1 ≤ l.length := by have := hpx.length_le; simpa using this
    simp only [enc]
    gi_wp2_with fail
    refine ⟨Only.alloc _ _ _, ?_⟩
    intro A2 ho2 hsz2
    have hx1 : A2.cell? ⟨A.heap.size, 0, none⟩ = some (.int .u64 x1) := ho2.cell (by simp [go_sem]) (fun h => by have := (hw.2 _ h).2; simp only at this; omega)
    have hx2 : A2.cell? ⟨A.heap.size, 1, none⟩ = some (.int .u64 x2) := ho2.cell (by simp [go_sem]) (fun h => by have := (hw.2 _ h).2; simp only at this; omega)
    have hz2' : A2.heap.size = A.heap.size + 1 := by simpa using hsz2
    have hOA : Only (fun k => k = w2.heap.size + 1 ∨ W5.heap.size ≤ k) W5 A2 := (h6.trans (Only.alloc _ _ _)).trans' ho2 (fun i hi h => by have := h4 i h; omega)
    have hbg := hOA.heap b0 (fun h => by omega)
    have hbl := ho2.heap ((Below.heap_alloc A (.cells #[.int .u64 x1, .int .u64 x2] 68) (w2.heap.size + 1) (by omega)).trans h1) (fun h => by have := h4 _ h; omega)
    have hOW := (h2.only (Only.alloc (fun _ => False) A (.cells #[.int .u64 x1, .int .u64 x2] 68)) (fun _ _ h => h)).only ho2 (fun k hk => h3 k hk)
    obtain ⟨a3, cap3, rfl⟩ := h2.form
    have hcg := (one_cell hbg).1
    have hcl := (one_cell hbl).1
    have hlA : A.heap.size < A2.heap.size := by omega
    have hlg : w2.heap.size < A2.heap.size := by omega
    have hll : w2.heap.size + 1 < A2.heap.size := by omega
    have hRD2 := hGR5.out.keep (fun k hk => hOA.block k (by have := GR.out.blk hk; omega) (fun h => by have := GR.out.blk hk; omega))
    have hb0 : Below A2.heap.size A2 ((A2.alloc (.cells #[.slice a1 g.length cap1] 27)).alloc (.cells #[.int .u64 x1, .int .u64 x2] 68)) := ((Below.refl _ A2).alloc (Nat.le_refl _) _).alloc (by simp) _
    have hit2 := without_iter (A2.heap.size + 1) A2.heap.size (.slice a1 g.length cap1) g x1 x2 ((A2.alloc (.cells #[.slice a1 g.length cap1] 27)).alloc (.cells #[.int .u64 x1, .int .u64 x2] 68)) (by have := GL.out; simp at this; omega) GC.out hxg.1 hxg.2.2 (by simp [go_sem]) (hRD2.below hb0 (Nat.le_refl _)) (by simp [go_sem]) (by simp [go_sem])
    have hSl : S.length ≤ 10000 := by
      have h := flat_len (f := lack g) 2 (fun x => by have := lack_len g x; have h := GL.out; simp at h; omega) pre
      rw [hS] at h; omega
    have HAS := Lib.hid (appendSeq37 a3 S.length cap3 S W5.heap.size _ _ _ _ _ ((A2.alloc (.cells #[.slice a1 g.length cap1] 27)).alloc (.cells #[.int .u64 x1, .int .u64 x2] 68)).drew (enters_of Try.func67 (by kernel_rfl) rfl) hit2 (fun q hq => ⟨by
      rcases hq with rfl | rfl | hq
      · simp
      · simp; omega
      · have := hRD2.blk hq; simp; omega, rfl⟩) (Nat.le_refl _) (by simp; omega) (hOW.only (((Only.alloc (fun _ => False) _ _).trans (Only.alloc _ _ _)).trans (Only.drew _ _)) (fun _ _ h => h)) (fun k hk h => by
      have hkl := hOW.lt hk
      rcases h with rfl | rfl | h
      · omega
      · omega
      · have := GR.out.blk h; omega) (by have := lack_len g (x1, x2); have h := GL.out; simp at h; omega))
    have HB0 := Lib.hid hb0
    have HOA := Lib.hid hOA
    have HH3 := Lib.hid h3
    have HH4 := Lib.hid h4
    have HOl : Hid (∀ q, O q → q < A2.heap.size) := Lib.hid (fun q hq => by have := (hw.2 q hq).2; omega)
    have HBL := Lib.hid hbl
    have HRb : Hid (∀ q, (q = w2.heap.size + 1 + 1 ∨ Blk (.slice a n cap) q) → q < W5.heap.size ∧ q ≠ w2.heap.size + 1) := Lib.hid (fun q hq => by
      rcases hq with rfl | hq
      · omega
      · have := HRD.out.blk hq; omega)
    have HOWl : Hid (∀ k, (Value.slice a3 S.length cap3).ownBlock = some k → W5.heap.size ≤ k ∧ k < A2.heap.size) := Lib.hid (fun k hk => hOW.lt hk)
    have HAS2 : Hid (Calls Try.prog 53 #[.slice a3 S.length cap3, .func (.func 67) #[] #[.pointer (some ⟨A2.heap.size + 1, 0, none⟩), .pointer (some ⟨A2.heap.size, 0, none⟩)]]
        ((A2.alloc (.cells #[.slice a1 g.length cap1] 27)).alloc (.cells #[.int .u64 x1, .int .u64 x2] 68)).drew fun e w' => ∃ a4 m4 cap4, e = .returned (.slice a4 m4 cap4) ∧ w'.cell? ⟨w2.heap.size + 1, 0, none⟩ = some (.slice a3 S.length cap3) ∧ w'.frozen? ⟨w2.heap.size + 1, 0, none⟩ = false ∧
          Hid (Ow w' W5.heap.size 68 (.slice a4 m4 cap4) (S ++ lack g (x1, x2)) ∧ (∀ k, (Value.slice a4 m4 cap4).ownBlock = some k → ¬ O k) ∧ Only (Not O fun q => q = w2.heap.size + 1 + 1 ∨ Blk (.slice a n cap) q) A2 w' ∧ Only (fun k => k = w2.heap.size + 1 ∨ W5.heap.size ≤ k) W5 w' ∧ w'.heap[w2.heap.size + 1]? = some (.cells #[.slice a3 S.length cap3] 27 (0, 0)))) := Lib.hid (HAS.out.mono (by
      rintro e w4 ⟨v4, rfl, q1, q2, q3⟩
      obtain ⟨a4, cap4, rfl⟩ := q1.form
      have qA : Only (fun k => (Value.slice a3 S.length cap3).ownBlock = some k) A2 w4 := ((Only.of_all HB0.out _).trans (Only.drew _ _)).trans q2
      have qb := qA.heap HBL.out (fun h => by have := (HOWl.out _ h).1; omega)
      refine ⟨a4, _, cap4, rfl, (one_cell qb).1, (one_cell qb).2, Lib.hid ⟨q1, fun k hk h => ?_, qA.mono (fun k hk => ⟨HH3.out k hk, fun h => ?_⟩), HOA.out.trans' qA (fun i hi h => .inr (HOWl.out i h).1), qb⟩⟩
      · rcases q3 k hk with h' | h'
        · exact HH3.out k h' h
        · have := HOl.out k h; simp at h'; omega
      · have h5 := (HRb.out k h).1
        have h6 := (HOWl.out k hk).1
        omega))
    have HZ2 := Lib.hid hz2'
    have HSZ2 := Lib.hid hsz2
    clear hit hit2 hz2' hsz2 HAS hb0 hOA h1 h2 h3 h4 h6 hw hpx ho2 hbg hbl hOW hRD2
    gi_wp2_with fail
    have hmix : Try.prog.follows .mixedOrders = true := by kernel_rfl
    gi_region_with_o (first | (refine ⟨trivial, rfl, ?_⟩; gi_at_call 54; refine (CallsIn.inRound lq (callsIn_wide.2 (without_any _ _ _ _ _ _))).mono ?_; rintro e w' ⟨rfl, rfl⟩) | (refine ⟨trivial, rfl, ?_⟩; gi_at_call 53; refine (CallsIn.inRound lq (callsIn_wide.2 HAS2.out)).mono ?_; rintro e w4 ⟨a4, m4, cap4, rfl, hc4, hf4, hfin⟩))
    all_goals (
      gi_wp2
      obtain ⟨f1, f2, f3, f4, f5⟩ := hfin.out
      have hz4 := f4.size
      refine ⟨f3.trans (Only.setCell ⟨fun h => (by have := HH4.out _ h; simp only at this; omega), fun h => (HRb.out _ h).2 rfl⟩ _ _), .slice a4 m4 cap4, set_one f5 _, ?_, f2, HH4.out, by simp; omega, f4.trans (Only.setCell (.inl rfl) _ _)⟩
      have e1 : (pre ++ [(x1, x2)]).flatMap (lack g) = S ++ lack g (x1, x2) := by rw [List.flatMap_append, hS]; simp
      rw [e1]
      exact f1.only (Only.setCell (O := fun k => k = w2.heap.size + 1) rfl _ _) (fun k hk h => by have := (f1.lt hk).1; omega))
  case done =>
    rintro D O B hw hOD hD ⟨v, h1, h2, h3, h4, h5, h6⟩
    obtain ⟨S, hS⟩ : ∃ S, l.flatMap (lack g) = S := ⟨_, rfl⟩
    rw [hS] at h2
    have HS := Lib.hid hS
    clear hS
    have hcb := (one_cell h1).1
    have H3 := Lib.hid h3
    obtain ⟨a3, cap3, rfl⟩ := h2.form
    have hdw := (hw.1)
    have hDl := h4 D hOD
    clear h3 hit
    gi_wp2_with fail
    refine ⟨by simp, .inl ⟨_, _, rfl, run_takeDeferred hD, ?_⟩⟩
    refine ⟨_, results_tmp rfl _ _ _, _, g, rfl, GC.out, fun n => (GM.out n).trans mem_single, (by unfold cutP; rw [HS.out]; exact (h2.only (Only.putObj hOD _ _) (fun k hk => H3.out k hk)).rd), by have := GL.out; simpa using this, ?_⟩
    exact hGB5.out.trans ((h6.trans (Only.putObj (.inr hDl) B (.deferred none))).below (by omega) (fun k hk => by omega))
  case stop =>
    rintro D c pre O B hw hOD hD hpre h
    exact h.elim
  case h0 =>
    exact ⟨.slice none 0 0, b1, Ow.nil _ _ _, (fun k hk => by cases hk), (fun _ h => h.elim), Nat.le_refl _, Only.refl _ _⟩
  · rcases hq with rfl | hq
    · omega
    · have := HRD.out.blk hq; omega
end Go.Proofs.Ytedijfcagkedaaa.Rg
