/- Layer 15: a set cloned, added to, cut, joined: the slices that are given are new. -/
import Derived.Test.YtedijfcagkedaaaSqM
import Derived.Test.YtedijfcagkedaaaRgK
import Derived.Test.YtedijfcagkedaaaRgT2
import Derived.WalkSpells
import Derived.Lib.SliceRun
namespace Go.Proofs.Ytedijfcagkedaaa.Rg
set_option maxRecDepth 20000
open Go.RowKit Go.Shelf
set_option linter.unusedVariables false
set_option linter.unusedSimpArgs false

theorem ow_blk {w : World} {base : Nat} {e : TypeId} {v : Value} {l : List Ran} (h : Ow w base e v l) (k : Nat) (hk : Blk v k) : base ≤ k := by
  rcases h.2 with ⟨rfl, _⟩ | ⟨g, cap, cur, rfl, hb, _⟩
  · exact hk.elim
  · have : g = k := hk.2
    omega
set_option maxHeartbeats 1000000 in
theorem clone_nil (c : Nat) (w : World) :
    Calls Try.prog 52 #[.slice none 0 c] w fun e w' => ∃ v, e = .returned v ∧ Rd w' v [] ∧ (∀ k, Blk v k → w.heap.size ≤ k) ∧ Below w.heap.size w w' := by
  have qT : ∀ (w : World) (a : Option Addr) (n c n' c' : Nat), (binOp .eql 27 (.slice a n c) (.slice none n' c')).run Try.prog w = .ok (.bool a.isNone) w := fun w a n c n' c' => Lib.run_eql_slice_nil w _ _ a n c n' c' Try.underlying27
  go_enter Try.func52, Try.ntmps52
  go_wp2
  go_ret
  exact ⟨_, rfl, ⟨none, 0, rfl, Nat.le_refl _, fun h => absurd rfl h⟩, fun k h => h.elim, Below.refl _ _⟩
set_option maxHeartbeats 2000000 in
theorem clone_row (a : Addr) (n c : Nat) (l : List Ran) (w : World) (hn : l.length = n) (hl : n ≤ 1000) (hrd : Rd w (.slice (some a) n c) l) :
    Calls Try.prog 52 #[.slice (some a) n c] w fun e w' => ∃ v, e = .returned v ∧ Rd w' v l ∧ (∀ k, Blk v k → w.heap.size ≤ k) ∧ Below w.heap.size w w' := by
  have qT : ∀ (w : World) (a : Option Addr) (n c n' c' : Nat), (binOp .eql 27 (.slice a n c) (.slice none n' c')).run Try.prog w = .ok (.bool a.isNone) w := fun w a n c n' c' => Lib.run_eql_slice_nil w _ _ a n c n' c' Try.underlying27
  obtain ⟨i0, hi, hz0, hz1, hz2⟩ := info_parts infoR
  have hz1 := Lib.hid hz1; have hz2 := Lib.hid hz2; have hz0 := Lib.hid hz0; have hi := Lib.hid hi
  subst hn
  have HB0 := Lib.hid ((Below.refl w.heap.size w).alloc (Nat.le_refl _) (.cells #[] 68))
  have HR := Lib.hid (hrd.below HB0.out (Nat.le_refl _))
  have HO := Lib.hid (ow_made w 68)
  clear hrd
  go_enter Try.func52, Try.ntmps52
  go_wp2_with (at_builtin; refine wpList_append_rd _ rfl _ _ 27 rfl w.heap.size 68 i0 (.agg #[.int .u64 0, .int .u64 0]) Try.underlying27 hi.out hz0.out hz1.out hz2.out rfl _ rfl [] HO.out (.slice (some a) l.length c) rfl l HR.out (by simp; omega) (by simp) ?_)
  intro a4 n4 c4 w2 o2 g2 _
  have B2 := Lib.hid (HB0.out.grown g2 (by simp) (fun k hk => (HO.out.lt hk).1))
  have O2 := Lib.hid o2
  clear o2 g2
  go_wp2_with fail
  go_ret
  exact ⟨_, rfl, O2.out.rd, ow_blk O2.out, B2.out⟩
theorem clone_any (a : Option Addr) (n c : Nat) (l : List Ran) (w : World) (hn : l.length = n) (hl : n ≤ 1000) (hrd : Rd w (.slice a n c) l) :
    Calls Try.prog 52 #[.slice a n c] w fun e w' => ∃ v, e = .returned v ∧ Rd w' v l ∧ (∀ k, Blk v k → w.heap.size ≤ k) ∧ Below w.heap.size w w' := by
  cases a with
  | some a => exact clone_row a n c l w hn hl hrd
  | none =>
    obtain ⟨a', cap, e, _, h⟩ := hrd
    have : l = [] := by
      apply Classical.byContradiction
      intro hne
      obtain ⟨b, off, e2, _⟩ := h hne
      rw [e2] at e
      cases e
    subst this
    obtain rfl : n = 0 := hn.symm
    exact clone_nil c w

set_option maxHeartbeats 2000000 in
theorem add_fresh (a : Option Addr) (n cap : Nat) (l : List Ran) (lo hi' : Int) (w : World) (hl : l.length ≤ 200) (hcan : Can l) (h0 : 0 ≤ lo) (h1 : hi' < 9223372036854775808) (hrd : Rd w (.slice a n cap) l) :
    Calls Try.prog 44 #[.slice a n cap, .agg #[.int .u64 lo, .int .u64 hi']] w fun e w' => ∃ v l', e = .returned v ∧ Can l' ∧ (∀ n, mem l' n ↔ mem l n ∨ inn (lo, hi') n) ∧ l'.length ≤ l.length + 1 ∧ Rd w' v l' ∧ (∀ k, Blk v k → w.heap.size ≤ k) ∧ Below w.heap.size w w' := by
  obtain rfl : n = l.length := by obtain ⟨_, _, e, _⟩ := hrd; cases e; rfl
  have HRD := Lib.hid hrd
  clear hrd
  go_enter Try.func44, Try.ntmps44
  go_wp2_with fail
  have hb0 : Below w.heap.size w (((w.alloc (.cells #[.int .u64 lo, .int .u64 hi'] 68)).alloc (.cells #[.int .u64 lo, .int .u64 hi'] 68)).alloc (.cells #[.slice a l.length cap, .slice (some ⟨w.heap.size + 1, 0, none⟩) 1 1] 27)) := (((Below.refl _ w).alloc (Nat.le_refl _) _).alloc (by simp) _).alloc (by simp; omega) _
  have hrg : Rd (((w.alloc (.cells #[.int .u64 lo, .int .u64 hi'] 68)).alloc (.cells #[.int .u64 lo, .int .u64 hi'] 68)).alloc (.cells #[.slice a l.length cap, .slice (some ⟨w.heap.size + 1, 0, none⟩) 1 1] 27)) (.slice (some ⟨w.heap.size + 1, 0, none⟩) [(lo, hi')].length 1) [(lo, hi')] :=
    ⟨_, 1, rfl, Nat.le_refl _, fun _ => ⟨_, 0, rfl, fun i hi => by
      obtain rfl : i = 0 := by simp at hi; omega
      simp [go_sem]⟩⟩
  refine (concat_any (w.heap.size + 1 + 1) a cap l (some ⟨w.heap.size + 1, 0, none⟩) 1 [(lo, hi')] _ (by simp) (by simp [go_sem]) (by simp [go_sem]) (HRD.out.below hb0 (Nat.le_refl _)) hrg (by omega) (by simp)).mono ?_
  rintro e w4 ⟨v, rfl, r4, b4⟩
  obtain ⟨a4, c4, rfl, -, -⟩ := id r4
  have hz4 := b4.size
  have B4 : Hid (Below w.heap.size w w4) := Lib.hid (hb0.trans (b4.mono (by simp; omega)))
  have hok : ∀ x ∈ l ++ [(lo, hi')], 0 ≤ x.1 ∧ x.2 < 9223372036854775808 := by
    intro x hx
    rcases List.mem_append.1 hx with hx | hx
    · have := hcan.good x hx; exact ⟨this.1, this.2.2⟩
    · rw [List.mem_singleton.1 hx]; exact ⟨h0, h1⟩
  have HO := Lib.hid (of_fresh a4 _ c4 (l ++ [(lo, hi')]) (by simp; omega) hok w4 r4)
  clear r4 b4 hb0 hrg
  go_wp2_with fail
  have ho := HO.out
  rw [List.length_append, List.length_singleton] at ho
  refine ho.mono ?_
  rintro e w5 ⟨v5, l', rfl, q1, q2, q3, q4, qf, q5⟩
  have Q1 := Lib.hid q1
  have Q2 := Lib.hid q2
  have Q3 := Lib.hid q3
  have Q4 := Lib.hid q4
  have Q6 := Lib.hid qf
  have Q5 := Lib.hid (B4.out.trans (q5.mono B4.out.size))
  clear q1 q2 q3 q4 q5 qf ho
  go_wp2
  go_ret
  exact ⟨_, l', rfl, Q1.out, fun n => by rw [Q2.out, mem_append, mem_single], Q3.out, Q4.out, fun k hk => Nat.le_trans B4.out.size (Q6.out k hk), Q5.out⟩


attribute [local go_sem] Oper.semAt_some
set_option maxHeartbeats 2000000 in
theorem cut_row2 (a : Option Addr) (n cap : Nat) (l : List Ran) (lo hi : Int) (w : World) (hl : l.length ≤ 100) (hcan : Can l) (h0 : 0 ≤ lo) (h1 : hi < 9223372036854775808) (hrd : Rd w (.slice a n cap) l) :
    Calls Try.prog 35 #[.slice a n cap, .agg #[.int .u64 lo, .int .u64 hi]] w fun e w' => ∃ v g, e = .returned v ∧ Can g ∧ (∀ n, mem g n ↔ inn (lo, hi) n) ∧ Rd w' v (cutP g l) ∧ g.length ≤ 1 ∧ (∀ k, Blk v k → w.heap.size ≤ k) ∧ Below w.heap.size w w' := by
  refine (callsIn_wide (n := 0)).1 ?_
  have HRD := Lib.hid hrd
  clear hrd
  refine callsIn_of_wp_marks Try.func35 rfl trivial ?_ rfl
  simp only [Try.ntmps35, List.size_toArray, List.length_cons, List.length_nil, Nat.reduceAdd, Nat.reduceSub, Array.replicate_succ, Array.replicate_zero, List.push_toArray, List.append_toArray, List.nil_append, List.cons_append]
  gi_wp2_with fail
  have hrg : Rd ((w.alloc (.cells #[.int .u64 lo, .int .u64 hi] 68)).alloc (.cells #[.int .u64 lo, .int .u64 hi] 68)) (.slice (some ⟨w.heap.size + 1, 0, none⟩) 1 1) [(lo, hi)] :=
    ⟨_, 1, rfl, Nat.le_refl _, fun _ => ⟨_, 0, rfl, fun i hi => by
      obtain rfl : i = 0 := by simp at hi; omega
      simp [go_sem]⟩⟩
  refine ⟨trivial, rfl, (callsIn_wide.2 (of_loop (some ⟨w.heap.size + 1, 0, none⟩) 1 1 [(lo, hi)] (by simp) (by intro x hx; rw [List.mem_singleton.1 hx]; exact ⟨h0, h1⟩) _ hrg)).mono ?_⟩
  rintro e w2 ⟨v1, g, rfl, gc, gm, gl, gr, gb⟩
  obtain ⟨a1, cap1, rfl, -, -⟩ := id gr
  have hz2 := gb.size
  rw [World.size_alloc, World.size_alloc] at hz2 gb
  have GC := Lib.hid gc
  have GM := Lib.hid gm
  have GL := Lib.hid gl
  have GR := Lib.hid gr
  have GB : Hid (Below w.heap.size w w2) := Lib.hid ((((Below.refl _ w).alloc (Nat.le_refl _) _).alloc (by simp) _).trans (gb.mono (by omega)))
  clear gc gm gl gr gb hrg
  gi_wp2_with fail
  refine ⟨trivial, rfl, (callsIn_wide.2 (walk_any _ _ _ _)).mono ?_⟩
  rintro e w3 ⟨rfl, rfl⟩
  gi_wp2_with fail
  have oldq : ∀ q, q < w2.heap.size → (((w2.alloc (.cells #[.slice a1 g.length cap1] 27)).alloc (.cells #[.slice none 0 0] 27)).alloc (.cells #[.slice a n cap] 26)).heap[q]? = w2.heap[q]? := fun q hq => by
    rw [Below.heap_alloc _ _ _ (by simp <;> omega), Below.heap_alloc _ _ _ (by simp <;> omega), Below.heap_alloc _ _ _ (by omega)]
  have b0 : (((w2.alloc (.cells #[.slice a1 g.length cap1] 27)).alloc (.cells #[.slice none 0 0] 27)).alloc (.cells #[.slice a n cap] 26)).heap[w2.heap.size]? = some (.cells #[.slice a1 g.length cap1] 27 (0, 0)) := by
    rw [Below.heap_alloc _ _ _ (by simp <;> omega), Below.heap_alloc _ _ _ (by simp)]
    exact World.alloc_heap_new w2 _
  have b1 : (((w2.alloc (.cells #[.slice a1 g.length cap1] 27)).alloc (.cells #[.slice none 0 0] 27)).alloc (.cells #[.slice a n cap] 26)).heap[w2.heap.size + 1]? = some (.cells #[.slice none 0 0] 27 (0, 0)) := by
    rw [Below.heap_alloc _ _ _ (by simp)]
    have := World.alloc_heap_new (w2.alloc (.cells #[.slice a1 g.length cap1] 27)) (.cells #[.slice none 0 0] 27)
    rwa [World.size_alloc] at this
  have c2 : (((w2.alloc (.cells #[.slice a1 g.length cap1] 27)).alloc (.cells #[.slice none 0 0] 27)).alloc (.cells #[.slice a n cap] 26)).cell? ⟨w2.heap.size + 1 + 1, 0, none⟩ = some (.slice a n cap) := by simp [go_sem]
  have z5 : (((w2.alloc (.cells #[.slice a1 g.length cap1] 27)).alloc (.cells #[.slice none 0 0] 27)).alloc (.cells #[.slice a n cap] 26)).heap.size = w2.heap.size + 3 := by simp
  have hB5 : Below w2.heap.size w2 (((w2.alloc (.cells #[.slice a1 g.length cap1] 27)).alloc (.cells #[.slice none 0 0] 27)).alloc (.cells #[.slice a n cap] 26)) := (((Below.refl _ w2).alloc (Nat.le_refl _) _).alloc (by simp) _).alloc (by simp; omega) _
  generalize ((w2.alloc (.cells #[.slice a1 g.length cap1] 27)).alloc (.cells #[.slice none 0 0] 27)).alloc (.cells #[.slice a n cap] 26) = W5 at *
  have hRD5 := Lib.hid ((HRD.out.below GB.out (Nat.le_refl _)).below hB5 (Nat.le_refl _))
  have hGR5 := Lib.hid (GR.out.below hB5 (Nat.le_refl _))
  have hGB5 := Lib.hid (GB.out.trans (hB5.mono (by omega)))
  have hit := walk_iter (w2.heap.size + 1 + 1) (.slice a n cap) l W5 (by omega) c2 hRD5.out
  rw [hcan.ok] at hit
  have Z5 := Lib.hid z5
  have B0 := Lib.hid b0
  clear oldq c2 hB5
  refine wp_range rfl (enters_of Try.func65 (by kernel_rfl) rfl) hit (fun q hq => ⟨?_, rfl⟩) (Nat.le_refl _) rfl
    (FlatI W5 (w2.heap.size + 1) (lack g) (fun _ => False)) (fun _ _ _ _ => False) (flatI_stable W5 _ _ _ (by omega)) (fun _ _ _ _ _ _ h _ _ => h) ?h0 ?round ?done ?stop
  case round =>
    rintro lq pre ⟨x1, x2⟩ O A hpx hw hOl ⟨v, h1, h2, h3, h4, h5, h6⟩
    obtain ⟨S, hS⟩ : ∃ S, pre.flatMap (lack g) = S := ⟨_, rfl⟩
    rw [hS] at h2
    have hcp := hcan.prefix hpx
    have hxg := hcp.good (x1, x2) (by simp)
    have hplen : pre.length + 1 ≤ l.length := by have := hpx.length_le; simpa using this
    simp only [enc]
    gi_wp2_with fail
    refine ⟨Only.alloc _ _ _, ?_⟩
    intro A2 ho2 hsz2
    have hx1 : A2.cell? ⟨A.heap.size, 0, none⟩ = some (.int .u64 x1) := ho2.cell (by simp [go_sem]) (fun h => by have := (hw.2 _ h).2; simp only at this; omega)
    have hx2 : A2.cell? ⟨A.heap.size, 1, none⟩ = some (.int .u64 x2) := ho2.cell (by simp [go_sem]) (fun h => by have := (hw.2 _ h).2; simp only at this; omega)
    have hz2' : A2.heap.size = A.heap.size + 1 := by simpa using hsz2
    have hOA : Only (fun k => k = w2.heap.size + 1 ∨ W5.heap.size ≤ k) W5 A2 := (h6.trans (Only.alloc _ _ _)).trans' ho2 (fun i hi h => by have := h4 i h; omega)
    have hbg := hOA.heap b0 (fun h => by omega)
    have hbl := ho2.heap ((Below.heap_alloc A (.cells #[.int .u64 x1, .int .u64 x2] 68) (w2.heap.size + 1) (by omega)).trans h1) (fun h => by have := h4 _ h; omega)
    have hOW := (h2.only (Only.alloc (fun _ => False) A (.cells #[.int .u64 x1, .int .u64 x2] 68)) (fun _ _ h => h)).only ho2 (fun k hk => h3 k hk)
    obtain ⟨a3, cap3, rfl⟩ := h2.form
    have hcg := (one_cell hbg).1
    have hcl := (one_cell hbl).1
    have hlA : A.heap.size < A2.heap.size := by omega
    have hlg : w2.heap.size < A2.heap.size := by omega
    have hll : w2.heap.size + 1 < A2.heap.size := by omega
    have hRD2 := hGR5.out.keep (fun k hk => hOA.block k (by have := GR.out.blk hk; omega) (fun h => by have := GR.out.blk hk; omega))
    have hb0 : Below A2.heap.size A2 ((A2.alloc (.cells #[.slice a1 g.length cap1] 27)).alloc (.cells #[.int .u64 x1, .int .u64 x2] 68)) := ((Below.refl _ A2).alloc (Nat.le_refl _) _).alloc (by simp) _
    have hit2 := without_iter (A2.heap.size + 1) A2.heap.size (.slice a1 g.length cap1) g x1 x2 ((A2.alloc (.cells #[.slice a1 g.length cap1] 27)).alloc (.cells #[.int .u64 x1, .int .u64 x2] 68)) (by have := GL.out; simp at this; omega) GC.out hxg.1 hxg.2.2 (by simp [go_sem]) (hRD2.below hb0 (Nat.le_refl _)) (by simp [go_sem]) (by simp [go_sem])
    have hSl : S.length ≤ 10000 := by
      have h := flat_len (f := lack g) 2 (fun x => by have := lack_len g x; have h := GL.out; simp at h; omega) pre
      rw [hS] at h; omega
    have HAS := Lib.hid (appendSeq37 a3 S.length cap3 S W5.heap.size _ _ _ _ _ ((A2.alloc (.cells #[.slice a1 g.length cap1] 27)).alloc (.cells #[.int .u64 x1, .int .u64 x2] 68)).drew (enters_of Try.func67 (by kernel_rfl) rfl) hit2 (fun q hq => ⟨by
      rcases hq with rfl | rfl | hq
      · simp
      · simp; omega
      · have := hRD2.blk hq; simp; omega, rfl⟩) (Nat.le_refl _) (by simp; omega) (hOW.only (((Only.alloc (fun _ => False) _ _).trans (Only.alloc _ _ _)).trans (Only.drew _ _)) (fun _ _ h => h)) (fun k hk h => by
      have hkl := hOW.lt hk
      rcases h with rfl | rfl | h
      · omega
      · omega
      · have := GR.out.blk h; omega) (by have := lack_len g (x1, x2); have h := GL.out; simp at h; omega))
    have HB0 := Lib.hid hb0
    have HOA := Lib.hid hOA
    have HH3 := Lib.hid h3
    have HH4 := Lib.hid h4
    have HOl : Hid (∀ q, O q → q < A2.heap.size) := Lib.hid (fun q hq => by have := (hw.2 q hq).2; omega)
    have HBL := Lib.hid hbl
    have HRb : Hid (∀ q, (q = w2.heap.size + 1 + 1 ∨ Blk (.slice a n cap) q) → q < W5.heap.size ∧ q ≠ w2.heap.size + 1) := Lib.hid (fun q hq => by
      rcases hq with rfl | hq
      · omega
      · have := HRD.out.blk hq; omega)
    have HOWl : Hid (∀ k, (Value.slice a3 S.length cap3).ownBlock = some k → W5.heap.size ≤ k ∧ k < A2.heap.size) := Lib.hid (fun k hk => hOW.lt hk)
    have HAS2 : Hid (Calls Try.prog 53 #[.slice a3 S.length cap3, .func (.func 67) #[] #[.pointer (some ⟨A2.heap.size + 1, 0, none⟩), .pointer (some ⟨A2.heap.size, 0, none⟩)]]
        ((A2.alloc (.cells #[.slice a1 g.length cap1] 27)).alloc (.cells #[.int .u64 x1, .int .u64 x2] 68)).drew fun e w' => ∃ a4 m4 cap4, e = .returned (.slice a4 m4 cap4) ∧ w'.cell? ⟨w2.heap.size + 1, 0, none⟩ = some (.slice a3 S.length cap3) ∧ w'.frozen? ⟨w2.heap.size + 1, 0, none⟩ = false ∧
          Hid (Ow w' W5.heap.size 68 (.slice a4 m4 cap4) (S ++ lack g (x1, x2)) ∧ (∀ k, (Value.slice a4 m4 cap4).ownBlock = some k → ¬ O k) ∧ Only (Not O fun q => q = w2.heap.size + 1 + 1 ∨ Blk (.slice a n cap) q) A2 w' ∧ Only (fun k => k = w2.heap.size + 1 ∨ W5.heap.size ≤ k) W5 w' ∧ w'.heap[w2.heap.size + 1]? = some (.cells #[.slice a3 S.length cap3] 27 (0, 0)))) := Lib.hid (HAS.out.mono (by
      rintro e w4 ⟨v4, rfl, q1, q2, q3⟩
      obtain ⟨a4, cap4, rfl⟩ := q1.form
      have qA : Only (fun k => (Value.slice a3 S.length cap3).ownBlock = some k) A2 w4 := ((Only.of_all HB0.out _).trans (Only.drew _ _)).trans q2
      have qb := qA.heap HBL.out (fun h => by have := (HOWl.out _ h).1; omega)
      refine ⟨a4, _, cap4, rfl, (one_cell qb).1, (one_cell qb).2, Lib.hid ⟨q1, fun k hk h => ?_, qA.mono (fun k hk => ⟨HH3.out k hk, fun h => ?_⟩), HOA.out.trans' qA (fun i hi h => .inr (HOWl.out i h).1), qb⟩⟩
      · rcases q3 k hk with h' | h'
        · exact HH3.out k h' h
        · have := HOl.out k h; simp at h'; omega
      · have h5 := (HRb.out k h).1
        have h6 := (HOWl.out k hk).1
        omega))
    have HZ2 := Lib.hid hz2'
    have HSZ2 := Lib.hid hsz2
    clear hit hit2 hz2' hsz2 HAS hb0 hOA h1 h2 h3 h4 h6 hw hpx ho2 hbg hbl hOW hRD2
    gi_wp2_with fail
    have hmix : Try.prog.follows .mixedOrders = true := by kernel_rfl
    gi_region_with_o (first | (refine ⟨trivial, rfl, ?_⟩; gi_at_call 54; refine (CallsIn.inRound lq (callsIn_wide.2 (without_any _ _ _ _ _ _))).mono ?_; rintro e w' ⟨rfl, rfl⟩) | (refine ⟨trivial, rfl, ?_⟩; gi_at_call 53; refine (CallsIn.inRound lq (callsIn_wide.2 HAS2.out)).mono ?_; rintro e w4 ⟨a4, m4, cap4, rfl, hc4, hf4, hfin⟩))
    all_goals (
      gi_wp2
      obtain ⟨f1, f2, f3, f4, f5⟩ := hfin.out
      have hz4 := f4.size
      refine ⟨f3.trans (Only.setCell ⟨fun h => (by have := HH4.out _ h; simp only at this; omega), fun h => (HRb.out _ h).2 rfl⟩ _ _), .slice a4 m4 cap4, set_one f5 _, ?_, f2, HH4.out, by simp; omega, f4.trans (Only.setCell (.inl rfl) _ _)⟩
      have e1 : (pre ++ [(x1, x2)]).flatMap (lack g) = S ++ lack g (x1, x2) := by rw [List.flatMap_append, hS]; simp
      rw [e1]
      exact f1.only (Only.setCell (O := fun k => k = w2.heap.size + 1) rfl _ _) (fun k hk h => by have := (f1.lt hk).1; omega))
  case done =>
    rintro D O B hw hOD hD ⟨v, h1, h2, h3, h4, h5, h6⟩
    obtain ⟨S, hS⟩ : ∃ S, l.flatMap (lack g) = S := ⟨_, rfl⟩
    rw [hS] at h2
    have HS := Lib.hid hS
    clear hS
    have hcb := (one_cell h1).1
    have H3 := Lib.hid h3
    obtain ⟨a3, cap3, rfl⟩ := h2.form
    have hdw := (hw.1)
    have hDl := h4 D hOD
    clear h3 hit
    gi_wp2_with fail
    refine ⟨by simp, .inl ⟨_, _, rfl, run_takeDeferred hD, ?_⟩⟩
    refine ⟨_, results_tmp rfl _ _ _, _, g, rfl, GC.out, fun n => (GM.out n).trans mem_single, (by unfold cutP; rw [HS.out]; exact (h2.only (Only.putObj hOD _ _) (fun k hk => H3.out k hk)).rd), by have := GL.out; simpa using this, (fun k hk => by have := ow_blk h2 k hk; omega), ?_⟩
    exact hGB5.out.trans ((h6.trans (Only.putObj (.inr hDl) B (.deferred none))).below (by omega) (fun k hk => by omega))
  case stop =>
    rintro D c pre O B hw hOD hD hpre h
    exact h.elim
  case h0 =>
    exact ⟨.slice none 0 0, b1, Ow.nil _ _ _, (fun k hk => by cases hk), (fun _ h => h.elim), Nat.le_refl _, Only.refl _ _⟩
  · rcases hq with rfl | hq
    · omega
    · have := HRD.out.blk hq; omega

/-- A call gives this set, in a slice that is new. -/
def Sets (f : FuncId) (args : Array Value) (w : World) (l : List Ran) : Prop :=
  Calls Try.prog f args w fun e w' => ∃ a c, e = .returned (.slice a l.length c) ∧ Rd w' (.slice a l.length c) l ∧ (∀ k, Blk (.slice a l.length c) k → w.heap.size ≤ k) ∧ Below w.heap.size w w'
theorem clone_sets (a : Option Addr) (n c : Nat) (l : List Ran) (w : World) (hl : n ≤ 1000) (hrd : Rd w (.slice a n c) l) :
    Sets 52 #[.slice a n c] w l := by
  obtain rfl : n = l.length := by obtain ⟨_, _, e, _⟩ := hrd; cases e; rfl
  refine (clone_any a _ c l w rfl hl hrd).mono ?_
  rintro e w' ⟨v, rfl, hr, hk, hb⟩
  obtain ⟨a', c', rfl, _⟩ := id hr
  exact ⟨a', c', rfl, hr, hk, hb⟩
theorem add_sets (a : Option Addr) (n c : Nat) (l : List Ran) (lo hi : Int) (w : World) (hl : n ≤ 200) (hcan : Can l) (h0 : 0 ≤ lo) (h1 : hi < 9223372036854775808) (hrd : Rd w (.slice a n c) l) :
    Sets 44 #[.slice a n c, .agg #[.int .u64 lo, .int .u64 hi]] w (unL l (lo, hi)) := by
  obtain rfl : n = l.length := by obtain ⟨_, _, e, _⟩ := hrd; cases e; rfl
  refine (add_fresh a _ c l lo hi w hl hcan h0 h1 hrd).mono ?_
  rintro e w' ⟨v, l', rfl, hc, hm, _, hr, hk, hb⟩
  obtain rfl : l' = unL l (lo, hi) := can_same ⟨hc, hm⟩ (unL_can hcan (r := (lo, hi)) h0 h1)
  obtain ⟨a', c', rfl, _⟩ := id hr
  exact ⟨a', c', rfl, hr, hk, hb⟩
theorem cut_sets (a : Option Addr) (n c : Nat) (l : List Ran) (lo hi : Int) (w : World) (hl : n ≤ 100) (hcan : Can l) (h0 : 0 ≤ lo) (h1 : hi < 9223372036854775808) (hrd : Rd w (.slice a n c) l) :
    Sets 35 #[.slice a n c, .agg #[.int .u64 lo, .int .u64 hi]] w (cuL l (lo, hi)) := by
  obtain rfl : n = l.length := by obtain ⟨_, _, e, _⟩ := hrd; cases e; rfl
  refine (cut_row2 a _ c l lo hi w hl hcan h0 h1 hrd).mono ?_
  rintro e w' ⟨v, g, rfl, hg, hm, hr, _, hk, hb⟩
  have e2 : cutP g l = cuL l (lo, hi) := can_same (φ := fun n => mem l n ∧ ¬ inn (lo, hi) n) ⟨(cutP_can hg hcan).1, fun n => by rw [(cutP_can hg hcan).2, hm]⟩ (cuL_can hcan (r := (lo, hi)) h0)
  rw [e2] at hr
  obtain ⟨a', c', rfl, _⟩ := id hr
  exact ⟨a', c', rfl, hr, hk, hb⟩
theorem gaps_is (a : Option Addr) (n c : Nat) (l : List Ran) (lo hi : Int) (w : World) (hl : n ≤ 1000) (hcan : Can l) (h0 : 0 ≤ lo) (h1 : hi < 9223372036854775808) (hrd : Rd w (.slice a n c) l) :
    Calls Try.prog 63 #[.slice a n c, .agg #[.int .u64 lo, .int .u64 hi]] w fun e w' => ∃ a c, e = .returned (.slice a (lack l (lo, hi)).length c) ∧ Rd w' (.slice a (lack l (lo, hi)).length c) (lack l (lo, hi)) ∧ Below w.heap.size w w' := by
  obtain rfl : n = l.length := by obtain ⟨_, _, e, _⟩ := hrd; cases e; rfl
  refine (gaps_any a _ c l lo hi w hl hcan h0 h1 hrd).mono ?_
  rintro e w' ⟨v, rfl, hr, hb⟩
  obtain ⟨a', c', rfl, _⟩ := id hr
  exact ⟨a', c', rfl, hr, hb⟩
/-- The ranges of two sets, of which the second has none of the first, joined. -/
theorem of_sets (a : Option Addr) (n c : Nat) (l m : List Ran) (w : World) (hn : n = (l ++ m).length) (hl : n ≤ 1000) (hcl : Can l) (hcm : Can m) (hrd : Rd w (.slice a n c) (l ++ m)) :
    Sets 40 #[.slice a n c] w (unA l m) := by
  refine (of_fresh a n c (l ++ m) (by omega) (fun x hx => by
    rcases List.mem_append.1 hx with hx | hx
    · have := hcl.good x hx; exact ⟨this.1, this.2.2⟩
    · have := hcm.good x hx; exact ⟨this.1, this.2.2⟩) w hrd).mono ?_
  rintro e w' ⟨v, l', rfl, hc, hm, _, hr, hk, hb⟩
  obtain rfl : l' = unA l m := can_same ⟨hc, fun x => (hm x).trans mem_append⟩ (unA_can hcl hcm)
  obtain ⟨a', c', rfl, _⟩ := id hr
  exact ⟨a', c', rfl, hr, hk, hb⟩
end Go.Proofs.Ytedijfcagkedaaa.Rg
