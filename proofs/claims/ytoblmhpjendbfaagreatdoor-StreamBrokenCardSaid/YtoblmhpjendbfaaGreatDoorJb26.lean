/- Layer 15: a set cloned, added to, cut, joined: the slices that are given are new. · Layer 15: a state in a block; the walks of what is read of it -/
import Derived.Test.YtoblmhpjendbfaaGreatDoorJb13
import Derived.Test.YtoblmhpjendbfaaGreatDoorJb25
import Derived.WalkSpells
import Derived.Lib.SliceRun
import Derived.Deep.QuietTactic
import Derived.BigQuiet
import Derived.RegionTactic
import Derived.Deep.RegionHeld3
import Derived.Deep.RegionWith
import Derived.Laws.Rows
import Derived.Lib.SmallJoins
import Derived.Lib.ConvBytes
import Derived.Laws.ResultCell
namespace Go.Proofs.YtoblmhpjendbfaaGreatDoor.Rg
set_option maxRecDepth 20000
open Go.RowKit Go.Shelf
set_option linter.unusedVariables false
set_option linter.unusedSimpArgs false

theorem ow_blk {w : World} {base : Nat} {e : TypeId} {v : Value} {l : List Ran} (h : Ow w base e v l) (k : Nat) (hk : Blk v k) : base ≤ k := by
  rcases h.2 with ⟨rfl, _⟩ | ⟨g, cap, cur, rfl, hb, _⟩
  · exact hk.elim
  · have : g = k := hk.2
    omega
set_option maxHeartbeats 1000000 in
theorem clone_nil (c : Nat) (w : World) :
    Calls Tryz.prog 91 #[.slice none 0 c] w fun e w' => ∃ v, e = .returned v ∧ Rd w' v [] ∧ (∀ k, Blk v k → w.heap.size ≤ k) ∧ Below w.heap.size w w' := by
  have qT : ∀ (w : World) (a : Option Addr) (n c n' c' : Nat), (binOp .eql 28 (.slice a n c) (.slice none n' c')).run Tryz.prog w = .ok (.bool a.isNone) w := fun w a n c n' c' => Lib.run_eql_slice_nil w _ _ a n c n' c' Tryz.underlying28
  go_enter Tryz.func91, Tryz.ntmps91
  go_wp2
  go_ret
  exact ⟨_, rfl, ⟨none, 0, rfl, Nat.le_refl _, fun h => absurd rfl h⟩, fun k h => h.elim, Below.refl _ _⟩
set_option maxHeartbeats 2000000 in
theorem clone_row (a : Addr) (n c : Nat) (l : List Ran) (w : World) (hn : l.length = n) (hl : n ≤ 1000) (hrd : Rd w (.slice (some a) n c) l) :
    Calls Tryz.prog 91 #[.slice (some a) n c] w fun e w' => ∃ v, e = .returned v ∧ Rd w' v l ∧ (∀ k, Blk v k → w.heap.size ≤ k) ∧ Below w.heap.size w w' := by
  have qT : ∀ (w : World) (a : Option Addr) (n c n' c' : Nat), (binOp .eql 28 (.slice a n c) (.slice none n' c')).run Tryz.prog w = .ok (.bool a.isNone) w := fun w a n c n' c' => Lib.run_eql_slice_nil w _ _ a n c n' c' Tryz.underlying28
  obtain ⟨i0, hi, hz0, hz1, hz2⟩ := info_parts infoR
  have hz1 := Lib.hid hz1; have hz2 := Lib.hid hz2; have hz0 := Lib.hid hz0; have hi := Lib.hid hi
  subst hn
  have HB0 := Lib.hid ((Below.refl w.heap.size w).alloc (Nat.le_refl _) (.cells #[] 153))
  have HR := Lib.hid (hrd.below HB0.out (Nat.le_refl _))
  have HO := Lib.hid (ow_made w 153)
  clear hrd
  go_enter Tryz.func91, Tryz.ntmps91
  go_wp2_with (at_builtin; refine wpList_append_rd _ rfl _ _ 28 rfl w.heap.size 153 i0 (.agg #[.int .u64 0, .int .u64 0]) Tryz.underlying28 hi.out hz0.out hz1.out hz2.out rfl _ rfl [] HO.out (.slice (some a) l.length c) rfl l HR.out (by simp; omega) (by simp) ?_)
  intro a4 n4 c4 w2 o2 g2 _
  have B2 := Lib.hid (HB0.out.grown g2 (by simp) (fun k hk => (HO.out.lt hk).1))
  have O2 := Lib.hid o2
  clear o2 g2
  go_wp2_with fail
  go_ret
  exact ⟨_, rfl, O2.out.rd, ow_blk O2.out, B2.out⟩
theorem clone_any (a : Option Addr) (n c : Nat) (l : List Ran) (w : World) (hn : l.length = n) (hl : n ≤ 1000) (hrd : Rd w (.slice a n c) l) :
    Calls Tryz.prog 91 #[.slice a n c] w fun e w' => ∃ v, e = .returned v ∧ Rd w' v l ∧ (∀ k, Blk v k → w.heap.size ≤ k) ∧ Below w.heap.size w w' := by
  cases a with
  | some a => exact clone_row a n c l w hn hl hrd
  | none =>
    obtain ⟨a', cap, e, _, h⟩ := hrd
    have : l = [] := by
      apply Classical.byContradiction
      intro hne
      obtain ⟨b, off, e2, _⟩ := h hne
      rw [e2] at e
      cases e
    subst this
    obtain rfl : n = 0 := hn.symm
    exact clone_nil c w

set_option maxHeartbeats 2000000 in
theorem add_fresh (a : Option Addr) (n cap : Nat) (l : List Ran) (lo hi' : Int) (w : World) (hl : l.length ≤ 200) (hcan : Can l) (h0 : 0 ≤ lo) (h1 : hi' < 9223372036854775808) (hrd : Rd w (.slice a n cap) l) :
    Calls Tryz.prog 115 #[.slice a n cap, .agg #[.int .u64 lo, .int .u64 hi']] w fun e w' => ∃ v l', e = .returned v ∧ Can l' ∧ (∀ n, mem l' n ↔ mem l n ∨ inn (lo, hi') n) ∧ l'.length ≤ l.length + 1 ∧ Rd w' v l' ∧ (∀ k, Blk v k → w.heap.size ≤ k) ∧ Below w.heap.size w w' := by
  obtain rfl : n = l.length := by obtain ⟨_, _, e, _⟩ := hrd; cases e; rfl
  have HRD := Lib.hid hrd
  clear hrd
  go_enter Tryz.func115, Tryz.ntmps115
  go_wp2_with fail
  have hb0 : Below w.heap.size w (((w.alloc (.cells #[.int .u64 lo, .int .u64 hi'] 153)).alloc (.cells #[.int .u64 lo, .int .u64 hi'] 153)).alloc (.cells #[.slice a l.length cap, .slice (some ⟨w.heap.size + 1, 0, none⟩) 1 1] 28)) := (((Below.refl _ w).alloc (Nat.le_refl _) _).alloc (by simp) _).alloc (by simp; omega) _
  have hrg : Rd (((w.alloc (.cells #[.int .u64 lo, .int .u64 hi'] 153)).alloc (.cells #[.int .u64 lo, .int .u64 hi'] 153)).alloc (.cells #[.slice a l.length cap, .slice (some ⟨w.heap.size + 1, 0, none⟩) 1 1] 28)) (.slice (some ⟨w.heap.size + 1, 0, none⟩) [(lo, hi')].length 1) [(lo, hi')] :=
    ⟨_, 1, rfl, Nat.le_refl _, fun _ => ⟨_, 0, rfl, fun i hi => by
      obtain rfl : i = 0 := by simp at hi; omega
      simp [go_sem]⟩⟩
  refine (concat_any (w.heap.size + 1 + 1) a cap l (some ⟨w.heap.size + 1, 0, none⟩) 1 [(lo, hi')] _ (by simp) (by simp [go_sem]) (by simp [go_sem]) (HRD.out.below hb0 (Nat.le_refl _)) hrg (by omega) (by simp)).mono ?_
  rintro e w4 ⟨v, rfl, r4, b4⟩
  obtain ⟨a4, c4, rfl, -, -⟩ := id r4
  have hz4 := b4.size
  have B4 : Hid (Below w.heap.size w w4) := Lib.hid (hb0.trans (b4.mono (by simp; omega)))
  have hok : ∀ x ∈ l ++ [(lo, hi')], 0 ≤ x.1 ∧ x.2 < 9223372036854775808 := by
    intro x hx
    rcases List.mem_append.1 hx with hx | hx
    · have := hcan.good x hx; exact ⟨this.1, this.2.2⟩
    · rw [List.mem_singleton.1 hx]; exact ⟨h0, h1⟩
  have HO := Lib.hid (of_fresh a4 _ c4 (l ++ [(lo, hi')]) (by simp; omega) hok w4 r4)
  clear r4 b4 hb0 hrg
  go_wp2_with fail
  have ho := HO.out
  rw [List.length_append, List.length_singleton] at ho
  refine ho.mono ?_
  rintro e w5 ⟨v5, l', rfl, q1, q2, q3, q4, qf, q5⟩
  have Q1 := Lib.hid q1
  have Q2 := Lib.hid q2
  have Q3 := Lib.hid q3
  have Q4 := Lib.hid q4
  have Q6 := Lib.hid qf
  have Q5 := Lib.hid (B4.out.trans (q5.mono B4.out.size))
  clear q1 q2 q3 q4 q5 qf ho
  go_wp2
  go_ret
  exact ⟨_, l', rfl, Q1.out, fun n => by rw [Q2.out, mem_append, mem_single], Q3.out, Q4.out, fun k hk => Nat.le_trans B4.out.size (Q6.out k hk), Q5.out⟩


attribute [local go_sem] Oper.semAt_some
set_option maxHeartbeats 2000000 in
theorem cut_row2 (a : Option Addr) (n cap : Nat) (l : List Ran) (lo hi : Int) (w : World) (hl : l.length ≤ 100) (hcan : Can l) (h0 : 0 ≤ lo) (h1 : hi < 9223372036854775808) (hrd : Rd w (.slice a n cap) l) :
    Calls Tryz.prog 170 #[.slice a n cap, .agg #[.int .u64 lo, .int .u64 hi]] w fun e w' => ∃ v g, e = .returned v ∧ Can g ∧ (∀ n, mem g n ↔ inn (lo, hi) n) ∧ Rd w' v (cutP g l) ∧ g.length ≤ 1 ∧ (∀ k, Blk v k → w.heap.size ≤ k) ∧ Below w.heap.size w w' := by
  refine (callsIn_wide (n := 0)).1 ?_
  have HRD := Lib.hid hrd
  clear hrd
  refine callsIn_of_wp_marks Tryz.func170 rfl trivial ?_ rfl
  simp only [Tryz.ntmps170, List.size_toArray, List.length_cons, List.length_nil, Nat.reduceAdd, Nat.reduceSub, Array.replicate_succ, Array.replicate_zero, List.push_toArray, List.append_toArray, List.nil_append, List.cons_append]
  gi_wp2_with fail
  have hrg : Rd ((w.alloc (.cells #[.int .u64 lo, .int .u64 hi] 153)).alloc (.cells #[.int .u64 lo, .int .u64 hi] 153)) (.slice (some ⟨w.heap.size + 1, 0, none⟩) 1 1) [(lo, hi)] :=
    ⟨_, 1, rfl, Nat.le_refl _, fun _ => ⟨_, 0, rfl, fun i hi => by
      obtain rfl : i = 0 := by simp at hi; omega
      simp [go_sem]⟩⟩
  refine ⟨trivial, rfl, (callsIn_wide.2 (of_loop (some ⟨w.heap.size + 1, 0, none⟩) 1 1 [(lo, hi)] (by simp) (by intro x hx; rw [List.mem_singleton.1 hx]; exact ⟨h0, h1⟩) _ hrg)).mono ?_⟩
  rintro e w2 ⟨v1, g, rfl, gc, gm, gl, gr, gb⟩
  obtain ⟨a1, cap1, rfl, -, -⟩ := id gr
  have hz2 := gb.size
  rw [World.size_alloc, World.size_alloc] at hz2 gb
  have GC := Lib.hid gc
  have GM := Lib.hid gm
  have GL := Lib.hid gl
  have GR := Lib.hid gr
  have GB : Hid (Below w.heap.size w w2) := Lib.hid ((((Below.refl _ w).alloc (Nat.le_refl _) _).alloc (by simp) _).trans (gb.mono (by omega)))
  clear gc gm gl gr gb hrg
  gi_wp2_with fail
  refine ⟨trivial, rfl, (callsIn_wide.2 (walk_any _ _ _ _)).mono ?_⟩
  rintro e w3 ⟨rfl, rfl⟩
  gi_wp2_with fail
  have oldq : ∀ q, q < w2.heap.size → (((w2.alloc (.cells #[.slice a1 g.length cap1] 28)).alloc (.cells #[.slice none 0 0] 28)).alloc (.cells #[.slice a n cap] 27)).heap[q]? = w2.heap[q]? := fun q hq => by
    rw [Below.heap_alloc _ _ _ (by simp <;> omega), Below.heap_alloc _ _ _ (by simp <;> omega), Below.heap_alloc _ _ _ (by omega)]
  have b0 : (((w2.alloc (.cells #[.slice a1 g.length cap1] 28)).alloc (.cells #[.slice none 0 0] 28)).alloc (.cells #[.slice a n cap] 27)).heap[w2.heap.size]? = some (.cells #[.slice a1 g.length cap1] 28 (0, 0)) := by
    rw [Below.heap_alloc _ _ _ (by simp <;> omega), Below.heap_alloc _ _ _ (by simp)]
    exact World.alloc_heap_new w2 _
  have b1 : (((w2.alloc (.cells #[.slice a1 g.length cap1] 28)).alloc (.cells #[.slice none 0 0] 28)).alloc (.cells #[.slice a n cap] 27)).heap[w2.heap.size + 1]? = some (.cells #[.slice none 0 0] 28 (0, 0)) := by
    rw [Below.heap_alloc _ _ _ (by simp)]
    have := World.alloc_heap_new (w2.alloc (.cells #[.slice a1 g.length cap1] 28)) (.cells #[.slice none 0 0] 28)
    rwa [World.size_alloc] at this
  have c2 : (((w2.alloc (.cells #[.slice a1 g.length cap1] 28)).alloc (.cells #[.slice none 0 0] 28)).alloc (.cells #[.slice a n cap] 27)).cell? ⟨w2.heap.size + 1 + 1, 0, none⟩ = some (.slice a n cap) := by simp [go_sem]
  have z5 : (((w2.alloc (.cells #[.slice a1 g.length cap1] 28)).alloc (.cells #[.slice none 0 0] 28)).alloc (.cells #[.slice a n cap] 27)).heap.size = w2.heap.size + 3 := by simp
  have hB5 : Below w2.heap.size w2 (((w2.alloc (.cells #[.slice a1 g.length cap1] 28)).alloc (.cells #[.slice none 0 0] 28)).alloc (.cells #[.slice a n cap] 27)) := (((Below.refl _ w2).alloc (Nat.le_refl _) _).alloc (by simp) _).alloc (by simp; omega) _
  generalize ((w2.alloc (.cells #[.slice a1 g.length cap1] 28)).alloc (.cells #[.slice none 0 0] 28)).alloc (.cells #[.slice a n cap] 27) = W5 at *
  have hRD5 := Lib.hid ((HRD.out.below GB.out (Nat.le_refl _)).below hB5 (Nat.le_refl _))
  have hGR5 := Lib.hid (GR.out.below hB5 (Nat.le_refl _))
  have hGB5 := Lib.hid (GB.out.trans (hB5.mono (by omega)))
  have hit := walk_iter (w2.heap.size + 1 + 1) (.slice a n cap) l W5 (by omega) c2 hRD5.out
  rw [hcan.ok] at hit
  have Z5 := Lib.hid z5
  have B0 := Lib.hid b0
  clear oldq c2 hB5
  refine wp_range rfl (enters_of Tryz.func199 (by kernel_rfl) rfl) hit (fun q hq => ⟨?_, rfl⟩) (Nat.le_refl _) rfl
    (FlatI W5 (w2.heap.size + 1) (lack g) (fun _ => False)) (fun _ _ _ _ => False) (flatI_stable W5 _ _ _ (by omega)) (fun _ _ _ _ _ _ h _ _ => h) ?h0 ?round ?done ?stop
  case round =>
    rintro lq pre ⟨x1, x2⟩ O A hpx hw hOl ⟨v, h1, h2, h3, h4, h5, h6⟩
    obtain ⟨S, hS⟩ : ∃ S, pre.flatMap (lack g) = S := ⟨_, rfl⟩
    rw [hS] at h2
    have hcp := hcan.prefix hpx
    have hxg := hcp.good (x1, x2) (by simp)
    have hplen : pre.length + 1 ≤ l.length := by have := hpx.length_le; simpa using this
    simp only [enc]
    gi_wp2_with fail
    refine ⟨Only.alloc _ _ _, ?_⟩
    intro A2 ho2 hsz2
    have hx1 : A2.cell? ⟨A.heap.size, 0, none⟩ = some (.int .u64 x1) := ho2.cell (by simp [go_sem]) (fun h => by have := (hw.2 _ h).2; simp only at this; omega)
    have hx2 : A2.cell? ⟨A.heap.size, 1, none⟩ = some (.int .u64 x2) := ho2.cell (by simp [go_sem]) (fun h => by have := (hw.2 _ h).2; simp only at this; omega)
    have hz2' : A2.heap.size = A.heap.size + 1 := by simpa using hsz2
    have hOA : Only (fun k => k = w2.heap.size + 1 ∨ W5.heap.size ≤ k) W5 A2 := (h6.trans (Only.alloc _ _ _)).trans' ho2 (fun i hi h => by have := h4 i h; omega)
    have hbg := hOA.heap b0 (fun h => by omega)
    have hbl := ho2.heap ((Below.heap_alloc A (.cells #[.int .u64 x1, .int .u64 x2] 153) (w2.heap.size + 1) (by omega)).trans h1) (fun h => by have := h4 _ h; omega)
    have hOW := (h2.only (Only.alloc (fun _ => False) A (.cells #[.int .u64 x1, .int .u64 x2] 153)) (fun _ _ h => h)).only ho2 (fun k hk => h3 k hk)
    obtain ⟨a3, cap3, rfl⟩ := h2.form
    have hcg := (one_cell hbg).1
    have hcl := (one_cell hbl).1
    have hlA : A.heap.size < A2.heap.size := by omega
    have hlg : w2.heap.size < A2.heap.size := by omega
    have hll : w2.heap.size + 1 < A2.heap.size := by omega
    have hRD2 := hGR5.out.keep (fun k hk => hOA.block k (by have := GR.out.blk hk; omega) (fun h => by have := GR.out.blk hk; omega))
    have hb0 : Below A2.heap.size A2 ((A2.alloc (.cells #[.slice a1 g.length cap1] 28)).alloc (.cells #[.int .u64 x1, .int .u64 x2] 153)) := ((Below.refl _ A2).alloc (Nat.le_refl _) _).alloc (by simp) _
    have hit2 := without_iter (A2.heap.size + 1) A2.heap.size (.slice a1 g.length cap1) g x1 x2 ((A2.alloc (.cells #[.slice a1 g.length cap1] 28)).alloc (.cells #[.int .u64 x1, .int .u64 x2] 153)) (by have := GL.out; simp at this; omega) GC.out hxg.1 hxg.2.2 (by simp [go_sem]) (hRD2.below hb0 (Nat.le_refl _)) (by simp [go_sem]) (by simp [go_sem])
    have hSl : S.length ≤ 10000 := by
      have h := flat_len (f := lack g) 2 (fun x => by have := lack_len g x; have h := GL.out; simp at h; omega) pre
      rw [hS] at h; omega
    have HAS := Lib.hid (appendSeq37 a3 S.length cap3 S W5.heap.size _ _ _ _ _ ((A2.alloc (.cells #[.slice a1 g.length cap1] 28)).alloc (.cells #[.int .u64 x1, .int .u64 x2] 153)).drew (enters_of Tryz.func193 (by kernel_rfl) rfl) hit2 (fun q hq => ⟨by
      rcases hq with rfl | rfl | hq
      · simp
      · simp; omega
      · have := hRD2.blk hq; simp; omega, rfl⟩) (Nat.le_refl _) (by simp; omega) (hOW.only (((Only.alloc (fun _ => False) _ _).trans (Only.alloc _ _ _)).trans (Only.drew _ _)) (fun _ _ h => h)) (fun k hk h => by
      have hkl := hOW.lt hk
      rcases h with rfl | rfl | h
      · omega
      · omega
      · have := GR.out.blk h; omega) (by have := lack_len g (x1, x2); have h := GL.out; simp at h; omega))
    have HB0 := Lib.hid hb0
    have HOA := Lib.hid hOA
    have HH3 := Lib.hid h3
    have HH4 := Lib.hid h4
    have HOl : Hid (∀ q, O q → q < A2.heap.size) := Lib.hid (fun q hq => by have := (hw.2 q hq).2; omega)
    have HBL := Lib.hid hbl
    have HRb : Hid (∀ q, (q = w2.heap.size + 1 + 1 ∨ Blk (.slice a n cap) q) → q < W5.heap.size ∧ q ≠ w2.heap.size + 1) := Lib.hid (fun q hq => by
      rcases hq with rfl | hq
      · omega
      · have := HRD.out.blk hq; omega)
    have HOWl : Hid (∀ k, (Value.slice a3 S.length cap3).ownBlock = some k → W5.heap.size ≤ k ∧ k < A2.heap.size) := Lib.hid (fun k hk => hOW.lt hk)
    have HAS2 : Hid (Calls Tryz.prog 196 #[.slice a3 S.length cap3, .func (.func 193) #[] #[.pointer (some ⟨A2.heap.size + 1, 0, none⟩), .pointer (some ⟨A2.heap.size, 0, none⟩)]]
        ((A2.alloc (.cells #[.slice a1 g.length cap1] 28)).alloc (.cells #[.int .u64 x1, .int .u64 x2] 153)).drew fun e w' => ∃ a4 m4 cap4, e = .returned (.slice a4 m4 cap4) ∧ w'.cell? ⟨w2.heap.size + 1, 0, none⟩ = some (.slice a3 S.length cap3) ∧ w'.frozen? ⟨w2.heap.size + 1, 0, none⟩ = false ∧
          Hid (Ow w' W5.heap.size 153 (.slice a4 m4 cap4) (S ++ lack g (x1, x2)) ∧ (∀ k, (Value.slice a4 m4 cap4).ownBlock = some k → ¬ O k) ∧ Only (Not O fun q => q = w2.heap.size + 1 + 1 ∨ Blk (.slice a n cap) q) A2 w' ∧ Only (fun k => k = w2.heap.size + 1 ∨ W5.heap.size ≤ k) W5 w' ∧ w'.heap[w2.heap.size + 1]? = some (.cells #[.slice a3 S.length cap3] 28 (0, 0)))) := Lib.hid (HAS.out.mono (by
      rintro e w4 ⟨v4, rfl, q1, q2, q3⟩
      obtain ⟨a4, cap4, rfl⟩ := q1.form
      have qA : Only (fun k => (Value.slice a3 S.length cap3).ownBlock = some k) A2 w4 := ((Only.of_all HB0.out _).trans (Only.drew _ _)).trans q2
      have qb := qA.heap HBL.out (fun h => by have := (HOWl.out _ h).1; omega)
      refine ⟨a4, _, cap4, rfl, (one_cell qb).1, (one_cell qb).2, Lib.hid ⟨q1, fun k hk h => ?_, qA.mono (fun k hk => ⟨HH3.out k hk, fun h => ?_⟩), HOA.out.trans' qA (fun i hi h => .inr (HOWl.out i h).1), qb⟩⟩
      · rcases q3 k hk with h' | h'
        · exact HH3.out k h' h
        · have := HOl.out k h; simp at h'; omega
      · have h5 := (HRb.out k h).1
        have h6 := (HOWl.out k hk).1
        omega))
    have HZ2 := Lib.hid hz2'
    have HSZ2 := Lib.hid hsz2
    clear hit hit2 hz2' hsz2 HAS hb0 hOA h1 h2 h3 h4 h6 hw hpx ho2 hbg hbl hOW hRD2
    gi_wp2_with fail
    have hmix : Tryz.prog.follows .mixedOrders = true := by kernel_rfl
    gi_region_with_o (first | (refine ⟨trivial, rfl, ?_⟩; gi_at_call 167; refine (CallsIn.inRound lq (callsIn_wide.2 (without_any _ _ _ _ _ _))).mono ?_; rintro e w' ⟨rfl, rfl⟩) | (refine ⟨trivial, rfl, ?_⟩; gi_at_call 196; refine (CallsIn.inRound lq (callsIn_wide.2 HAS2.out)).mono ?_; rintro e w4 ⟨a4, m4, cap4, rfl, hc4, hf4, hfin⟩))
    all_goals (
      gi_wp2
      obtain ⟨f1, f2, f3, f4, f5⟩ := hfin.out
      have hz4 := f4.size
      refine ⟨f3.trans (Only.setCell ⟨fun h => (by have := HH4.out _ h; simp only at this; omega), fun h => (HRb.out _ h).2 rfl⟩ _ _), .slice a4 m4 cap4, set_one f5 _, ?_, f2, HH4.out, by simp; omega, f4.trans (Only.setCell (.inl rfl) _ _)⟩
      have e1 : (pre ++ [(x1, x2)]).flatMap (lack g) = S ++ lack g (x1, x2) := by rw [List.flatMap_append, hS]; simp
      rw [e1]
      exact f1.only (Only.setCell (O := fun k => k = w2.heap.size + 1) rfl _ _) (fun k hk h => by have := (f1.lt hk).1; omega))
  case done =>
    rintro D O B hw hOD hD ⟨v, h1, h2, h3, h4, h5, h6⟩
    obtain ⟨S, hS⟩ : ∃ S, l.flatMap (lack g) = S := ⟨_, rfl⟩
    rw [hS] at h2
    have HS := Lib.hid hS
    clear hS
    have hcb := (one_cell h1).1
    have H3 := Lib.hid h3
    obtain ⟨a3, cap3, rfl⟩ := h2.form
    have hdw := (hw.1)
    have hDl := h4 D hOD
    clear h3 hit
    gi_wp2_with fail
    refine ⟨by simp, .inl ⟨_, _, rfl, run_takeDeferred hD, ?_⟩⟩
    refine ⟨_, results_tmp rfl _ _ _, _, g, rfl, GC.out, fun n => (GM.out n).trans mem_single, (by unfold cutP; rw [HS.out]; exact (h2.only (Only.putObj hOD _ _) (fun k hk => H3.out k hk)).rd), by have := GL.out; simpa using this, (fun k hk => by have := ow_blk h2 k hk; omega), ?_⟩
    exact hGB5.out.trans ((h6.trans (Only.putObj (.inr hDl) B (.deferred none))).below (by omega) (fun k hk => by omega))
  case stop =>
    rintro D c pre O B hw hOD hD hpre h
    exact h.elim
  case h0 =>
    exact ⟨.slice none 0 0, b1, Ow.nil _ _ _, (fun k hk => by cases hk), (fun _ h => h.elim), Nat.le_refl _, Only.refl _ _⟩
  · rcases hq with rfl | hq
    · omega
    · have := HRD.out.blk hq; omega

/-- A call gives this set, in a slice that is new. -/
def Sets (f : FuncId) (args : Array Value) (w : World) (l : List Ran) : Prop :=
  Calls Tryz.prog f args w fun e w' => ∃ a c, e = .returned (.slice a l.length c) ∧ Rd w' (.slice a l.length c) l ∧ (∀ k, Blk (.slice a l.length c) k → w.heap.size ≤ k) ∧ Below w.heap.size w w'
theorem clone_sets (a : Option Addr) (n c : Nat) (l : List Ran) (w : World) (hl : n ≤ 1000) (hrd : Rd w (.slice a n c) l) :
    Sets 91 #[.slice a n c] w l := by
  obtain rfl : n = l.length := by obtain ⟨_, _, e, _⟩ := hrd; cases e; rfl
  refine (clone_any a _ c l w rfl hl hrd).mono ?_
  rintro e w' ⟨v, rfl, hr, hk, hb⟩
  obtain ⟨a', c', rfl, _⟩ := id hr
  exact ⟨a', c', rfl, hr, hk, hb⟩
theorem add_sets (a : Option Addr) (n c : Nat) (l : List Ran) (lo hi : Int) (w : World) (hl : n ≤ 200) (hcan : Can l) (h0 : 0 ≤ lo) (h1 : hi < 9223372036854775808) (hrd : Rd w (.slice a n c) l) :
    Sets 115 #[.slice a n c, .agg #[.int .u64 lo, .int .u64 hi]] w (unL l (lo, hi)) := by
  obtain rfl : n = l.length := by obtain ⟨_, _, e, _⟩ := hrd; cases e; rfl
  refine (add_fresh a _ c l lo hi w hl hcan h0 h1 hrd).mono ?_
  rintro e w' ⟨v, l', rfl, hc, hm, _, hr, hk, hb⟩
  obtain rfl : l' = unL l (lo, hi) := can_same ⟨hc, hm⟩ (unL_can hcan (r := (lo, hi)) h0 h1)
  obtain ⟨a', c', rfl, _⟩ := id hr
  exact ⟨a', c', rfl, hr, hk, hb⟩
theorem cut_sets (a : Option Addr) (n c : Nat) (l : List Ran) (lo hi : Int) (w : World) (hl : n ≤ 100) (hcan : Can l) (h0 : 0 ≤ lo) (h1 : hi < 9223372036854775808) (hrd : Rd w (.slice a n c) l) :
    Sets 170 #[.slice a n c, .agg #[.int .u64 lo, .int .u64 hi]] w (cuL l (lo, hi)) := by
  obtain rfl : n = l.length := by obtain ⟨_, _, e, _⟩ := hrd; cases e; rfl
  refine (cut_row2 a _ c l lo hi w hl hcan h0 h1 hrd).mono ?_
  rintro e w' ⟨v, g, rfl, hg, hm, hr, _, hk, hb⟩
  have e2 : cutP g l = cuL l (lo, hi) := can_same (φ := fun n => mem l n ∧ ¬ inn (lo, hi) n) ⟨(cutP_can hg hcan).1, fun n => by rw [(cutP_can hg hcan).2, hm]⟩ (cuL_can hcan (r := (lo, hi)) h0)
  rw [e2] at hr
  obtain ⟨a', c', rfl, _⟩ := id hr
  exact ⟨a', c', rfl, hr, hk, hb⟩
end Go.Proofs.YtoblmhpjendbfaaGreatDoor.Rg
namespace Go.Proofs.YtoblmhpjendbfaaGreatDoor.Rg
set_option maxRecDepth 20000
open Go.RowKit Go.Shelf
set_option linter.unusedVariables false
set_option linter.unusedSimpArgs false

theorem nextG {n : Nat} {w0 w1 w2 : World} (h : Below n w0 w1) (k : Below w1.heap.size w1 w2) (hn : n ≤ w0.heap.size := by exact Nat.le_refl _) : Below n w0 w2 := h.trans (k.mono (Nat.le_trans hn h.size))
theorem ret_u64 {a b : Int} (h : a = b) : Ending.returned (.int .u64 a) = .returned (.int .u64 b) := by rw [h]
theorem ret_bool {a b : Bool} (h : a = b) : Ending.returned (.bool a) = .returned (.bool b) := by rw [h]
theorem rd_set {w : World} {v : Value} {l : List Ran} (h : Rd w v l) {b k : Nat} (hb : ¬ Blk v b) (u : Value) : Rd (w.setCell ⟨b, k, none⟩ u) v l :=
  h.keep (fun q hq => Below.heap_setCell w ⟨b, k, none⟩ u q (fun e => hb (by have e : q = b := e; subst e; exact hq)))
/-- A state in a block; its sets lie elsewhere. -/
structure Qb (Y : TypeId) (w : World) (b : Nat) (u v : Value) (s : SS) : Prop where
  hb : w.heap[b]? = some (.cells #[.int .u64 s.ba, .int .u64 s.tp, .string s.d, u, v, .bool s.fin, .bool s.ft, .bool s.fa] Y (0, 0))
  ra : Rd w u s.ak
  rt : Rd w v s.td
  oa : ¬ Blk u b
  ot : ¬ Blk v b
theorem Qb.lt {Y : TypeId} {w : World} {b : Nat} {u v : Value} {s : SS} (h : Qb Y w b u v s) : b < w.heap.size := (Array.getElem?_eq_some_iff.1 h.hb).1
theorem Qb.c0 {Y : TypeId} {w : World} {b : Nat} {u v : Value} {s : SS} (h : Qb Y w b u v s) : w.cell? ⟨b, 0, none⟩ = some (.int .u64 s.ba) := Lib.cell_of_heap h.hb 0
theorem Qb.c1 {Y : TypeId} {w : World} {b : Nat} {u v : Value} {s : SS} (h : Qb Y w b u v s) : w.cell? ⟨b, 1, none⟩ = some (.int .u64 s.tp) := Lib.cell_of_heap h.hb 1
theorem Qb.c2 {Y : TypeId} {w : World} {b : Nat} {u v : Value} {s : SS} (h : Qb Y w b u v s) : w.cell? ⟨b, 2, none⟩ = some (.string s.d) := Lib.cell_of_heap h.hb 2
theorem Qb.c3 {Y : TypeId} {w : World} {b : Nat} {u v : Value} {s : SS} (h : Qb Y w b u v s) : w.cell? ⟨b, 3, none⟩ = some (u) := Lib.cell_of_heap h.hb 3
theorem Qb.c4 {Y : TypeId} {w : World} {b : Nat} {u v : Value} {s : SS} (h : Qb Y w b u v s) : w.cell? ⟨b, 4, none⟩ = some (v) := Lib.cell_of_heap h.hb 4
theorem Qb.c5 {Y : TypeId} {w : World} {b : Nat} {u v : Value} {s : SS} (h : Qb Y w b u v s) : w.cell? ⟨b, 5, none⟩ = some (.bool s.fin) := Lib.cell_of_heap h.hb 5
theorem Qb.c6 {Y : TypeId} {w : World} {b : Nat} {u v : Value} {s : SS} (h : Qb Y w b u v s) : w.cell? ⟨b, 6, none⟩ = some (.bool s.ft) := Lib.cell_of_heap h.hb 6
theorem Qb.c7 {Y : TypeId} {w : World} {b : Nat} {u v : Value} {s : SS} (h : Qb Y w b u v s) : w.cell? ⟨b, 7, none⟩ = some (.bool s.fa) := Lib.cell_of_heap h.hb 7
theorem Qb.fz {Y : TypeId} {w : World} {b : Nat} {u v : Value} {s : SS} (h : Qb Y w b u v s) (j : Nat) : w.frozen? ⟨b, j, none⟩ = false := Lib.frozen_of_heap h.hb j
theorem Qb.go {Y : TypeId} {w : World} {b : Nat} {u v : Value} {s : SS} (h : Qb Y w b u v s) {w2 : World} (hb : Below w.heap.size w w2) : Qb Y w2 b u v s := ⟨(hb.block b h.lt).trans h.hb, h.ra.go hb, h.rt.go hb, h.oa, h.ot⟩
theorem Qb.other {Y : TypeId} {w : World} {b : Nat} {u v : Value} {s : SS} (h : Qb Y w b u v s) {g k : Nat} (hg : b ≠ g) (ha : ¬ Blk u g) (ht : ¬ Blk v g) (x : Value) : Qb Y (w.setCell ⟨g, k, none⟩ x) b u v s := ⟨(Below.heap_setCell w ⟨g, k, none⟩ x b hg).trans h.hb, rd_set h.ra ha x, rd_set h.rt ht x, h.oa, h.ot⟩
theorem Qb.s0 {Y : TypeId} {w : World} {b : Nat} {u v : Value} {s : SS} (h : Qb Y w b u v s) (x : Int) : Qb Y (w.setCell ⟨b, 0, none⟩ (.int .u64 x)) b u v { s with ba := x } := ⟨Joins.block_setCell (i := 0) h.hb _, rd_set h.ra h.oa _, rd_set h.rt h.ot _, h.oa, h.ot⟩
theorem Qb.s1 {Y : TypeId} {w : World} {b : Nat} {u v : Value} {s : SS} (h : Qb Y w b u v s) (x : Int) : Qb Y (w.setCell ⟨b, 1, none⟩ (.int .u64 x)) b u v { s with tp := x } := ⟨Joins.block_setCell (i := 1) h.hb _, rd_set h.ra h.oa _, rd_set h.rt h.ot _, h.oa, h.ot⟩
theorem Qb.s2 {Y : TypeId} {w : World} {b : Nat} {u v : Value} {s : SS} (h : Qb Y w b u v s) (x : ByteArray) : Qb Y (w.setCell ⟨b, 2, none⟩ (.string x)) b u v { s with d := x } := ⟨Joins.block_setCell (i := 2) h.hb _, rd_set h.ra h.oa _, rd_set h.rt h.ot _, h.oa, h.ot⟩
theorem Qb.s5 {Y : TypeId} {w : World} {b : Nat} {u v : Value} {s : SS} (h : Qb Y w b u v s) (x : Bool) : Qb Y (w.setCell ⟨b, 5, none⟩ (.bool x)) b u v { s with fin := x } := ⟨Joins.block_setCell (i := 5) h.hb _, rd_set h.ra h.oa _, rd_set h.rt h.ot _, h.oa, h.ot⟩
theorem Qb.s6 {Y : TypeId} {w : World} {b : Nat} {u v : Value} {s : SS} (h : Qb Y w b u v s) (x : Bool) : Qb Y (w.setCell ⟨b, 6, none⟩ (.bool x)) b u v { s with ft := x } := ⟨Joins.block_setCell (i := 6) h.hb _, rd_set h.ra h.oa _, rd_set h.rt h.ot _, h.oa, h.ot⟩
theorem Qb.s7 {Y : TypeId} {w : World} {b : Nat} {u v : Value} {s : SS} (h : Qb Y w b u v s) (x : Bool) : Qb Y (w.setCell ⟨b, 7, none⟩ (.bool x)) b u v { s with fa := x } := ⟨Joins.block_setCell (i := 7) h.hb _, rd_set h.ra h.oa _, rd_set h.rt h.ot _, h.oa, h.ot⟩
theorem Qb.s3 {Y : TypeId} {w : World} {b : Nat} {u v : Value} {s : SS} (h : Qb Y w b u v s) {x : Value} {l : List Ran} (hr : Rd w x l) (ho : ¬ Blk x b) : Qb Y (w.setCell ⟨b, 3, none⟩ x) b x v { s with ak := l } := ⟨Joins.block_setCell (i := 3) h.hb x, rd_set hr ho x, rd_set h.rt h.ot x, ho, h.ot⟩
theorem Qb.s4 {Y : TypeId} {w : World} {b : Nat} {u v : Value} {s : SS} (h : Qb Y w b u v s) {x : Value} {l : List Ran} (hr : Rd w x l) (ho : ¬ Blk x b) : Qb Y (w.setCell ⟨b, 4, none⟩ x) b u x { s with td := l } := ⟨Joins.block_setCell (i := 4) h.hb x, rd_set h.ra h.oa x, rd_set hr ho x, h.oa, ho⟩
theorem qb_made (Y : TypeId) (w : World) (u v : Value) (s : SS) (ha : Rd w u s.ak) (ht : Rd w v s.td) : Qb Y (w.alloc (.cells #[.int .u64 s.ba, .int .u64 s.tp, .string s.d, u, v, .bool s.fin, .bool s.ft, .bool s.fa] Y)) w.heap.size u v s :=
  ⟨heap_alloc_new w _, ha.go ((Below.refl _ _).alloc (Nat.le_refl _) _), ht.go ((Below.refl _ _).alloc (Nat.le_refl _) _), fun h => by have := ha.blk h; omega, fun h => by have := ht.blk h; omega⟩
/-- A state in a block of a call, and what is beneath is as it was. -/
structure QR (w W : World) (u v : Value) (s : SS) : Prop where
  q : Qb 30 W w.heap.size u v s
  bl : Below w.heap.size w W
theorem QR.go {w W W' : World} {u v : Value} {s : SS} (h : QR w W u v s) (hb : Below W.heap.size W W') : QR w W' u v s := ⟨h.q.go hb, nextG h.bl hb⟩
theorem QR.al {w W : World} {u v : Value} {s : SS} (h : QR w W u v s) (o : Obj) : QR w (W.alloc o) u v s := h.go ((Below.refl _ _).alloc (Nat.le_refl _) o)
theorem QR.dr {w W : World} {u v : Value} {s : SS} (h : QR w W u v s) : QR w W.drew u v s := h.go (Below.refl _ _).drew
theorem qr_made (w : World) (u v : Value) (s : SS) (ha : Rd w u s.ak) (ht : Rd w v s.td) : QR w (w.alloc (.cells #[.int .u64 s.ba, .int .u64 s.tp, .string s.d, u, v, .bool s.fin, .bool s.ft, .bool s.fa] 30)) u v s := ⟨qb_made _ w u v s ha ht, (Below.refl _ _).alloc (Nat.le_refl _) _⟩

set_option maxHeartbeats 1000000 in
theorem behind_any (off n R : Int) (w : World) (h0 : 0 ≤ off) (h1 : off + max n 0 < 18446744073709551616) (hR : off + max n 0 = R) :
    Calls Tryz.prog 147 #[.int .u64 off, .int .i64 n] w fun e w' => e = .returned (.int .u64 R) ∧ w' = w := by
  by_cases hn : 0 ≤ n
  · have m1 : max n 0 = n := by omega
    rw [m1] at h1 hR
    have v1 : IntKind.u64.wrap n = n := IntWalk.u64_in _ (by omega)
    have v2 : IntKind.u64.wrap (off + n) = R := by rw [hR]; exact IntWalk.u64_in _ (by omega)
    clear hR h1
    replace hn := Lib.hid hn
    go_enter Tryz.func147, Tryz.ntmps147
    go_wp2
    go_ret
    exact ⟨rfl, rfl⟩
  · have m1 : max n 0 = 0 := by omega
    rw [m1] at h1 hR
    have v2 : IntKind.u64.wrap off = R := by rw [← hR, Int.add_zero]; exact IntWalk.u64_in _ (by omega)
    clear hR h1
    replace hn := Lib.hid hn
    go_enter Tryz.func147, Tryz.ntmps147
    go_wp2
    go_ret
    exact ⟨rfl, rfl⟩
set_option maxHeartbeats 1000000 in
theorem span_any (a b : Int) (w : World) (h0 : 0 ≤ a) (h1 : b < 9223372036854775808) :
    Calls Tryz.prog 150 #[.int .u64 a, .int .u64 b] w fun e w' => e = .returned (.agg #[.int .u64 (spn a b).1, .int .u64 (spn a b).2]) ∧ Below w.heap.size w w' := by
  unfold spn
  by_cases h : b ≤ a
  · have d1 : decide (b ≤ a) = true := decide_eq_true h
    rw [if_pos h]
    replace h := Lib.hid h
    go_enter Tryz.func150, Tryz.ntmps150
    go_wp2
    exact bodyPost_ret (v := .agg #[.int .u64 1, .int .u64 0]) (by simp [results, Tryz.results150, go_sem]) rfl ⟨rfl, (Below.refl _ _).alloc (Nat.le_refl _) _⟩
  · have d1 : decide (b ≤ a) = false := decide_eq_false h
    have v1 : IntKind.u64.wrap (b - 1) = b - 1 := IntWalk.u64_in _ (by omega)
    rw [if_neg h]
    replace h := Lib.hid h
    go_enter Tryz.func150, Tryz.ntmps150
    go_wp2
    exact bodyPost_ret (v := .agg #[.int .u64 a, .int .u64 (b - 1)]) (by simp [results, Tryz.results150, go_sem]) rfl ⟨rfl, (Below.refl _ _).alloc (Nat.le_refl _) _⟩
set_option maxHeartbeats 1000000 in
theorem endq_any (s : SS) (u v : Value) (w : World) (h0 : 0 ≤ s.ba) (h1 : en s ≤ 1000000) :
    Calls Tryz.prog 114 #[.agg #[.int .u64 s.ba, .int .u64 s.tp, .string s.d, u, v, .bool s.fin, .bool s.ft, .bool s.fa]] w fun e w' => e = .returned (.int .u64 (en s)) ∧ Below w.heap.size w w' := by
  obtain ⟨ba, tp, d, ak, td, fin, ft, fa⟩ := s
  unfold en at h1 ⊢
  simp only at h0 h1 ⊢
  have CB := Lib.hid (fun W => behind_any ba (d.size : Int) (ba + (d.size : Int)) W h0 (by omega) (by omega))
  clear h0 h1
  go_enter Tryz.func114, Tryz.ntmps114
  go_wp2_with fail
  refine (CB.out _).mono ?_
  rintro e w1 ⟨rfl, rfl⟩
  go_wp2_with fail
  go_ret
  exact ⟨rfl, (Below.refl _ _).alloc (Nat.le_refl _) _⟩
set_option maxHeartbeats 2000000 in
theorem reached_any (s : SS) (u v : Value) (off n : Int) (w : World) (h0 : 0 ≤ s.ba) (h1 : en s ≤ 1000000) (ha : Rd w u s.ak) (ht : Rd w v s.td) (h2 : 0 ≤ off) (h3 : off + max n 0 < 18446744073709551616) :
    Calls Tryz.prog 151 #[.agg #[.int .u64 s.ba, .int .u64 s.tp, .string s.d, u, v, .bool s.fin, .bool s.ft, .bool s.fa], .int .u64 off, .int .i64 n] w fun e w' => e = .returned (.int .u64 (min (off + max n 0) (en s))) ∧ Below w.heap.size w w' := by
  have CE := Lib.hid (fun W => endq_any s u v W h0 h1)
  have CB := Lib.hid (fun W => behind_any off n (off + max n 0) W h2 h3 rfl)
  have HS0 := Lib.hid (qr_made w u v s ha ht).dr
  obtain ⟨ba, tp, d, ak, td, fin, ft, fa⟩ := s
  generalize en ⟨ba, tp, d, ak, td, fin, ft, fa⟩ = E at *
  generalize off + max n 0 = F at *
  simp only at CE HS0 ⊢
  clear h0 h1 h2 h3 ha ht
  obtain ⟨M, hM⟩ : ∃ x, min F E = x := ⟨_, rfl⟩
  have hmr := min_run F E M hM
  rw [hM]
  replace hM := Lib.hid hM
  go_enter Tryz.func151, Tryz.ntmps151
  go_wp2_with fail
  refine wp_region_noPanic ?_
  refine wp_region_held_drew (S := fun W : World => QR w W u v ⟨ba, tp, d, ak, td, fin, ft, fa⟩) (by kernel_rfl) ?_ (fun hHeld => ?_)
  · exact HS0.out
  refine wpAnyH_take (i := 0) (v := ?_) rfl (by kernel_rfl) (by kernel_rfl) (by kernel_rfl) (fun _ _ _ h => h) (Or.inl ⟨by rfl, ?_⟩) (by assumption) ?_
  rotate_left
  · (intro w hSw; (have c0 := hSw.q.c0; have c1 := hSw.q.c1; have c2 := hSw.q.c2; have c3 := hSw.q.c3; have c4 := hSw.q.c4; have c5 := hSw.q.c5; have c6 := hSw.q.c6; have c7 := hSw.q.c7; simp only at c0 c1 c2 c5 c6 c7); go_simp; (try with_reducible rfl))
  try simp only [Act.put, List.getElem_toArray, List.getElem_cons_zero, List.getElem_cons_succ, List.setIfInBounds_toArray, List.set_cons_zero, List.set_cons_succ]
  refine wpAnyH_take (i := 1) (v := ?_) rfl (by kernel_rfl) (by kernel_rfl) (by kernel_rfl) (fun _ _ _ h => h) (Or.inl ⟨by rfl, ?_⟩) (by assumption) ?_
  rotate_left
  · (intro w hSw; (have c0 := hSw.q.c0; have c1 := hSw.q.c1; have c2 := hSw.q.c2; have c3 := hSw.q.c3; have c4 := hSw.q.c4; have c5 := hSw.q.c5; have c6 := hSw.q.c6; have c7 := hSw.q.c7; simp only at c0 c1 c2 c5 c6 c7); go_simp; (try with_reducible rfl))
  try simp only [Act.put, List.getElem_toArray, List.getElem_cons_zero, List.getElem_cons_succ, List.setIfInBounds_toArray, List.set_cons_zero, List.set_cons_succ]
  refine wpAnyH_take (i := 3) (v := ?_) rfl (by kernel_rfl) (by kernel_rfl) (by kernel_rfl) (fun _ _ _ h => h) (Or.inl ⟨by rfl, ?_⟩) (by assumption) ?_
  rotate_left
  · (intro w hSw; (have c0 := hSw.q.c0; have c1 := hSw.q.c1; have c2 := hSw.q.c2; have c3 := hSw.q.c3; have c4 := hSw.q.c4; have c5 := hSw.q.c5; have c6 := hSw.q.c6; have c7 := hSw.q.c7; simp only at c0 c1 c2 c5 c6 c7); go_simp; (try with_reducible rfl))
  try simp only [Act.put, List.getElem_toArray, List.getElem_cons_zero, List.getElem_cons_succ, List.setIfInBounds_toArray, List.set_cons_zero, List.set_cons_succ]
  refine wpAnyH_ready (rs := [2]) (by kernel_rfl) (by simp) ?_
  refine AllReadyH.cons rfl (fun K hK => ?_) AllReadyH.nil
  rw [if_pos (by rfl)]
  go_simp
  refine (CB.out _).mono ?_
  rintro e wx1 ⟨rfl, rfl⟩
  have HX1 := HS0
  refine hK.out _ _ ?_ (fun hHeld => ?_)
  · exact HX1.out
  clear hK K
  try simp only [Act.put, List.getElem_toArray, List.getElem_cons_zero, List.getElem_cons_succ, List.setIfInBounds_toArray, List.set_cons_zero, List.set_cons_succ]
  refine wpAnyH_ready (rs := [4]) (by kernel_rfl) (by simp) ?_
  refine AllReadyH.cons rfl (fun K hK => ?_) AllReadyH.nil
  rw [if_pos (by rfl)]
  go_simp
  refine (CE.out _).mono ?_
  rintro e wx2 ⟨rfl, hb⟩
  have HX2 := Lib.hid (HX1.out.go hb)
  clear hb
  refine hK.out _ _ ?_ (fun hHeld => ?_)
  · exact HX2.out
  clear hK K
  try simp only [Act.put, List.getElem_toArray, List.getElem_cons_zero, List.getElem_cons_succ, List.setIfInBounds_toArray, List.set_cons_zero, List.set_cons_succ]
  refine wpAnyH_take (i := 5) (v := ?_) rfl (by kernel_rfl) (by kernel_rfl) (by kernel_rfl) (fun _ _ _ h => h) (Or.inl ⟨by rfl, ?_⟩) (by assumption) ?_
  rotate_left
  · (intro w hSw; (have c0 := hSw.q.c0; have c1 := hSw.q.c1; have c2 := hSw.q.c2; have c3 := hSw.q.c3; have c4 := hSw.q.c4; have c5 := hSw.q.c5; have c6 := hSw.q.c6; have c7 := hSw.q.c7; simp only at c0 c1 c2 c5 c6 c7); go_simp; (try with_reducible rfl))
  try simp only [Act.put, List.getElem_toArray, List.getElem_cons_zero, List.getElem_cons_succ, List.setIfInBounds_toArray, List.set_cons_zero, List.set_cons_succ]
  refine wpAnyH_take (i := 6) (v := ?_) rfl (by kernel_rfl) (by kernel_rfl) (by kernel_rfl) (fun _ _ _ h => h) (Or.inl ⟨by rfl, ?_⟩) (by assumption) ?_
  rotate_left
  · (intro w hSw; (have c0 := hSw.q.c0; have c1 := hSw.q.c1; have c2 := hSw.q.c2; have c3 := hSw.q.c3; have c4 := hSw.q.c4; have c5 := hSw.q.c5; have c6 := hSw.q.c6; have c7 := hSw.q.c7; simp only at c0 c1 c2 c5 c6 c7); go_simp; (try with_reducible rfl))
  try simp only [Act.put, List.getElem_toArray, List.getElem_cons_zero, List.getElem_cons_succ, List.setIfInBounds_toArray, List.set_cons_zero, List.set_cons_succ]
  refine wpAnyH_done (by kernel_rfl) (NoPanic.normal ?_) _
  go_wp2_with fail
  go_ret
  exact ⟨rfl, hHeld.bl⟩
end Go.Proofs.YtoblmhpjendbfaaGreatDoor.Rg
