/- Layer 6: FmDs, FmDt, FmDu, FmDv, joined by tools/pack.py. -/
import Derived.Test.YtfeecfdbncjmnaaDoorFzB
import Derived.Deep.QuietTactic
import Derived.BigQuiet
namespace Go.Proofs.YtfeecfdbncjmnaaDoor.Fm
set_option maxRecDepth 20000
open Go.RowKit Vm
set_option linter.unusedVariables false
set_option linter.unusedSimpArgs false
section
set_option maxHeartbeats 4000000 in
theorem rsame_any (v1 v2 : Value) (l1 l2 : List Ran) (w : World) (h1 : Rd w v1 l1) (h2 : Rd w v2 l2) (hl1 : l1.length ≤ 1000) (hl2 : l2.length ≤ 1000) :
    Calls Tryd.prog 24 #[v1, v2] w fun e w' => e = .returned (.bool (decide (l1 = l2))) ∧ Below w.heap.size w w' := by
  obtain ⟨a1, cap1, rfl, hcap1, hrow1⟩ := h1
  obtain ⟨a2, cap2, rfl, hcap2, hrow2⟩ := h2
  obtain ⟨n, hn⟩ : ∃ n, l1.length = n := ⟨_, rfl⟩
  obtain ⟨m, hm⟩ : ∃ m, l2.length = m := ⟨_, rfl⟩
  have hni : (n : Int) ≤ 1000 := by omega
  rw [hn, hm]
  by_cases hnm : n = m
  · subst hnm
    have HR1 : Hid (∀ k, k < n → ∃ b off, a1 = some ⟨b, off, none⟩ ∧ b < w.heap.size ∧ w.cell? ⟨b, off + k * 2, none⟩ = some (.int .u64 (l1.getD k (0, 0)).1) ∧ w.cell? ⟨b, off + k * 2 + 1, none⟩ = some (.int .u64 (l1.getD k (0, 0)).2)) := Lib.hid (fun k hk => by
      obtain ⟨b, off, ha, hc⟩ := hrow1 (by intro e; rw [e] at hn; simp at hn; omega)
      obtain ⟨c1, c2⟩ := hc k (by omega)
      exact ⟨b, off, ha, World.block_lt_of_cell? _ _ c1, c1, c2⟩)
    have HR2 : Hid (∀ k, k < n → ∃ b off, a2 = some ⟨b, off, none⟩ ∧ b < w.heap.size ∧ w.cell? ⟨b, off + k * 2, none⟩ = some (.int .u64 (l2.getD k (0, 0)).1) ∧ w.cell? ⟨b, off + k * 2 + 1, none⟩ = some (.int .u64 (l2.getD k (0, 0)).2)) := Lib.hid (fun k hk => by
      obtain ⟨b, off, ha, hc⟩ := hrow2 (by intro e; rw [e] at hm; simp at hm; omega)
      obtain ⟨c1, c2⟩ := hc k (by omega)
      exact ⟨b, off, ha, World.block_lt_of_cell? _ _ c1, c1, c2⟩)
    have HN1 := Lib.hid hn
    have HN2 := Lib.hid hm
    have HD : Hid (∀ k, k < n → l1.getD k (0, 0) ≠ l2.getD k (0, 0) → decide (l1 = l2) = false) := Lib.hid (fun k _ h => decide_eq_false (fun e => h (by rw [e])))
    have HE : Hid (l1.take n = l2.take n → decide (l1 = l2) = true) := Lib.hid (fun h => decide_eq_true (by rwa [List.take_of_length_le (by omega), List.take_of_length_le (by omega)] at h))
    have HS : Hid (∀ k, k < n → l1.take k = l2.take k → l1.getD k (0, 0) = l2.getD k (0, 0) → l1.take (k + 1) = l2.take (k + 1)) := Lib.hid (fun k hk h he => take_eq_succ h (by omega) (by omega) he)
    clear hrow1 hrow2 hn hm hcap1 hcap2 hl1 hl2
    generalize decide (l1 = l2) = R at *
    go_enter Tryd.func24, Tryd.ntmps24
    go_wp2
    go_loopw [5] (fun iv wr => ∃ k : Nat, k ≤ n ∧ iv = .int .i64 (k : Nat) ∧ l1.take k = l2.take k ∧ Below w.heap.size w wr) (fun iv _ => n - (intOf iv).toNat)
    case atStart => exact ⟨0, Nat.zero_le _, rfl, rfl, Below.refl _ _⟩
    case round =>
      obtain ⟨k, hk, rfl, hpre, hb⟩ := hrel
      have HP := Lib.hid hpre
      have HB := Lib.hid hb
      have hk1 : (k : Int) ≤ (n : Int) := by omega
      have hk0 : (0 : Int) ≤ (k : Int) := by omega
      by_cases hkn : (k : Int) < (n : Int)
      · have hkn2 : k < n := by omega
        obtain ⟨b1, o1, rfl, g1, c1, c2⟩ := HR1.out k hkn2
        obtain ⟨b2, o2, rfl, g2, c3, c4⟩ := HR2.out k hkn2
        have c1 := cell_below hb c1 g1
        have c2 := cell_below hb c2 g1
        have c3 := cell_below hb c3 g2
        have c4 := cell_below hb c4 g2
        have HD2 := Lib.hid (HD.out k hkn2)
        have HS2 := Lib.hid (HS.out k hkn2 hpre)
        clear hpre hb HR1 HR2 HE HD HS
        obtain ⟨⟨x1, x2⟩, hx⟩ : ∃ x, l1.getD k (0, 0) = x := ⟨_, rfl⟩
        obtain ⟨⟨y1, y2⟩, hy⟩ : ∃ x, l2.getD k (0, 0) = x := ⟨_, rfl⟩
        rw [hx] at c1 c2
        rw [hy] at c3 c4
        rw [hx, hy] at HD2 HS2
        clear hx hy
        simp only at c1 c2 c3 c4
        have hmeas : k ≤ 1000 := by omega
        cases e1 : (x1 == y1) with
        | true =>
          cases e2 : (x2 == y2) with
          | true =>
            go_wp2_with fail
            go_quiet (fail)
            go_wp2
            go_roundw
            case rel => exact ⟨k + 1, by omega, rfl, HS2.out (by rw [eq_of_beq e1, eq_of_beq e2]), drewN_below HB.out _⟩
            case measure => simp [intOf]; omega
          | false =>
            go_wp2_with fail
            go_quiet (fail)
            go_wp2
            go_ret
            exact ⟨by rw [HD2.out (by intro h; injection h with h1 h2; rw [h2] at e2; simp at e2)]; rfl, drewN_below HB.out _⟩
        | false =>
          go_wp2_with fail
          go_quiet (fail)
          go_wp2
          go_ret
          exact ⟨by rw [HD2.out (by intro h; injection h with h1 h2; rw [h1] at e1; simp at e1)]; rfl, drewN_below HB.out _⟩
      · have hkn3 : k = n := by omega
        subst hkn3
        have HE2 := Lib.hid (HE.out hpre)
        clear hpre hb
        go_wp2
        go_ret
        exact ⟨by rw [HE2.out]; rfl, HB.out⟩
  · have hnm1 : ((n : Int) == (m : Int)) = false := by simp; omega
    have HD : Hid (decide (l1 = l2) = false) := Lib.hid (decide_eq_false (fun e => hnm (by rw [← hn, ← hm, e])))
    generalize decide (l1 = l2) = R at *
    clear hrow1 hrow2 hn hm hnm
    go_enter Tryd.func24, Tryd.ntmps24
    go_wp2
    go_ret
    exact ⟨by rw [HD.out]; rfl, Below.refl _ _⟩
end
section
set_option maxHeartbeats 4000000 in
theorem dsame_0 (f g : Frm) (l m : List Ran) (w : World) (hl : l.length ≤ 1000) (hm : m.length ≤ 1000) (hf : Rd w (.slice f.set.a f.set.n f.set.c) l) (hg : Rd w (.slice g.set.a g.set.n g.set.c) m) (h_kind : (f.kind == g.kind) = false) :
    Calls Tryd.prog 10 #[.agg #[.int .u64 f.kind, .int .u64 f.id, .int .u64 f.off, .int .u64 f.max, .int .u64 f.code, .int .u64 f.seq, .int .u64 f.prior, .int .u64 f.delay, .bool f.fin, .string ⟨f.data.toArray⟩, .string ⟨f.cid.toArray⟩, .string ⟨f.token.toArray⟩, .slice f.set.a f.set.n f.set.c], .agg #[.int .u64 g.kind, .int .u64 g.id, .int .u64 g.off, .int .u64 g.max, .int .u64 g.code, .int .u64 g.seq, .int .u64 g.prior, .int .u64 g.delay, .bool g.fin, .string ⟨g.data.toArray⟩, .string ⟨g.cid.toArray⟩, .string ⟨g.token.toArray⟩, .slice g.set.a g.set.n g.set.c]] w fun e w' => e = .returned (.bool (sameF f g l m)) ∧ Below w.heap.size w w' := by
  have HB0 : Hid (Below w.heap.size w ((w.alloc (.cells #[.int .u64 f.kind, .int .u64 f.id, .int .u64 f.off, .int .u64 f.max, .int .u64 f.code, .int .u64 f.seq, .int .u64 f.prior, .int .u64 f.delay, .bool f.fin, .string ⟨f.data.toArray⟩, .string ⟨f.cid.toArray⟩, .string ⟨f.token.toArray⟩, .slice f.set.a f.set.n f.set.c] 34 (0, 0))).alloc (.cells #[.int .u64 g.kind, .int .u64 g.id, .int .u64 g.off, .int .u64 g.max, .int .u64 g.code, .int .u64 g.seq, .int .u64 g.prior, .int .u64 g.delay, .bool g.fin, .string ⟨g.data.toArray⟩, .string ⟨g.cid.toArray⟩, .string ⟨g.token.toArray⟩, .slice g.set.a g.set.n g.set.c] 34 (0, 0)))) := Lib.hid (((Below.refl _ _).alloc (Nat.le_refl _) _).alloc (by simp) _)
  have HS : Hid (sameF f g l m = false) := Lib.hid (by unfold sameF numE txtE; simp [h_kind])
  clear hf hg hl hm
  go_enter Tryd.func10, Tryd.ntmps10
  go_wp2
  go_ret
  exact ⟨by rw [HS.out]; rfl, HB0.out⟩
set_option maxHeartbeats 4000000 in
theorem dsame_1 (f g : Frm) (l m : List Ran) (w : World) (hl : l.length ≤ 1000) (hm : m.length ≤ 1000) (hf : Rd w (.slice f.set.a f.set.n f.set.c) l) (hg : Rd w (.slice g.set.a g.set.n g.set.c) m) (h_kind : (f.kind == g.kind) = true) (h_id : (f.id == g.id) = false) :
    Calls Tryd.prog 10 #[.agg #[.int .u64 f.kind, .int .u64 f.id, .int .u64 f.off, .int .u64 f.max, .int .u64 f.code, .int .u64 f.seq, .int .u64 f.prior, .int .u64 f.delay, .bool f.fin, .string ⟨f.data.toArray⟩, .string ⟨f.cid.toArray⟩, .string ⟨f.token.toArray⟩, .slice f.set.a f.set.n f.set.c], .agg #[.int .u64 g.kind, .int .u64 g.id, .int .u64 g.off, .int .u64 g.max, .int .u64 g.code, .int .u64 g.seq, .int .u64 g.prior, .int .u64 g.delay, .bool g.fin, .string ⟨g.data.toArray⟩, .string ⟨g.cid.toArray⟩, .string ⟨g.token.toArray⟩, .slice g.set.a g.set.n g.set.c]] w fun e w' => e = .returned (.bool (sameF f g l m)) ∧ Below w.heap.size w w' := by
  have HB0 : Hid (Below w.heap.size w ((w.alloc (.cells #[.int .u64 f.kind, .int .u64 f.id, .int .u64 f.off, .int .u64 f.max, .int .u64 f.code, .int .u64 f.seq, .int .u64 f.prior, .int .u64 f.delay, .bool f.fin, .string ⟨f.data.toArray⟩, .string ⟨f.cid.toArray⟩, .string ⟨f.token.toArray⟩, .slice f.set.a f.set.n f.set.c] 34 (0, 0))).alloc (.cells #[.int .u64 g.kind, .int .u64 g.id, .int .u64 g.off, .int .u64 g.max, .int .u64 g.code, .int .u64 g.seq, .int .u64 g.prior, .int .u64 g.delay, .bool g.fin, .string ⟨g.data.toArray⟩, .string ⟨g.cid.toArray⟩, .string ⟨g.token.toArray⟩, .slice g.set.a g.set.n g.set.c] 34 (0, 0)))) := Lib.hid (((Below.refl _ _).alloc (Nat.le_refl _) _).alloc (by simp) _)
  have HS : Hid (sameF f g l m = false) := Lib.hid (by unfold sameF numE txtE; simp [h_kind, h_id])
  clear hf hg hl hm
  go_enter Tryd.func10, Tryd.ntmps10
  go_wp2
  go_ret
  exact ⟨by rw [HS.out]; rfl, HB0.out⟩
set_option maxHeartbeats 4000000 in
theorem dsame_2 (f g : Frm) (l m : List Ran) (w : World) (hl : l.length ≤ 1000) (hm : m.length ≤ 1000) (hf : Rd w (.slice f.set.a f.set.n f.set.c) l) (hg : Rd w (.slice g.set.a g.set.n g.set.c) m) (h_kind : (f.kind == g.kind) = true) (h_id : (f.id == g.id) = true) (h_off : (f.off == g.off) = false) :
    Calls Tryd.prog 10 #[.agg #[.int .u64 f.kind, .int .u64 f.id, .int .u64 f.off, .int .u64 f.max, .int .u64 f.code, .int .u64 f.seq, .int .u64 f.prior, .int .u64 f.delay, .bool f.fin, .string ⟨f.data.toArray⟩, .string ⟨f.cid.toArray⟩, .string ⟨f.token.toArray⟩, .slice f.set.a f.set.n f.set.c], .agg #[.int .u64 g.kind, .int .u64 g.id, .int .u64 g.off, .int .u64 g.max, .int .u64 g.code, .int .u64 g.seq, .int .u64 g.prior, .int .u64 g.delay, .bool g.fin, .string ⟨g.data.toArray⟩, .string ⟨g.cid.toArray⟩, .string ⟨g.token.toArray⟩, .slice g.set.a g.set.n g.set.c]] w fun e w' => e = .returned (.bool (sameF f g l m)) ∧ Below w.heap.size w w' := by
  have HB0 : Hid (Below w.heap.size w ((w.alloc (.cells #[.int .u64 f.kind, .int .u64 f.id, .int .u64 f.off, .int .u64 f.max, .int .u64 f.code, .int .u64 f.seq, .int .u64 f.prior, .int .u64 f.delay, .bool f.fin, .string ⟨f.data.toArray⟩, .string ⟨f.cid.toArray⟩, .string ⟨f.token.toArray⟩, .slice f.set.a f.set.n f.set.c] 34 (0, 0))).alloc (.cells #[.int .u64 g.kind, .int .u64 g.id, .int .u64 g.off, .int .u64 g.max, .int .u64 g.code, .int .u64 g.seq, .int .u64 g.prior, .int .u64 g.delay, .bool g.fin, .string ⟨g.data.toArray⟩, .string ⟨g.cid.toArray⟩, .string ⟨g.token.toArray⟩, .slice g.set.a g.set.n g.set.c] 34 (0, 0)))) := Lib.hid (((Below.refl _ _).alloc (Nat.le_refl _) _).alloc (by simp) _)
  have HS : Hid (sameF f g l m = false) := Lib.hid (by unfold sameF numE txtE; simp [h_kind, h_id, h_off])
  clear hf hg hl hm
  go_enter Tryd.func10, Tryd.ntmps10
  go_wp2
  go_ret
  exact ⟨by rw [HS.out]; rfl, HB0.out⟩
set_option maxHeartbeats 4000000 in
theorem dsame_3 (f g : Frm) (l m : List Ran) (w : World) (hl : l.length ≤ 1000) (hm : m.length ≤ 1000) (hf : Rd w (.slice f.set.a f.set.n f.set.c) l) (hg : Rd w (.slice g.set.a g.set.n g.set.c) m) (h_kind : (f.kind == g.kind) = true) (h_id : (f.id == g.id) = true) (h_off : (f.off == g.off) = true) (h_max : (f.max == g.max) = false) :
    Calls Tryd.prog 10 #[.agg #[.int .u64 f.kind, .int .u64 f.id, .int .u64 f.off, .int .u64 f.max, .int .u64 f.code, .int .u64 f.seq, .int .u64 f.prior, .int .u64 f.delay, .bool f.fin, .string ⟨f.data.toArray⟩, .string ⟨f.cid.toArray⟩, .string ⟨f.token.toArray⟩, .slice f.set.a f.set.n f.set.c], .agg #[.int .u64 g.kind, .int .u64 g.id, .int .u64 g.off, .int .u64 g.max, .int .u64 g.code, .int .u64 g.seq, .int .u64 g.prior, .int .u64 g.delay, .bool g.fin, .string ⟨g.data.toArray⟩, .string ⟨g.cid.toArray⟩, .string ⟨g.token.toArray⟩, .slice g.set.a g.set.n g.set.c]] w fun e w' => e = .returned (.bool (sameF f g l m)) ∧ Below w.heap.size w w' := by
  have HB0 : Hid (Below w.heap.size w ((w.alloc (.cells #[.int .u64 f.kind, .int .u64 f.id, .int .u64 f.off, .int .u64 f.max, .int .u64 f.code, .int .u64 f.seq, .int .u64 f.prior, .int .u64 f.delay, .bool f.fin, .string ⟨f.data.toArray⟩, .string ⟨f.cid.toArray⟩, .string ⟨f.token.toArray⟩, .slice f.set.a f.set.n f.set.c] 34 (0, 0))).alloc (.cells #[.int .u64 g.kind, .int .u64 g.id, .int .u64 g.off, .int .u64 g.max, .int .u64 g.code, .int .u64 g.seq, .int .u64 g.prior, .int .u64 g.delay, .bool g.fin, .string ⟨g.data.toArray⟩, .string ⟨g.cid.toArray⟩, .string ⟨g.token.toArray⟩, .slice g.set.a g.set.n g.set.c] 34 (0, 0)))) := Lib.hid (((Below.refl _ _).alloc (Nat.le_refl _) _).alloc (by simp) _)
  have HS : Hid (sameF f g l m = false) := Lib.hid (by unfold sameF numE txtE; simp [h_kind, h_id, h_off, h_max])
  clear hf hg hl hm
  go_enter Tryd.func10, Tryd.ntmps10
  go_wp2
  go_ret
  exact ⟨by rw [HS.out]; rfl, HB0.out⟩
set_option maxHeartbeats 4000000 in
theorem dsame_4 (f g : Frm) (l m : List Ran) (w : World) (hl : l.length ≤ 1000) (hm : m.length ≤ 1000) (hf : Rd w (.slice f.set.a f.set.n f.set.c) l) (hg : Rd w (.slice g.set.a g.set.n g.set.c) m) (h_kind : (f.kind == g.kind) = true) (h_id : (f.id == g.id) = true) (h_off : (f.off == g.off) = true) (h_max : (f.max == g.max) = true) (h_code : (f.code == g.code) = false) :
    Calls Tryd.prog 10 #[.agg #[.int .u64 f.kind, .int .u64 f.id, .int .u64 f.off, .int .u64 f.max, .int .u64 f.code, .int .u64 f.seq, .int .u64 f.prior, .int .u64 f.delay, .bool f.fin, .string ⟨f.data.toArray⟩, .string ⟨f.cid.toArray⟩, .string ⟨f.token.toArray⟩, .slice f.set.a f.set.n f.set.c], .agg #[.int .u64 g.kind, .int .u64 g.id, .int .u64 g.off, .int .u64 g.max, .int .u64 g.code, .int .u64 g.seq, .int .u64 g.prior, .int .u64 g.delay, .bool g.fin, .string ⟨g.data.toArray⟩, .string ⟨g.cid.toArray⟩, .string ⟨g.token.toArray⟩, .slice g.set.a g.set.n g.set.c]] w fun e w' => e = .returned (.bool (sameF f g l m)) ∧ Below w.heap.size w w' := by
  have HB0 : Hid (Below w.heap.size w ((w.alloc (.cells #[.int .u64 f.kind, .int .u64 f.id, .int .u64 f.off, .int .u64 f.max, .int .u64 f.code, .int .u64 f.seq, .int .u64 f.prior, .int .u64 f.delay, .bool f.fin, .string ⟨f.data.toArray⟩, .string ⟨f.cid.toArray⟩, .string ⟨f.token.toArray⟩, .slice f.set.a f.set.n f.set.c] 34 (0, 0))).alloc (.cells #[.int .u64 g.kind, .int .u64 g.id, .int .u64 g.off, .int .u64 g.max, .int .u64 g.code, .int .u64 g.seq, .int .u64 g.prior, .int .u64 g.delay, .bool g.fin, .string ⟨g.data.toArray⟩, .string ⟨g.cid.toArray⟩, .string ⟨g.token.toArray⟩, .slice g.set.a g.set.n g.set.c] 34 (0, 0)))) := Lib.hid (((Below.refl _ _).alloc (Nat.le_refl _) _).alloc (by simp) _)
  have HS : Hid (sameF f g l m = false) := Lib.hid (by unfold sameF numE txtE; simp [h_kind, h_id, h_off, h_max, h_code])
  clear hf hg hl hm
  go_enter Tryd.func10, Tryd.ntmps10
  go_wp2
  go_ret
  exact ⟨by rw [HS.out]; rfl, HB0.out⟩
end
section
set_option maxHeartbeats 4000000 in
theorem dsame_5 (f g : Frm) (l m : List Ran) (w : World) (hl : l.length ≤ 1000) (hm : m.length ≤ 1000) (hf : Rd w (.slice f.set.a f.set.n f.set.c) l) (hg : Rd w (.slice g.set.a g.set.n g.set.c) m) (h_kind : (f.kind == g.kind) = true) (h_id : (f.id == g.id) = true) (h_off : (f.off == g.off) = true) (h_max : (f.max == g.max) = true) (h_code : (f.code == g.code) = true) (h_seq : (f.seq == g.seq) = false) :
    Calls Tryd.prog 10 #[.agg #[.int .u64 f.kind, .int .u64 f.id, .int .u64 f.off, .int .u64 f.max, .int .u64 f.code, .int .u64 f.seq, .int .u64 f.prior, .int .u64 f.delay, .bool f.fin, .string ⟨f.data.toArray⟩, .string ⟨f.cid.toArray⟩, .string ⟨f.token.toArray⟩, .slice f.set.a f.set.n f.set.c], .agg #[.int .u64 g.kind, .int .u64 g.id, .int .u64 g.off, .int .u64 g.max, .int .u64 g.code, .int .u64 g.seq, .int .u64 g.prior, .int .u64 g.delay, .bool g.fin, .string ⟨g.data.toArray⟩, .string ⟨g.cid.toArray⟩, .string ⟨g.token.toArray⟩, .slice g.set.a g.set.n g.set.c]] w fun e w' => e = .returned (.bool (sameF f g l m)) ∧ Below w.heap.size w w' := by
  have HB0 : Hid (Below w.heap.size w ((w.alloc (.cells #[.int .u64 f.kind, .int .u64 f.id, .int .u64 f.off, .int .u64 f.max, .int .u64 f.code, .int .u64 f.seq, .int .u64 f.prior, .int .u64 f.delay, .bool f.fin, .string ⟨f.data.toArray⟩, .string ⟨f.cid.toArray⟩, .string ⟨f.token.toArray⟩, .slice f.set.a f.set.n f.set.c] 34 (0, 0))).alloc (.cells #[.int .u64 g.kind, .int .u64 g.id, .int .u64 g.off, .int .u64 g.max, .int .u64 g.code, .int .u64 g.seq, .int .u64 g.prior, .int .u64 g.delay, .bool g.fin, .string ⟨g.data.toArray⟩, .string ⟨g.cid.toArray⟩, .string ⟨g.token.toArray⟩, .slice g.set.a g.set.n g.set.c] 34 (0, 0)))) := Lib.hid (((Below.refl _ _).alloc (Nat.le_refl _) _).alloc (by simp) _)
  have HS : Hid (sameF f g l m = false) := Lib.hid (by unfold sameF numE txtE; simp [h_kind, h_id, h_off, h_max, h_code, h_seq])
  clear hf hg hl hm
  go_enter Tryd.func10, Tryd.ntmps10
  go_wp2
  go_ret
  exact ⟨by rw [HS.out]; rfl, HB0.out⟩
set_option maxHeartbeats 4000000 in
theorem dsame_6 (f g : Frm) (l m : List Ran) (w : World) (hl : l.length ≤ 1000) (hm : m.length ≤ 1000) (hf : Rd w (.slice f.set.a f.set.n f.set.c) l) (hg : Rd w (.slice g.set.a g.set.n g.set.c) m) (h_kind : (f.kind == g.kind) = true) (h_id : (f.id == g.id) = true) (h_off : (f.off == g.off) = true) (h_max : (f.max == g.max) = true) (h_code : (f.code == g.code) = true) (h_seq : (f.seq == g.seq) = true) (h_prior : (f.prior == g.prior) = false) :
    Calls Tryd.prog 10 #[.agg #[.int .u64 f.kind, .int .u64 f.id, .int .u64 f.off, .int .u64 f.max, .int .u64 f.code, .int .u64 f.seq, .int .u64 f.prior, .int .u64 f.delay, .bool f.fin, .string ⟨f.data.toArray⟩, .string ⟨f.cid.toArray⟩, .string ⟨f.token.toArray⟩, .slice f.set.a f.set.n f.set.c], .agg #[.int .u64 g.kind, .int .u64 g.id, .int .u64 g.off, .int .u64 g.max, .int .u64 g.code, .int .u64 g.seq, .int .u64 g.prior, .int .u64 g.delay, .bool g.fin, .string ⟨g.data.toArray⟩, .string ⟨g.cid.toArray⟩, .string ⟨g.token.toArray⟩, .slice g.set.a g.set.n g.set.c]] w fun e w' => e = .returned (.bool (sameF f g l m)) ∧ Below w.heap.size w w' := by
  have HB0 : Hid (Below w.heap.size w ((w.alloc (.cells #[.int .u64 f.kind, .int .u64 f.id, .int .u64 f.off, .int .u64 f.max, .int .u64 f.code, .int .u64 f.seq, .int .u64 f.prior, .int .u64 f.delay, .bool f.fin, .string ⟨f.data.toArray⟩, .string ⟨f.cid.toArray⟩, .string ⟨f.token.toArray⟩, .slice f.set.a f.set.n f.set.c] 34 (0, 0))).alloc (.cells #[.int .u64 g.kind, .int .u64 g.id, .int .u64 g.off, .int .u64 g.max, .int .u64 g.code, .int .u64 g.seq, .int .u64 g.prior, .int .u64 g.delay, .bool g.fin, .string ⟨g.data.toArray⟩, .string ⟨g.cid.toArray⟩, .string ⟨g.token.toArray⟩, .slice g.set.a g.set.n g.set.c] 34 (0, 0)))) := Lib.hid (((Below.refl _ _).alloc (Nat.le_refl _) _).alloc (by simp) _)
  have HS : Hid (sameF f g l m = false) := Lib.hid (by unfold sameF numE txtE; simp [h_kind, h_id, h_off, h_max, h_code, h_seq, h_prior])
  clear hf hg hl hm
  go_enter Tryd.func10, Tryd.ntmps10
  go_wp2
  go_ret
  exact ⟨by rw [HS.out]; rfl, HB0.out⟩
set_option maxHeartbeats 4000000 in
theorem dsame_7 (f g : Frm) (l m : List Ran) (w : World) (hl : l.length ≤ 1000) (hm : m.length ≤ 1000) (hf : Rd w (.slice f.set.a f.set.n f.set.c) l) (hg : Rd w (.slice g.set.a g.set.n g.set.c) m) (h_kind : (f.kind == g.kind) = true) (h_id : (f.id == g.id) = true) (h_off : (f.off == g.off) = true) (h_max : (f.max == g.max) = true) (h_code : (f.code == g.code) = true) (h_seq : (f.seq == g.seq) = true) (h_prior : (f.prior == g.prior) = true) (h_delay : (f.delay == g.delay) = false) :
    Calls Tryd.prog 10 #[.agg #[.int .u64 f.kind, .int .u64 f.id, .int .u64 f.off, .int .u64 f.max, .int .u64 f.code, .int .u64 f.seq, .int .u64 f.prior, .int .u64 f.delay, .bool f.fin, .string ⟨f.data.toArray⟩, .string ⟨f.cid.toArray⟩, .string ⟨f.token.toArray⟩, .slice f.set.a f.set.n f.set.c], .agg #[.int .u64 g.kind, .int .u64 g.id, .int .u64 g.off, .int .u64 g.max, .int .u64 g.code, .int .u64 g.seq, .int .u64 g.prior, .int .u64 g.delay, .bool g.fin, .string ⟨g.data.toArray⟩, .string ⟨g.cid.toArray⟩, .string ⟨g.token.toArray⟩, .slice g.set.a g.set.n g.set.c]] w fun e w' => e = .returned (.bool (sameF f g l m)) ∧ Below w.heap.size w w' := by
  have HB0 : Hid (Below w.heap.size w ((w.alloc (.cells #[.int .u64 f.kind, .int .u64 f.id, .int .u64 f.off, .int .u64 f.max, .int .u64 f.code, .int .u64 f.seq, .int .u64 f.prior, .int .u64 f.delay, .bool f.fin, .string ⟨f.data.toArray⟩, .string ⟨f.cid.toArray⟩, .string ⟨f.token.toArray⟩, .slice f.set.a f.set.n f.set.c] 34 (0, 0))).alloc (.cells #[.int .u64 g.kind, .int .u64 g.id, .int .u64 g.off, .int .u64 g.max, .int .u64 g.code, .int .u64 g.seq, .int .u64 g.prior, .int .u64 g.delay, .bool g.fin, .string ⟨g.data.toArray⟩, .string ⟨g.cid.toArray⟩, .string ⟨g.token.toArray⟩, .slice g.set.a g.set.n g.set.c] 34 (0, 0)))) := Lib.hid (((Below.refl _ _).alloc (Nat.le_refl _) _).alloc (by simp) _)
  have HS : Hid (sameF f g l m = false) := Lib.hid (by unfold sameF numE txtE; simp [h_kind, h_id, h_off, h_max, h_code, h_seq, h_prior, h_delay])
  clear hf hg hl hm
  go_enter Tryd.func10, Tryd.ntmps10
  go_wp2
  go_ret
  exact ⟨by rw [HS.out]; rfl, HB0.out⟩
set_option maxHeartbeats 4000000 in
theorem dsame_8 (f g : Frm) (l m : List Ran) (w : World) (hl : l.length ≤ 1000) (hm : m.length ≤ 1000) (hf : Rd w (.slice f.set.a f.set.n f.set.c) l) (hg : Rd w (.slice g.set.a g.set.n g.set.c) m) (h_kind : (f.kind == g.kind) = true) (h_id : (f.id == g.id) = true) (h_off : (f.off == g.off) = true) (h_max : (f.max == g.max) = true) (h_code : (f.code == g.code) = true) (h_seq : (f.seq == g.seq) = true) (h_prior : (f.prior == g.prior) = true) (h_delay : (f.delay == g.delay) = true) (h_fin : (f.fin == g.fin) = false) :
    Calls Tryd.prog 10 #[.agg #[.int .u64 f.kind, .int .u64 f.id, .int .u64 f.off, .int .u64 f.max, .int .u64 f.code, .int .u64 f.seq, .int .u64 f.prior, .int .u64 f.delay, .bool f.fin, .string ⟨f.data.toArray⟩, .string ⟨f.cid.toArray⟩, .string ⟨f.token.toArray⟩, .slice f.set.a f.set.n f.set.c], .agg #[.int .u64 g.kind, .int .u64 g.id, .int .u64 g.off, .int .u64 g.max, .int .u64 g.code, .int .u64 g.seq, .int .u64 g.prior, .int .u64 g.delay, .bool g.fin, .string ⟨g.data.toArray⟩, .string ⟨g.cid.toArray⟩, .string ⟨g.token.toArray⟩, .slice g.set.a g.set.n g.set.c]] w fun e w' => e = .returned (.bool (sameF f g l m)) ∧ Below w.heap.size w w' := by
  have HB0 : Hid (Below w.heap.size w ((w.alloc (.cells #[.int .u64 f.kind, .int .u64 f.id, .int .u64 f.off, .int .u64 f.max, .int .u64 f.code, .int .u64 f.seq, .int .u64 f.prior, .int .u64 f.delay, .bool f.fin, .string ⟨f.data.toArray⟩, .string ⟨f.cid.toArray⟩, .string ⟨f.token.toArray⟩, .slice f.set.a f.set.n f.set.c] 34 (0, 0))).alloc (.cells #[.int .u64 g.kind, .int .u64 g.id, .int .u64 g.off, .int .u64 g.max, .int .u64 g.code, .int .u64 g.seq, .int .u64 g.prior, .int .u64 g.delay, .bool g.fin, .string ⟨g.data.toArray⟩, .string ⟨g.cid.toArray⟩, .string ⟨g.token.toArray⟩, .slice g.set.a g.set.n g.set.c] 34 (0, 0)))) := Lib.hid (((Below.refl _ _).alloc (Nat.le_refl _) _).alloc (by simp) _)
  have HS : Hid (sameF f g l m = false) := Lib.hid (by unfold sameF numE txtE; simp [h_kind, h_id, h_off, h_max, h_code, h_seq, h_prior, h_delay, h_fin])
  clear hf hg hl hm
  go_enter Tryd.func10, Tryd.ntmps10
  go_wp2
  go_ret
  exact ⟨by rw [HS.out]; rfl, HB0.out⟩
end
section
set_option maxHeartbeats 4000000 in
theorem dsame_9 (f g : Frm) (l m : List Ran) (w : World) (hl : l.length ≤ 1000) (hm : m.length ≤ 1000) (hf : Rd w (.slice f.set.a f.set.n f.set.c) l) (hg : Rd w (.slice g.set.a g.set.n g.set.c) m) (h_kind : (f.kind == g.kind) = true) (h_id : (f.id == g.id) = true) (h_off : (f.off == g.off) = true) (h_max : (f.max == g.max) = true) (h_code : (f.code == g.code) = true) (h_seq : (f.seq == g.seq) = true) (h_prior : (f.prior == g.prior) = true) (h_delay : (f.delay == g.delay) = true) (h_fin : (f.fin == g.fin) = true) (h_data : (f.data == g.data) = false) :
    Calls Tryd.prog 10 #[.agg #[.int .u64 f.kind, .int .u64 f.id, .int .u64 f.off, .int .u64 f.max, .int .u64 f.code, .int .u64 f.seq, .int .u64 f.prior, .int .u64 f.delay, .bool f.fin, .string ⟨f.data.toArray⟩, .string ⟨f.cid.toArray⟩, .string ⟨f.token.toArray⟩, .slice f.set.a f.set.n f.set.c], .agg #[.int .u64 g.kind, .int .u64 g.id, .int .u64 g.off, .int .u64 g.max, .int .u64 g.code, .int .u64 g.seq, .int .u64 g.prior, .int .u64 g.delay, .bool g.fin, .string ⟨g.data.toArray⟩, .string ⟨g.cid.toArray⟩, .string ⟨g.token.toArray⟩, .slice g.set.a g.set.n g.set.c]] w fun e w' => e = .returned (.bool (sameF f g l m)) ∧ Below w.heap.size w w' := by
  have HB0 : Hid (Below w.heap.size w ((w.alloc (.cells #[.int .u64 f.kind, .int .u64 f.id, .int .u64 f.off, .int .u64 f.max, .int .u64 f.code, .int .u64 f.seq, .int .u64 f.prior, .int .u64 f.delay, .bool f.fin, .string ⟨f.data.toArray⟩, .string ⟨f.cid.toArray⟩, .string ⟨f.token.toArray⟩, .slice f.set.a f.set.n f.set.c] 34 (0, 0))).alloc (.cells #[.int .u64 g.kind, .int .u64 g.id, .int .u64 g.off, .int .u64 g.max, .int .u64 g.code, .int .u64 g.seq, .int .u64 g.prior, .int .u64 g.delay, .bool g.fin, .string ⟨g.data.toArray⟩, .string ⟨g.cid.toArray⟩, .string ⟨g.token.toArray⟩, .slice g.set.a g.set.n g.set.c] 34 (0, 0)))) := Lib.hid (((Below.refl _ _).alloc (Nat.le_refl _) _).alloc (by simp) _)
  have HS : Hid (sameF f g l m = false) := Lib.hid (by unfold sameF numE txtE; simp [h_kind, h_id, h_off, h_max, h_code, h_seq, h_prior, h_delay, h_fin, h_data])
  have s_data : ((⟨f.data.toArray⟩ : ByteArray).toList == (⟨g.data.toArray⟩ : ByteArray).toList) = false := by rw [eq_bytes]; exact h_data
  clear hf hg hl hm
  go_enter Tryd.func10, Tryd.ntmps10
  go_wp2
  go_ret
  exact ⟨by rw [HS.out]; rfl, HB0.out⟩
set_option maxHeartbeats 4000000 in
theorem dsame_10 (f g : Frm) (l m : List Ran) (w : World) (hl : l.length ≤ 1000) (hm : m.length ≤ 1000) (hf : Rd w (.slice f.set.a f.set.n f.set.c) l) (hg : Rd w (.slice g.set.a g.set.n g.set.c) m) (h_kind : (f.kind == g.kind) = true) (h_id : (f.id == g.id) = true) (h_off : (f.off == g.off) = true) (h_max : (f.max == g.max) = true) (h_code : (f.code == g.code) = true) (h_seq : (f.seq == g.seq) = true) (h_prior : (f.prior == g.prior) = true) (h_delay : (f.delay == g.delay) = true) (h_fin : (f.fin == g.fin) = true) (h_data : (f.data == g.data) = true) (h_cid : (f.cid == g.cid) = false) :
    Calls Tryd.prog 10 #[.agg #[.int .u64 f.kind, .int .u64 f.id, .int .u64 f.off, .int .u64 f.max, .int .u64 f.code, .int .u64 f.seq, .int .u64 f.prior, .int .u64 f.delay, .bool f.fin, .string ⟨f.data.toArray⟩, .string ⟨f.cid.toArray⟩, .string ⟨f.token.toArray⟩, .slice f.set.a f.set.n f.set.c], .agg #[.int .u64 g.kind, .int .u64 g.id, .int .u64 g.off, .int .u64 g.max, .int .u64 g.code, .int .u64 g.seq, .int .u64 g.prior, .int .u64 g.delay, .bool g.fin, .string ⟨g.data.toArray⟩, .string ⟨g.cid.toArray⟩, .string ⟨g.token.toArray⟩, .slice g.set.a g.set.n g.set.c]] w fun e w' => e = .returned (.bool (sameF f g l m)) ∧ Below w.heap.size w w' := by
  have HB0 : Hid (Below w.heap.size w ((w.alloc (.cells #[.int .u64 f.kind, .int .u64 f.id, .int .u64 f.off, .int .u64 f.max, .int .u64 f.code, .int .u64 f.seq, .int .u64 f.prior, .int .u64 f.delay, .bool f.fin, .string ⟨f.data.toArray⟩, .string ⟨f.cid.toArray⟩, .string ⟨f.token.toArray⟩, .slice f.set.a f.set.n f.set.c] 34 (0, 0))).alloc (.cells #[.int .u64 g.kind, .int .u64 g.id, .int .u64 g.off, .int .u64 g.max, .int .u64 g.code, .int .u64 g.seq, .int .u64 g.prior, .int .u64 g.delay, .bool g.fin, .string ⟨g.data.toArray⟩, .string ⟨g.cid.toArray⟩, .string ⟨g.token.toArray⟩, .slice g.set.a g.set.n g.set.c] 34 (0, 0)))) := Lib.hid (((Below.refl _ _).alloc (Nat.le_refl _) _).alloc (by simp) _)
  have HS : Hid (sameF f g l m = false) := Lib.hid (by unfold sameF numE txtE; simp [h_kind, h_id, h_off, h_max, h_code, h_seq, h_prior, h_delay, h_fin, h_data, h_cid])
  have s_data : ((⟨f.data.toArray⟩ : ByteArray).toList == (⟨g.data.toArray⟩ : ByteArray).toList) = true := by rw [eq_bytes]; exact h_data
  have s_cid : ((⟨f.cid.toArray⟩ : ByteArray).toList == (⟨g.cid.toArray⟩ : ByteArray).toList) = false := by rw [eq_bytes]; exact h_cid
  clear hf hg hl hm
  go_enter Tryd.func10, Tryd.ntmps10
  go_wp2
  go_ret
  exact ⟨by rw [HS.out]; rfl, HB0.out⟩
set_option maxHeartbeats 4000000 in
theorem dsame_11 (f g : Frm) (l m : List Ran) (w : World) (hl : l.length ≤ 1000) (hm : m.length ≤ 1000) (hf : Rd w (.slice f.set.a f.set.n f.set.c) l) (hg : Rd w (.slice g.set.a g.set.n g.set.c) m) (h_kind : (f.kind == g.kind) = true) (h_id : (f.id == g.id) = true) (h_off : (f.off == g.off) = true) (h_max : (f.max == g.max) = true) (h_code : (f.code == g.code) = true) (h_seq : (f.seq == g.seq) = true) (h_prior : (f.prior == g.prior) = true) (h_delay : (f.delay == g.delay) = true) (h_fin : (f.fin == g.fin) = true) (h_data : (f.data == g.data) = true) (h_cid : (f.cid == g.cid) = true) (h_token : (f.token == g.token) = false) :
    Calls Tryd.prog 10 #[.agg #[.int .u64 f.kind, .int .u64 f.id, .int .u64 f.off, .int .u64 f.max, .int .u64 f.code, .int .u64 f.seq, .int .u64 f.prior, .int .u64 f.delay, .bool f.fin, .string ⟨f.data.toArray⟩, .string ⟨f.cid.toArray⟩, .string ⟨f.token.toArray⟩, .slice f.set.a f.set.n f.set.c], .agg #[.int .u64 g.kind, .int .u64 g.id, .int .u64 g.off, .int .u64 g.max, .int .u64 g.code, .int .u64 g.seq, .int .u64 g.prior, .int .u64 g.delay, .bool g.fin, .string ⟨g.data.toArray⟩, .string ⟨g.cid.toArray⟩, .string ⟨g.token.toArray⟩, .slice g.set.a g.set.n g.set.c]] w fun e w' => e = .returned (.bool (sameF f g l m)) ∧ Below w.heap.size w w' := by
  have HB0 : Hid (Below w.heap.size w ((w.alloc (.cells #[.int .u64 f.kind, .int .u64 f.id, .int .u64 f.off, .int .u64 f.max, .int .u64 f.code, .int .u64 f.seq, .int .u64 f.prior, .int .u64 f.delay, .bool f.fin, .string ⟨f.data.toArray⟩, .string ⟨f.cid.toArray⟩, .string ⟨f.token.toArray⟩, .slice f.set.a f.set.n f.set.c] 34 (0, 0))).alloc (.cells #[.int .u64 g.kind, .int .u64 g.id, .int .u64 g.off, .int .u64 g.max, .int .u64 g.code, .int .u64 g.seq, .int .u64 g.prior, .int .u64 g.delay, .bool g.fin, .string ⟨g.data.toArray⟩, .string ⟨g.cid.toArray⟩, .string ⟨g.token.toArray⟩, .slice g.set.a g.set.n g.set.c] 34 (0, 0)))) := Lib.hid (((Below.refl _ _).alloc (Nat.le_refl _) _).alloc (by simp) _)
  have HS : Hid (sameF f g l m = false) := Lib.hid (by unfold sameF numE txtE; simp [h_kind, h_id, h_off, h_max, h_code, h_seq, h_prior, h_delay, h_fin, h_data, h_cid, h_token])
  have s_data : ((⟨f.data.toArray⟩ : ByteArray).toList == (⟨g.data.toArray⟩ : ByteArray).toList) = true := by rw [eq_bytes]; exact h_data
  have s_cid : ((⟨f.cid.toArray⟩ : ByteArray).toList == (⟨g.cid.toArray⟩ : ByteArray).toList) = true := by rw [eq_bytes]; exact h_cid
  have s_token : ((⟨f.token.toArray⟩ : ByteArray).toList == (⟨g.token.toArray⟩ : ByteArray).toList) = false := by rw [eq_bytes]; exact h_token
  clear hf hg hl hm
  go_enter Tryd.func10, Tryd.ntmps10
  go_wp2
  go_ret
  exact ⟨by rw [HS.out]; rfl, HB0.out⟩
set_option maxHeartbeats 4000000 in
theorem dsame_12 (f g : Frm) (l m : List Ran) (w : World) (hl : l.length ≤ 1000) (hm : m.length ≤ 1000) (hf : Rd w (.slice f.set.a f.set.n f.set.c) l) (hg : Rd w (.slice g.set.a g.set.n g.set.c) m) (h_kind : (f.kind == g.kind) = true) (h_id : (f.id == g.id) = true) (h_off : (f.off == g.off) = true) (h_max : (f.max == g.max) = true) (h_code : (f.code == g.code) = true) (h_seq : (f.seq == g.seq) = true) (h_prior : (f.prior == g.prior) = true) (h_delay : (f.delay == g.delay) = true) (h_fin : (f.fin == g.fin) = true) (h_data : (f.data == g.data) = true) (h_cid : (f.cid == g.cid) = true) (h_token : (f.token == g.token) = true) :
    Calls Tryd.prog 10 #[.agg #[.int .u64 f.kind, .int .u64 f.id, .int .u64 f.off, .int .u64 f.max, .int .u64 f.code, .int .u64 f.seq, .int .u64 f.prior, .int .u64 f.delay, .bool f.fin, .string ⟨f.data.toArray⟩, .string ⟨f.cid.toArray⟩, .string ⟨f.token.toArray⟩, .slice f.set.a f.set.n f.set.c], .agg #[.int .u64 g.kind, .int .u64 g.id, .int .u64 g.off, .int .u64 g.max, .int .u64 g.code, .int .u64 g.seq, .int .u64 g.prior, .int .u64 g.delay, .bool g.fin, .string ⟨g.data.toArray⟩, .string ⟨g.cid.toArray⟩, .string ⟨g.token.toArray⟩, .slice g.set.a g.set.n g.set.c]] w fun e w' => e = .returned (.bool (sameF f g l m)) ∧ Below w.heap.size w w' := by
  have HB0 : Hid (Below w.heap.size w ((w.alloc (.cells #[.int .u64 f.kind, .int .u64 f.id, .int .u64 f.off, .int .u64 f.max, .int .u64 f.code, .int .u64 f.seq, .int .u64 f.prior, .int .u64 f.delay, .bool f.fin, .string ⟨f.data.toArray⟩, .string ⟨f.cid.toArray⟩, .string ⟨f.token.toArray⟩, .slice f.set.a f.set.n f.set.c] 34 (0, 0))).alloc (.cells #[.int .u64 g.kind, .int .u64 g.id, .int .u64 g.off, .int .u64 g.max, .int .u64 g.code, .int .u64 g.seq, .int .u64 g.prior, .int .u64 g.delay, .bool g.fin, .string ⟨g.data.toArray⟩, .string ⟨g.cid.toArray⟩, .string ⟨g.token.toArray⟩, .slice g.set.a g.set.n g.set.c] 34 (0, 0)))) := Lib.hid (((Below.refl _ _).alloc (Nat.le_refl _) _).alloc (by simp) _)
  have HS : Hid (sameF f g l m = decide (l = m)) := Lib.hid (by unfold sameF numE txtE; simp [h_kind, h_id, h_off, h_max, h_code, h_seq, h_prior, h_delay, h_fin, h_data, h_cid, h_token])
  have s_data : ((⟨f.data.toArray⟩ : ByteArray).toList == (⟨g.data.toArray⟩ : ByteArray).toList) = true := by rw [eq_bytes]; exact h_data
  have s_cid : ((⟨f.cid.toArray⟩ : ByteArray).toList == (⟨g.cid.toArray⟩ : ByteArray).toList) = true := by rw [eq_bytes]; exact h_cid
  have s_token : ((⟨f.token.toArray⟩ : ByteArray).toList == (⟨g.token.toArray⟩ : ByteArray).toList) = true := by rw [eq_bytes]; exact h_token
  have CE := Lib.hid (rsame_any _ _ l m _ (hf.below HB0.out) (hg.below HB0.out) hl hm)
  generalize decide (l = m) = R at *
  clear hf hg hl hm
  go_enter Tryd.func10, Tryd.ntmps10
  go_wp2_with fail
  refine CE.out.mono ?_
  rintro e w1 ⟨rfl, hb⟩
  have HB1 := Lib.hid (HB0.out.trans (hb.mono HB0.out.size))
  clear hb
  go_wp2
  go_ret
  exact ⟨by rw [HS.out]; rfl, HB1.out⟩
theorem dsame_any (f g : Frm) (l m : List Ran) (w : World) (hl : l.length ≤ 1000) (hm : m.length ≤ 1000) (hf : Rd w (.slice f.set.a f.set.n f.set.c) l) (hg : Rd w (.slice g.set.a g.set.n g.set.c) m) :
    Calls Tryd.prog 10 #[.agg #[.int .u64 f.kind, .int .u64 f.id, .int .u64 f.off, .int .u64 f.max, .int .u64 f.code, .int .u64 f.seq, .int .u64 f.prior, .int .u64 f.delay, .bool f.fin, .string ⟨f.data.toArray⟩, .string ⟨f.cid.toArray⟩, .string ⟨f.token.toArray⟩, .slice f.set.a f.set.n f.set.c], .agg #[.int .u64 g.kind, .int .u64 g.id, .int .u64 g.off, .int .u64 g.max, .int .u64 g.code, .int .u64 g.seq, .int .u64 g.prior, .int .u64 g.delay, .bool g.fin, .string ⟨g.data.toArray⟩, .string ⟨g.cid.toArray⟩, .string ⟨g.token.toArray⟩, .slice g.set.a g.set.n g.set.c]] w fun e w' => e = .returned (.bool (sameF f g l m)) ∧ Below w.heap.size w w' := by
  by_cases h0 : (f.kind == g.kind) = true
  case neg => exact dsame_0 f g l m w hl hm hf hg  (by simpa using h0)
  by_cases h1 : (f.id == g.id) = true
  case neg => exact dsame_1 f g l m w hl hm hf hg h0 (by simpa using h1)
  by_cases h2 : (f.off == g.off) = true
  case neg => exact dsame_2 f g l m w hl hm hf hg h0 h1 (by simpa using h2)
  by_cases h3 : (f.max == g.max) = true
  case neg => exact dsame_3 f g l m w hl hm hf hg h0 h1 h2 (by simpa using h3)
  by_cases h4 : (f.code == g.code) = true
  case neg => exact dsame_4 f g l m w hl hm hf hg h0 h1 h2 h3 (by simpa using h4)
  by_cases h5 : (f.seq == g.seq) = true
  case neg => exact dsame_5 f g l m w hl hm hf hg h0 h1 h2 h3 h4 (by simpa using h5)
  by_cases h6 : (f.prior == g.prior) = true
  case neg => exact dsame_6 f g l m w hl hm hf hg h0 h1 h2 h3 h4 h5 (by simpa using h6)
  by_cases h7 : (f.delay == g.delay) = true
  case neg => exact dsame_7 f g l m w hl hm hf hg h0 h1 h2 h3 h4 h5 h6 (by simpa using h7)
  by_cases h8 : (f.fin == g.fin) = true
  case neg => exact dsame_8 f g l m w hl hm hf hg h0 h1 h2 h3 h4 h5 h6 h7 (by simpa using h8)
  by_cases h9 : (f.data == g.data) = true
  case neg => exact dsame_9 f g l m w hl hm hf hg h0 h1 h2 h3 h4 h5 h6 h7 h8 (by simpa using h9)
  by_cases h10 : (f.cid == g.cid) = true
  case neg => exact dsame_10 f g l m w hl hm hf hg h0 h1 h2 h3 h4 h5 h6 h7 h8 h9 (by simpa using h10)
  by_cases h11 : (f.token == g.token) = true
  case neg => exact dsame_11 f g l m w hl hm hf hg h0 h1 h2 h3 h4 h5 h6 h7 h8 h9 h10 (by simpa using h11)
  exact dsame_12 f g l m w hl hm hf hg h0 h1 h2 h3 h4 h5 h6 h7 h8 h9 h10 h11
end
end Go.Proofs.YtfeecfdbncjmnaaDoor.Fm
