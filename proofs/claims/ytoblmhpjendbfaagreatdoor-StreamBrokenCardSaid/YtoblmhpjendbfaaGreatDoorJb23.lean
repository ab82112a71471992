/- The walks of layer 6: Get -/
import Derived.Test.YtoblmhpjendbfaaGreatDoorJb22
import Derived.Test.YtoblmhpjendbfaaGreatDoorJb21
import Derived.Test.YtoblmhpjendbfaaGreatDoorJb18
namespace Go.Proofs.YtoblmhpjendbfaaGreatDoor.Fm
set_option maxRecDepth 20000
open Go.RowKit Vm
set_option linter.unusedVariables false
set_option linter.unusedSimpArgs false

theorem told_2 : ∀ q : Fin 64, (toldP q.val).testBit 11 = true → q.val = 2 := by decide
theorem fst_q (k : Nat) (f : Frm) (hf : f.kind = (k : Nat)) (hk : k < 31) : ∃ q : Nat, fstN f = (q : Int) ∧ q < 64 ∧ (q = 2 → k = 2) := by
  unfold fstN
  by_cases h : f.kind = 8
  · rw [if_pos h]
    cases f.fin
    · by_cases ho : f.off = 0
      · exact ⟨10, by rw [if_neg (by decide), if_pos ho]; rfl, by decide, fun h => by cases h⟩
      · exact ⟨14, by rw [if_neg (by decide), if_neg ho]; rfl, by decide, fun h => by cases h⟩
    · by_cases ho : f.off = 0
      · exact ⟨11, by rw [if_pos rfl, if_pos ho]; rfl, by decide, fun h => by cases h⟩
      · exact ⟨15, by rw [if_pos rfl, if_neg ho]; rfl, by decide, fun h => by cases h⟩
  · rw [if_neg h]
    exact ⟨k, hf, by omega, fun h => h⟩
theorem putL_ne (f : Frm) (rs : List (Nat × Nat)) : putL f rs ≠ [] := by
  intro h
  unfold putL at h
  have h1 := congrArg List.length h
  rw [List.length_append] at h1
  have h2 : (pt (fstN f).toNat).length = wd (pl (fstN f).toNat) := by unfold pt; rw [fx_length]
  have h3 : 1 ≤ wd (pl (fstN f).toNat) := Nat.one_le_two_pow
  simp only [List.length_nil] at h1
  omega
/-- How long the texts of a frame that may be are. -/
theorem may_bounds {k : Nat} {f : Frm} {l : List Ran} (hf : f.kind = (k : Nat)) (hm : mayF k f l = true) : f.data.length ≤ 1200 ∧ f.cid.length ≤ 8 ∧ f.token.length ≤ 16 := by
  obtain ⟨h1, h2, h3, h4⟩ := mayF_k hm
  have hk := kind_lt h1
  have hc : k = 0 ∨ k = 1 ∨ k = 2 ∨ k = 3 ∨ k = 4 ∨ k = 5 ∨ k = 6 ∨ k = 7 ∨ k = 8 ∨ k = 9 ∨ k = 10 ∨ k = 11 ∨ k = 12 ∨ k = 13 ∨ k = 14 ∨ k = 15 ∨ k = 16 ∨ k = 17 ∨ k = 18 ∨ k = 19 ∨ k = 20 ∨ k = 21 ∨ k = 22 ∨ k = 23 ∨ k = 24 ∨ k = 25 ∨ k = 26 ∨ k = 27 ∨ k = 28 ∨ k = 29 ∨ k = 30 := by omega
  unfold kndB at h4
  rw [hf] at h4
  clear hk hm h3 hf
  have hd : ∀ p : Nat, Has p f → p.testBit 7 = false → f.data.length ≤ 1200 := fun p h hb => by rw [h.data hb]; exact Nat.zero_le _
  have hcd : ∀ p : Nat, Has p f → p.testBit 8 = false → f.cid.length ≤ 8 := fun p h hb => by rw [h.cid hb]; exact Nat.zero_le _
  have htk : ∀ p : Nat, Has p f → p.testBit 9 = false → f.token.length ≤ 16 := fun p h hb => by rw [h.token hb]; exact Nat.zero_le _
  rcases hc with rfl | rfl | rfl | rfl | rfl | rfl | rfl | rfl | rfl | rfl | rfl | rfl | rfl | rfl | rfl | rfl | rfl | rfl | rfl | rfl | rfl | rfl | rfl | rfl | rfl | rfl | rfl | rfl | rfl | rfl | rfl
  case inr.inr.inr.inr.inr.inr.inl | inr.inr.inr.inr.inr.inr.inr.inr.inl =>
    have h5 : (decide (f.data.length ≤ 1200) && decide (f.off + f.data.length ≤ 4611686018427387903)) = true := h4
    rw [Bool.and_eq_true] at h5
    exact ⟨of_decide_eq_true h5.1, hcd _ h2 (by decide), htk _ h2 (by decide)⟩
  all_goals first
    | exact absurd h1 (by decide)
    | exact ⟨hd _ h2 (by decide), hcd _ h2 (by decide), htk _ h2 (by decide)⟩
    | exact ⟨of_decide_eq_true h4, hcd _ h2 (by decide), htk _ h2 (by decide)⟩
    | (have h5 : (decide (f.prior ≤ f.seq) && decide (f.cid.length = 8) && decide (f.token.length = 16)) = true := h4
       rw [Bool.and_eq_true, Bool.and_eq_true] at h5
       have h6 := of_decide_eq_true h5.1.2
       have h7 := of_decide_eq_true h5.2
       exact ⟨hd _ h2 (by decide), by omega, by omega⟩)
    | (have h5 : decide (f.token.length = 8) = true := h4
       have h6 := of_decide_eq_true h5
       exact ⟨hd _ h2 (by decide), hcd _ h2 (by decide), by omega⟩)
/-- A frame that is handed over: its set's ranges can be read. -/
structure Fit (w : World) (k : Nat) (f : Frm) (rs : List (Nat × Nat)) : Prop where
  kind : f.kind = (k : Nat)
  rd : Rd w (.slice f.set.a f.set.n f.set.c) (ints rs)
  pos : ∀ j, j < 7 → 0 ≤ nm f j
theorem Fit.n {w : World} {k : Nat} {f : Frm} {rs : List (Nat × Nat)} (h : Fit w k f rs) : f.set.n = rs.length := by
  obtain ⟨a, cap, he, _⟩ := h.rd
  injection he with e1 e2 e3
  exact e2.trans (ints_len rs)
theorem Fit.below {w w' : World} {k : Nat} {f : Frm} {rs : List (Nat × Nat)} (h : Fit w k f rs) (hb : Below w.heap.size w w') : Fit w' k f rs :=
  ⟨h.kind, h.rd.below hb, h.pos⟩
theorem ints_pos (rs : List (Nat × Nat)) : ∀ x ∈ ints rs, 0 ≤ x.1 ∧ 0 ≤ x.2 := by
  intro x hx
  unfold ints at hx
  obtain ⟨p, _, rfl⟩ := List.mem_map.1 hx
  exact ⟨Int.natCast_nonneg _, Int.natCast_nonneg _⟩
theorem fit_may {w : World} {k : Nat} {f : Frm} {rs : List (Nat × Nat)} (h : Fit w k f rs) : Calls Tryz.prog 84 #[.agg #[.int .u64 f.kind, .int .u64 f.id, .int .u64 f.off, .int .u64 f.max, .int .u64 f.code, .int .u64 f.seq, .int .u64 f.prior, .int .u64 f.delay, .bool f.fin, .string ⟨f.data.toArray⟩, .string ⟨f.cid.toArray⟩, .string ⟨f.token.toArray⟩, .slice f.set.a f.set.n f.set.c]] w fun e w' => e = .returned (.bool (mayF k f (ints rs))) ∧ Below w.heap.size w w' :=
  may_frame k f (ints rs) w h.kind h.rd (ints_pos rs) (by have := h.pos 1 (by decide); exact this)
theorem set_in {w : World} {k : Nat} {f : Frm} {rs : List (Nat × Nat)} (B : Nat) (hB : w.heap.size ≤ B) (h : Fit w k f rs) (hm : mayF k f (ints rs) = true) (h2 : k = 2) : SetIn B f rs w ∧ 1 ≤ rs.length ∧ rs.length ≤ 32 := by
  obtain ⟨h1, _, h3, h4⟩ := mayF_k hm
  have ha : ackB (ints rs) = true := by
    unfold kndB at h4
    rw [h.kind, h2] at h4
    exact h4
  unfold ackB at ha
  rw [Bool.and_eq_true, Bool.and_eq_true, decide_eq_true_iff, decide_eq_true_iff, ints_len, ints_get] at ha
  obtain ⟨⟨hl1, hl2⟩, hmp, hh⟩ := ha
  have hmp : MayP (ints rs) := of_decide_eq_true hmp
  obtain ⟨a, cap, he, _, hr⟩ := h.rd
  obtain ⟨b, off, rfl, hc⟩ := hr (by intro e; rw [← ints_len, e] at hl1; simp at hl1)
  rw [ints_len] at hc he
  simp only at hh
  refine ⟨⟨b, off, ?_, ?_, h.n, hmp, by omega, ?_⟩, hl1, hl2⟩
  · injection he with e1 e2 e3
  · have hb := World.block_lt_of_cell? _ _ (hc 0 (by omega)).1
    simp only at hb
    omega
  · intro i hi
    have := hc i hi
    rw [ints_get] at this
    exact this
theorem SetIn.below {B : Nat} {f : Frm} {rs : List (Nat × Nat)} {w w' : World} (h : SetIn B f rs w) (hl : rs.length ≤ 32) (hb : Below w.heap.size w w') : SetIn B f rs w' := by
  obtain ⟨rb, off, h1, h2, h3, h4, h5, h6⟩ := h
  refine ⟨rb, off, h1, h2, h3, h4, h5, fun i hi => ?_⟩
  obtain ⟨c1, c2⟩ := h6 i hi
  have hlt := World.block_lt_of_cell? _ _ c1
  exact ⟨cell_below hb c1 hlt, cell_below hb c2 hlt⟩
theorem put_no (k : Nat) (f : Frm) (rs : List (Nat × Nat)) (w : World) (hF : Fit w k f rs) (hm : mayF k f (ints rs) = false) :
    Calls Tryz.prog 41 #[.agg #[.int .u64 f.kind, .int .u64 f.id, .int .u64 f.off, .int .u64 f.max, .int .u64 f.code, .int .u64 f.seq, .int .u64 f.prior, .int .u64 f.delay, .bool f.fin, .string ⟨f.data.toArray⟩, .string ⟨f.cid.toArray⟩, .string ⟨f.token.toArray⟩, .slice f.set.a f.set.n f.set.c]] w fun e w' => e = .returned (.tuple #[.string ⟨#[]⟩, .int .i64 1]) ∧ Below w.heap.size w w' := by
  have CM := Lib.hid (fun w (h : Fit w k f rs) => fit_may h)
  rw [hm] at CM
  have HB0 : Hid (Below w.heap.size w (w.alloc (.cells #[.int .u64 f.kind, .int .u64 f.id, .int .u64 f.off, .int .u64 f.max, .int .u64 f.code, .int .u64 f.seq, .int .u64 f.prior, .int .u64 f.delay, .bool f.fin, .string ⟨f.data.toArray⟩, .string ⟨f.cid.toArray⟩, .string ⟨f.token.toArray⟩, .slice f.set.a f.set.n f.set.c] 48 (0, 0)))) := Lib.hid ((Below.refl w.heap.size w).alloc (Nat.le_refl _) _)
  have HF0 := Lib.hid (hF.below HB0.out)
  clear hF hm
  go_enter Tryz.func41, Tryz.ntmps41
  go_wp2_with fail
  refine (CM.out _ HF0.out).mono ?_
  rintro e w1 ⟨rfl, hb⟩
  have HB1 := Lib.hid (HB0.out.trans (hb.mono (by simp)))
  clear hb
  go_wp2
  go_ret2
  exact ⟨rfl, HB1.out⟩
set_option maxHeartbeats 4000000 in
theorem put_yes (k : Nat) (f : Frm) (rs : List (Nat × Nat)) (w : World) (ht : Tab w) (hF : Fit w k f rs) (hm : mayF k f (ints rs) = true) :
    Calls Tryz.prog 41 #[.agg #[.int .u64 f.kind, .int .u64 f.id, .int .u64 f.off, .int .u64 f.max, .int .u64 f.code, .int .u64 f.seq, .int .u64 f.prior, .int .u64 f.delay, .bool f.fin, .string ⟨f.data.toArray⟩, .string ⟨f.cid.toArray⟩, .string ⟨f.token.toArray⟩, .slice f.set.a f.set.n f.set.c]] w fun e w' => e = .returned (.tuple #[.string ⟨(putL f rs).toArray⟩, .int .i64 0]) ∧ Below w.heap.size w w' := by
  have CM := Lib.hid (fun w (h : Fit w k f rs) => fit_may h)
  rw [hm] at CM
  obtain ⟨h1, h2, h3, h4⟩ := mayF_k hm
  have hbd := may_bounds hF.kind hm
  obtain ⟨q, hq, hq2, hqk⟩ := fst_q k f hF.kind (kind_lt h1)
  have HS : Hid ((toldP q).testBit 11 = true → SetIn w.heap.size f rs w ∧ 1 ≤ rs.length ∧ rs.length ≤ 32) := Lib.hid (fun hb => set_in w.heap.size (Nat.le_refl _) hF hm (hqk (told_2 ⟨q, hq2⟩ hb)))
  have HZ : Hid (∀ j, j < 7 → 0 ≤ nm f j ∧ nm f j ≤ 4611686018427387903) := Lib.hid (fun j hj => ⟨hF.pos j hj, h3 j hj⟩)
  have CW := Lib.hid (fun B b w ht hB hW hs => w_frame B b f rs q (toldP q) w ht hB hW hq hq2 rfl HZ.out (by omega) (by omega) (by omega) hs)
  have HB0 : Hid (Below w.heap.size w (w.alloc (.cells #[.int .u64 f.kind, .int .u64 f.id, .int .u64 f.off, .int .u64 f.max, .int .u64 f.code, .int .u64 f.seq, .int .u64 f.prior, .int .u64 f.delay, .bool f.fin, .string ⟨f.data.toArray⟩, .string ⟨f.cid.toArray⟩, .string ⟨f.token.toArray⟩, .slice f.set.a f.set.n f.set.c] 48 (0, 0)))) := Lib.hid ((Below.refl w.heap.size w).alloc (Nat.le_refl _) _)
  have HF0 := Lib.hid (hF.below HB0.out)
  have HNE := Lib.hid (putL_ne f rs)
  have HT := Lib.hid ht
  clear hF hm h1 h2 h3 h4 hq hq2 hqk HZ hbd
  go_enter Tryz.func41, Tryz.ntmps41
  go_wp2_with fail
  refine (CM.out _ HF0.out).mono ?_
  rintro e w1 ⟨rfl, hb⟩
  have HB1 := Lib.hid (HB0.out.trans (hb.mono (by simp)))
  have hF1 : w1.heap[w.heap.size]? = some (.cells #[.int .u64 f.kind, .int .u64 f.id, .int .u64 f.off, .int .u64 f.max, .int .u64 f.code, .int .u64 f.seq, .int .u64 f.prior, .int .u64 f.delay, .bool f.fin, .string ⟨f.data.toArray⟩, .string ⟨f.cid.toArray⟩, .string ⟨f.token.toArray⟩, .slice f.set.a f.set.n f.set.c] 48 (0, 0)) := (hb.block _ (by simp)).trans (World.alloc_heap_new w _)
  have hlt : w.heap.size < w1.heap.size := (Array.getElem?_eq_some_iff.1 hF1).1
  have hF2 : (w1.alloc (.cells #[.pointer none, .slice none 0 0] 144)).heap[w.heap.size]? = some (.cells #[.int .u64 f.kind, .int .u64 f.id, .int .u64 f.off, .int .u64 f.max, .int .u64 f.code, .int .u64 f.seq, .int .u64 f.prior, .int .u64 f.delay, .bool f.fin, .string ⟨f.data.toArray⟩, .string ⟨f.cid.toArray⟩, .string ⟨f.token.toArray⟩, .slice f.set.a f.set.n f.set.c] 48 (0, 0)) := (Lib.alloc_old w1 _ _ hlt).trans hF1
  have c0 : (w1.alloc (.cells #[.pointer none, .slice none 0 0] 144)).cell? ⟨w.heap.size, 0, none⟩ = some (.int .u64 f.kind) := Lib.cell_of_heap hF2 0
  have c1 : (w1.alloc (.cells #[.pointer none, .slice none 0 0] 144)).cell? ⟨w.heap.size, 1, none⟩ = some (.int .u64 f.id) := Lib.cell_of_heap hF2 1
  have c2 : (w1.alloc (.cells #[.pointer none, .slice none 0 0] 144)).cell? ⟨w.heap.size, 2, none⟩ = some (.int .u64 f.off) := Lib.cell_of_heap hF2 2
  have c3 : (w1.alloc (.cells #[.pointer none, .slice none 0 0] 144)).cell? ⟨w.heap.size, 3, none⟩ = some (.int .u64 f.max) := Lib.cell_of_heap hF2 3
  have c4 : (w1.alloc (.cells #[.pointer none, .slice none 0 0] 144)).cell? ⟨w.heap.size, 4, none⟩ = some (.int .u64 f.code) := Lib.cell_of_heap hF2 4
  have c5 : (w1.alloc (.cells #[.pointer none, .slice none 0 0] 144)).cell? ⟨w.heap.size, 5, none⟩ = some (.int .u64 f.seq) := Lib.cell_of_heap hF2 5
  have c6 : (w1.alloc (.cells #[.pointer none, .slice none 0 0] 144)).cell? ⟨w.heap.size, 6, none⟩ = some (.int .u64 f.prior) := Lib.cell_of_heap hF2 6
  have c7 : (w1.alloc (.cells #[.pointer none, .slice none 0 0] 144)).cell? ⟨w.heap.size, 7, none⟩ = some (.int .u64 f.delay) := Lib.cell_of_heap hF2 7
  have c8 : (w1.alloc (.cells #[.pointer none, .slice none 0 0] 144)).cell? ⟨w.heap.size, 8, none⟩ = some (.bool f.fin) := Lib.cell_of_heap hF2 8
  have c9 : (w1.alloc (.cells #[.pointer none, .slice none 0 0] 144)).cell? ⟨w.heap.size, 9, none⟩ = some (.string ⟨f.data.toArray⟩) := Lib.cell_of_heap hF2 9
  have c10 : (w1.alloc (.cells #[.pointer none, .slice none 0 0] 144)).cell? ⟨w.heap.size, 10, none⟩ = some (.string ⟨f.cid.toArray⟩) := Lib.cell_of_heap hF2 10
  have c11 : (w1.alloc (.cells #[.pointer none, .slice none 0 0] 144)).cell? ⟨w.heap.size, 11, none⟩ = some (.string ⟨f.token.toArray⟩) := Lib.cell_of_heap hF2 11
  have c12 : (w1.alloc (.cells #[.pointer none, .slice none 0 0] 144)).cell? ⟨w.heap.size, 12, none⟩ = some (.slice f.set.a f.set.n f.set.c) := Lib.cell_of_heap hF2 12

  have HB2 : Hid (Below w.heap.size w (w1.alloc (.cells #[.pointer none, .slice none 0 0] 144))) := Lib.hid (HB1.out.alloc HB1.out.size _)
  have HWB : Hid (WB w1.heap.size w1.heap.size [] (w1.alloc (.cells #[.pointer none, .slice none 0 0] 144))) := Lib.hid (Lib.fresh_isBuilder 144 5 w1)
  have HT2 := Lib.hid (HT.out.below HB2.out HT.out.lt)
  have hgB : 0 < w1.heap.size := Nat.lt_of_lt_of_le HT.out.lt HB1.out.size
  have HS2 : Hid ((toldP q).testBit 11 = true → SetIn w1.heap.size f rs (w1.alloc (.cells #[.pointer none, .slice none 0 0] 144)) ∧ 1 ≤ rs.length ∧ rs.length ≤ 32) := Lib.hid (fun hb => by
    obtain ⟨x1, x2, x3⟩ := HS.out hb
    obtain ⟨rb, off, y1, y2, y3⟩ := x1.below x3 HB2.out
    exact ⟨⟨rb, off, y1, Nat.lt_of_lt_of_le y2 HB1.out.size, y3⟩, x2, x3⟩)
  have HGB := Lib.hid hgB
  have HHS := HB1.out.size
  clear hb hF1 hF2 hgB
  go_wp2_with fail
  refine (CW.out _ _ _ HT2.out HGB.out HWB.out HS2.out).mono ?_
  rintro e w3 ⟨rfl, hw, hb, hk⟩
  have CS := Lib.hid (Fw.string_some _ _ _ w3 hw HNE.out)
  have HB3 := Lib.hid (HB2.out.trans (hb.mono HHS))
  have hsz := hb.size
  clear hw hb hk
  go_wp2_with fail
  refine CS.out.mono ?_
  rintro e w4 ⟨rfl, hb⟩
  have HB4 := Lib.hid (HB3.out.trans (hb.mono HHS))
  clear hb
  go_wp2
  go_ret2
  exact ⟨rfl, HB4.out⟩

/-- A block that holds a frame. -/
def FrB (b : Nat) (f : Frm) (w : World) : Prop := w.heap[b]? = some (.cells #[.int .u64 f.kind, .int .u64 f.id, .int .u64 f.off, .int .u64 f.max, .int .u64 f.code, .int .u64 f.seq, .int .u64 f.prior, .int .u64 f.delay, .bool f.fin, .string ⟨f.data.toArray⟩, .string ⟨f.cid.toArray⟩, .string ⟨f.token.toArray⟩, .slice f.set.a f.set.n f.set.c] 48 (0, 0))
theorem FrB.lt {b : Nat} {f : Frm} {w : World} (h : FrB b f w) : b < w.heap.size := (Array.getElem?_eq_some_iff.1 h).1
theorem FrB.keep {b : Nat} {f : Frm} {w w' : World} (h : FrB b f w) (hb : Below w.heap.size w w') : FrB b f w' := (hb.block b h.lt).trans h
theorem FrB.fz {b : Nat} {f : Frm} {w : World} (h : FrB b f w) (k : Nat) : w.frozen? ⟨b, k, none⟩ = false := Lib.frozen_of_heap h k
theorem FrB.cell0 {b : Nat} {f : Frm} {w : World} (h : FrB b f w) : w.cell? ⟨b, 0, none⟩ = some (.int .u64 f.kind) := Lib.cell_of_heap h 0
/-- A frame's block, stored anew. -/
def rstF (N : Nat) (f : Frm) (W : World) : World := (((((((((((((W.setCell ⟨N, 0, none⟩ (.int .u64 f.kind)).setCell ⟨N, 1, none⟩ (.int .u64 f.id)).setCell ⟨N, 2, none⟩ (.int .u64 f.off)).setCell ⟨N, 3, none⟩ (.int .u64 f.max)).setCell ⟨N, 4, none⟩ (.int .u64 f.code)).setCell ⟨N, 5, none⟩ (.int .u64 f.seq)).setCell ⟨N, 6, none⟩ (.int .u64 f.prior)).setCell ⟨N, 7, none⟩ (.int .u64 f.delay)).setCell ⟨N, 8, none⟩ (.bool f.fin)).setCell ⟨N, 9, none⟩ (.string ⟨f.data.toArray⟩)).setCell ⟨N, 10, none⟩ (.string ⟨f.cid.toArray⟩)).setCell ⟨N, 11, none⟩ (.string ⟨f.token.toArray⟩)).setCell ⟨N, 12, none⟩ (.slice f.set.a f.set.n f.set.c))
theorem Rd.only {w w' : World} {a : Option Addr} {n c N B : Nat} {l : List Ran} (h : Rd w (.slice a n c) l) (hB : ∀ x, a = some x → B ≤ x.block) (hN : N < B) (ho : It.Only (fun k => k = N) w w') : Rd w' (.slice a n c) l := by
  obtain ⟨a', cap, hv, hcap, hrow⟩ := h
  refine ⟨a', cap, hv, hcap, fun hne => ?_⟩
  obtain ⟨b, off, ha, hc⟩ := hrow hne
  have hb : B ≤ b := by
    injection hv with e1 e2 e3
    exact hB ⟨b, off, none⟩ (e1.trans ha)
  exact ⟨b, off, ha, fun i hi => ⟨ho.cell (hc i hi).1 (by simp only; omega), ho.cell (hc i hi).2 (by simp only; omega)⟩⟩
end Go.Proofs.YtoblmhpjendbfaaGreatDoor.Fm
