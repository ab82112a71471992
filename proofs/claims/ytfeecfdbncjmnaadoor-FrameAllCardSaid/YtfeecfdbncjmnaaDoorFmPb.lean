/- The walks of layer 6: Get. By tools/gen-frame-18.py. -/
import Derived.Test.YtfeecfdbncjmnaaDoorFmWe
import Derived.Test.YtfeecfdbncjmnaaDoorFmZc
import Derived.Test.YtfeecfdbncjmnaaDoorFnQ
import Derived.Test.YtfeecfdbncjmnaaDoorFmR
namespace Go.Proofs.YtfeecfdbncjmnaaDoor.Fm
set_option maxRecDepth 20000
open Go.RowKit Vm
set_option linter.unusedVariables false
set_option linter.unusedSimpArgs false

theorem told_2 : ∀ q : Fin 64, (toldP q.val).testBit 11 = true → q.val = 2 := by decide
theorem fst_q (k : Nat) (f : Frm) (hf : f.kind = (k : Nat)) (hk : k < 31) : ∃ q : Nat, fstN f = (q : Int) ∧ q < 64 ∧ (q = 2 → k = 2) := by
  unfold fstN
  by_cases h : f.kind = 8
  · rw [if_pos h]
    cases f.fin
    · by_cases ho : f.off = 0
      · exact ⟨10, by rw [if_neg (by decide), if_pos ho]; rfl, by decide, fun h => by cases h⟩
      · exact ⟨14, by rw [if_neg (by decide), if_neg ho]; rfl, by decide, fun h => by cases h⟩
    · by_cases ho : f.off = 0
      · exact ⟨11, by rw [if_pos rfl, if_pos ho]; rfl, by decide, fun h => by cases h⟩
      · exact ⟨15, by rw [if_pos rfl, if_neg ho]; rfl, by decide, fun h => by cases h⟩
  · rw [if_neg h]
    exact ⟨k, hf, by omega, fun h => h⟩
theorem putL_ne (f : Frm) (rs : List (Nat × Nat)) : putL f rs ≠ [] := by
  intro h
  unfold putL at h
  have h1 := congrArg List.length h
  rw [List.length_append] at h1
  have h2 : (pt (fstN f).toNat).length = wd (pl (fstN f).toNat) := by unfold pt; rw [fx_length]
  have h3 : 1 ≤ wd (pl (fstN f).toNat) := Nat.one_le_two_pow
  simp only [List.length_nil] at h1
  omega
/-- How long the texts of a frame that may be are. -/
theorem may_bounds {k : Nat} {f : Frm} {l : List Ran} (hf : f.kind = (k : Nat)) (hm : mayF k f l = true) : f.data.length ≤ 1200 ∧ f.cid.length ≤ 8 ∧ f.token.length ≤ 16 := by
  obtain ⟨h1, h2, h3, h4⟩ := mayF_k hm
  have hk := kind_lt h1
  have hc : k = 0 ∨ k = 1 ∨ k = 2 ∨ k = 3 ∨ k = 4 ∨ k = 5 ∨ k = 6 ∨ k = 7 ∨ k = 8 ∨ k = 9 ∨ k = 10 ∨ k = 11 ∨ k = 12 ∨ k = 13 ∨ k = 14 ∨ k = 15 ∨ k = 16 ∨ k = 17 ∨ k = 18 ∨ k = 19 ∨ k = 20 ∨ k = 21 ∨ k = 22 ∨ k = 23 ∨ k = 24 ∨ k = 25 ∨ k = 26 ∨ k = 27 ∨ k = 28 ∨ k = 29 ∨ k = 30 := by omega
  unfold kndB at h4
  rw [hf] at h4
  clear hk hm h3 hf
  have hd : ∀ p : Nat, Has p f → p.testBit 7 = false → f.data.length ≤ 1200 := fun p h hb => by rw [h.data hb]; exact Nat.zero_le _
  have hcd : ∀ p : Nat, Has p f → p.testBit 8 = false → f.cid.length ≤ 8 := fun p h hb => by rw [h.cid hb]; exact Nat.zero_le _
  have htk : ∀ p : Nat, Has p f → p.testBit 9 = false → f.token.length ≤ 16 := fun p h hb => by rw [h.token hb]; exact Nat.zero_le _
  rcases hc with rfl | rfl | rfl | rfl | rfl | rfl | rfl | rfl | rfl | rfl | rfl | rfl | rfl | rfl | rfl | rfl | rfl | rfl | rfl | rfl | rfl | rfl | rfl | rfl | rfl | rfl | rfl | rfl | rfl | rfl | rfl
  case inr.inr.inr.inr.inr.inr.inl | inr.inr.inr.inr.inr.inr.inr.inr.inl =>
    have h5 : (decide (f.data.length ≤ 1200) && decide (f.off + f.data.length ≤ 4611686018427387903)) = true := h4
    rw [Bool.and_eq_true] at h5
    exact ⟨of_decide_eq_true h5.1, hcd _ h2 (by decide), htk _ h2 (by decide)⟩
  all_goals first
    | exact absurd h1 (by decide)
    | exact ⟨hd _ h2 (by decide), hcd _ h2 (by decide), htk _ h2 (by decide)⟩
    | exact ⟨of_decide_eq_true h4, hcd _ h2 (by decide), htk _ h2 (by decide)⟩
    | (have h5 : (decide (f.prior ≤ f.seq) && decide (f.cid.length = 8) && decide (f.token.length = 16)) = true := h4
       rw [Bool.and_eq_true, Bool.and_eq_true] at h5
       have h6 := of_decide_eq_true h5.1.2
       have h7 := of_decide_eq_true h5.2
       exact ⟨hd _ h2 (by decide), by omega, by omega⟩)
    | (have h5 : decide (f.token.length = 8) = true := h4
       have h6 := of_decide_eq_true h5
       exact ⟨hd _ h2 (by decide), hcd _ h2 (by decide), by omega⟩)
/-- A frame that is handed over: its set's ranges can be read. -/
structure Fit (w : World) (k : Nat) (f : Frm) (rs : List (Nat × Nat)) : Prop where
  kind : f.kind = (k : Nat)
  rd : Rd w (.slice f.set.a f.set.n f.set.c) (ints rs)
  pos : ∀ j, j < 7 → 0 ≤ nm f j
theorem Fit.n {w : World} {k : Nat} {f : Frm} {rs : List (Nat × Nat)} (h : Fit w k f rs) : f.set.n = rs.length := by
  obtain ⟨a, cap, he, _⟩ := h.rd
  injection he with e1 e2 e3
  exact e2.trans (ints_len rs)
theorem Fit.below {w w' : World} {k : Nat} {f : Frm} {rs : List (Nat × Nat)} (h : Fit w k f rs) (hb : Below w.heap.size w w') : Fit w' k f rs :=
  ⟨h.kind, h.rd.below hb, h.pos⟩
theorem ints_pos (rs : List (Nat × Nat)) : ∀ x ∈ ints rs, 0 ≤ x.1 ∧ 0 ≤ x.2 := by
  intro x hx
  unfold ints at hx
  obtain ⟨p, _, rfl⟩ := List.mem_map.1 hx
  exact ⟨Int.natCast_nonneg _, Int.natCast_nonneg _⟩
theorem fit_may {w : World} {k : Nat} {f : Frm} {rs : List (Nat × Nat)} (h : Fit w k f rs) : Calls Tryd.prog 19 #[.agg #[.int .u64 f.kind, .int .u64 f.id, .int .u64 f.off, .int .u64 f.max, .int .u64 f.code, .int .u64 f.seq, .int .u64 f.prior, .int .u64 f.delay, .bool f.fin, .string ⟨f.data.toArray⟩, .string ⟨f.cid.toArray⟩, .string ⟨f.token.toArray⟩, .slice f.set.a f.set.n f.set.c]] w fun e w' => e = .returned (.bool (mayF k f (ints rs))) ∧ Below w.heap.size w w' :=
  may_frame k f (ints rs) w h.kind h.rd (ints_pos rs) (by have := h.pos 1 (by decide); exact this)
theorem set_in {w : World} {k : Nat} {f : Frm} {rs : List (Nat × Nat)} (B : Nat) (hB : w.heap.size ≤ B) (h : Fit w k f rs) (hm : mayF k f (ints rs) = true) (h2 : k = 2) : SetIn B f rs w ∧ 1 ≤ rs.length ∧ rs.length ≤ 32 := by
  obtain ⟨h1, _, h3, h4⟩ := mayF_k hm
  have ha : ackB (ints rs) = true := by
    unfold kndB at h4
    rw [h.kind, h2] at h4
    exact h4
  unfold ackB at ha
  rw [Bool.and_eq_true, Bool.and_eq_true, decide_eq_true_iff, decide_eq_true_iff, ints_len, ints_get] at ha
  obtain ⟨⟨hl1, hl2⟩, hmp, hh⟩ := ha
  have hmp : MayP (ints rs) := of_decide_eq_true hmp
  obtain ⟨a, cap, he, _, hr⟩ := h.rd
  obtain ⟨b, off, rfl, hc⟩ := hr (by intro e; rw [← ints_len, e] at hl1; simp at hl1)
  rw [ints_len] at hc he
  simp only at hh
  refine ⟨⟨b, off, ?_, ?_, h.n, hmp, by omega, ?_⟩, hl1, hl2⟩
  · injection he with e1 e2 e3
  · have hb := World.block_lt_of_cell? _ _ (hc 0 (by omega)).1
    simp only at hb
    omega
  · intro i hi
    have := hc i hi
    rw [ints_get] at this
    exact this
theorem SetIn.below {B : Nat} {f : Frm} {rs : List (Nat × Nat)} {w w' : World} (h : SetIn B f rs w) (hl : rs.length ≤ 32) (hb : Below w.heap.size w w') : SetIn B f rs w' := by
  obtain ⟨rb, off, h1, h2, h3, h4, h5, h6⟩ := h
  refine ⟨rb, off, h1, h2, h3, h4, h5, fun i hi => ?_⟩
  obtain ⟨c1, c2⟩ := h6 i hi
  have hlt := World.block_lt_of_cell? _ _ c1
  exact ⟨cell_below hb c1 hlt, cell_below hb c2 hlt⟩
theorem put_no (k : Nat) (f : Frm) (rs : List (Nat × Nat)) (w : World) (hF : Fit w k f rs) (hm : mayF k f (ints rs) = false) :
    Calls Tryd.prog 14 #[.agg #[.int .u64 f.kind, .int .u64 f.id, .int .u64 f.off, .int .u64 f.max, .int .u64 f.code, .int .u64 f.seq, .int .u64 f.prior, .int .u64 f.delay, .bool f.fin, .string ⟨f.data.toArray⟩, .string ⟨f.cid.toArray⟩, .string ⟨f.token.toArray⟩, .slice f.set.a f.set.n f.set.c]] w fun e w' => e = .returned (.tuple #[.string ⟨#[]⟩, .int .i64 1]) ∧ Below w.heap.size w w' := by
  have CM := Lib.hid (fun w (h : Fit w k f rs) => fit_may h)
  rw [hm] at CM
  have HB0 : Hid (Below w.heap.size w (w.alloc (.cells #[.int .u64 f.kind, .int .u64 f.id, .int .u64 f.off, .int .u64 f.max, .int .u64 f.code, .int .u64 f.seq, .int .u64 f.prior, .int .u64 f.delay, .bool f.fin, .string ⟨f.data.toArray⟩, .string ⟨f.cid.toArray⟩, .string ⟨f.token.toArray⟩, .slice f.set.a f.set.n f.set.c] 27 (0, 0)))) := Lib.hid ((Below.refl w.heap.size w).alloc (Nat.le_refl _) _)
  have HF0 := Lib.hid (hF.below HB0.out)
  clear hF hm
  go_enter Tryd.func14, Tryd.ntmps14
  go_wp2_with fail
  refine (CM.out _ HF0.out).mono ?_
  rintro e w1 ⟨rfl, hb⟩
  have HB1 := Lib.hid (HB0.out.trans (hb.mono (by simp)))
  clear hb
  go_wp2
  go_ret2
  exact ⟨rfl, HB1.out⟩
set_option maxHeartbeats 4000000 in
theorem put_yes (k : Nat) (f : Frm) (rs : List (Nat × Nat)) (w : World) (ht : Tab w) (hF : Fit w k f rs) (hm : mayF k f (ints rs) = true) :
    Calls Tryd.prog 14 #[.agg #[.int .u64 f.kind, .int .u64 f.id, .int .u64 f.off, .int .u64 f.max, .int .u64 f.code, .int .u64 f.seq, .int .u64 f.prior, .int .u64 f.delay, .bool f.fin, .string ⟨f.data.toArray⟩, .string ⟨f.cid.toArray⟩, .string ⟨f.token.toArray⟩, .slice f.set.a f.set.n f.set.c]] w fun e w' => e = .returned (.tuple #[.string ⟨(putL f rs).toArray⟩, .int .i64 0]) ∧ Below w.heap.size w w' := by
  have CM := Lib.hid (fun w (h : Fit w k f rs) => fit_may h)
  rw [hm] at CM
  obtain ⟨h1, h2, h3, h4⟩ := mayF_k hm
  have hbd := may_bounds hF.kind hm
  obtain ⟨q, hq, hq2, hqk⟩ := fst_q k f hF.kind (kind_lt h1)
  have HS : Hid ((toldP q).testBit 11 = true → SetIn w.heap.size f rs w ∧ 1 ≤ rs.length ∧ rs.length ≤ 32) := Lib.hid (fun hb => set_in w.heap.size (Nat.le_refl _) hF hm (hqk (told_2 ⟨q, hq2⟩ hb)))
  have HZ : Hid (∀ j, j < 7 → 0 ≤ nm f j ∧ nm f j ≤ 4611686018427387903) := Lib.hid (fun j hj => ⟨hF.pos j hj, h3 j hj⟩)
  have CW := Lib.hid (fun B b w ht hB hW hs => w_frame B b f rs q (toldP q) w ht hB hW hq hq2 rfl HZ.out (by omega) (by omega) (by omega) hs)
  have HB0 : Hid (Below w.heap.size w (w.alloc (.cells #[.int .u64 f.kind, .int .u64 f.id, .int .u64 f.off, .int .u64 f.max, .int .u64 f.code, .int .u64 f.seq, .int .u64 f.prior, .int .u64 f.delay, .bool f.fin, .string ⟨f.data.toArray⟩, .string ⟨f.cid.toArray⟩, .string ⟨f.token.toArray⟩, .slice f.set.a f.set.n f.set.c] 27 (0, 0)))) := Lib.hid ((Below.refl w.heap.size w).alloc (Nat.le_refl _) _)
  have HF0 := Lib.hid (hF.below HB0.out)
  have HNE := Lib.hid (putL_ne f rs)
  have HT := Lib.hid ht
  clear hF hm h1 h2 h3 h4 hq hq2 hqk HZ hbd
  go_enter Tryd.func14, Tryd.ntmps14
  go_wp2_with fail
  refine (CM.out _ HF0.out).mono ?_
  rintro e w1 ⟨rfl, hb⟩
  have HB1 := Lib.hid (HB0.out.trans (hb.mono (by simp)))
  have hF1 : w1.heap[w.heap.size]? = some (.cells #[.int .u64 f.kind, .int .u64 f.id, .int .u64 f.off, .int .u64 f.max, .int .u64 f.code, .int .u64 f.seq, .int .u64 f.prior, .int .u64 f.delay, .bool f.fin, .string ⟨f.data.toArray⟩, .string ⟨f.cid.toArray⟩, .string ⟨f.token.toArray⟩, .slice f.set.a f.set.n f.set.c] 27 (0, 0)) := (hb.block _ (by simp)).trans (World.alloc_heap_new w _)
  have hlt : w.heap.size < w1.heap.size := (Array.getElem?_eq_some_iff.1 hF1).1
  have hF2 : (w1.alloc (.cells #[.pointer none, .slice none 0 0] 74)).heap[w.heap.size]? = some (.cells #[.int .u64 f.kind, .int .u64 f.id, .int .u64 f.off, .int .u64 f.max, .int .u64 f.code, .int .u64 f.seq, .int .u64 f.prior, .int .u64 f.delay, .bool f.fin, .string ⟨f.data.toArray⟩, .string ⟨f.cid.toArray⟩, .string ⟨f.token.toArray⟩, .slice f.set.a f.set.n f.set.c] 27 (0, 0)) := (Lib.alloc_old w1 _ _ hlt).trans hF1
  have c0 : (w1.alloc (.cells #[.pointer none, .slice none 0 0] 74)).cell? ⟨w.heap.size, 0, none⟩ = some (.int .u64 f.kind) := Lib.cell_of_heap hF2 0
  have c1 : (w1.alloc (.cells #[.pointer none, .slice none 0 0] 74)).cell? ⟨w.heap.size, 1, none⟩ = some (.int .u64 f.id) := Lib.cell_of_heap hF2 1
  have c2 : (w1.alloc (.cells #[.pointer none, .slice none 0 0] 74)).cell? ⟨w.heap.size, 2, none⟩ = some (.int .u64 f.off) := Lib.cell_of_heap hF2 2
  have c3 : (w1.alloc (.cells #[.pointer none, .slice none 0 0] 74)).cell? ⟨w.heap.size, 3, none⟩ = some (.int .u64 f.max) := Lib.cell_of_heap hF2 3
  have c4 : (w1.alloc (.cells #[.pointer none, .slice none 0 0] 74)).cell? ⟨w.heap.size, 4, none⟩ = some (.int .u64 f.code) := Lib.cell_of_heap hF2 4
  have c5 : (w1.alloc (.cells #[.pointer none, .slice none 0 0] 74)).cell? ⟨w.heap.size, 5, none⟩ = some (.int .u64 f.seq) := Lib.cell_of_heap hF2 5
  have c6 : (w1.alloc (.cells #[.pointer none, .slice none 0 0] 74)).cell? ⟨w.heap.size, 6, none⟩ = some (.int .u64 f.prior) := Lib.cell_of_heap hF2 6
  have c7 : (w1.alloc (.cells #[.pointer none, .slice none 0 0] 74)).cell? ⟨w.heap.size, 7, none⟩ = some (.int .u64 f.delay) := Lib.cell_of_heap hF2 7
  have c8 : (w1.alloc (.cells #[.pointer none, .slice none 0 0] 74)).cell? ⟨w.heap.size, 8, none⟩ = some (.bool f.fin) := Lib.cell_of_heap hF2 8
  have c9 : (w1.alloc (.cells #[.pointer none, .slice none 0 0] 74)).cell? ⟨w.heap.size, 9, none⟩ = some (.string ⟨f.data.toArray⟩) := Lib.cell_of_heap hF2 9
  have c10 : (w1.alloc (.cells #[.pointer none, .slice none 0 0] 74)).cell? ⟨w.heap.size, 10, none⟩ = some (.string ⟨f.cid.toArray⟩) := Lib.cell_of_heap hF2 10
  have c11 : (w1.alloc (.cells #[.pointer none, .slice none 0 0] 74)).cell? ⟨w.heap.size, 11, none⟩ = some (.string ⟨f.token.toArray⟩) := Lib.cell_of_heap hF2 11
  have c12 : (w1.alloc (.cells #[.pointer none, .slice none 0 0] 74)).cell? ⟨w.heap.size, 12, none⟩ = some (.slice f.set.a f.set.n f.set.c) := Lib.cell_of_heap hF2 12

  have HB2 : Hid (Below w.heap.size w (w1.alloc (.cells #[.pointer none, .slice none 0 0] 74))) := Lib.hid (HB1.out.alloc HB1.out.size _)
  have HWB : Hid (WB w1.heap.size w1.heap.size [] (w1.alloc (.cells #[.pointer none, .slice none 0 0] 74))) := Lib.hid (Lib.fresh_isBuilder 74 5 w1)
  have HT2 := Lib.hid (HT.out.below HB2.out HT.out.lt)
  have hgB : 0 < w1.heap.size := Nat.lt_of_lt_of_le HT.out.lt HB1.out.size
  have HS2 : Hid ((toldP q).testBit 11 = true → SetIn w1.heap.size f rs (w1.alloc (.cells #[.pointer none, .slice none 0 0] 74)) ∧ 1 ≤ rs.length ∧ rs.length ≤ 32) := Lib.hid (fun hb => by
    obtain ⟨x1, x2, x3⟩ := HS.out hb
    obtain ⟨rb, off, y1, y2, y3⟩ := x1.below x3 HB2.out
    exact ⟨⟨rb, off, y1, Nat.lt_of_lt_of_le y2 HB1.out.size, y3⟩, x2, x3⟩)
  have HGB := Lib.hid hgB
  have HHS := HB1.out.size
  clear hb hF1 hF2 hgB
  go_wp2_with fail
  refine (CW.out _ _ _ HT2.out HGB.out HWB.out HS2.out).mono ?_
  rintro e w3 ⟨rfl, hw, hb, hk⟩
  have CS := Lib.hid (Fw.string_some _ _ _ w3 hw HNE.out)
  have HB3 := Lib.hid (HB2.out.trans (hb.mono HHS))
  have hsz := hb.size
  clear hw hb hk
  go_wp2_with fail
  refine CS.out.mono ?_
  rintro e w4 ⟨rfl, hb⟩
  have HB4 := Lib.hid (HB3.out.trans (hb.mono HHS))
  clear hb
  go_wp2
  go_ret2
  exact ⟨rfl, HB4.out⟩

/-- What read answers. -/
def ReadsTo (o : Option (Frm × List (Nat × Nat) × List UInt8)) (w : World) (e : Ending) (w' : World) : Prop :=
  Below w.heap.size w w' ∧ match o with
  | none => e = .returned (.tuple #[.agg #[.string ⟨#[]⟩, .int .u64 0, .int .u64 0, .int .u64 0, .int .u64 0, .int .u64 0, .int .u64 0, .int .u64 0, .int .u64 0, .bool false, .string ⟨#[]⟩, .string ⟨#[]⟩, .string ⟨#[]⟩, .slice none 0 0], .bool false])
  | some (f, rs, r) => ∃ sl : Sl, sl.n = rs.length ∧ Rd w' (.slice sl.a sl.n sl.c) (ints rs) ∧ (∀ x, sl.a = some x → w.heap.size ≤ x.block) ∧ e = frE r { f with set := sl }
theorem rd_none (w : World) : Rd w (.slice none 0 0) [] := ⟨none, 0, rfl, Nat.le_refl _, fun h => absurd rfl h⟩
theorem set_self (f : Frm) : ({ f with set := f.set } : Frm) = f := rfl
theorem read_any (l : List UInt8) (w : World) (ht : Tab w) (hl : l.length ≤ 100000) : Calls Tryd.prog 18 #[.string ⟨l.toArray⟩] w fun e w' => ReadsTo (frmN l) w e w' := by
  match l, hl with
  | [], _ => exact (read_no [] w ht (Lib.hid fun b W hT hF => frame_no_byte b W hF)).mono (by rintro e w' ⟨h1, h2⟩; exact ⟨h2, h1⟩)
  | c :: t, hl =>
    have hl2 : t.length ≤ 100000 := by simp only [List.length_cons] at hl; omega
    by_cases hk : toldB c.toNat = true
    · by_cases hs : (toldP c.toNat).testBit 11 = true
      · match ha : ackN t with
        | none =>
          have e0 : frmN (c :: t) = none := by rw [frmN_cons, if_pos hk, if_pos hs, ha]
          rw [e0]
          exact (read_no (c :: t) w ht (Lib.hid fun b W hT hF => frame_set_no b c t W hT hF hl2 hk hs ha)).mono (by rintro e w' ⟨h1, h2⟩; exact ⟨h2, h1⟩)
        | some (d, rs, r) =>
          have e0 : frmN (c :: t) = some ({ frZ with kind := (toldK c.toNat : Nat), delay := (d : Nat), set := ⟨none, rs.length, 0⟩ }, rs, r) := by rw [frmN_cons, if_pos hk, if_pos hs, ha]
          rw [e0]
          refine read_set_gen (c :: t) r { frZ with kind := (toldK c.toNat : Nat), delay := (d : Nat) } rs w ht _ ?_ (Lib.hid fun b W hT hF => frame_set_yes b c t W hT hF hl2 hk hs d rs r ha)
          intro g cc W' hp hb
          exact ⟨hb, ⟨some ⟨g, 0, none⟩, rs.length, cc⟩, rfl, hp.rd, fun x hx => by cases hx; exact hp.lt.1, rfl⟩
      · have hs : (toldP c.toNat).testBit 11 = false := by simpa using hs
        match ha : plainN c t with
        | none =>
          have e0 : frmN (c :: t) = none := by rw [frmN_cons, if_pos hk, if_neg (by rw [hs]; decide), ha]
          rw [e0]
          exact (read_no (c :: t) w ht (Lib.hid fun b W hT hF => plain_no c t hl2 hk hs ha b W hT hF)).mono (by rintro e w' ⟨h1, h2⟩; exact ⟨h2, h1⟩)
        | some (r, f) =>
          have e0 : frmN (c :: t) = some (f, [], r) := by rw [frmN_cons, if_pos hk, if_neg (by rw [hs]; decide), ha]
          rw [e0]
          have hst := (frmN_read e0).set
          refine (read_yes (c :: t) r f w ht (Lib.hid fun b W hT hF => plain_yes c t hl2 hk hs r f ha b W hT hF)).mono ?_
          rintro e w' ⟨h1, h2⟩
          refine ⟨h2, f.set, by rw [hst], ?_, ?_, h1⟩
          · rw [hst]
            exact rd_none w'
          · rw [hst]
            intro x hx
            cases hx
    · have hk : toldB c.toNat = false := by simpa using hk
      have e0 : frmN (c :: t) = none := by rw [frmN_cons, if_neg (by rw [hk]; decide)]
      rw [e0]
      exact (read_no (c :: t) w ht (Lib.hid fun b W hT hF => frame_no_kind b c t W hF hl2 hk)).mono (by rintro e w' ⟨h1, h2⟩; exact ⟨h2, h1⟩)

/-- A block that holds a frame. -/
def FrB (b : Nat) (f : Frm) (w : World) : Prop := w.heap[b]? = some (.cells #[.int .u64 f.kind, .int .u64 f.id, .int .u64 f.off, .int .u64 f.max, .int .u64 f.code, .int .u64 f.seq, .int .u64 f.prior, .int .u64 f.delay, .bool f.fin, .string ⟨f.data.toArray⟩, .string ⟨f.cid.toArray⟩, .string ⟨f.token.toArray⟩, .slice f.set.a f.set.n f.set.c] 27 (0, 0))
theorem FrB.lt {b : Nat} {f : Frm} {w : World} (h : FrB b f w) : b < w.heap.size := (Array.getElem?_eq_some_iff.1 h).1
theorem FrB.keep {b : Nat} {f : Frm} {w w' : World} (h : FrB b f w) (hb : Below w.heap.size w w') : FrB b f w' := (hb.block b h.lt).trans h
theorem FrB.fz {b : Nat} {f : Frm} {w : World} (h : FrB b f w) (k : Nat) : w.frozen? ⟨b, k, none⟩ = false := Lib.frozen_of_heap h k
theorem FrB.set0 {b : Nat} {f : Frm} {w : World} (h : FrB b f w) (v : Int) : FrB b { f with kind := v } (w.setCell ⟨b, 0, none⟩ (.int .u64 v)) := Joins.block_setCell (i := 0) h _
theorem FrB.cell0 {b : Nat} {f : Frm} {w : World} (h : FrB b f w) : w.cell? ⟨b, 0, none⟩ = some (.int .u64 f.kind) := Lib.cell_of_heap h 0
theorem FrB.set1 {b : Nat} {f : Frm} {w : World} (h : FrB b f w) (v : Int) : FrB b { f with id := v } (w.setCell ⟨b, 1, none⟩ (.int .u64 v)) := Joins.block_setCell (i := 1) h _
theorem FrB.cell1 {b : Nat} {f : Frm} {w : World} (h : FrB b f w) : w.cell? ⟨b, 1, none⟩ = some (.int .u64 f.id) := Lib.cell_of_heap h 1
theorem FrB.set2 {b : Nat} {f : Frm} {w : World} (h : FrB b f w) (v : Int) : FrB b { f with off := v } (w.setCell ⟨b, 2, none⟩ (.int .u64 v)) := Joins.block_setCell (i := 2) h _
theorem FrB.cell2 {b : Nat} {f : Frm} {w : World} (h : FrB b f w) : w.cell? ⟨b, 2, none⟩ = some (.int .u64 f.off) := Lib.cell_of_heap h 2
theorem FrB.set3 {b : Nat} {f : Frm} {w : World} (h : FrB b f w) (v : Int) : FrB b { f with max := v } (w.setCell ⟨b, 3, none⟩ (.int .u64 v)) := Joins.block_setCell (i := 3) h _
theorem FrB.cell3 {b : Nat} {f : Frm} {w : World} (h : FrB b f w) : w.cell? ⟨b, 3, none⟩ = some (.int .u64 f.max) := Lib.cell_of_heap h 3
theorem FrB.set4 {b : Nat} {f : Frm} {w : World} (h : FrB b f w) (v : Int) : FrB b { f with code := v } (w.setCell ⟨b, 4, none⟩ (.int .u64 v)) := Joins.block_setCell (i := 4) h _
theorem FrB.cell4 {b : Nat} {f : Frm} {w : World} (h : FrB b f w) : w.cell? ⟨b, 4, none⟩ = some (.int .u64 f.code) := Lib.cell_of_heap h 4
theorem FrB.set5 {b : Nat} {f : Frm} {w : World} (h : FrB b f w) (v : Int) : FrB b { f with seq := v } (w.setCell ⟨b, 5, none⟩ (.int .u64 v)) := Joins.block_setCell (i := 5) h _
theorem FrB.cell5 {b : Nat} {f : Frm} {w : World} (h : FrB b f w) : w.cell? ⟨b, 5, none⟩ = some (.int .u64 f.seq) := Lib.cell_of_heap h 5
theorem FrB.set6 {b : Nat} {f : Frm} {w : World} (h : FrB b f w) (v : Int) : FrB b { f with prior := v } (w.setCell ⟨b, 6, none⟩ (.int .u64 v)) := Joins.block_setCell (i := 6) h _
theorem FrB.cell6 {b : Nat} {f : Frm} {w : World} (h : FrB b f w) : w.cell? ⟨b, 6, none⟩ = some (.int .u64 f.prior) := Lib.cell_of_heap h 6
theorem FrB.set7 {b : Nat} {f : Frm} {w : World} (h : FrB b f w) (v : Int) : FrB b { f with delay := v } (w.setCell ⟨b, 7, none⟩ (.int .u64 v)) := Joins.block_setCell (i := 7) h _
theorem FrB.cell7 {b : Nat} {f : Frm} {w : World} (h : FrB b f w) : w.cell? ⟨b, 7, none⟩ = some (.int .u64 f.delay) := Lib.cell_of_heap h 7
theorem FrB.set8 {b : Nat} {f : Frm} {w : World} (h : FrB b f w) (v : Bool) : FrB b { f with fin := v } (w.setCell ⟨b, 8, none⟩ (.bool v)) := Joins.block_setCell (i := 8) h _
theorem FrB.cell8 {b : Nat} {f : Frm} {w : World} (h : FrB b f w) : w.cell? ⟨b, 8, none⟩ = some (.bool f.fin) := Lib.cell_of_heap h 8
theorem FrB.set9 {b : Nat} {f : Frm} {w : World} (h : FrB b f w) (v : List UInt8) : FrB b { f with data := v } (w.setCell ⟨b, 9, none⟩ (.string ⟨v.toArray⟩)) := Joins.block_setCell (i := 9) h _
theorem FrB.cell9 {b : Nat} {f : Frm} {w : World} (h : FrB b f w) : w.cell? ⟨b, 9, none⟩ = some (.string ⟨f.data.toArray⟩) := Lib.cell_of_heap h 9
theorem FrB.set10 {b : Nat} {f : Frm} {w : World} (h : FrB b f w) (v : List UInt8) : FrB b { f with cid := v } (w.setCell ⟨b, 10, none⟩ (.string ⟨v.toArray⟩)) := Joins.block_setCell (i := 10) h _
theorem FrB.cell10 {b : Nat} {f : Frm} {w : World} (h : FrB b f w) : w.cell? ⟨b, 10, none⟩ = some (.string ⟨f.cid.toArray⟩) := Lib.cell_of_heap h 10
theorem FrB.set11 {b : Nat} {f : Frm} {w : World} (h : FrB b f w) (v : List UInt8) : FrB b { f with token := v } (w.setCell ⟨b, 11, none⟩ (.string ⟨v.toArray⟩)) := Joins.block_setCell (i := 11) h _
theorem FrB.cell11 {b : Nat} {f : Frm} {w : World} (h : FrB b f w) : w.cell? ⟨b, 11, none⟩ = some (.string ⟨f.token.toArray⟩) := Lib.cell_of_heap h 11
theorem FrB.set12 {b : Nat} {f : Frm} {w : World} (h : FrB b f w) (v : Sl) : FrB b { f with set := v } (w.setCell ⟨b, 12, none⟩ (.slice v.a v.n v.c)) := Joins.block_setCell (i := 12) h _
theorem FrB.cell12 {b : Nat} {f : Frm} {w : World} (h : FrB b f w) : w.cell? ⟨b, 12, none⟩ = some (.slice f.set.a f.set.n f.set.c) := Lib.cell_of_heap h 12

/-- A frame's block, stored anew. -/
def rstF (N : Nat) (f : Frm) (W : World) : World := (((((((((((((W.setCell ⟨N, 0, none⟩ (.int .u64 f.kind)).setCell ⟨N, 1, none⟩ (.int .u64 f.id)).setCell ⟨N, 2, none⟩ (.int .u64 f.off)).setCell ⟨N, 3, none⟩ (.int .u64 f.max)).setCell ⟨N, 4, none⟩ (.int .u64 f.code)).setCell ⟨N, 5, none⟩ (.int .u64 f.seq)).setCell ⟨N, 6, none⟩ (.int .u64 f.prior)).setCell ⟨N, 7, none⟩ (.int .u64 f.delay)).setCell ⟨N, 8, none⟩ (.bool f.fin)).setCell ⟨N, 9, none⟩ (.string ⟨f.data.toArray⟩)).setCell ⟨N, 10, none⟩ (.string ⟨f.cid.toArray⟩)).setCell ⟨N, 11, none⟩ (.string ⟨f.token.toArray⟩)).setCell ⟨N, 12, none⟩ (.slice f.set.a f.set.n f.set.c))
theorem rstF_only (N : Nat) (f : Frm) (W : World) : It.Only (fun k => k = N) W (rstF N f W) := by
  unfold rstF
  iterate 13 (refine It.Only.trans ?_ (It.Only.setCell (O := fun k => k = N) rfl _ _))
  exact It.Only.refl _ _
theorem rstF_frb {N : Nat} {f : Frm} {W : World} (h : FrB N f W) (g : Frm) : FrB N g (rstF N g W) := (((((((((((((h.set0 g.kind).set1 g.id).set2 g.off).set3 g.max).set4 g.code).set5 g.seq).set6 g.prior).set7 g.delay).set8 g.fin).set9 g.data).set10 g.cid).set11 g.token).set12 g.set)
/-- What Get answers. -/
def GetsTo (o : Option (Frm × List (Nat × Nat) × List UInt8)) (w : World) (e : Ending) (w' : World) : Prop :=
  Below w.heap.size w w' ∧ match o with
  | none => e = .returned (.tuple #[.agg #[.int .u64 0, .int .u64 0, .int .u64 0, .int .u64 0, .int .u64 0, .int .u64 0, .int .u64 0, .int .u64 0, .bool false, .string ⟨#[]⟩, .string ⟨#[]⟩, .string ⟨#[]⟩, .slice none 0 0], .string ⟨#[]⟩, .int .i64 60])
  | some (f, rs, r) => ∃ sl : Sl, sl.n = rs.length ∧ Rd w' (.slice sl.a sl.n sl.c) (ints rs) ∧ (∀ x, sl.a = some x → w.heap.size ≤ x.block) ∧ e = .returned (.tuple #[.agg #[.int .u64 ({ f with set := sl } : Frm).kind, .int .u64 ({ f with set := sl } : Frm).id, .int .u64 ({ f with set := sl } : Frm).off, .int .u64 ({ f with set := sl } : Frm).max, .int .u64 ({ f with set := sl } : Frm).code, .int .u64 ({ f with set := sl } : Frm).seq, .int .u64 ({ f with set := sl } : Frm).prior, .int .u64 ({ f with set := sl } : Frm).delay, .bool ({ f with set := sl } : Frm).fin, .string ⟨({ f with set := sl } : Frm).data.toArray⟩, .string ⟨({ f with set := sl } : Frm).cid.toArray⟩, .string ⟨({ f with set := sl } : Frm).token.toArray⟩, .slice ({ f with set := sl } : Frm).set.a ({ f with set := sl } : Frm).set.n ({ f with set := sl } : Frm).set.c], .string ⟨r.toArray⟩, .int .i64 0])
theorem Rd.only {w w' : World} {a : Option Addr} {n c N B : Nat} {l : List Ran} (h : Rd w (.slice a n c) l) (hB : ∀ x, a = some x → B ≤ x.block) (hN : N < B) (ho : It.Only (fun k => k = N) w w') : Rd w' (.slice a n c) l := by
  obtain ⟨a', cap, hv, hcap, hrow⟩ := h
  refine ⟨a', cap, hv, hcap, fun hne => ?_⟩
  obtain ⟨b, off, ha, hc⟩ := hrow hne
  have hb : B ≤ b := by
    injection hv with e1 e2 e3
    exact hB ⟨b, off, none⟩ (e1.trans ha)
  exact ⟨b, off, ha, fun i hi => ⟨ho.cell (hc i hi).1 (by simp only; omega), ho.cell (hc i hi).2 (by simp only; omega)⟩⟩
theorem rd_drew {w : World} {v : Value} {l : List Ran} (h : Rd w v l) : Rd w.drew v l := h
theorem got_may (f F : Frm) (rs : List (Nat × Nat)) (r l : List UInt8) (h : frmN l = some (f, rs, r)) (hl : l.length ≤ 100000) (sl : Sl) (hF : { f with set := sl } = F) (hn : sl.n = rs.length) (w : World) (hrd : Rd w (.slice F.set.a F.set.n F.set.c) (ints rs)) :
    Calls Tryd.prog 19 #[.agg #[.int .u64 F.kind, .int .u64 F.id, .int .u64 F.off, .int .u64 F.max, .int .u64 F.code, .int .u64 F.seq, .int .u64 F.prior, .int .u64 F.delay, .bool F.fin, .string ⟨F.data.toArray⟩, .string ⟨F.cid.toArray⟩, .string ⟨F.token.toArray⟩, .slice F.set.a F.set.n F.set.c]] w fun e w' => e = .returned (.bool (mayF f.kind.toNat f (ints rs))) ∧ Below w.heap.size w w' := by
  subst hF
  have hr := frmN_read h
  obtain ⟨k, hk⟩ := hr.kind
  have hd := hr.data
  have h1 := may_frame k { f with set := sl } (ints rs) w hk hrd (ints_pos rs) (by have := hr.pos 1; exact this)
  have e0 : f.kind.toNat = k := by rw [hk]; exact Int.toNat_natCast k
  rw [e0]
  rw [may_cn k f (ints rs) sl (by rw [hn, hr.set])] at h1
  exact h1
set_option maxHeartbeats 4000000 in
theorem get_none (l : List UInt8) (w : World) (ht : Tab w) (hl : l.length ≤ 100000) (ho : frmN l = none) :
    Calls Tryd.prog 6 #[.string ⟨l.toArray⟩] w fun e w' => e = .returned (.tuple #[.agg #[.int .u64 0, .int .u64 0, .int .u64 0, .int .u64 0, .int .u64 0, .int .u64 0, .int .u64 0, .int .u64 0, .bool false, .string ⟨#[]⟩, .string ⟨#[]⟩, .string ⟨#[]⟩, .slice none 0 0], .string ⟨#[]⟩, .int .i64 60]) ∧ Below w.heap.size w w' := by
  have CR := Lib.hid (fun W (ht : Tab W) => read_any l W ht hl)
  rw [ho] at CR
  have HB0 : Hid (Below w.heap.size w (w.alloc (.cells #[.int .u64 0, .int .u64 0, .int .u64 0, .int .u64 0, .int .u64 0, .int .u64 0, .int .u64 0, .int .u64 0, .bool false, .string ⟨#[]⟩, .string ⟨#[]⟩, .string ⟨#[]⟩, .slice none 0 0] 27 (0, 0)))) := Lib.hid ((Below.refl w.heap.size w).alloc (Nat.le_refl _) _)
  have HT0 := Lib.hid (ht.below HB0.out ht.lt)
  have HF0 : Hid (FrB w.heap.size frZ (w.alloc (.cells #[.int .u64 0, .int .u64 0, .int .u64 0, .int .u64 0, .int .u64 0, .int .u64 0, .int .u64 0, .int .u64 0, .bool false, .string ⟨#[]⟩, .string ⟨#[]⟩, .string ⟨#[]⟩, .slice none 0 0] 27 (0, 0)))) := Lib.hid (World.alloc_heap_new w _)
  clear ht hl ho
  go_enter Tryd.func6, Tryd.ntmps6
  go_wp2_with fail
  refine (CR.out _ HT0.out).mono ?_
  rintro e w1 ⟨hb, rfl⟩
  have HB1 := Lib.hid (HB0.out.trans (hb.mono (by simp)))
  have HF1 := Lib.hid (HF0.out.keep hb)
  have HF2 := Lib.hid (HF1.out.keep ((Below.refl w1.heap.size w1).alloc (Nat.le_refl _) (.cells #[.string ⟨#[]⟩, .int .u64 0, .int .u64 0, .int .u64 0, .int .u64 0, .int .u64 0, .int .u64 0, .int .u64 0, .int .u64 0, .bool false, .string ⟨#[]⟩, .string ⟨#[]⟩, .string ⟨#[]⟩, .slice none 0 0] 59 (0, 0))))
  have HB2 := Lib.hid (HB1.out.alloc HB1.out.size (.cells #[.string ⟨#[]⟩, .int .u64 0, .int .u64 0, .int .u64 0, .int .u64 0, .int .u64 0, .int .u64 0, .int .u64 0, .int .u64 0, .bool false, .string ⟨#[]⟩, .string ⟨#[]⟩, .string ⟨#[]⟩, .slice none 0 0] 59 (0, 0)))
  clear hb
  have a0 := HF2.out.cell0
  have a1 := HF2.out.cell1
  have a2 := HF2.out.cell2
  have a3 := HF2.out.cell3
  have a4 := HF2.out.cell4
  have a5 := HF2.out.cell5
  have a6 := HF2.out.cell6
  have a7 := HF2.out.cell7
  have a8 := HF2.out.cell8
  have a9 := HF2.out.cell9
  have a10 := HF2.out.cell10
  have a11 := HF2.out.cell11
  have a12 := HF2.out.cell12
  have a13 := HF2.out.fz
  go_wp2
  refine bodyPost_ret (v := .tuple #[.agg #[.int .u64 0, .int .u64 0, .int .u64 0, .int .u64 0, .int .u64 0, .int .u64 0, .int .u64 0, .int .u64 0, .bool false, .string ⟨#[]⟩, .string ⟨#[]⟩, .string ⟨#[]⟩, .slice none 0 0], .string ⟨#[]⟩, .int .i64 60]) (by
    change Sem.run Tryd.prog (results _ _) (rstF w.heap.size frZ (w1.alloc (.cells #[.string ⟨#[]⟩, .int .u64 0, .int .u64 0, .int .u64 0, .int .u64 0, .int .u64 0, .int .u64 0, .int .u64 0, .int .u64 0, .bool false, .string ⟨#[]⟩, .string ⟨#[]⟩, .string ⟨#[]⟩, .slice none 0 0] 59 (0, 0)))) = Result.ok _ (rstF w.heap.size frZ (w1.alloc (.cells #[.string ⟨#[]⟩, .int .u64 0, .int .u64 0, .int .u64 0, .int .u64 0, .int .u64 0, .int .u64 0, .int .u64 0, .int .u64 0, .bool false, .string ⟨#[]⟩, .string ⟨#[]⟩, .string ⟨#[]⟩, .slice none 0 0] 59 (0, 0))))
    have e := rstF_frb HF2.out frZ
    have y0 := e.cell0
    have y1 := e.cell1
    have y2 := e.cell2
    have y3 := e.cell3
    have y4 := e.cell4
    have y5 := e.cell5
    have y6 := e.cell6
    have y7 := e.cell7
    have y8 := e.cell8
    have y9 := e.cell9
    have y10 := e.cell10
    have y11 := e.cell11
    have y12 := e.cell12
    generalize (rstF w.heap.size frZ (w1.alloc (.cells #[.string ⟨#[]⟩, .int .u64 0, .int .u64 0, .int .u64 0, .int .u64 0, .int .u64 0, .int .u64 0, .int .u64 0, .int .u64 0, .bool false, .string ⟨#[]⟩, .string ⟨#[]⟩, .string ⟨#[]⟩, .slice none 0 0] 59 (0, 0)))) = X at y0 y1 y2 y3 y4 y5 y6 y7 y8 y9 y10 y11 y12 ⊢
    simp [results, Tryd.results6, go_sem, frZ, y0, y1, y2, y3, y4, y5, y6, y7, y8, y9, y10, y11, y12]) rfl ⟨rfl, ?_⟩
  exact HB2.out.trans ((rstF_only w.heap.size frZ (w1.alloc (.cells #[.string ⟨#[]⟩, .int .u64 0, .int .u64 0, .int .u64 0, .int .u64 0, .int .u64 0, .int .u64 0, .int .u64 0, .int .u64 0, .bool false, .string ⟨#[]⟩, .string ⟨#[]⟩, .string ⟨#[]⟩, .slice none 0 0] 59 (0, 0)))).below HB2.out.size (fun k hk => by omega))
set_option maxHeartbeats 8000000 in
theorem get_refused (l r : List UInt8) (f : Frm) (rs : List (Nat × Nat)) (w : World) (ht : Tab w) (hl : l.length ≤ 100000) (ho : frmN l = some (f, rs, r)) (hm : mayF f.kind.toNat f (ints rs) = false) :
    Calls Tryd.prog 6 #[.string ⟨l.toArray⟩] w fun e w' => e = .returned (.tuple #[.agg #[.int .u64 0, .int .u64 0, .int .u64 0, .int .u64 0, .int .u64 0, .int .u64 0, .int .u64 0, .int .u64 0, .bool false, .string ⟨#[]⟩, .string ⟨#[]⟩, .string ⟨#[]⟩, .slice none 0 0], .string ⟨#[]⟩, .int .i64 60]) ∧ Below w.heap.size w w' := by
  have CR := Lib.hid (fun W (ht : Tab W) => read_any l W ht hl)
  rw [ho] at CR
  have CM := Lib.hid (fun F sl hF hn W hrd => got_may f F rs r l ho hl sl hF hn W hrd)
  rw [hm] at CM
  have HB0 : Hid (Below w.heap.size w (w.alloc (.cells #[.int .u64 0, .int .u64 0, .int .u64 0, .int .u64 0, .int .u64 0, .int .u64 0, .int .u64 0, .int .u64 0, .bool false, .string ⟨#[]⟩, .string ⟨#[]⟩, .string ⟨#[]⟩, .slice none 0 0] 27 (0, 0)))) := Lib.hid ((Below.refl w.heap.size w).alloc (Nat.le_refl _) _)
  have HT0 := Lib.hid (ht.below HB0.out ht.lt)
  have HF0 : Hid (FrB w.heap.size frZ (w.alloc (.cells #[.int .u64 0, .int .u64 0, .int .u64 0, .int .u64 0, .int .u64 0, .int .u64 0, .int .u64 0, .int .u64 0, .bool false, .string ⟨#[]⟩, .string ⟨#[]⟩, .string ⟨#[]⟩, .slice none 0 0] 27 (0, 0)))) := Lib.hid (World.alloc_heap_new w _)
  clear ht hl ho hm
  go_enter Tryd.func6, Tryd.ntmps6
  go_wp2_with fail
  refine (CR.out _ HT0.out).mono ?_
  rintro e w1 ⟨hb, sl, hn, hrd, hnew, he⟩
  obtain ⟨F, hF⟩ : ∃ F, ({ f with set := sl } : Frm) = F := ⟨_, rfl⟩
  rw [hF] at he
  have hrd : Rd w1 (.slice F.set.a F.set.n F.set.c) (ints rs) := by rw [← hF]; exact hrd
  have HNW : Hid (∀ x, F.set.a = some x → w.heap.size + 1 ≤ x.block) := Lib.hid (by rw [← hF]; simpa using hnew)
  have CM2 := Lib.hid (fun W h => CM.out F sl hF hn W h)
  have HFF := Lib.hid hF
  have HN := Lib.hid hn
  subst he
  have HBA : Hid (Below w1.heap.size w1 (w1.alloc (.cells #[.string ⟨r.toArray⟩, .int .u64 F.kind, .int .u64 F.id, .int .u64 F.off, .int .u64 F.max, .int .u64 F.code, .int .u64 F.seq, .int .u64 F.prior, .int .u64 F.delay, .bool F.fin, .string ⟨F.data.toArray⟩, .string ⟨F.cid.toArray⟩, .string ⟨F.token.toArray⟩, .slice F.set.a F.set.n F.set.c] 59 (0, 0)))) := Lib.hid ((Below.refl w1.heap.size w1).alloc (Nat.le_refl _) _)
  have HB1 := Lib.hid (HB0.out.trans (hb.mono (by simp)))
  have HF1 := Lib.hid (HF0.out.keep hb)
  have HF2 := Lib.hid (HF1.out.keep HBA.out)
  have HB2 := Lib.hid (HB1.out.alloc HB1.out.size (.cells #[.string ⟨r.toArray⟩, .int .u64 F.kind, .int .u64 F.id, .int .u64 F.off, .int .u64 F.max, .int .u64 F.code, .int .u64 F.seq, .int .u64 F.prior, .int .u64 F.delay, .bool F.fin, .string ⟨F.data.toArray⟩, .string ⟨F.cid.toArray⟩, .string ⟨F.token.toArray⟩, .slice F.set.a F.set.n F.set.c] 59 (0, 0)))
  have HR2 := Lib.hid (hrd.below HBA.out)
  have HK2 : Hid (FBk w1.heap.size r F (w1.alloc (.cells #[.string ⟨r.toArray⟩, .int .u64 F.kind, .int .u64 F.id, .int .u64 F.off, .int .u64 F.max, .int .u64 F.code, .int .u64 F.seq, .int .u64 F.prior, .int .u64 F.delay, .bool F.fin, .string ⟨F.data.toArray⟩, .string ⟨F.cid.toArray⟩, .string ⟨F.token.toArray⟩, .slice F.set.a F.set.n F.set.c] 59 (0, 0)))) := Lib.hid (World.alloc_heap_new w1 _)
  clear hb hrd hnew hF hn CM CR HT0
  unfold frE
  go_wp2_with fail
  refine (CM2.out _ HR2.out).mono ?_
  rintro e w3 ⟨rfl, hb⟩
  have HF3 := Lib.hid (HF2.out.keep hb)
  have HK3 := Lib.hid (HK2.out.keep hb)
  have HR3 := Lib.hid (HR2.out.below hb)
  have HB3 := Lib.hid (HB2.out.trans (hb.mono HB2.out.size))
  clear hb
  have a0 := HF3.out.cell0
  have a1 := HF3.out.cell1
  have a2 := HF3.out.cell2
  have a3 := HF3.out.cell3
  have a4 := HF3.out.cell4
  have a5 := HF3.out.cell5
  have a6 := HF3.out.cell6
  have a7 := HF3.out.cell7
  have a8 := HF3.out.cell8
  have a9 := HF3.out.cell9
  have a10 := HF3.out.cell10
  have a11 := HF3.out.cell11
  have a12 := HF3.out.cell12
  have a13 := HF3.out.fz
  go_wp2
  refine bodyPost_ret (v := .tuple #[.agg #[.int .u64 0, .int .u64 0, .int .u64 0, .int .u64 0, .int .u64 0, .int .u64 0, .int .u64 0, .int .u64 0, .bool false, .string ⟨#[]⟩, .string ⟨#[]⟩, .string ⟨#[]⟩, .slice none 0 0], .string ⟨#[]⟩, .int .i64 60]) (by
    change Sem.run Tryd.prog (results _ _) (rstF w.heap.size frZ w3) = Result.ok _ (rstF w.heap.size frZ w3)
    have e := rstF_frb (N := w.heap.size) (W := w3) HF3.out frZ
    have y0 := e.cell0
    have y1 := e.cell1
    have y2 := e.cell2
    have y3 := e.cell3
    have y4 := e.cell4
    have y5 := e.cell5
    have y6 := e.cell6
    have y7 := e.cell7
    have y8 := e.cell8
    have y9 := e.cell9
    have y10 := e.cell10
    have y11 := e.cell11
    have y12 := e.cell12
    generalize (rstF w.heap.size frZ w3) = X at y0 y1 y2 y3 y4 y5 y6 y7 y8 y9 y10 y11 y12 ⊢
    simp [results, Tryd.results6, go_sem, frZ, y0, y1, y2, y3, y4, y5, y6, y7, y8, y9, y10, y11, y12]) rfl ⟨rfl, ?_⟩
  exact HB3.out.trans ((rstF_only w.heap.size frZ w3).below HB3.out.size (fun k hk => by omega))
set_option maxHeartbeats 8000000 in
theorem get_some (l r : List UInt8) (f : Frm) (rs : List (Nat × Nat)) (w : World) (ht : Tab w) (hl : l.length ≤ 100000) (ho : frmN l = some (f, rs, r)) (hm : mayF f.kind.toNat f (ints rs) = true) :
    Calls Tryd.prog 6 #[.string ⟨l.toArray⟩] w fun e w' => (∃ sl : Sl, sl.n = rs.length ∧ Rd w' (.slice sl.a sl.n sl.c) (ints rs) ∧ (∀ x, sl.a = some x → w.heap.size ≤ x.block) ∧ e = .returned (.tuple #[.agg #[.int .u64 ({ f with set := sl } : Frm).kind, .int .u64 ({ f with set := sl } : Frm).id, .int .u64 ({ f with set := sl } : Frm).off, .int .u64 ({ f with set := sl } : Frm).max, .int .u64 ({ f with set := sl } : Frm).code, .int .u64 ({ f with set := sl } : Frm).seq, .int .u64 ({ f with set := sl } : Frm).prior, .int .u64 ({ f with set := sl } : Frm).delay, .bool ({ f with set := sl } : Frm).fin, .string ⟨({ f with set := sl } : Frm).data.toArray⟩, .string ⟨({ f with set := sl } : Frm).cid.toArray⟩, .string ⟨({ f with set := sl } : Frm).token.toArray⟩, .slice ({ f with set := sl } : Frm).set.a ({ f with set := sl } : Frm).set.n ({ f with set := sl } : Frm).set.c], .string ⟨r.toArray⟩, .int .i64 0])) ∧ Below w.heap.size w w' := by
  have CR := Lib.hid (fun W (ht : Tab W) => read_any l W ht hl)
  rw [ho] at CR
  have CM := Lib.hid (fun F sl hF hn W hrd => got_may f F rs r l ho hl sl hF hn W hrd)
  rw [hm] at CM
  have HB0 : Hid (Below w.heap.size w (w.alloc (.cells #[.int .u64 0, .int .u64 0, .int .u64 0, .int .u64 0, .int .u64 0, .int .u64 0, .int .u64 0, .int .u64 0, .bool false, .string ⟨#[]⟩, .string ⟨#[]⟩, .string ⟨#[]⟩, .slice none 0 0] 27 (0, 0)))) := Lib.hid ((Below.refl w.heap.size w).alloc (Nat.le_refl _) _)
  have HT0 := Lib.hid (ht.below HB0.out ht.lt)
  have HF0 : Hid (FrB w.heap.size frZ (w.alloc (.cells #[.int .u64 0, .int .u64 0, .int .u64 0, .int .u64 0, .int .u64 0, .int .u64 0, .int .u64 0, .int .u64 0, .bool false, .string ⟨#[]⟩, .string ⟨#[]⟩, .string ⟨#[]⟩, .slice none 0 0] 27 (0, 0)))) := Lib.hid (World.alloc_heap_new w _)
  clear ht hl ho hm
  go_enter Tryd.func6, Tryd.ntmps6
  go_wp2_with fail
  refine (CR.out _ HT0.out).mono ?_
  rintro e w1 ⟨hb, sl, hn, hrd, hnew, he⟩
  obtain ⟨F, hF⟩ : ∃ F, ({ f with set := sl } : Frm) = F := ⟨_, rfl⟩
  rw [hF] at he
  have hrd : Rd w1 (.slice F.set.a F.set.n F.set.c) (ints rs) := by rw [← hF]; exact hrd
  have HNW : Hid (∀ x, F.set.a = some x → w.heap.size + 1 ≤ x.block) := Lib.hid (by rw [← hF]; simpa using hnew)
  have CM2 := Lib.hid (fun W h => CM.out F sl hF hn W h)
  have HFF := Lib.hid hF
  have HN := Lib.hid hn
  subst he
  have HBA : Hid (Below w1.heap.size w1 (w1.alloc (.cells #[.string ⟨r.toArray⟩, .int .u64 F.kind, .int .u64 F.id, .int .u64 F.off, .int .u64 F.max, .int .u64 F.code, .int .u64 F.seq, .int .u64 F.prior, .int .u64 F.delay, .bool F.fin, .string ⟨F.data.toArray⟩, .string ⟨F.cid.toArray⟩, .string ⟨F.token.toArray⟩, .slice F.set.a F.set.n F.set.c] 59 (0, 0)))) := Lib.hid ((Below.refl w1.heap.size w1).alloc (Nat.le_refl _) _)
  have HB1 := Lib.hid (HB0.out.trans (hb.mono (by simp)))
  have HF1 := Lib.hid (HF0.out.keep hb)
  have HF2 := Lib.hid (HF1.out.keep HBA.out)
  have HB2 := Lib.hid (HB1.out.alloc HB1.out.size (.cells #[.string ⟨r.toArray⟩, .int .u64 F.kind, .int .u64 F.id, .int .u64 F.off, .int .u64 F.max, .int .u64 F.code, .int .u64 F.seq, .int .u64 F.prior, .int .u64 F.delay, .bool F.fin, .string ⟨F.data.toArray⟩, .string ⟨F.cid.toArray⟩, .string ⟨F.token.toArray⟩, .slice F.set.a F.set.n F.set.c] 59 (0, 0)))
  have HR2 := Lib.hid (hrd.below HBA.out)
  have HK2 : Hid (FBk w1.heap.size r F (w1.alloc (.cells #[.string ⟨r.toArray⟩, .int .u64 F.kind, .int .u64 F.id, .int .u64 F.off, .int .u64 F.max, .int .u64 F.code, .int .u64 F.seq, .int .u64 F.prior, .int .u64 F.delay, .bool F.fin, .string ⟨F.data.toArray⟩, .string ⟨F.cid.toArray⟩, .string ⟨F.token.toArray⟩, .slice F.set.a F.set.n F.set.c] 59 (0, 0)))) := Lib.hid (World.alloc_heap_new w1 _)
  clear hb hrd hnew hF hn CM CR HT0
  unfold frE
  go_wp2_with fail
  refine (CM2.out _ HR2.out).mono ?_
  rintro e w3 ⟨rfl, hb⟩
  have HF3 := Lib.hid (HF2.out.keep hb)
  have HK3 := Lib.hid (HK2.out.keep hb)
  have HR3 := Lib.hid (HR2.out.below hb)
  have HB3 := Lib.hid (HB2.out.trans (hb.mono HB2.out.size))
  clear hb
  have hlt : w.heap.size < w1.heap.size := HF1.out.lt
  have a0 := HF3.out.cell0
  have a1 := HF3.out.cell1
  have a2 := HF3.out.cell2
  have a3 := HF3.out.cell3
  have a4 := HF3.out.cell4
  have a5 := HF3.out.cell5
  have a6 := HF3.out.cell6
  have a7 := HF3.out.cell7
  have a8 := HF3.out.cell8
  have a9 := HF3.out.cell9
  have a10 := HF3.out.cell10
  have a11 := HF3.out.cell11
  have a12 := HF3.out.cell12
  have a13 := HF3.out.fz
  have b0 := HK3.out.cell0
  have b1 := HK3.out.cell1
  have b2 := HK3.out.cell2
  have b3 := HK3.out.cell3
  have b4 := HK3.out.cell4
  have b5 := HK3.out.cell5
  have b6 := HK3.out.cell6
  have b7 := HK3.out.cell7
  have b8 := HK3.out.cell8
  have b9 := HK3.out.cell9
  have b10 := HK3.out.cell10
  have b11 := HK3.out.cell11
  have b12 := HK3.out.cell12
  have b13 := HK3.out.cell13
  go_wp2
  have HRF := Lib.hid (Rd.only HR3.out (B := w.heap.size + 1) HNW.out (Nat.lt_succ_self _) (rstF_only w.heap.size F w3))
  go_region
  go_wp2
  refine bodyPost_ret (v := .tuple #[.agg #[.int .u64 F.kind, .int .u64 F.id, .int .u64 F.off, .int .u64 F.max, .int .u64 F.code, .int .u64 F.seq, .int .u64 F.prior, .int .u64 F.delay, .bool F.fin, .string ⟨F.data.toArray⟩, .string ⟨F.cid.toArray⟩, .string ⟨F.token.toArray⟩, .slice F.set.a F.set.n F.set.c], .string ⟨r.toArray⟩, .int .i64 0]) (by
    change Sem.run Tryd.prog (results _ _) (rstF w.heap.size F w3).drew = Result.ok _ (rstF w.heap.size F w3).drew
    have e := rstF_frb (N := w.heap.size) (W := w3) HF3.out F
    have y0 := e.cell0
    have y1 := e.cell1
    have y2 := e.cell2
    have y3 := e.cell3
    have y4 := e.cell4
    have y5 := e.cell5
    have y6 := e.cell6
    have y7 := e.cell7
    have y8 := e.cell8
    have y9 := e.cell9
    have y10 := e.cell10
    have y11 := e.cell11
    have y12 := e.cell12
    generalize (rstF w.heap.size F w3) = X at y0 y1 y2 y3 y4 y5 y6 y7 y8 y9 y10 y11 y12 ⊢
    simp [results, Tryd.results6, go_sem, y0, y1, y2, y3, y4, y5, y6, y7, y8, y9, y10, y11, y12]) rfl ⟨?_, ?_⟩
  · have hF := HFF.out
    have hn := HN.out
    have hr := rd_drew HRF.out
    have hw := HNW.out
    subst hF
    exact ⟨sl, hn, hr, fun x hx => by have := hw x hx; omega, rfl⟩
  · exact HB3.out.trans (Below.drew ((rstF_only w.heap.size F w3).below HB3.out.size (fun k hk => by omega)))
/-- Get, in one word. -/
theorem get_any (l : List UInt8) (w : World) (ht : Tab w) (hl : l.length ≤ 100000) : Calls Tryd.prog 6 #[.string ⟨l.toArray⟩] w fun e w' => GetsTo (getN l) w e w' := by
  unfold getN
  match hx : frmN l with
  | none => exact (get_none l w ht hl hx).mono (by rintro e w' ⟨h1, h2⟩; exact ⟨h2, h1⟩)
  | some (f, rs, r) =>
    simp only
    by_cases hm : mayF f.kind.toNat f (ints rs) = true
    · rw [if_pos hm]
      exact (get_some l r f rs w ht hl hx hm).mono (by rintro e w' ⟨⟨sl, h1, h2, h3, h4⟩, h5⟩; exact ⟨h5, sl, h1, h2, h3, h4⟩)
    · rw [if_neg hm]
      exact (get_refused l r f rs w ht hl hx (by simpa using hm)).mono (by rintro e w' ⟨h1, h2⟩; exact ⟨h2, h1⟩)
end Go.Proofs.YtfeecfdbncjmnaaDoor.Fm
