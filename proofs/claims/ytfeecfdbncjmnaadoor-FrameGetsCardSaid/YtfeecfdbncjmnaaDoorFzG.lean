/- Layer 6: FgO, FgP, FgQ, joined by tools/pack.py. -/
import Derived.Test.YtfeecfdbncjmnaaDoorFzD
import Derived.Test.YtfeecfdbncjmnaaDoorFzF
import Derived.Maps.AppendAt
import Derived.Deep.RegionHeld3
import Derived.Deep.CutRange
namespace Go.Proofs.YtfeecfdbncjmnaaDoor.Fm
set_option maxRecDepth 20000
open Go.RowKit Vm
set_option linter.unusedVariables false
set_option linter.unusedSimpArgs false
section
theorem gst_4 (l : List UInt8) : gst l 4 = if gk l ≤ l.length then (if gk (gR l) ≤ (gR l).length then (if gk (gR (gR l)) ≤ (gR (gR l)).length then (if gk (gR (gR (gR l))) ≤ (gR (gR (gR l))).length then some ([gN l, gN (gR l), gN (gR (gR l)), gN (gR (gR (gR l)))], gR (gR (gR (gR l)))) else none) else none) else none) else none := by
  have h3 := gst_3 l
  by_cases h : gk l ≤ l.length
  · rw [if_pos h] at h3 ⊢
    by_cases h' : gk (gR l) ≤ (gR l).length
    · rw [if_pos h'] at h3 ⊢
      by_cases h'' : gk (gR (gR l)) ≤ (gR (gR l)).length
      · rw [if_pos h''] at h3 ⊢
        exact gst_next h3
      · rw [if_neg h''] at h3 ⊢
        exact gst_none h3 4 (by decide)
    · rw [if_neg h'] at h3 ⊢
      exact gst_none h3 4 (by decide)
  · rw [if_neg h] at h3 ⊢
    exact gst_none h3 4 (by decide)
/-- An Ack's parts, by four numbers and by two. -/
def ackZ (a0 a1 a2 a3 : Nat) (l4 : List UInt8) : Option (Nat × List (Nat × Nat) × List UInt8) :=
  if 32 ≤ a2 then none else if a0 < a3 then none else match ackG a2 (a0 - a3) [(a0 - a3, a0)] l4 with
    | none => none
    | some (ac, l5) => some (a1, ac.reverse, l5)
theorem ack_none {l : List UInt8} (h : gst l 4 = none) : ackN l = none := by
  rw [gst_4] at h
  unfold ackN vt
  by_cases h1 : gk l ≤ l.length
  · rw [if_pos h1] at h ⊢
    simp only
    by_cases h2 : gk (gR l) ≤ (gR l).length
    · rw [if_pos h2] at h ⊢
      simp only
      by_cases h3 : gk (gR (gR l)) ≤ (gR (gR l)).length
      · rw [if_pos h3] at h ⊢
        simp only
        by_cases h4 : gk (gR (gR (gR l))) ≤ (gR (gR (gR l))).length
        · rw [if_pos h4] at h; cases h
        · rw [if_neg h4]
          simp
      · rw [if_neg h3]
    · rw [if_neg h2]
  · rw [if_neg h1]
theorem ack_some {l : List UInt8} {acc : List Nat} {l4 : List UInt8} (h : gst l 4 = some (acc, l4)) : ackN l = ackZ (acc.getD 0 0) (acc.getD 1 0) (acc.getD 2 0) (acc.getD 3 0) l4 := by
  rw [gst_4] at h
  unfold ackN vt
  by_cases h1 : gk l ≤ l.length
  · rw [if_pos h1] at h ⊢
    simp only
    by_cases h2 : gk (gR l) ≤ (gR l).length
    · rw [if_pos h2] at h ⊢
      simp only
      by_cases h3 : gk (gR (gR l)) ≤ (gR (gR l)).length
      · rw [if_pos h3] at h ⊢
        simp only
        by_cases h4 : gk (gR (gR (gR l))) ≤ (gR (gR (gR l))).length
        · rw [if_pos h4] at h ⊢
          injection h with h
          injection h with h5 h6
          subst h5; subst h6
          rfl
        · rw [if_neg h4] at h; cases h
      · rw [if_neg h3] at h; cases h
    · rw [if_neg h2] at h; cases h
  · rw [if_neg h1] at h; cases h
theorem ackG_none {m lo : Nat} {acc : List (Nat × Nat)} {l : List UInt8} (h : gst l 2 = none) : ackG (m + 1) lo acc l = none := by
  rw [gst_2] at h
  unfold ackG vt
  by_cases h1 : gk l ≤ l.length
  · rw [if_pos h1] at h ⊢
    simp only
    by_cases h2 : gk (gR l) ≤ (gR l).length
    · rw [if_pos h2] at h; cases h
    · rw [if_neg h2]
      simp
  · rw [if_neg h1]
theorem ackG_some {m lo : Nat} {acc : List (Nat × Nat)} {l l2 : List UInt8} {a : List Nat} (h : gst l 2 = some (a, l2)) : ackG (m + 1) lo acc l = if lo < a.getD 0 0 + 2 then none else if lo - (a.getD 0 0 + 2) < a.getD 1 0 then none else ackG m (lo - (a.getD 0 0 + 2) - a.getD 1 0) (acc ++ [(lo - (a.getD 0 0 + 2) - a.getD 1 0, lo - (a.getD 0 0 + 2))]) l2 := by
  rw [gst_2] at h
  by_cases h1 : gk l ≤ l.length
  · rw [if_pos h1] at h
    by_cases h2 : gk (gR l) ≤ (gR l).length
    · rw [if_pos h2] at h
      injection h with h
      injection h with h5 h6
      subst h5; subst h6
      conv => lhs; unfold ackG vt
      rw [if_pos h1]
      simp only
      rw [if_pos h2]
      rfl
    · rw [if_neg h2] at h; cases h
  · rw [if_neg h1] at h; cases h
theorem frm_2 (t : List UInt8) : frmN (2 :: t) = match ackN t with
    | none => none
    | some (d, rs, r) => some ({ frZ with kind := 2, delay := (d : Nat), set := ⟨none, rs.length, 0⟩ }, rs, r) := by
  rw [frmN_cons, if_pos (show toldB (UInt8.toNat 2) = true from rfl), if_pos (show (toldP (UInt8.toNat 2)).testBit 11 = true from rfl)]
  rfl
theorem gd_new (w : World) : FrD w.heap.size frZ (w.alloc (.cells #[.int .u64 0, .int .u64 0, .int .u64 0, .int .u64 0, .int .u64 0, .int .u64 0, .int .u64 0, .int .u64 0, .bool false, .string ⟨#[]⟩, .string ⟨#[]⟩, .string ⟨#[]⟩, .slice none 0 0] 34)) ∧ Below w.heap.size w (w.alloc (.cells #[.int .u64 0, .int .u64 0, .int .u64 0, .int .u64 0, .int .u64 0, .int .u64 0, .int .u64 0, .int .u64 0, .bool false, .string ⟨#[]⟩, .string ⟨#[]⟩, .string ⟨#[]⟩, .slice none 0 0] 34)) := ⟨World.alloc_heap_new w _, (Below.refl _ _).alloc (Nat.le_refl _) _⟩
set_option maxRecDepth 100000 in
set_option maxHeartbeats 8000000 in
theorem rack_short (l : List UInt8) (w : World) (hl : l.length ≤ 4000) (hg : gst l 4 = none) : Calls Tryd.prog 37 #[.string ⟨l.toArray⟩] w (PtTo none w) := by
  have CN := Lib.hid (fun w => rnumbers l 4 w hl (by decide) (by decide))
  rw [hg] at CN
  have HR0 := Lib.hid (gd_new w)
  clear hl hg
  go_enter Tryd.func37, Tryd.ntmps37
  go_wp2_with fail
  refine (CN.out _).mono ?_
  rintro e w1 ⟨hb, rfl⟩
  have HR := Lib.hid (HR0.out.1.stay hb)
  have HB := Lib.hid (HR0.out.2.trans (hb.mono HR0.out.2.size))
  clear hb
  obtain ⟨d0, d1, d2, d3, d4, d5, d6, d7, d8, d9, d10, d11, d12⟩ := HR.out.ats
  have df := HR.out.fz
  go_wp2_with fail
  go_quiet (fail)
  go_wp2_with fail
  have HE1 := Lib.hid (rstF_frd (show FrD w.heap.size frZ (w1.drewN nq) from HR.out) frZ)
  have HE2 := Lib.hid ((show Below w.heap.size w (w1.drewN nq) from below_drewN HB.out nq).trans ((rstF_only w.heap.size frZ (w1.drewN nq)).below HB.out.size (fun k hk => by omega)))
  refine bodyPost_ret (v := .tuple #[.agg #[.int .u64 frZ.kind, .int .u64 frZ.id, .int .u64 frZ.off, .int .u64 frZ.max, .int .u64 frZ.code, .int .u64 frZ.seq, .int .u64 frZ.prior, .int .u64 frZ.delay, .bool frZ.fin, .string ⟨frZ.data.toArray⟩, .string ⟨frZ.cid.toArray⟩, .string ⟨frZ.token.toArray⟩, .slice frZ.set.a frZ.set.n frZ.set.c], .string ⟨([] : List UInt8).toArray⟩, .bool false]) (by
    change Sem.run Tryd.prog (results _ _) (rstF w.heap.size frZ (w1.drewN nq)) = Result.ok _ (rstF w.heap.size frZ (w1.drewN nq))
    obtain ⟨y0, y1, y2, y3, y4, y5, y6, y7, y8, y9, y10, y11, y12⟩ := HE1.out.ats
    generalize (rstF w.heap.size frZ (w1.drewN nq)) = X at y0 y1 y2 y3 y4 y5 y6 y7 y8 y9 y10 y11 y12 ⊢
    simp [results, Tryd.results37, go_sem, y0, y1, y2, y3, y4, y5, y6, y7, y8, y9, y10, y11, y12]) rfl ?_
  exact ⟨HE2.out, frZ, [], rfl⟩

/-- Between two rounds of getAck. -/
structure AW (w : World) (q g : Nat) (dl : Nat) (nm : List Nat) (rs : List (Nat × Nat)) (sl : Sl) (W : World) : Prop where
  r : FrD w.heap.size frZ W
  f : FrD q { frZ with kind := 2, delay := (dl : Nat), set := sl } W
  n : sl.n = rs.length
  rd : Rd W (.slice sl.a sl.n sl.c) (ints rs)
  far : ∀ x, sl.a = some x → w.heap.size < x.block ∧ x.block ≠ q ∧ x.block < W.heap.size
  nb : ∀ j, j < 4 → W.cell? ⟨g, j, none⟩ = some (.int .u64 (nm.getD j 0 : Nat))
  b : Below w.heap.size w W
  hq : w.heap.size < q
  hg : g < W.heap.size ∧ g ≠ q
theorem AW.go {w W W' : World} {q g dl : Nat} {nm : List Nat} {rs : List (Nat × Nat)} {sl : Sl} (h : AW w q g dl nm rs sl W) (hb : Below W.heap.size W W') : AW w q g dl nm rs sl W' :=
  ⟨h.r.stay hb, h.f.stay hb, h.n, h.rd.below hb, fun x hx => ⟨(h.far x hx).1, (h.far x hx).2.1, Nat.lt_of_lt_of_le (h.far x hx).2.2 hb.size⟩, fun j hj => (hb.cell (p := ⟨g, j, none⟩) h.hg.1).trans (h.nb j hj), h.b.trans (hb.mono h.b.size), h.hq, ⟨Nat.lt_of_lt_of_le h.hg.1 hb.size, h.hg.2⟩⟩
theorem AW.nothing {w W : World} {q g dl : Nat} {nm : List Nat} {rs : List (Nat × Nat)} {sl : Sl} (h : AW w q g dl nm rs sl W) : FrD w.heap.size frZ W ∧ Below w.heap.size w W := ⟨h.r, h.b⟩
theorem rd_one (W : World) (lo hi : Nat) : Rd (W.alloc (.cells #[.int .u64 lo, .int .u64 hi] 69)) (.slice (some ⟨W.heap.size, 0, none⟩) 1 1) (ints [(lo, hi)]) :=
  ⟨_, 1, rfl, Nat.le_refl _, fun _ => ⟨_, 0, rfl, fun i hi => by
    obtain rfl : i = 0 := by simp [ints] at hi; omega
    simp [go_sem, ints]⟩⟩
/-- A frame with one range, made beside its box: the range's row first. -/
theorem AW.made1 {w W : World} {g a1 lo hi : Nat} {nm : List Nat} (hr : FrD w.heap.size frZ W) (hb : Below w.heap.size w W) (hlt : w.heap.size < W.heap.size) (hnb : ∀ j, j < 4 → W.cell? ⟨g, j, none⟩ = some (.int .u64 (nm.getD j 0 : Nat))) (hg : g < W.heap.size) :
    AW w (W.heap.size + 1) g a1 nm [(lo, hi)] ⟨some ⟨W.heap.size, 0, none⟩, 1, 1⟩ ((W.alloc (.cells #[.int .u64 lo, .int .u64 hi] 69)).alloc (.cells #[.int .u64 ({ frZ with kind := 2, delay := (a1 : Nat), set := ⟨some ⟨W.heap.size, 0, none⟩, 1, 1⟩ } : Frm).kind, .int .u64 ({ frZ with kind := 2, delay := (a1 : Nat), set := ⟨some ⟨W.heap.size, 0, none⟩, 1, 1⟩ } : Frm).id, .int .u64 ({ frZ with kind := 2, delay := (a1 : Nat), set := ⟨some ⟨W.heap.size, 0, none⟩, 1, 1⟩ } : Frm).off, .int .u64 ({ frZ with kind := 2, delay := (a1 : Nat), set := ⟨some ⟨W.heap.size, 0, none⟩, 1, 1⟩ } : Frm).max, .int .u64 ({ frZ with kind := 2, delay := (a1 : Nat), set := ⟨some ⟨W.heap.size, 0, none⟩, 1, 1⟩ } : Frm).code, .int .u64 ({ frZ with kind := 2, delay := (a1 : Nat), set := ⟨some ⟨W.heap.size, 0, none⟩, 1, 1⟩ } : Frm).seq, .int .u64 ({ frZ with kind := 2, delay := (a1 : Nat), set := ⟨some ⟨W.heap.size, 0, none⟩, 1, 1⟩ } : Frm).prior, .int .u64 ({ frZ with kind := 2, delay := (a1 : Nat), set := ⟨some ⟨W.heap.size, 0, none⟩, 1, 1⟩ } : Frm).delay, .bool ({ frZ with kind := 2, delay := (a1 : Nat), set := ⟨some ⟨W.heap.size, 0, none⟩, 1, 1⟩ } : Frm).fin, .string ⟨({ frZ with kind := 2, delay := (a1 : Nat), set := ⟨some ⟨W.heap.size, 0, none⟩, 1, 1⟩ } : Frm).data.toArray⟩, .string ⟨({ frZ with kind := 2, delay := (a1 : Nat), set := ⟨some ⟨W.heap.size, 0, none⟩, 1, 1⟩ } : Frm).cid.toArray⟩, .string ⟨({ frZ with kind := 2, delay := (a1 : Nat), set := ⟨some ⟨W.heap.size, 0, none⟩, 1, 1⟩ } : Frm).token.toArray⟩, .slice ({ frZ with kind := 2, delay := (a1 : Nat), set := ⟨some ⟨W.heap.size, 0, none⟩, 1, 1⟩ } : Frm).set.a ({ frZ with kind := 2, delay := (a1 : Nat), set := ⟨some ⟨W.heap.size, 0, none⟩, 1, 1⟩ } : Frm).set.n ({ frZ with kind := 2, delay := (a1 : Nat), set := ⟨some ⟨W.heap.size, 0, none⟩, 1, 1⟩ } : Frm).set.c] 34)) := by
  have h1 : Below W.heap.size W ((W.alloc (.cells #[.int .u64 lo, .int .u64 hi] 69)).alloc (.cells #[.int .u64 ({ frZ with kind := 2, delay := (a1 : Nat), set := ⟨some ⟨W.heap.size, 0, none⟩, 1, 1⟩ } : Frm).kind, .int .u64 ({ frZ with kind := 2, delay := (a1 : Nat), set := ⟨some ⟨W.heap.size, 0, none⟩, 1, 1⟩ } : Frm).id, .int .u64 ({ frZ with kind := 2, delay := (a1 : Nat), set := ⟨some ⟨W.heap.size, 0, none⟩, 1, 1⟩ } : Frm).off, .int .u64 ({ frZ with kind := 2, delay := (a1 : Nat), set := ⟨some ⟨W.heap.size, 0, none⟩, 1, 1⟩ } : Frm).max, .int .u64 ({ frZ with kind := 2, delay := (a1 : Nat), set := ⟨some ⟨W.heap.size, 0, none⟩, 1, 1⟩ } : Frm).code, .int .u64 ({ frZ with kind := 2, delay := (a1 : Nat), set := ⟨some ⟨W.heap.size, 0, none⟩, 1, 1⟩ } : Frm).seq, .int .u64 ({ frZ with kind := 2, delay := (a1 : Nat), set := ⟨some ⟨W.heap.size, 0, none⟩, 1, 1⟩ } : Frm).prior, .int .u64 ({ frZ with kind := 2, delay := (a1 : Nat), set := ⟨some ⟨W.heap.size, 0, none⟩, 1, 1⟩ } : Frm).delay, .bool ({ frZ with kind := 2, delay := (a1 : Nat), set := ⟨some ⟨W.heap.size, 0, none⟩, 1, 1⟩ } : Frm).fin, .string ⟨({ frZ with kind := 2, delay := (a1 : Nat), set := ⟨some ⟨W.heap.size, 0, none⟩, 1, 1⟩ } : Frm).data.toArray⟩, .string ⟨({ frZ with kind := 2, delay := (a1 : Nat), set := ⟨some ⟨W.heap.size, 0, none⟩, 1, 1⟩ } : Frm).cid.toArray⟩, .string ⟨({ frZ with kind := 2, delay := (a1 : Nat), set := ⟨some ⟨W.heap.size, 0, none⟩, 1, 1⟩ } : Frm).token.toArray⟩, .slice ({ frZ with kind := 2, delay := (a1 : Nat), set := ⟨some ⟨W.heap.size, 0, none⟩, 1, 1⟩ } : Frm).set.a ({ frZ with kind := 2, delay := (a1 : Nat), set := ⟨some ⟨W.heap.size, 0, none⟩, 1, 1⟩ } : Frm).set.n ({ frZ with kind := 2, delay := (a1 : Nat), set := ⟨some ⟨W.heap.size, 0, none⟩, 1, 1⟩ } : Frm).set.c] 34)) := ((Below.refl _ _).alloc (Nat.le_refl _) _).alloc (by simp) _
  refine ⟨hr.stay h1, ?_, rfl, (rd_one W lo hi).below ((Below.refl _ _).alloc (Nat.le_refl _) _), fun x hx => ?_, fun j hj => (h1.cell (p := ⟨g, j, none⟩) hg).trans (hnb j hj), hb.trans (h1.mono (by omega)), by omega, ⟨by simp; omega, by omega⟩⟩
  · have := World.alloc_heap_new (W.alloc (.cells #[.int .u64 lo, .int .u64 hi] 69)) (.cells #[.int .u64 ({ frZ with kind := 2, delay := (a1 : Nat), set := ⟨some ⟨W.heap.size, 0, none⟩, 1, 1⟩ } : Frm).kind, .int .u64 ({ frZ with kind := 2, delay := (a1 : Nat), set := ⟨some ⟨W.heap.size, 0, none⟩, 1, 1⟩ } : Frm).id, .int .u64 ({ frZ with kind := 2, delay := (a1 : Nat), set := ⟨some ⟨W.heap.size, 0, none⟩, 1, 1⟩ } : Frm).off, .int .u64 ({ frZ with kind := 2, delay := (a1 : Nat), set := ⟨some ⟨W.heap.size, 0, none⟩, 1, 1⟩ } : Frm).max, .int .u64 ({ frZ with kind := 2, delay := (a1 : Nat), set := ⟨some ⟨W.heap.size, 0, none⟩, 1, 1⟩ } : Frm).code, .int .u64 ({ frZ with kind := 2, delay := (a1 : Nat), set := ⟨some ⟨W.heap.size, 0, none⟩, 1, 1⟩ } : Frm).seq, .int .u64 ({ frZ with kind := 2, delay := (a1 : Nat), set := ⟨some ⟨W.heap.size, 0, none⟩, 1, 1⟩ } : Frm).prior, .int .u64 ({ frZ with kind := 2, delay := (a1 : Nat), set := ⟨some ⟨W.heap.size, 0, none⟩, 1, 1⟩ } : Frm).delay, .bool ({ frZ with kind := 2, delay := (a1 : Nat), set := ⟨some ⟨W.heap.size, 0, none⟩, 1, 1⟩ } : Frm).fin, .string ⟨({ frZ with kind := 2, delay := (a1 : Nat), set := ⟨some ⟨W.heap.size, 0, none⟩, 1, 1⟩ } : Frm).data.toArray⟩, .string ⟨({ frZ with kind := 2, delay := (a1 : Nat), set := ⟨some ⟨W.heap.size, 0, none⟩, 1, 1⟩ } : Frm).cid.toArray⟩, .string ⟨({ frZ with kind := 2, delay := (a1 : Nat), set := ⟨some ⟨W.heap.size, 0, none⟩, 1, 1⟩ } : Frm).token.toArray⟩, .slice ({ frZ with kind := 2, delay := (a1 : Nat), set := ⟨some ⟨W.heap.size, 0, none⟩, 1, 1⟩ } : Frm).set.a ({ frZ with kind := 2, delay := (a1 : Nat), set := ⟨some ⟨W.heap.size, 0, none⟩, 1, 1⟩ } : Frm).set.n ({ frZ with kind := 2, delay := (a1 : Nat), set := ⟨some ⟨W.heap.size, 0, none⟩, 1, 1⟩ } : Frm).set.c] 34)
    rwa [World.size_alloc] at this
  · injection hx with hx
    subst hx
    exact ⟨hlt, by show W.heap.size ≠ W.heap.size + 1; omega, by simp; omega⟩
/-- .. the frame's box first. -/
theorem AW.made2 {w W : World} {g a1 lo hi : Nat} {nm : List Nat} (hr : FrD w.heap.size frZ W) (hb : Below w.heap.size w W) (hlt : w.heap.size < W.heap.size) (hnb : ∀ j, j < 4 → W.cell? ⟨g, j, none⟩ = some (.int .u64 (nm.getD j 0 : Nat))) (hg : g < W.heap.size) :
    AW w W.heap.size g a1 nm [(lo, hi)] ⟨some ⟨W.heap.size + 1, 0, none⟩, 1, 1⟩ ((W.alloc (.cells #[.int .u64 ({ frZ with kind := 2, delay := (a1 : Nat), set := ⟨some ⟨W.heap.size + 1, 0, none⟩, 1, 1⟩ } : Frm).kind, .int .u64 ({ frZ with kind := 2, delay := (a1 : Nat), set := ⟨some ⟨W.heap.size + 1, 0, none⟩, 1, 1⟩ } : Frm).id, .int .u64 ({ frZ with kind := 2, delay := (a1 : Nat), set := ⟨some ⟨W.heap.size + 1, 0, none⟩, 1, 1⟩ } : Frm).off, .int .u64 ({ frZ with kind := 2, delay := (a1 : Nat), set := ⟨some ⟨W.heap.size + 1, 0, none⟩, 1, 1⟩ } : Frm).max, .int .u64 ({ frZ with kind := 2, delay := (a1 : Nat), set := ⟨some ⟨W.heap.size + 1, 0, none⟩, 1, 1⟩ } : Frm).code, .int .u64 ({ frZ with kind := 2, delay := (a1 : Nat), set := ⟨some ⟨W.heap.size + 1, 0, none⟩, 1, 1⟩ } : Frm).seq, .int .u64 ({ frZ with kind := 2, delay := (a1 : Nat), set := ⟨some ⟨W.heap.size + 1, 0, none⟩, 1, 1⟩ } : Frm).prior, .int .u64 ({ frZ with kind := 2, delay := (a1 : Nat), set := ⟨some ⟨W.heap.size + 1, 0, none⟩, 1, 1⟩ } : Frm).delay, .bool ({ frZ with kind := 2, delay := (a1 : Nat), set := ⟨some ⟨W.heap.size + 1, 0, none⟩, 1, 1⟩ } : Frm).fin, .string ⟨({ frZ with kind := 2, delay := (a1 : Nat), set := ⟨some ⟨W.heap.size + 1, 0, none⟩, 1, 1⟩ } : Frm).data.toArray⟩, .string ⟨({ frZ with kind := 2, delay := (a1 : Nat), set := ⟨some ⟨W.heap.size + 1, 0, none⟩, 1, 1⟩ } : Frm).cid.toArray⟩, .string ⟨({ frZ with kind := 2, delay := (a1 : Nat), set := ⟨some ⟨W.heap.size + 1, 0, none⟩, 1, 1⟩ } : Frm).token.toArray⟩, .slice ({ frZ with kind := 2, delay := (a1 : Nat), set := ⟨some ⟨W.heap.size + 1, 0, none⟩, 1, 1⟩ } : Frm).set.a ({ frZ with kind := 2, delay := (a1 : Nat), set := ⟨some ⟨W.heap.size + 1, 0, none⟩, 1, 1⟩ } : Frm).set.n ({ frZ with kind := 2, delay := (a1 : Nat), set := ⟨some ⟨W.heap.size + 1, 0, none⟩, 1, 1⟩ } : Frm).set.c] 34)).alloc (.cells #[.int .u64 lo, .int .u64 hi] 69)) := by
  have h1 : Below W.heap.size W ((W.alloc (.cells #[.int .u64 ({ frZ with kind := 2, delay := (a1 : Nat), set := ⟨some ⟨W.heap.size + 1, 0, none⟩, 1, 1⟩ } : Frm).kind, .int .u64 ({ frZ with kind := 2, delay := (a1 : Nat), set := ⟨some ⟨W.heap.size + 1, 0, none⟩, 1, 1⟩ } : Frm).id, .int .u64 ({ frZ with kind := 2, delay := (a1 : Nat), set := ⟨some ⟨W.heap.size + 1, 0, none⟩, 1, 1⟩ } : Frm).off, .int .u64 ({ frZ with kind := 2, delay := (a1 : Nat), set := ⟨some ⟨W.heap.size + 1, 0, none⟩, 1, 1⟩ } : Frm).max, .int .u64 ({ frZ with kind := 2, delay := (a1 : Nat), set := ⟨some ⟨W.heap.size + 1, 0, none⟩, 1, 1⟩ } : Frm).code, .int .u64 ({ frZ with kind := 2, delay := (a1 : Nat), set := ⟨some ⟨W.heap.size + 1, 0, none⟩, 1, 1⟩ } : Frm).seq, .int .u64 ({ frZ with kind := 2, delay := (a1 : Nat), set := ⟨some ⟨W.heap.size + 1, 0, none⟩, 1, 1⟩ } : Frm).prior, .int .u64 ({ frZ with kind := 2, delay := (a1 : Nat), set := ⟨some ⟨W.heap.size + 1, 0, none⟩, 1, 1⟩ } : Frm).delay, .bool ({ frZ with kind := 2, delay := (a1 : Nat), set := ⟨some ⟨W.heap.size + 1, 0, none⟩, 1, 1⟩ } : Frm).fin, .string ⟨({ frZ with kind := 2, delay := (a1 : Nat), set := ⟨some ⟨W.heap.size + 1, 0, none⟩, 1, 1⟩ } : Frm).data.toArray⟩, .string ⟨({ frZ with kind := 2, delay := (a1 : Nat), set := ⟨some ⟨W.heap.size + 1, 0, none⟩, 1, 1⟩ } : Frm).cid.toArray⟩, .string ⟨({ frZ with kind := 2, delay := (a1 : Nat), set := ⟨some ⟨W.heap.size + 1, 0, none⟩, 1, 1⟩ } : Frm).token.toArray⟩, .slice ({ frZ with kind := 2, delay := (a1 : Nat), set := ⟨some ⟨W.heap.size + 1, 0, none⟩, 1, 1⟩ } : Frm).set.a ({ frZ with kind := 2, delay := (a1 : Nat), set := ⟨some ⟨W.heap.size + 1, 0, none⟩, 1, 1⟩ } : Frm).set.n ({ frZ with kind := 2, delay := (a1 : Nat), set := ⟨some ⟨W.heap.size + 1, 0, none⟩, 1, 1⟩ } : Frm).set.c] 34)).alloc (.cells #[.int .u64 lo, .int .u64 hi] 69)) := ((Below.refl _ _).alloc (Nat.le_refl _) _).alloc (by simp) _
  have hrd := rd_one (W.alloc (.cells #[.int .u64 ({ frZ with kind := 2, delay := (a1 : Nat), set := ⟨some ⟨W.heap.size + 1, 0, none⟩, 1, 1⟩ } : Frm).kind, .int .u64 ({ frZ with kind := 2, delay := (a1 : Nat), set := ⟨some ⟨W.heap.size + 1, 0, none⟩, 1, 1⟩ } : Frm).id, .int .u64 ({ frZ with kind := 2, delay := (a1 : Nat), set := ⟨some ⟨W.heap.size + 1, 0, none⟩, 1, 1⟩ } : Frm).off, .int .u64 ({ frZ with kind := 2, delay := (a1 : Nat), set := ⟨some ⟨W.heap.size + 1, 0, none⟩, 1, 1⟩ } : Frm).max, .int .u64 ({ frZ with kind := 2, delay := (a1 : Nat), set := ⟨some ⟨W.heap.size + 1, 0, none⟩, 1, 1⟩ } : Frm).code, .int .u64 ({ frZ with kind := 2, delay := (a1 : Nat), set := ⟨some ⟨W.heap.size + 1, 0, none⟩, 1, 1⟩ } : Frm).seq, .int .u64 ({ frZ with kind := 2, delay := (a1 : Nat), set := ⟨some ⟨W.heap.size + 1, 0, none⟩, 1, 1⟩ } : Frm).prior, .int .u64 ({ frZ with kind := 2, delay := (a1 : Nat), set := ⟨some ⟨W.heap.size + 1, 0, none⟩, 1, 1⟩ } : Frm).delay, .bool ({ frZ with kind := 2, delay := (a1 : Nat), set := ⟨some ⟨W.heap.size + 1, 0, none⟩, 1, 1⟩ } : Frm).fin, .string ⟨({ frZ with kind := 2, delay := (a1 : Nat), set := ⟨some ⟨W.heap.size + 1, 0, none⟩, 1, 1⟩ } : Frm).data.toArray⟩, .string ⟨({ frZ with kind := 2, delay := (a1 : Nat), set := ⟨some ⟨W.heap.size + 1, 0, none⟩, 1, 1⟩ } : Frm).cid.toArray⟩, .string ⟨({ frZ with kind := 2, delay := (a1 : Nat), set := ⟨some ⟨W.heap.size + 1, 0, none⟩, 1, 1⟩ } : Frm).token.toArray⟩, .slice ({ frZ with kind := 2, delay := (a1 : Nat), set := ⟨some ⟨W.heap.size + 1, 0, none⟩, 1, 1⟩ } : Frm).set.a ({ frZ with kind := 2, delay := (a1 : Nat), set := ⟨some ⟨W.heap.size + 1, 0, none⟩, 1, 1⟩ } : Frm).set.n ({ frZ with kind := 2, delay := (a1 : Nat), set := ⟨some ⟨W.heap.size + 1, 0, none⟩, 1, 1⟩ } : Frm).set.c] 34)) lo hi
  rw [World.size_alloc] at hrd
  refine ⟨hr.stay h1, (Below.heap_alloc _ _ _ (by simp)).trans (World.alloc_heap_new W _), rfl, hrd, fun x hx => ?_, fun j hj => (h1.cell (p := ⟨g, j, none⟩) hg).trans (hnb j hj), hb.trans (h1.mono (by omega)), hlt, ⟨Nat.lt_of_lt_of_le hg h1.size, by omega⟩⟩
  injection hx with hx
  subst hx
  exact ⟨by show w.heap.size < W.heap.size + 1; omega, by show W.heap.size + 1 ≠ W.heap.size; omega, by simp⟩
theorem ints_cons (p : Nat × Nat) (rs : List (Nat × Nat)) : ints (p :: rs) = ((p.1 : Int), (p.2 : Int)) :: ints rs := rfl
/-- One range ahead of a row that is read: append([]Range{{p}}, row...). -/
theorem front_D (W : World) (lo hi : Nat) (v : Value) (old : List (Nat × Nat)) (ty : TypeId) (hr : Rd W v (ints old)) (h1 : 1 ≤ old.length) (hl : old.length ≤ 1000) :
    ∃ v' w', (Builtin.append_ #[32, 32] ty #[.slice (some ⟨W.heap.size, 0, none⟩) 1 1, v]).run Tryd.prog (W.alloc (.cells #[.int .u64 lo, .int .u64 hi] 69)).drew = .ok v' w' ∧ OwnD w' W.heap.size v' (ints ((lo, hi) :: old)) ∧ Below W.heap.size W w' := by
  obtain ⟨i0, hi0, hz0, hz1, hz2⟩ := info_parts infoD
  have ho : (W.alloc (.cells #[.int .u64 lo, .int .u64 hi] 69)).drew.ownsRow W.heap.size 69 2 (.slice (some ⟨W.heap.size, 0, none⟩) 1 1) 1 [.int .u64 lo, .int .u64 hi] :=
    ⟨rfl, .inr ⟨W.heap.size, 1, _, rfl, Nat.le_refl _, World.alloc_heap_new W _, Nat.le_refl _, by unfold maxLen; omega, rfl, rfl⟩⟩
  have hb0 : Below W.heap.size W (W.alloc (.cells #[.int .u64 lo, .int .u64 hi] 69)).drew := Below.drew ((Below.refl _ _).alloc (Nat.le_refl _) _)
  have hr2 := hr.below hb0
  obtain ⟨a, cap, rfl, hcap, hrow⟩ := hr2
  obtain ⟨b, off, rfl, hc⟩ := hrow (fun h => by have := congrArg List.length h; rw [ints_len, List.length_nil] at this; omega)
  have hln := ints_len old
  obtain ⟨v', w', hrun, h2, h3, _⟩ := run_append_own (P := Tryd.prog) (W.alloc (.cells #[.int .u64 lo, .int .u64 hi] 69)).drew W.heap.size 32 ty 69 i0 (.agg #[.int .u64 0, .int .u64 0]) 2 16 Tryd.underlying32 hi0 hz0 hz1 hz2 rfl (by decide) _ 1 _ ho ⟨b, off, none⟩ (ints old).length cap (flatI (ints old)) (flatI_len _)
    (by
      intro j u hu
      have hj : j < (ints old).length * 2 := by rw [← flatI_len]; exact (List.getElem?_eq_some_iff.1 hu).1
      obtain ⟨f1, f2⟩ := flatI_get (ints old) (j / 2) (by omega)
      obtain ⟨c1, c2⟩ := hc (j / 2) (by omega)
      have e : (⟨b, off, none⟩ : Addr).add j = ⟨b, off + j, none⟩ := by unfold Addr.add; split <;> simp_all
      rw [e]
      rcases Nat.mod_two_eq_zero_or_one j with hm | hm
      · have e2 : j / 2 * 2 = j := by omega
        rw [e2] at c1 f1
        rw [c1, ← f1, hu]
      · have e2 : j / 2 * 2 + 1 = j := by omega
        have e3 : off + j / 2 * 2 + 1 = off + j := by omega
        rw [e3] at c2
        rw [e2] at f2
        rw [c2, ← f2, hu]) (by
      intro u hu
      obtain ⟨x, _, hx⟩ := List.mem_flatMap.1 hu
      simp only [List.mem_cons, List.not_mem_nil, or_false] at hx
      rcases hx with rfl | rfl <;> rfl) (by unfold maxLen; omega) (by omega) (by simp)
  refine ⟨v', w', hrun, ?_, ?_⟩
  · unfold OwnD
    rw [ints_cons, List.length_cons, Nat.add_comm]
    exact h2
  · exact hb0.grown h3 (by simp) (fun k hk => by simp only [Value.ownBlock, Option.some.injEq] at hk; omega)
theorem AW.first {w W : World} {q g dl lo hi : Nat} {nm : List Nat} {rs : List (Nat × Nat)} {sl : Sl} (h : AW w q g dl nm ((lo, hi) :: rs) sl W) : ∃ b off c n, sl = ⟨some ⟨b, off, none⟩, n, c⟩ ∧ 0 < n ∧ n ≤ c ∧ W.cell? ⟨b, off, none⟩ = some (.int .u64 lo) := by
  obtain ⟨a, cap, hv, hcap, hrow⟩ := h.rd
  obtain ⟨b, off, ha, hc⟩ := hrow (by simp [ints])
  obtain ⟨sa, sn, sc⟩ := sl
  injection hv with e1 e2 e3
  have hl := ints_len ((lo, hi) :: rs)
  have h0 := (hc 0 (by rw [hl]; simp)).1
  refine ⟨b, off, sc, sn, by rw [← ha, ← e1], ?_, ?_, ?_⟩
  · rw [show sn = _ from e2, hl]; simp
  · rw [show sn = _ from e2, show sc = cap from e3]; exact hcap
  · rw [show off + 0 * 2 = off by omega] at h0
    exact h0
/-- Behind a round. -/
theorem AW.put {w W w' : World} {q g dl lo hi : Nat} {nm : List Nat} {rs : List (Nat × Nat)} {sl : Sl} {va : Option Addr} {vn vc : Nat} (h : AW w q g dl nm rs sl W) (ho : OwnD w' W.heap.size (.slice va vn vc) (ints ((lo, hi) :: rs))) (hb : Below W.heap.size W w') :
    AW w q g dl nm ((lo, hi) :: rs) ⟨va, vn, vc⟩ (w'.setCell ⟨q, 12, none⟩ (.slice va vn vc)) := by
  have h1 := h.go hb
  have hon := It.Only.setCell (O := fun k => k = q) (p := ⟨q, 12, none⟩) rfl w' (.slice va vn vc)
  have hq := h.f.lt
  have hn := (OwnD.rd ho)
  have ho2 : OwnD (w'.setCell ⟨q, 12, none⟩ (.slice va vn vc)) W.heap.size (.slice va vn vc) (ints ((lo, hi) :: rs)) := OwnD.only ho hon (fun k hk => by have := (World.ownsRow.lt ho k hk).1; omega)
  refine ⟨hon.heap h1.r (by have := h.hq; omega), h1.f.set12 ⟨va, vn, vc⟩, ?_, ?_, fun x hx => ?_, fun j hj => ?_, h1.b.trans (hon.below h1.b.size (fun k hk => by have := h.hq; omega)), h.hq, ⟨Nat.lt_of_lt_of_le h1.hg.1 hon.size, h.hg.2⟩⟩
  · show vn = _
    rw [hn.1, ints_len]
  · have := (OwnD.rd ho2).2
    show Rd _ (.slice va vn vc) _
    have e : vn = (ints ((lo, hi) :: rs)).length := hn.1
    rw [← e] at this
    exact this
  · have hx2 : va = some x := hx
    have hlies : W.heap.size ≤ x.block ∧ x.block < w'.heap.size := World.ownsRow.lt ho x.block (by rw [hx2]; rfl)
    exact ⟨by have := h.hq; omega, by omega, Nat.lt_of_lt_of_le hlies.2 hon.size⟩
  · have := h1.nb j hj
    exact (World.cell?_of_block (a := ⟨g, j, none⟩) (Below.heap_setCell _ _ _ _ (by show g ≠ q; exact h.hg.2))).trans this
set_option maxRecDepth 100000 in
set_option maxHeartbeats 16000000 in
theorem rack_bad (l : List UInt8) (acc : List Nat) (l4 : List UInt8) (w : World) (hl : l.length ≤ 4000) (hg : gst l 4 = some (acc, l4)) (hbad : 31 < acc.getD 2 0 ∨ acc.getD 0 0 < acc.getD 3 0) : Calls Tryd.prog 37 #[.string ⟨l.toArray⟩] w (PtTo none w) := by
  have CN := Lib.hid (fun w => rnumbers l 4 w hl (by decide) (by decide))
  rw [hg] at CN
  have HR0 := Lib.hid (gd_new w)
  obtain ⟨a0, ha0⟩ : ∃ a, acc.getD 0 0 = a := ⟨_, rfl⟩
  obtain ⟨a2, ha2⟩ : ∃ a, acc.getD 2 0 = a := ⟨_, rfl⟩
  obtain ⟨a3, ha3⟩ : ∃ a, acc.getD 3 0 = a := ⟨_, rfl⟩
  rw [ha0, ha2, ha3] at hbad
  clear hl hg
  by_cases h31 : 31 < a2
  · have hd2 : decide ((31 : Int) < (a2 : Int)) = true := decide_eq_true (by omega)
    clear hbad
    go_enter Tryd.func37, Tryd.ntmps37
    go_wp2_with fail
    refine (CN.out _).mono ?_
    rintro e w1 ⟨hb, g, c, rfl, h1, h2⟩
    have g2 := h2 2 (by decide)
    rw [ha2] at g2
    have HR := Lib.hid (HR0.out.1.stay hb)
    have HB := Lib.hid (HR0.out.2.trans (hb.mono HR0.out.2.size))
    clear hb h1 h2 ha0 ha2 ha3
    obtain ⟨d0, d1, d2, d3, d4, d5, d6, d7, d8, d9, d10, d11, d12⟩ := HR.out.ats
    have df := HR.out.fz
    go_wp2_with fail
    go_quiet (fail)
    go_wp2_with fail
    have HE1 := Lib.hid (rstF_frd (show FrD w.heap.size frZ (w1.drewN nq) from HR.out) frZ)
    have HE2 := Lib.hid ((show Below w.heap.size w (w1.drewN nq) from below_drewN HB.out nq).trans ((rstF_only w.heap.size frZ (w1.drewN nq)).below HB.out.size (fun k hk => by omega)))
    refine bodyPost_ret (v := .tuple #[.agg #[.int .u64 frZ.kind, .int .u64 frZ.id, .int .u64 frZ.off, .int .u64 frZ.max, .int .u64 frZ.code, .int .u64 frZ.seq, .int .u64 frZ.prior, .int .u64 frZ.delay, .bool frZ.fin, .string ⟨frZ.data.toArray⟩, .string ⟨frZ.cid.toArray⟩, .string ⟨frZ.token.toArray⟩, .slice frZ.set.a frZ.set.n frZ.set.c], .string ⟨([] : List UInt8).toArray⟩, .bool false]) (by
      change Sem.run Tryd.prog (results _ _) (rstF w.heap.size frZ (w1.drewN nq)) = Result.ok _ (rstF w.heap.size frZ (w1.drewN nq))
      obtain ⟨y0, y1, y2, y3, y4, y5, y6, y7, y8, y9, y10, y11, y12⟩ := HE1.out.ats
      generalize (rstF w.heap.size frZ (w1.drewN nq)) = X at y0 y1 y2 y3 y4 y5 y6 y7 y8 y9 y10 y11 y12 ⊢
      simp [results, Tryd.results37, go_sem, y0, y1, y2, y3, y4, y5, y6, y7, y8, y9, y10, y11, y12]) rfl ?_
    exact ⟨HE2.out, frZ, [], rfl⟩
  · have hd2 : decide ((31 : Int) < (a2 : Int)) = false := decide_eq_false (by omega)
    have h03 : a0 < a3 := by omega
    have hd3 : decide (a0 < a3) = true := decide_eq_true h03
    have hd3' : decide ((a0 : Int) < (a3 : Int)) = true := decide_eq_true (by omega)
    clear hbad h03 h31
    go_enter Tryd.func37, Tryd.ntmps37
    go_wp2_with fail
    refine (CN.out _).mono ?_
    rintro e w1 ⟨hb, g, c, rfl, h1, h2⟩
    have g2 := h2 2 (by decide)
    rw [ha2] at g2
    have g0 := h2 0 (by decide)
    rw [ha0] at g0
    have g3 := h2 3 (by decide)
    rw [ha3] at g3
    have HR := Lib.hid (HR0.out.1.stay hb)
    have HB := Lib.hid (HR0.out.2.trans (hb.mono HR0.out.2.size))
    clear hb h1 h2 ha0 ha2 ha3
    obtain ⟨d0, d1, d2, d3, d4, d5, d6, d7, d8, d9, d10, d11, d12⟩ := HR.out.ats
    have df := HR.out.fz
    go_wp2_with fail
    go_quiet (fail)
    go_wp2_with fail
    have HE1 := Lib.hid (rstF_frd (show FrD w.heap.size frZ (w1.drewN nq) from HR.out) frZ)
    have HE2 := Lib.hid ((show Below w.heap.size w (w1.drewN nq) from below_drewN HB.out nq).trans ((rstF_only w.heap.size frZ (w1.drewN nq)).below HB.out.size (fun k hk => by omega)))
    refine bodyPost_ret (v := .tuple #[.agg #[.int .u64 frZ.kind, .int .u64 frZ.id, .int .u64 frZ.off, .int .u64 frZ.max, .int .u64 frZ.code, .int .u64 frZ.seq, .int .u64 frZ.prior, .int .u64 frZ.delay, .bool frZ.fin, .string ⟨frZ.data.toArray⟩, .string ⟨frZ.cid.toArray⟩, .string ⟨frZ.token.toArray⟩, .slice frZ.set.a frZ.set.n frZ.set.c], .string ⟨([] : List UInt8).toArray⟩, .bool false]) (by
      change Sem.run Tryd.prog (results _ _) (rstF w.heap.size frZ (w1.drewN nq)) = Result.ok _ (rstF w.heap.size frZ (w1.drewN nq))
      obtain ⟨y0, y1, y2, y3, y4, y5, y6, y7, y8, y9, y10, y11, y12⟩ := HE1.out.ats
      generalize (rstF w.heap.size frZ (w1.drewN nq)) = X at y0 y1 y2 y3 y4 y5 y6 y7 y8 y9 y10 y11 y12 ⊢
      simp [results, Tryd.results37, go_sem, y0, y1, y2, y3, y4, y5, y6, y7, y8, y9, y10, y11, y12]) rfl ?_
    exact ⟨HE2.out, frZ, [], rfl⟩
end
section
set_option maxRecDepth 100000 in
set_option maxHeartbeats 16000000 in
theorem rack_main (l : List UInt8) (acc : List Nat) (l4 : List UInt8) (w : World) (hl : l.length ≤ 4000) (hg : gst l 4 = some (acc, l4)) (h31 : acc.getD 2 0 ≤ 31) (h03 : acc.getD 3 0 ≤ acc.getD 0 0) :
    Calls Tryd.prog 37 #[.string ⟨l.toArray⟩] w (PtTo (match ackG (acc.getD 2 0) (acc.getD 0 0 - acc.getD 3 0) [(acc.getD 0 0 - acc.getD 3 0, acc.getD 0 0)] l4 with | none => none | some (ac, l5) => some ({ frZ with kind := 2, delay := (acc.getD 1 0 : Nat), set := ⟨none, ac.reverse.length, 0⟩ }, ac.reverse, l5)) w) := by
  have CN := Lib.hid (fun w => rnumbers l 4 w hl (by decide) (by decide))
  rw [hg] at CN
  obtain ⟨hal, hl4, hab⟩ := Vm.gst_len hg
  have hget : ∀ j, j < 4 → acc.getD j 0 < 4611686018427387904 := fun j hj => by
    rw [List.getD_eq_getElem?_getD, List.getElem?_eq_getElem (by omega)]
    exact hab _ (List.getElem_mem _)
  have HR0 := Lib.hid (gd_new w)
  obtain ⟨R, hR⟩ : ∃ R, ackG (acc.getD 2 0) (acc.getD 0 0 - acc.getD 3 0) [(acc.getD 0 0 - acc.getD 3 0, acc.getD 0 0)] l4 = R := ⟨_, rfl⟩
  rw [hR]
  have b0 := hget 0 (by decide)
  obtain ⟨a0, ha0⟩ : ∃ a, acc.getD 0 0 = a := ⟨_, rfl⟩
  obtain ⟨a1, ha1⟩ : ∃ a, acc.getD 1 0 = a := ⟨_, rfl⟩
  obtain ⟨a2, ha2⟩ : ∃ a, acc.getD 2 0 = a := ⟨_, rfl⟩
  obtain ⟨a3, ha3⟩ : ∃ a, acc.getD 3 0 = a := ⟨_, rfl⟩
  rw [ha0, ha2, ha3] at hR
  rw [ha0] at b0 h03
  rw [ha2] at h31
  rw [ha3] at h03
  rw [ha1]
  obtain ⟨lo, hlo⟩ : ∃ x, a0 - a3 = x := ⟨_, rfl⟩
  rw [hlo] at hR
  have HRR := Lib.hid hR
  have hwl : IntKind.u64.wrap ((a0 : Int) - (a3 : Int)) = (lo : Int) := by rw [IntKind.wrap_u64]; omega
  have HLO := Lib.hid (show lo ≤ a0 by omega)
  have HA0 := Lib.hid b0
  have hl4' : l4.length ≤ 4000 := by omega
  have hd2 : decide ((31 : Int) < (a2 : Int)) = false := decide_eq_false (by omega)
  have hd3 : decide (a0 < a3) = false := decide_eq_false (by omega)
  have hd3' : decide ((a0 : Int) < (a3 : Int)) = false := decide_eq_false (by omega)
  have h31I : (a2 : Int) ≤ 31 := by omega
  clear hl hg hal hab hget hR b0 h03 hlo
  go_enter Tryd.func37, Tryd.ntmps37
  go_wp2_with fail
  refine (CN.out _).mono ?_
  rintro e w1 ⟨hb, g, c, rfl, h1, h2⟩
  have HNB := Lib.hid h2
  have hs1 := hb.size
  have hlt1 : w.heap.size < w1.heap.size := by simp only [World.size_alloc] at hs1; omega
  have hgl : g < w1.heap.size := by
    have := h2 0 (by decide)
    exact World.block_lt_of_cell? _ _ this
  have g0 := h2 0 (by decide)
  rw [ha0] at g0
  have g1 := h2 1 (by decide)
  rw [ha1] at g1
  have g2 := h2 2 (by decide)
  rw [ha2] at g2
  have g3 := h2 3 (by decide)
  rw [ha3] at g3
  have HR := Lib.hid (HR0.out.1.stay hb)
  have HB := Lib.hid (HR0.out.2.trans (hb.mono HR0.out.2.size))
  clear hb h1 h2 hs1
  go_wp2_with fail
  go_quiet (fail)
  go_wp2_with fail
  go_upto_region 4 with (fail)
  generalize hwq : w1.drewN nq = wq
  have HR1 : Hid (FrD w.heap.size frZ wq) := Lib.hid (by rw [← hwq]; exact HR.out)
  have HB1 : Hid (Below w.heap.size w wq) := Lib.hid (by rw [← hwq]; exact HB.out.trans (below_drewN (Below.refl _ _) nq))
  have HN1 : Hid (∀ j, j < 4 → wq.cell? ⟨g, j, none⟩ = some (.int .u64 (acc.getD j 0 : Nat))) := Lib.hid (by rw [← hwq]; exact HNB.out)
  have hltq : w.heap.size < wq.heap.size := by rw [← hwq]; exact hlt1
  have hgq : g < wq.heap.size := by rw [← hwq]; exact hgl
  clear hwq g0 g1 g2 g3 HR HB HNB hlt1 hgl
  have HG4 : Hid (∀ W, Below wq.heap.size wq W → W.cell? ⟨g, 0, none⟩ = some (.int .u64 a0) ∧ W.cell? ⟨g, 1, none⟩ = some (.int .u64 a1) ∧ W.cell? ⟨g, 3, none⟩ = some (.int .u64 a3)) := Lib.hid (fun W hW => by
    have e0 := (hW.cell (p := ⟨g, 0, none⟩) hgq).trans (HN1.out 0 (by decide))
    have e1 := (hW.cell (p := ⟨g, 1, none⟩) hgq).trans (HN1.out 1 (by decide))
    have e3 := (hW.cell (p := ⟨g, 3, none⟩) hgq).trans (HN1.out 3 (by decide))
    rw [ha0] at e0
    rw [ha1] at e1
    rw [ha3] at e3
    exact ⟨e0, e1, e3⟩)
  have HWD : Hid (Below wq.heap.size wq wq.drew) := Lib.hid (Below.refl wq.heap.size wq).drew
  have HWR := Lib.hid (((Below.refl wq.heap.size wq).alloc (Nat.le_refl _) (.cells #[.int .u64 lo, .int .u64 a0] 69)).drew)
  have HWZ := Lib.hid (((Below.refl wq.heap.size wq).alloc (Nat.le_refl _) (.cells #[.int .u64 0, .int .u64 0, .int .u64 0, .int .u64 0, .int .u64 0, .int .u64 0, .int .u64 0, .int .u64 0, .bool false, .string ⟨#[]⟩, .string ⟨#[]⟩, .string ⟨#[]⟩, .slice none 0 0] 34)).drew)
  have HWRZ := Lib.hid ((((Below.refl wq.heap.size wq).alloc (Nat.le_refl _) (.cells #[.int .u64 lo, .int .u64 a0] 69)).alloc (by simp) (.cells #[.int .u64 0, .int .u64 0, .int .u64 0, .int .u64 0, .int .u64 0, .int .u64 0, .int .u64 0, .int .u64 0, .bool false, .string ⟨#[]⟩, .string ⟨#[]⟩, .string ⟨#[]⟩, .slice none 0 0] 34)).drew)
  have HWZR := Lib.hid ((((Below.refl wq.heap.size wq).alloc (Nat.le_refl _) (.cells #[.int .u64 0, .int .u64 0, .int .u64 0, .int .u64 0, .int .u64 0, .int .u64 0, .int .u64 0, .int .u64 0, .bool false, .string ⟨#[]⟩, .string ⟨#[]⟩, .string ⟨#[]⟩, .slice none 0 0] 34)).alloc (by simp) (.cells #[.int .u64 lo, .int .u64 a0] 69)).drew)
  have HWRF := Lib.hid ((((Below.refl wq.heap.size wq).alloc (Nat.le_refl _) (.cells #[.int .u64 lo, .int .u64 a0] 69)).alloc (by simp) (.cells #[.int .u64 2, .int .u64 0, .int .u64 0, .int .u64 0, .int .u64 0, .int .u64 0, .int .u64 0, .int .u64 a1, .bool false, .string ⟨#[]⟩, .string ⟨#[]⟩, .string ⟨#[]⟩, .slice (some ⟨wq.heap.size, 0, none⟩) 1 1] 34)).drew)
  have HWFR := Lib.hid ((((Below.refl wq.heap.size wq).alloc (Nat.le_refl _) (.cells #[.int .u64 2, .int .u64 0, .int .u64 0, .int .u64 0, .int .u64 0, .int .u64 0, .int .u64 0, .int .u64 a1, .bool false, .string ⟨#[]⟩, .string ⟨#[]⟩, .string ⟨#[]⟩, .slice (some ⟨wq.heap.size + 1, 0, none⟩) 1 1] 34)).alloc (by simp) (.cells #[.int .u64 lo, .int .u64 a0] 69)).drew)
  have HM1 := Lib.hid (AW.made1 (lo := lo) (hi := a0) (a1 := a1) (nm := acc) HR1.out HB1.out hltq HN1.out hgq)
  have HM2 := Lib.hid (AW.made2 (lo := lo) (hi := a0) (a1 := a1) (nm := acc) HR1.out HB1.out hltq HN1.out hgq)
  go_cut [8] from 39 to 54 (fun v8 W => ∃ (q : Nat) (sl : Sl), v8 = .pointer (some ⟨q, 0, none⟩) ∧ AW w q g a1 acc [(lo, a0)] sl W)
  case first =>
    refine wp_region_noPanic ?_
    refine wp_region_held_drew (S := fun W : World => Below wq.heap.size wq W) (by kernel_rfl) ?_ (fun hHeld => ?_)
    · exact HWD.out
    refine wpAnyH_take (i := 0) (v := ?_) rfl (by kernel_rfl) (by kernel_rfl) (by kernel_rfl) (fun _ _ _ h => h) (Or.inl ⟨by rfl, ?_⟩) (by assumption) ?_
    rotate_left
    · (intro w hSw; (obtain ⟨z0, z1, z3⟩ := HG4.out w hSw; clear hSw); go_simp; (try with_reducible rfl))
    try simp only [Act.put, List.getElem_toArray, List.getElem_cons_zero, List.getElem_cons_succ, List.setIfInBounds_toArray, List.set_cons_zero, List.set_cons_succ]
    refine wpAnyH_take (i := 1) (v := ?_) rfl (by kernel_rfl) (by kernel_rfl) (by kernel_rfl) (fun _ _ _ h => h) (Or.inl ⟨by rfl, ?_⟩) (by assumption) ?_
    rotate_left
    · (intro w hSw; (obtain ⟨z0, z1, z3⟩ := HG4.out w hSw; clear hSw); go_simp; (try with_reducible rfl))
    try simp only [Act.put, List.getElem_toArray, List.getElem_cons_zero, List.getElem_cons_succ, List.setIfInBounds_toArray, List.set_cons_zero, List.set_cons_succ]
    refine wpAnyH_take (i := 2) (v := ?_) rfl (by kernel_rfl) (by kernel_rfl) (by kernel_rfl) (fun _ _ _ h => h) (Or.inl ⟨by rfl, ?_⟩) (by assumption) ?_
    rotate_left
    · (intro w hSw; (obtain ⟨z0, z1, z3⟩ := HG4.out w hSw; clear hSw); go_simp; (try with_reducible rfl))
    try simp only [Act.put, List.getElem_toArray, List.getElem_cons_zero, List.getElem_cons_succ, List.setIfInBounds_toArray, List.set_cons_zero, List.set_cons_succ]
    refine wpAnyH_take (i := 3) (v := ?_) rfl (by kernel_rfl) (by kernel_rfl) (by kernel_rfl) (fun _ _ _ h => h) (Or.inl ⟨by rfl, ?_⟩) (by assumption) ?_
    rotate_left
    · (intro w hSw; (obtain ⟨z0, z1, z3⟩ := HG4.out w hSw; clear hSw); go_simp; (try with_reducible rfl))
    try simp only [Act.put, List.getElem_toArray, List.getElem_cons_zero, List.getElem_cons_succ, List.setIfInBounds_toArray, List.set_cons_zero, List.set_cons_succ]
    refine wpAnyH_take (i := 4) (v := ?_) rfl (by kernel_rfl) (by kernel_rfl) (by kernel_rfl) (fun _ _ _ h => h) (Or.inl ⟨by rfl, ?_⟩) (by assumption) ?_
    rotate_left
    · (intro w hSw; (obtain ⟨z0, z1, z3⟩ := HG4.out w hSw; clear hSw); go_simp; (try with_reducible rfl))
    try simp only [Act.put, List.getElem_toArray, List.getElem_cons_zero, List.getElem_cons_succ, List.setIfInBounds_toArray, List.set_cons_zero, List.set_cons_succ]
    refine wpAnyH_take (i := 5) (v := ?_) rfl (by kernel_rfl) (by kernel_rfl) (by kernel_rfl) (fun _ _ _ h => h) (Or.inl ⟨by rfl, ?_⟩) (by assumption) ?_
    rotate_left
    · (intro w hSw; (obtain ⟨z0, z1, z3⟩ := HG4.out w hSw; clear hSw); go_simp; (try with_reducible rfl))
    try simp only [Act.put, List.getElem_toArray, List.getElem_cons_zero, List.getElem_cons_succ, List.setIfInBounds_toArray, List.set_cons_zero, List.set_cons_succ]
    refine wpAnyH_take (i := 6) (v := ?_) rfl (by kernel_rfl) (by kernel_rfl) (by kernel_rfl) (fun _ _ _ h => h) (Or.inl ⟨by rfl, ?_⟩) (by assumption) ?_
    rotate_left
    · (intro w hSw; (obtain ⟨z0, z1, z3⟩ := HG4.out w hSw; clear hSw); go_simp; (try with_reducible rfl))
    try simp only [Act.put, List.getElem_toArray, List.getElem_cons_zero, List.getElem_cons_succ, List.setIfInBounds_toArray, List.set_cons_zero, List.set_cons_succ]
    refine wpAnyH_take (i := 7) (v := ?_) rfl (by kernel_rfl) (by kernel_rfl) (by kernel_rfl) (fun _ _ _ h => h) (Or.inl ⟨by rfl, ?_⟩) (by assumption) ?_
    rotate_left
    · (intro w hSw; (obtain ⟨z0, z1, z3⟩ := HG4.out w hSw; clear hSw); go_simp; (try with_reducible rfl))
    try simp only [Act.put, List.getElem_toArray, List.getElem_cons_zero, List.getElem_cons_succ, List.setIfInBounds_toArray, List.set_cons_zero, List.set_cons_succ]
    refine wpAnyH_take (i := 8) (v := ?_) rfl (by kernel_rfl) (by kernel_rfl) (by kernel_rfl) (fun _ _ _ h => h) (Or.inl ⟨by rfl, ?_⟩) (by assumption) ?_
    rotate_left
    · (intro w hSw; (obtain ⟨z0, z1, z3⟩ := HG4.out w hSw; clear hSw); go_simp; (try with_reducible rfl))
    try simp only [Act.put, List.getElem_toArray, List.getElem_cons_zero, List.getElem_cons_succ, List.setIfInBounds_toArray, List.set_cons_zero, List.set_cons_succ]
    refine wpAnyH_take (i := 9) (v := ?_) rfl (by kernel_rfl) (by kernel_rfl) (by kernel_rfl) (fun _ _ _ h => h) (Or.inl ⟨by rfl, ?_⟩) (by assumption) ?_
    rotate_left
    · (intro w hSw; (obtain ⟨z0, z1, z3⟩ := HG4.out w hSw; clear hSw); go_simp; (try with_reducible rfl))
    try simp only [Act.put, List.getElem_toArray, List.getElem_cons_zero, List.getElem_cons_succ, List.setIfInBounds_toArray, List.set_cons_zero, List.set_cons_succ]
    refine wpAnyH_take (i := 10) (v := ?_) rfl (by kernel_rfl) (by kernel_rfl) (by kernel_rfl) (fun _ _ _ h => h) (Or.inl ⟨by rfl, ?_⟩) (by assumption) ?_
    rotate_left
    · (intro w hSw; (obtain ⟨z0, z1, z3⟩ := HG4.out w hSw; clear hSw); go_simp; (try with_reducible rfl))
    try simp only [Act.put, List.getElem_toArray, List.getElem_cons_zero, List.getElem_cons_succ, List.setIfInBounds_toArray, List.set_cons_zero, List.set_cons_succ]
    refine wpAnyH_take (i := 11) (v := ?_) rfl (by kernel_rfl) (by kernel_rfl) (by kernel_rfl) (fun _ _ _ h => h) (Or.inl ⟨by rfl, ?_⟩) (by assumption) ?_
    rotate_left
    · (intro w hSw; (obtain ⟨z0, z1, z3⟩ := HG4.out w hSw; clear hSw); go_simp; (try with_reducible rfl))
    try simp only [Act.put, List.getElem_toArray, List.getElem_cons_zero, List.getElem_cons_succ, List.setIfInBounds_toArray, List.set_cons_zero, List.set_cons_succ]
    refine wpAnyH_take (i := 12) (v := ?_) rfl (by kernel_rfl) (by kernel_rfl) (by kernel_rfl) (fun _ _ _ h => h) (Or.inl ⟨by rfl, ?_⟩) (by assumption) ?_
    rotate_left
    · (intro w hSw; (obtain ⟨z0, z1, z3⟩ := HG4.out w hSw; clear hSw); go_simp; (try with_reducible rfl))
    try simp only [Act.put, List.getElem_toArray, List.getElem_cons_zero, List.getElem_cons_succ, List.setIfInBounds_toArray, List.set_cons_zero, List.set_cons_succ]
    refine wpAnyH_take (i := 13) (v := ?_) rfl (by kernel_rfl) (by kernel_rfl) (by kernel_rfl) (fun _ _ _ h => h) (Or.inl ⟨by rfl, ?_⟩) (by assumption) ?_
    rotate_left
    · (intro w hSw; (obtain ⟨z0, z1, z3⟩ := HG4.out w hSw; clear hSw); go_simp; (try with_reducible rfl))
    try simp only [Act.put, List.getElem_toArray, List.getElem_cons_zero, List.getElem_cons_succ, List.setIfInBounds_toArray, List.set_cons_zero, List.set_cons_succ]
    refine wpAnyH_ready (rs := [14, 16]) (by kernel_rfl) (by simp) ?_
    refine AllReadyH.cons rfl (fun K hK => ?_) (AllReadyH.cons rfl (fun K hK => ?_) AllReadyH.nil)
    · rw [if_pos (by rfl)]
      go_simp
      refine hK.out _ _ ?_ (fun hHeld => ?_)
      · exact HWR.out
      clear hK K
      try simp only [Act.put, List.getElem_toArray, List.getElem_cons_zero, List.getElem_cons_succ, List.setIfInBounds_toArray, List.set_cons_zero, List.set_cons_succ]
      refine wpAnyH_take (i := 15) (v := ?_) rfl (by kernel_rfl) (by kernel_rfl) (by kernel_rfl) (fun _ _ _ h => h) (Or.inl ⟨by rfl, ?_⟩) (by assumption) ?_
      rotate_left
      · (intro w hSw; (obtain ⟨z0, z1, z3⟩ := HG4.out w hSw; clear hSw); go_simp; (try with_reducible rfl))
      try simp only [Act.put, List.getElem_toArray, List.getElem_cons_zero, List.getElem_cons_succ, List.setIfInBounds_toArray, List.set_cons_zero, List.set_cons_succ]
      refine wpAnyH_ready (rs := [16]) (by kernel_rfl) (by simp) ?_
      refine AllReadyH.cons rfl (fun K hK => ?_) AllReadyH.nil
      rw [if_pos (by rfl)]
      go_simp
      refine hK.out _ _ ?_ (fun hHeld => ?_)
      · exact HWRZ.out
      clear hK K
      try simp only [Act.put, List.getElem_toArray, List.getElem_cons_zero, List.getElem_cons_succ, List.setIfInBounds_toArray, List.set_cons_zero, List.set_cons_succ]
      refine wpAnyH_ready (rs := [17]) (by kernel_rfl) (by simp) ?_
      refine AllReadyH.cons rfl (fun K hK => ?_) AllReadyH.nil
      rw [if_pos (by rfl)]
      go_simp
      refine hK.out _ _ ?_ (fun hHeld => ?_)
      · exact HWRF.out
      clear hK K
      try simp only [Act.put, List.getElem_toArray, List.getElem_cons_zero, List.getElem_cons_succ, List.setIfInBounds_toArray, List.set_cons_zero, List.set_cons_succ]
      refine wpAnyH_done (by kernel_rfl) (NoPanic.normal ?_) _
      go_wp2_with fail
      go_meet
      case rel => exact ⟨_, _, rfl, AW.go HM1.out (Below.refl _ _).drew⟩
    · rw [if_pos (by rfl)]
      go_simp
      refine hK.out _ _ ?_ (fun hHeld => ?_)
      · exact HWZ.out
      clear hK K
      try simp only [Act.put, List.getElem_toArray, List.getElem_cons_zero, List.getElem_cons_succ, List.setIfInBounds_toArray, List.set_cons_zero, List.set_cons_succ]
      refine wpAnyH_ready (rs := [14]) (by kernel_rfl) (by simp) ?_
      refine AllReadyH.cons rfl (fun K hK => ?_) AllReadyH.nil
      rw [if_pos (by rfl)]
      go_simp
      refine hK.out _ _ ?_ (fun hHeld => ?_)
      · exact HWZR.out
      clear hK K
      try simp only [Act.put, List.getElem_toArray, List.getElem_cons_zero, List.getElem_cons_succ, List.setIfInBounds_toArray, List.set_cons_zero, List.set_cons_succ]
      refine wpAnyH_take (i := 15) (v := ?_) rfl (by kernel_rfl) (by kernel_rfl) (by kernel_rfl) (fun _ _ _ h => h) (Or.inl ⟨by rfl, ?_⟩) (by assumption) ?_
      rotate_left
      · (intro w hSw; (obtain ⟨z0, z1, z3⟩ := HG4.out w hSw; clear hSw); go_simp; (try with_reducible rfl))
      try simp only [Act.put, List.getElem_toArray, List.getElem_cons_zero, List.getElem_cons_succ, List.setIfInBounds_toArray, List.set_cons_zero, List.set_cons_succ]
      refine wpAnyH_ready (rs := [17]) (by kernel_rfl) (by simp) ?_
      refine AllReadyH.cons rfl (fun K hK => ?_) AllReadyH.nil
      rw [if_pos (by rfl)]
      go_simp
      refine hK.out _ _ ?_ (fun hHeld => ?_)
      · exact HWFR.out
      clear hK K
      try simp only [Act.put, List.getElem_toArray, List.getElem_cons_zero, List.getElem_cons_succ, List.setIfInBounds_toArray, List.set_cons_zero, List.set_cons_succ]
      refine wpAnyH_done (by kernel_rfl) (NoPanic.normal ?_) _
      go_wp2_with fail
      go_meet
      case rel => exact ⟨_, _, rfl, AW.go HM2.out (Below.refl _ _).drew⟩
  case rest =>
    obtain ⟨q, sl0, rfl, hA0⟩ := hcut
    have HA0W := Lib.hid hA0
    clear HWD HWR HWZ HWRZ HWZR HWRF HWFR HM1 HM2 HG4 HR1 HB1 HN1 hltq hgq hA0
    go_wp2_with fail
    go_loopw [6, 9] (fun v6 v9 wr => ∃ (i lo : Nat) (ac : List (Nat × Nat)) (l' : List UInt8) (sl : Sl), i ≤ a2 ∧ v9 = .int .u64 (i : Nat) ∧ v6 = .string ⟨l'.toArray⟩ ∧ AW w q g a1 acc ac.reverse sl wr ∧ ackG (a2 - i) lo ac l' = R ∧ lo < 4611686018427387904 ∧ (∃ hi pre, ac = pre ++ [(lo, hi)]) ∧ ac.length = i + 1 ∧ l'.length ≤ 4000) (fun _ v9 _ => a2 - (intOf v9).toNat)
    case atStart => exact ⟨0, lo, [(lo, a0)], l4, sl0, Nat.zero_le _, rfl, rfl, HA0W.out, by rw [Nat.sub_zero]; exact HRR.out, by have := HLO.out; have := HA0.out; omega, ⟨a0, [], rfl⟩, rfl, hl4'⟩
    case round =>
      clear HA0W
      obtain ⟨i, lo', ac, l', sl, hi, rfl, rfl, hA, hG, hlob, ⟨hiL, pre, hac⟩, hlen, hll⟩ := hrel
      have HA := Lib.hid hA
      have n2 := hA.nb 2 (by decide)
      rw [ha2] at n2
      by_cases hin : (i : Int) < (a2 : Int)
      · obtain ⟨m, hm⟩ : ∃ m, a2 - i = m + 1 := ⟨a2 - i - 1, by omega⟩
        rw [hm] at hG
        have hrev : ac.reverse = (lo', hiL) :: pre.reverse := by rw [hac, List.reverse_append]; rfl
        rw [hrev] at HA
        have CN2 := Lib.hid (rnumbers l' 2 wr hll (by decide) (by decide))
        have HLL := Lib.hid hll
        have HLEN := Lib.hid hlen
        have HAC := Lib.hid hac
        have HM := Lib.hid hm
        have hlo0 : (0 : Int) ≤ (lo' : Int) := by omega
        match hg2 : gst l' 2 with
        | none =>
          obtain rfl : R = none := hG.symm.trans (ackG_none hg2)
          rw [hg2] at CN2
          clear hG hg2 hA hac hlen hll hm hrev
          go_wp2_with fail
          refine (CN2.out).mono ?_
          rintro e w2 ⟨hb, rfl⟩
          have HA2 := Lib.hid (HA.out.go hb)
          obtain ⟨rb, off, rc, rn, rfl, hn0, hnc, hc0⟩ := HA2.out.first
          have s12 : w2.cell? ⟨q, 12, none⟩ = some (.slice (some ⟨rb, off, none⟩) rn rc) := HA2.out.f.at12
          have HR := Lib.hid HA2.out.r
          have HB := Lib.hid HA2.out.b
          clear hb
          obtain ⟨d0, d1, d2, d3, d4, d5, d6, d7, d8, d9, d10, d11, d12⟩ := HR.out.ats
          have df := HR.out.fz
          go_wp2_with fail
          go_quiet (fail)
          go_wp2_with fail
          have HE1 := Lib.hid (rstF_frd (show FrD w.heap.size frZ (w2.drewN nq) from HR.out) frZ)
          have HE2 := Lib.hid ((show Below w.heap.size w (w2.drewN nq) from below_drewN HB.out nq).trans ((rstF_only w.heap.size frZ (w2.drewN nq)).below HB.out.size (fun k hk => by omega)))
          refine bodyPost_ret (v := .tuple #[.agg #[.int .u64 frZ.kind, .int .u64 frZ.id, .int .u64 frZ.off, .int .u64 frZ.max, .int .u64 frZ.code, .int .u64 frZ.seq, .int .u64 frZ.prior, .int .u64 frZ.delay, .bool frZ.fin, .string ⟨frZ.data.toArray⟩, .string ⟨frZ.cid.toArray⟩, .string ⟨frZ.token.toArray⟩, .slice frZ.set.a frZ.set.n frZ.set.c], .string ⟨([] : List UInt8).toArray⟩, .bool false]) (by
            change Sem.run Tryd.prog (results _ _) (rstF w.heap.size frZ (w2.drewN nq)) = Result.ok _ (rstF w.heap.size frZ (w2.drewN nq))
            obtain ⟨y0, y1, y2, y3, y4, y5, y6, y7, y8, y9, y10, y11, y12⟩ := HE1.out.ats
            generalize (rstF w.heap.size frZ (w2.drewN nq)) = X at y0 y1 y2 y3 y4 y5 y6 y7 y8 y9 y10 y11 y12 ⊢
            simp [results, Tryd.results37, go_sem, y0, y1, y2, y3, y4, y5, y6, y7, y8, y9, y10, y11, y12]) rfl ?_
          exact ⟨HE2.out, frZ, [], rfl⟩
        | some (mm, l2) =>
          obtain ⟨hml, hl2, hmb⟩ := Vm.gst_len hg2
          have hget2 : ∀ j, j < 2 → mm.getD j 0 < 4611686018427387904 := fun j hj => by
            rw [List.getD_eq_getElem?_getD, List.getElem?_eq_getElem (by omega)]
            exact hmb _ (List.getElem_mem _)
          have bm0 := hget2 0 (by decide)
          have bm1 := hget2 1 (by decide)
          rw [ackG_some hg2] at hG
          obtain ⟨m0, hm0⟩ : ∃ x, mm.getD 0 0 = x := ⟨_, rfl⟩
          obtain ⟨m1, hm1⟩ : ∃ x, mm.getD 1 0 = x := ⟨_, rfl⟩
          rw [hm0] at hG bm0
          rw [hm1] at hG bm1
          have HL2 := Lib.hid (show l2.length ≤ 4000 by omega)
          rw [hg2] at CN2
          have hw2 : IntKind.u64.wrap ((m0 : Int) + 2) = (m0 : Int) + 2 := by rw [IntKind.wrap_u64]; omega
          by_cases c1 : lo' < m0 + 2
          · obtain rfl : R = none := hG.symm.trans (if_pos c1)
            have hd1 : decide ((lo' : Int) < (m0 : Int) + 2) = true := decide_eq_true (by omega)
            clear hG hg2 hA hac hlen hll hm hrev hml hl2 hmb hget2 bm1 c1
            go_wp2_with fail
            refine (CN2.out).mono ?_
            rintro e w2 ⟨hb, gg, cc, rfl, h1, h2⟩
            have k0 := h2 0 (by decide)
            rw [hm0] at k0
            have HA2 := Lib.hid (HA.out.go hb)
            obtain ⟨rb, off, rc, rn, rfl, hn0, hnc, hc0⟩ := HA2.out.first
            have s12 : w2.cell? ⟨q, 12, none⟩ = some (.slice (some ⟨rb, off, none⟩) rn rc) := HA2.out.f.at12
            have HR := Lib.hid HA2.out.r
            have HB := Lib.hid HA2.out.b
            clear hb h1 h2
            obtain ⟨d0, d1, d2, d3, d4, d5, d6, d7, d8, d9, d10, d11, d12⟩ := HR.out.ats
            have df := HR.out.fz
            go_wp2_with fail
            go_quiet (fail)
            go_wp2_with fail
            have HE1 := Lib.hid (rstF_frd (show FrD w.heap.size frZ (w2.drewN nq) from HR.out) frZ)
            have HE2 := Lib.hid ((show Below w.heap.size w (w2.drewN nq) from below_drewN HB.out nq).trans ((rstF_only w.heap.size frZ (w2.drewN nq)).below HB.out.size (fun k hk => by omega)))
            refine bodyPost_ret (v := .tuple #[.agg #[.int .u64 frZ.kind, .int .u64 frZ.id, .int .u64 frZ.off, .int .u64 frZ.max, .int .u64 frZ.code, .int .u64 frZ.seq, .int .u64 frZ.prior, .int .u64 frZ.delay, .bool frZ.fin, .string ⟨frZ.data.toArray⟩, .string ⟨frZ.cid.toArray⟩, .string ⟨frZ.token.toArray⟩, .slice frZ.set.a frZ.set.n frZ.set.c], .string ⟨([] : List UInt8).toArray⟩, .bool false]) (by
              change Sem.run Tryd.prog (results _ _) (rstF w.heap.size frZ (w2.drewN nq)) = Result.ok _ (rstF w.heap.size frZ (w2.drewN nq))
              obtain ⟨y0, y1, y2, y3, y4, y5, y6, y7, y8, y9, y10, y11, y12⟩ := HE1.out.ats
              generalize (rstF w.heap.size frZ (w2.drewN nq)) = X at y0 y1 y2 y3 y4 y5 y6 y7 y8 y9 y10 y11 y12 ⊢
              simp [results, Tryd.results37, go_sem, y0, y1, y2, y3, y4, y5, y6, y7, y8, y9, y10, y11, y12]) rfl ?_
            exact ⟨HE2.out, frZ, [], rfl⟩
          · rw [if_neg c1] at hG
            obtain ⟨x, hx⟩ : ∃ x, lo' - m0 = x := ⟨_, rfl⟩
            obtain ⟨d, hd⟩ : ∃ x, lo' - (m0 + 2) = x := ⟨_, rfl⟩
            rw [hd] at hG
            have hw3 : IntKind.u64.wrap ((lo' : Int) - (m0 : Int)) = (x : Int) := by rw [IntKind.wrap_u64]; omega
            have hw4 : IntKind.u64.wrap ((x : Int) - 2) = (d : Int) := by rw [IntKind.wrap_u64]; omega
            have hd1 : decide ((lo' : Int) < (m0 : Int) + 2) = false := decide_eq_false (by omega)
            by_cases c2 : d < m1
            · obtain rfl : R = none := hG.symm.trans (if_pos c2)
              have hd2n : decide (d < m1) = true := decide_eq_true c2
              have hd2i : decide ((d : Int) < (m1 : Int)) = true := decide_eq_true (by omega)
              clear hG hg2 hA hac hlen hll hm hrev hml hl2 hmb hget2 c1 c2 hx hd
              go_wp2_with fail
              refine (CN2.out).mono ?_
              rintro e w2 ⟨hb, gg, cc, rfl, h1, h2⟩
              have k0 := h2 0 (by decide)
              rw [hm0] at k0
              have k1 := h2 1 (by decide)
              rw [hm1] at k1
              have HA2 := Lib.hid (HA.out.go hb)
              obtain ⟨rb, off, rc, rn, rfl, hn0, hnc, hc0⟩ := HA2.out.first
              have s12 : w2.cell? ⟨q, 12, none⟩ = some (.slice (some ⟨rb, off, none⟩) rn rc) := HA2.out.f.at12
              have HR := Lib.hid HA2.out.r
              have HB := Lib.hid HA2.out.b
              clear hb h1 h2
              obtain ⟨d0, d1, d2, d3, d4, d5, d6, d7, d8, d9, d10, d11, d12⟩ := HR.out.ats
              have df := HR.out.fz
              go_wp2_with fail
              go_quiet (fail)
              go_wp2_with fail
              have HE1 := Lib.hid (rstF_frd (show FrD w.heap.size frZ (w2.drewN nq) from HR.out) frZ)
              have HE2 := Lib.hid ((show Below w.heap.size w (w2.drewN nq) from below_drewN HB.out nq).trans ((rstF_only w.heap.size frZ (w2.drewN nq)).below HB.out.size (fun k hk => by omega)))
              refine bodyPost_ret (v := .tuple #[.agg #[.int .u64 frZ.kind, .int .u64 frZ.id, .int .u64 frZ.off, .int .u64 frZ.max, .int .u64 frZ.code, .int .u64 frZ.seq, .int .u64 frZ.prior, .int .u64 frZ.delay, .bool frZ.fin, .string ⟨frZ.data.toArray⟩, .string ⟨frZ.cid.toArray⟩, .string ⟨frZ.token.toArray⟩, .slice frZ.set.a frZ.set.n frZ.set.c], .string ⟨([] : List UInt8).toArray⟩, .bool false]) (by
                change Sem.run Tryd.prog (results _ _) (rstF w.heap.size frZ (w2.drewN nq)) = Result.ok _ (rstF w.heap.size frZ (w2.drewN nq))
                obtain ⟨y0, y1, y2, y3, y4, y5, y6, y7, y8, y9, y10, y11, y12⟩ := HE1.out.ats
                generalize (rstF w.heap.size frZ (w2.drewN nq)) = X at y0 y1 y2 y3 y4 y5 y6 y7 y8 y9 y10 y11 y12 ⊢
                simp [results, Tryd.results37, go_sem, y0, y1, y2, y3, y4, y5, y6, y7, y8, y9, y10, y11, y12]) rfl ?_
              exact ⟨HE2.out, frZ, [], rfl⟩
            · rw [if_neg c2] at hG
              have hd2n : decide (d < m1) = false := decide_eq_false c2
              have hd2i : decide ((d : Int) < (m1 : Int)) = false := decide_eq_false (by omega)
              obtain ⟨lo2, hlo2⟩ : ∃ x, d - m1 = x := ⟨_, rfl⟩
              have hw5 : IntKind.u64.wrap ((d : Int) - (m1 : Int)) = (lo2 : Int) := by rw [IntKind.wrap_u64]; omega
              rw [hlo2] at hG
              have HG := Lib.hid hG
              have hlo2b := Lib.hid (show lo2 < 4611686018427387904 by omega)
              have hxd : (lo' : Int) - (m0 : Int) = (x : Int) := by omega
              have hxd2 : (x : Int) - 2 = (d : Int) := by omega
              have HPL := Lib.hid (show pre.length ≤ 900 by have := congrArg List.length hac; rw [List.length_append] at this; simp at this; omega)
              clear hG hg2 hA hac hlen hll hm hrev hml hl2 hmb hget2 c1 c2 hx hd hlo2
              go_wp2_with fail
              refine (CN2.out).mono ?_
              rintro e w2 ⟨hb, gg, cc, rfl, h1, h2⟩
              have k0 := h2 0 (by decide)
              rw [hm0] at k0
              have k1 := h2 1 (by decide)
              rw [hm1] at k1
              have HA2 := Lib.hid (HA.out.go hb)
              obtain ⟨rb, off, rc, rn, rfl, hn0, hnc, hc0⟩ := HA2.out.first
              have s12 : w2.cell? ⟨q, 12, none⟩ = some (.slice (some ⟨rb, off, none⟩) rn rc) := HA2.out.f.at12
              clear hb h1 h2
              have hggl : gg < w2.heap.size := World.block_lt_of_cell? _ _ k1
              go_wp2_with fail
              go_quiet (fail)
              go_wp2_with fail
              go_upto_region 13 with (fail)
              generalize hwq2 : w2.drewN nq = wd
              have HA3 : Hid (AW w q g a1 acc ((lo', hiL) :: pre.reverse) ⟨some ⟨rb, off, none⟩, rn, rc⟩ wd) := Lib.hid (by rw [← hwq2]; exact HA2.out.go (below_drewN (Below.refl _ _) nq))
              have j1 : wd.cell? ⟨gg, 1, none⟩ = some (.int .u64 (m1 : Nat)) := by rw [← hwq2]; exact k1
              have hggd : gg < wd.heap.size := by rw [← hwq2]; exact hggl
              have t12 : wd.cell? ⟨q, 12, none⟩ = some (.slice (some ⟨rb, off, none⟩) rn rc) := HA3.out.f.at12
              have hqd : q < wd.heap.size := HA3.out.f.lt
              clear hwq2 k0 k1 hggl s12 HA2 hc0
              have hrdl : 1 ≤ ((lo', hiL) :: pre.reverse).length := by simp
              obtain ⟨v', w', HAP, ho', hb'⟩ := front_D wd lo2 d (.slice (some ⟨rb, off, none⟩) rn rc) ((lo', hiL) :: pre.reverse) 32 HA3.out.rd hrdl (by simp; have := HPL.out; omega)
              obtain ⟨va, vn, vc, rfl⟩ : ∃ va vn vc, v' = .slice va vn vc := by
                rcases ho'.2 with ⟨hv, _⟩ | ⟨gg, cap, cur, hv, _⟩
                · exact ⟨_, _, _, hv⟩
                · exact ⟨_, _, _, hv⟩
              have HPUT := Lib.hid (HA3.out.put ho' hb')
              have hFq := (hb'.block q HA3.out.f.lt).trans HA3.out.f
              have p12 : w'.cell? ⟨q, 12, none⟩ = some (.slice (some ⟨rb, off, none⟩) rn rc) := Lib.cell_of_heap hFq 12
              have pf12 : w'.frozen? ⟨q, 12, none⟩ = false := Lib.frozen_of_heap hFq 12
              clear ho' hb' hFq hrdl
              go_wp2_with fail
              go_region_law (refine step_append_run rfl _ _ _ rfl _ _ rfl rfl HAP ?_)
              all_goals
                go_wp2_with fail
                go_roundw
                case rel => exact ⟨i + 1, lo2, ac ++ [(lo2, d)], l2, ⟨va, vn, vc⟩, by omega, by simp, rfl, by rw [HAC.out, List.reverse_append, List.reverse_append]; exact HPUT.out, by rw [show a2 - (i + 1) = m by have := HM.out; omega]; exact HG.out, hlo2b.out, ⟨d, ac, rfl⟩, by rw [List.length_append, HLEN.out]; rfl, HL2.out⟩
                case measure => simp [intOf]; omega
      · obtain rfl : i = a2 := by omega
        rw [Nat.sub_self] at hG
        obtain rfl : R = some (ac, l') := hG.symm.trans rfl
        clear HRR CN
        have HF : Hid (FrD q ({ frZ with kind := 2, delay := (a1 : Nat), set := sl }) wr) := Lib.hid hA.f
        have HQ : Hid (q ≠ w.heap.size) := Lib.hid (by have := hA.hq; omega)
        obtain ⟨F, hF⟩ : ∃ F : Frm, ({ frZ with kind := 2, delay := (a1 : Nat), set := sl } : Frm) = F := ⟨_, rfl⟩
        rw [hF] at HF
        have HR := Lib.hid hA.r
        have HB := Lib.hid hA.b
        clear hG hA hac
        obtain ⟨s0, s1, s2, s3, s4, s5, s6, s7, s8, s9, s10, s11, s12⟩ := HF.out.ats
        have sf := HF.out.fz
        obtain ⟨d0, d1, d2, d3, d4, d5, d6, d7, d8, d9, d10, d11, d12⟩ := HR.out.ats
        have df := HR.out.fz
        go_wp2_with fail
        have HE1 := Lib.hid (rstF_frd HR.out F)
        have HE2 := Lib.hid (HB.out.trans ((rstF_only w.heap.size F wr).below HB.out.size (fun k hk => by omega)))
        refine bodyPost_ret (v := .tuple #[.agg #[.int .u64 F.kind, .int .u64 F.id, .int .u64 F.off, .int .u64 F.max, .int .u64 F.code, .int .u64 F.seq, .int .u64 F.prior, .int .u64 F.delay, .bool F.fin, .string ⟨F.data.toArray⟩, .string ⟨F.cid.toArray⟩, .string ⟨F.token.toArray⟩, .slice F.set.a F.set.n F.set.c], .string ⟨l'.toArray⟩, .bool true]) (by
          change Sem.run Tryd.prog (results _ _) (rstF w.heap.size F wr) = Result.ok _ (rstF w.heap.size F wr)
          obtain ⟨y0, y1, y2, y3, y4, y5, y6, y7, y8, y9, y10, y11, y12⟩ := HE1.out.ats
          generalize (rstF w.heap.size F wr) = X at y0 y1 y2 y3 y4 y5 y6 y7 y8 y9 y10 y11 y12 ⊢
          simp [results, Tryd.results37, go_sem, y0, y1, y2, y3, y4, y5, y6, y7, y8, y9, y10, y11, y12]) rfl ?_
        subst hF
        exact ⟨HE2.out, sl, HA.out.n, Rd.only (B := w.heap.size + 1) HA.out.rd (fun x hx => (HA.out.far x hx).1) (Nat.lt_succ_self _) (rstF_only _ _ _), fun x hx => Nat.le_of_lt (HA.out.far x hx).1, rfl⟩
end
section
/-- What getAck tells is what the bytes behind an Ack's first tell. -/
theorem rack_any (l : List UInt8) (w : World) (hl : l.length ≤ 4000) : Calls Tryd.prog 37 #[.string ⟨l.toArray⟩] w (PtTo (frmN (2 :: l)) w) := by
  rw [frm_2]
  match hg : gst l 4 with
  | none =>
    rw [ack_none hg]
    exact rack_short l w hl hg
  | some (acc, l4) =>
    rw [ack_some hg]
    unfold ackZ
    by_cases h1 : 32 ≤ acc.getD 2 0
    · rw [if_pos h1]
      exact rack_bad l acc l4 w hl hg (.inl (by omega))
    · rw [if_neg h1]
      by_cases h2 : acc.getD 0 0 < acc.getD 3 0
      · rw [if_pos h2]
        exact rack_bad l acc l4 w hl hg (.inr h2)
      · rw [if_neg h2]
        have h := rack_main l acc l4 w hl hg (by omega) (by omega)
        cases hx : ackG (acc.getD 2 0) (acc.getD 0 0 - acc.getD 3 0) [(acc.getD 0 0 - acc.getD 3 0, acc.getD 0 0)] l4 with
        | none => rw [hx] at h; exact h
        | some p =>
          obtain ⟨ac, l5⟩ := p
          rw [hx] at h
          exact h
set_option maxRecDepth 100000 in
set_option maxHeartbeats 8000000 in
theorem rparts_2 (l : List UInt8) (w : World) (hl : l.length ≤ 4000) : Calls Tryd.prog 22 #[.int .u64 2, .string ⟨l.toArray⟩] w (PtTo (frmN (2 :: l)) w) := by
  have CA := Lib.hid (fun w => rack_any l w hl)
  have HQ0 := Lib.hid (PW.start 2 w)
  generalize frmN (2 :: l) = R at CA ⊢
  go_enter Tryd.func22, Tryd.ntmps22
  go_wp2_with fail
  refine (CA.out _).mono ?_
  rintro e w1 hP
  have HQ := Lib.hid (HQ0.out.go hP.1)
  obtain ⟨g, r, b, rfl, HEND⟩ : ∃ (g : Frm) (r : List UInt8) (b : Bool), e = .returned (.tuple #[.agg #[.int .u64 g.kind, .int .u64 g.id, .int .u64 g.off, .int .u64 g.max, .int .u64 g.code, .int .u64 g.seq, .int .u64 g.prior, .int .u64 g.delay, .bool g.fin, .string ⟨g.data.toArray⟩, .string ⟨g.cid.toArray⟩, .string ⟨g.token.toArray⟩, .slice g.set.a g.set.n g.set.c], .string ⟨r.toArray⟩, .bool b]) ∧ Hid (∀ w', Below w.heap.size w w' → It.Only (fun k => k = w.heap.size) w1 w' → PtTo R w e w') := by
    have hlt := HQ0.out.f.lt
    obtain ⟨hb, hm⟩ := hP
    cases R with
    | none =>
      obtain ⟨g, r, he⟩ := hm
      exact ⟨g, r, false, he, Lib.hid (fun w' hw _ => ⟨hw, g, r, he⟩)⟩
    | some p =>
      obtain ⟨f, rs, r⟩ := p
      obtain ⟨sl, hn, hrd, hfar, he⟩ := hm
      exact ⟨{ f with set := sl }, r, true, he, Lib.hid (fun w' hw ho => ⟨hw, sl, hn, Rd.only (B := w.heap.size + 1) hrd (fun x hx => by have := hfar x hx; omega) (Nat.lt_succ_self _) ho, fun x hx => by have := hfar x hx; omega, he⟩)⟩
  clear hP
  obtain ⟨d0, d1, d2, d3, d4, d5, d6, d7, d8, d9, d10, d11, d12⟩ := HQ.out.r.ats
  have df := HQ.out.r.fz
  go_wp2_with fail
  have HE1 := Lib.hid (rstF_frd HQ.out.r g)
  have HE2 := Lib.hid (HQ.out.b.trans ((rstF_only w.heap.size g w1).below HQ.out.b.size (fun k hk => by omega)))
  refine bodyPost_ret (v := .tuple #[.agg #[.int .u64 g.kind, .int .u64 g.id, .int .u64 g.off, .int .u64 g.max, .int .u64 g.code, .int .u64 g.seq, .int .u64 g.prior, .int .u64 g.delay, .bool g.fin, .string ⟨g.data.toArray⟩, .string ⟨g.cid.toArray⟩, .string ⟨g.token.toArray⟩, .slice g.set.a g.set.n g.set.c], .string ⟨r.toArray⟩, .bool b]) (by
    change Sem.run Tryd.prog (results _ _) (rstF w.heap.size g w1) = Result.ok _ (rstF w.heap.size g w1)
    obtain ⟨y0, y1, y2, y3, y4, y5, y6, y7, y8, y9, y10, y11, y12⟩ := HE1.out.ats
    generalize (rstF w.heap.size g w1) = X at y0 y1 y2 y3 y4 y5 y6 y7 y8 y9 y10 y11 y12 ⊢
    simp [results, Tryd.results22, go_sem, y0, y1, y2, y3, y4, y5, y6, y7, y8, y9, y10, y11, y12]) rfl ?_
  exact HEND.out _ HE2.out (rstF_only _ _ _)
end
end Go.Proofs.YtfeecfdbncjmnaaDoor.Fm
