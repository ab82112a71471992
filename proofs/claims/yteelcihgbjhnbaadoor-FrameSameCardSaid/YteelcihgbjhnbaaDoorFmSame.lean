/- Layer 6: the law FrameSame, walked. By tools/gen-frame-27.py. -/
import Derived.Test.YteelcihgbjhnbaaDoorFmDv
import Derived.Test.YteelcihgbjhnbaaDoorFmBack
import Derived.Deep.RegionHeld3
namespace Go.Proofs.YteelcihgbjhnbaaDoor.Fm
set_option maxRecDepth 20000
open Go.RowKit Vm
set_option linter.unusedVariables false
set_option linter.unusedSimpArgs false

theorem frb_drew {b : Nat} {f : Frm} {w : World} (h : FrB b f w) : FrB b f w.drew := h
theorem same_refl (f : Frm) (l : List Ran) : sameF f f l l = true := same_self f f.set f.set l
theorem same_sets (f g : Frm) (sl tl : Sl) (l m : List Ran) : sameF { f with set := sl } { g with set := tl } l m = sameF f g l m := rfl
set_option maxRecDepth 100000 in
set_option maxHeartbeats 16000000 in
theorem same_in (f g : Frm) (l m : List Ran) (w : World) (ht : Tab w) (hf : Rd w (.slice f.set.a f.set.n f.set.c) l) (hg : Rd w (.slice g.set.a g.set.n g.set.c) m) (hlf : lbB f = true) (hlg : lbB g = true) :
    Calls Tryd.prog 7 #[.agg #[.int .u64 f.kind, .int .u64 f.id, .int .u64 f.off, .int .u64 f.max, .int .u64 f.code, .int .u64 f.seq, .int .u64 f.prior, .int .u64 f.delay, .bool f.fin, .string ⟨f.data.toArray⟩, .string ⟨f.cid.toArray⟩, .string ⟨f.token.toArray⟩, .slice f.set.a f.set.n f.set.c], .agg #[.int .u64 g.kind, .int .u64 g.id, .int .u64 g.off, .int .u64 g.max, .int .u64 g.code, .int .u64 g.seq, .int .u64 g.prior, .int .u64 g.delay, .bool g.fin, .string ⟨g.data.toArray⟩, .string ⟨g.cid.toArray⟩, .string ⟨g.token.toArray⟩, .slice g.set.a g.set.n g.set.c]] w fun e w' => e = .returned (.bool true) ∧ Below w.heap.size w w' := by
  have hl : l.length ≤ 1000 := by
    obtain ⟨a, cap, he, _⟩ := hf
    injection he with e1 e2 e3
    have := lbB_yes hlf
    omega
  have hm : m.length ≤ 1000 := by
    obtain ⟨a, cap, he, _⟩ := hg
    injection he with e1 e2 e3
    have := lbB_yes hlg
    omega
  have CBf := Lib.hid (fun w => bounded_law f w)
  have CBg := Lib.hid (fun w => bounded_law g w)
  rw [hlf] at CBf
  rw [hlg] at CBg
  have CS := Lib.hid (fun w ht => shown_any w ht)
  have CSfg := Lib.hid (fun (W : World) (hb : Below w.heap.size w W) => same_any f g l m W hl hm (hf.below hb) (hg.below hb))
  have CSff : Hid (∀ (W : World), Below w.heap.size w W → Calls Tryd.prog 28 #[.agg #[.int .u64 f.kind, .int .u64 f.id, .int .u64 f.off, .int .u64 f.max, .int .u64 f.code, .int .u64 f.seq, .int .u64 f.prior, .int .u64 f.delay, .bool f.fin, .string ⟨f.data.toArray⟩, .string ⟨f.cid.toArray⟩, .string ⟨f.token.toArray⟩, .slice f.set.a f.set.n f.set.c], .agg #[.int .u64 f.kind, .int .u64 f.id, .int .u64 f.off, .int .u64 f.max, .int .u64 f.code, .int .u64 f.seq, .int .u64 f.prior, .int .u64 f.delay, .bool f.fin, .string ⟨f.data.toArray⟩, .string ⟨f.cid.toArray⟩, .string ⟨f.token.toArray⟩, .slice f.set.a f.set.n f.set.c]] W fun e w' => e = .returned (.bool true) ∧ Below W.heap.size W w') := Lib.hid (fun W hb => by
    have h := same_any f f l l W hl hl (hf.below hb) (hf.below hb)
    rw [same_refl] at h
    exact h)
  have CIf := Lib.hid (fun (W : World) (hb : Below w.heap.size w W) => its_any f l W (hf.below hb) hl)
  have CIg := Lib.hid (fun (W : World) (hb : Below w.heap.size w W) => its_any g m W (hg.below hb) hm)
  have CD : Hid (∀ (W : World) (sa : Option Addr) (sc : Nat) (ta : Option Addr) (tc : Nat), Rd W (.slice sa l.length sc) l → Rd W (.slice ta m.length tc) m → Calls Tryd.prog 25 #[.agg #[.int .u64 f.kind, .int .u64 f.id, .int .u64 f.off, .int .u64 f.max, .int .u64 f.code, .int .u64 f.seq, .int .u64 f.prior, .int .u64 f.delay, .bool f.fin, .string ⟨f.data.toArray⟩, .string ⟨f.cid.toArray⟩, .string ⟨f.token.toArray⟩, .slice sa l.length sc], .agg #[.int .u64 g.kind, .int .u64 g.id, .int .u64 g.off, .int .u64 g.max, .int .u64 g.code, .int .u64 g.seq, .int .u64 g.prior, .int .u64 g.delay, .bool g.fin, .string ⟨g.data.toArray⟩, .string ⟨g.cid.toArray⟩, .string ⟨g.token.toArray⟩, .slice ta m.length tc]] W fun e w' => e = .returned (.bool (sameF f g l m)) ∧ Below W.heap.size W w') := Lib.hid (fun W sa sc ta tc h1 h2 => dsame_any { f with set := ⟨sa, l.length, sc⟩ } { g with set := ⟨ta, m.length, tc⟩ } l m W hl hm h1 h2)
  obtain ⟨hb0, hF, hG⟩ := same_ctx f g w
  have HT := Lib.hid ht
  have HB0 : Hid (Below w.heap.size w ((w.alloc (.cells #[.int .u64 f.kind, .int .u64 f.id, .int .u64 f.off, .int .u64 f.max, .int .u64 f.code, .int .u64 f.seq, .int .u64 f.prior, .int .u64 f.delay, .bool f.fin, .string ⟨f.data.toArray⟩, .string ⟨f.cid.toArray⟩, .string ⟨f.token.toArray⟩, .slice f.set.a f.set.n f.set.c] 26 (0, 0))).alloc (.cells #[.int .u64 g.kind, .int .u64 g.id, .int .u64 g.off, .int .u64 g.max, .int .u64 g.code, .int .u64 g.seq, .int .u64 g.prior, .int .u64 g.delay, .bool g.fin, .string ⟨g.data.toArray⟩, .string ⟨g.cid.toArray⟩, .string ⟨g.token.toArray⟩, .slice g.set.a g.set.n g.set.c] 26 (0, 0)))) := Lib.hid (((Below.refl _ _).alloc (Nat.le_refl _) _).alloc (by simp) _)
  have HF0 : Hid (FrB w.heap.size f ((w.alloc (.cells #[.int .u64 f.kind, .int .u64 f.id, .int .u64 f.off, .int .u64 f.max, .int .u64 f.code, .int .u64 f.seq, .int .u64 f.prior, .int .u64 f.delay, .bool f.fin, .string ⟨f.data.toArray⟩, .string ⟨f.cid.toArray⟩, .string ⟨f.token.toArray⟩, .slice f.set.a f.set.n f.set.c] 26 (0, 0))).alloc (.cells #[.int .u64 g.kind, .int .u64 g.id, .int .u64 g.off, .int .u64 g.max, .int .u64 g.code, .int .u64 g.seq, .int .u64 g.prior, .int .u64 g.delay, .bool g.fin, .string ⟨g.data.toArray⟩, .string ⟨g.cid.toArray⟩, .string ⟨g.token.toArray⟩, .slice g.set.a g.set.n g.set.c] 26 (0, 0)))) := Lib.hid hF
  have HG0 : Hid (FrB (w.heap.size + 1) g ((w.alloc (.cells #[.int .u64 f.kind, .int .u64 f.id, .int .u64 f.off, .int .u64 f.max, .int .u64 f.code, .int .u64 f.seq, .int .u64 f.prior, .int .u64 f.delay, .bool f.fin, .string ⟨f.data.toArray⟩, .string ⟨f.cid.toArray⟩, .string ⟨f.token.toArray⟩, .slice f.set.a f.set.n f.set.c] 26 (0, 0))).alloc (.cells #[.int .u64 g.kind, .int .u64 g.id, .int .u64 g.off, .int .u64 g.max, .int .u64 g.code, .int .u64 g.seq, .int .u64 g.prior, .int .u64 g.delay, .bool g.fin, .string ⟨g.data.toArray⟩, .string ⟨g.cid.toArray⟩, .string ⟨g.token.toArray⟩, .slice g.set.a g.set.n g.set.c] 26 (0, 0)))) := Lib.hid hG
  generalize sameF f g l m = SM at *
  clear hf hg hlf hlg ht hb0 hF hG hl hm
  go_enter Tryd.func7, Tryd.ntmps7
  go_wp2_with fail
  refine (CBf.out _).mono ?_
  rintro e w1 ⟨rfl, hb⟩
  have HB1 := Lib.hid (HB0.out.trans (hb.mono HB0.out.size))
  have HF1 := Lib.hid (HF0.out.keep hb)
  have HG1 := Lib.hid (HG0.out.keep hb)
  have c0 := HG1.out.cell0
  have c1 := HG1.out.cell1
  have c2 := HG1.out.cell2
  have c3 := HG1.out.cell3
  have c4 := HG1.out.cell4
  have c5 := HG1.out.cell5
  have c6 := HG1.out.cell6
  have c7 := HG1.out.cell7
  have c8 := HG1.out.cell8
  have c9 := HG1.out.cell9
  have c10 := HG1.out.cell10
  have c11 := HG1.out.cell11
  have c12 := HG1.out.cell12
  clear hb
  go_wp2_with fail
  refine (CBg.out _).mono ?_
  rintro e w2 ⟨rfl, hb⟩
  have HB2 := Lib.hid (HB1.out.trans (hb.mono HB1.out.size))
  have HF2 := Lib.hid (HF1.out.keep hb)
  have HG2 := Lib.hid (HG1.out.keep hb)
  have HT2 := Lib.hid (HT.out.below HB2.out HT.out.lt)
  clear hb c0 c1 c2 c3 c4 c5 c6 c7 c8 c9 c10 c11 c12
  go_wp2_with fail
  refine (CS.out _ HT2.out).mono ?_
  rintro e w3 ⟨rfl, hb⟩
  have HB3 := Lib.hid (Below.drew (HB2.out.trans (hb.mono HB2.out.size)))
  have HF3 : Hid (FrB w.heap.size f w3.drew) := Lib.hid (frb_drew (HF2.out.keep hb))
  have HG3 : Hid (FrB (w.heap.size + 1) g w3.drew) := Lib.hid (frb_drew (HG2.out.keep hb))
  clear hb
  go_wp2_with fail
  refine wp_region_noPanic ?_
  refine wp_region_held_drew (S := fun W' : World => FrB w.heap.size f W' ∧ FrB (w.heap.size + 1) g W') (by kernel_rfl) ?_ (fun hHeld => ?_)
  · exact ⟨HF3.out, HG3.out⟩
  refine wpAnyH_take (i := 0) (v := ?_) rfl (by kernel_rfl) (by kernel_rfl) (by kernel_rfl) (fun _ _ _ h => h) (Or.inl ⟨by rfl, ?_⟩) (by assumption) ?_
  rotate_left
  · (intro w hSw; (obtain ⟨hSf, hSg⟩ := hSw; have p0 := hSf.cell0; have p1 := hSf.cell1; have p2 := hSf.cell2; have p3 := hSf.cell3; have p4 := hSf.cell4; have p5 := hSf.cell5; have p6 := hSf.cell6; have p7 := hSf.cell7; have p8 := hSf.cell8; have p9 := hSf.cell9; have p10 := hSf.cell10; have p11 := hSf.cell11; have p12 := hSf.cell12; have q0 := hSg.cell0; have q1 := hSg.cell1; have q2 := hSg.cell2; have q3 := hSg.cell3; have q4 := hSg.cell4; have q5 := hSg.cell5; have q6 := hSg.cell6; have q7 := hSg.cell7; have q8 := hSg.cell8; have q9 := hSg.cell9; have q10 := hSg.cell10; have q11 := hSg.cell11; have q12 := hSg.cell12; clear hSf hSg); go_simp; (try with_reducible rfl))
  try simp only [Act.put, List.getElem_toArray, List.getElem_cons_zero, List.getElem_cons_succ, List.setIfInBounds_toArray, List.set_cons_zero, List.set_cons_succ]
  refine wpAnyH_take (i := 1) (v := ?_) rfl (by kernel_rfl) (by kernel_rfl) (by kernel_rfl) (fun _ _ _ h => h) (Or.inl ⟨by rfl, ?_⟩) (by assumption) ?_
  rotate_left
  · (intro w hSw; (obtain ⟨hSf, hSg⟩ := hSw; have p0 := hSf.cell0; have p1 := hSf.cell1; have p2 := hSf.cell2; have p3 := hSf.cell3; have p4 := hSf.cell4; have p5 := hSf.cell5; have p6 := hSf.cell6; have p7 := hSf.cell7; have p8 := hSf.cell8; have p9 := hSf.cell9; have p10 := hSf.cell10; have p11 := hSf.cell11; have p12 := hSf.cell12; have q0 := hSg.cell0; have q1 := hSg.cell1; have q2 := hSg.cell2; have q3 := hSg.cell3; have q4 := hSg.cell4; have q5 := hSg.cell5; have q6 := hSg.cell6; have q7 := hSg.cell7; have q8 := hSg.cell8; have q9 := hSg.cell9; have q10 := hSg.cell10; have q11 := hSg.cell11; have q12 := hSg.cell12; clear hSf hSg); go_simp; (try with_reducible rfl))
  try simp only [Act.put, List.getElem_toArray, List.getElem_cons_zero, List.getElem_cons_succ, List.setIfInBounds_toArray, List.set_cons_zero, List.set_cons_succ]
  refine wpAnyH_take (i := 3) (v := ?_) rfl (by kernel_rfl) (by kernel_rfl) (by kernel_rfl) (fun _ _ _ h => h) (Or.inl ⟨by rfl, ?_⟩) (by assumption) ?_
  rotate_left
  · (intro w hSw; (obtain ⟨hSf, hSg⟩ := hSw; have p0 := hSf.cell0; have p1 := hSf.cell1; have p2 := hSf.cell2; have p3 := hSf.cell3; have p4 := hSf.cell4; have p5 := hSf.cell5; have p6 := hSf.cell6; have p7 := hSf.cell7; have p8 := hSf.cell8; have p9 := hSf.cell9; have p10 := hSf.cell10; have p11 := hSf.cell11; have p12 := hSf.cell12; have q0 := hSg.cell0; have q1 := hSg.cell1; have q2 := hSg.cell2; have q3 := hSg.cell3; have q4 := hSg.cell4; have q5 := hSg.cell5; have q6 := hSg.cell6; have q7 := hSg.cell7; have q8 := hSg.cell8; have q9 := hSg.cell9; have q10 := hSg.cell10; have q11 := hSg.cell11; have q12 := hSg.cell12; clear hSf hSg); go_simp; (try with_reducible rfl))
  try simp only [Act.put, List.getElem_toArray, List.getElem_cons_zero, List.getElem_cons_succ, List.setIfInBounds_toArray, List.set_cons_zero, List.set_cons_succ]
  refine wpAnyH_take (i := 5) (v := ?_) rfl (by kernel_rfl) (by kernel_rfl) (by kernel_rfl) (fun _ _ _ h => h) (Or.inl ⟨by rfl, ?_⟩) (by assumption) ?_
  rotate_left
  · (intro w hSw; (obtain ⟨hSf, hSg⟩ := hSw; have p0 := hSf.cell0; have p1 := hSf.cell1; have p2 := hSf.cell2; have p3 := hSf.cell3; have p4 := hSf.cell4; have p5 := hSf.cell5; have p6 := hSf.cell6; have p7 := hSf.cell7; have p8 := hSf.cell8; have p9 := hSf.cell9; have p10 := hSf.cell10; have p11 := hSf.cell11; have p12 := hSf.cell12; have q0 := hSg.cell0; have q1 := hSg.cell1; have q2 := hSg.cell2; have q3 := hSg.cell3; have q4 := hSg.cell4; have q5 := hSg.cell5; have q6 := hSg.cell6; have q7 := hSg.cell7; have q8 := hSg.cell8; have q9 := hSg.cell9; have q10 := hSg.cell10; have q11 := hSg.cell11; have q12 := hSg.cell12; clear hSf hSg); go_simp; (try with_reducible rfl))
  try simp only [Act.put, List.getElem_toArray, List.getElem_cons_zero, List.getElem_cons_succ, List.setIfInBounds_toArray, List.set_cons_zero, List.set_cons_succ]
  refine wpAnyH_ready (rs := [2]) (by kernel_rfl) (by simp) ?_
  refine AllReadyH.cons rfl (fun K hK => ?_) AllReadyH.nil
  rw [if_pos (by rfl)]
  go_simp
  with_reducible refine (CSfg.out _ HB3.out).mono ?_
  rintro e u1 ⟨rfl, hb⟩
  have HF1_ := Lib.hid (HF3.out.keep hb)
  have HG1_ := Lib.hid (HG3.out.keep hb)
  have HB1_ := Lib.hid (HB3.out.trans (hb.mono HB3.out.size))
  clear hb
  refine hK.out _ _ ?_ (fun hHeld => ?_)
  · exact ⟨HF1_.out, HG1_.out⟩
  clear hK K
  try simp only [Act.put, List.getElem_toArray, List.getElem_cons_zero, List.getElem_cons_succ, List.setIfInBounds_toArray, List.set_cons_zero, List.set_cons_succ]
  refine wpAnyH_ready (rs := [4]) (by kernel_rfl) (by simp) ?_
  refine AllReadyH.cons rfl (fun K hK => ?_) AllReadyH.nil
  rw [if_pos (by rfl)]
  go_simp
  with_reducible refine (CIf.out _ HB1_.out).mono ?_
  rintro e u2 ⟨sa, sc, rfl, hr, hb⟩
  have HF2_ := Lib.hid (HF1_.out.keep hb)
  have HG2_ := Lib.hid (HG1_.out.keep hb)
  have HB2_ := Lib.hid (HB1_.out.trans (hb.mono HB1_.out.size))
  have HRa := Lib.hid hr
  clear hr
  clear hb
  refine hK.out _ _ ?_ (fun hHeld => ?_)
  · exact ⟨HF2_.out, HG2_.out⟩
  clear hK K
  try simp only [Act.put, List.getElem_toArray, List.getElem_cons_zero, List.getElem_cons_succ, List.setIfInBounds_toArray, List.set_cons_zero, List.set_cons_succ]
  refine wpAnyH_ready (rs := [6]) (by kernel_rfl) (by simp) ?_
  refine AllReadyH.cons rfl (fun K hK => ?_) AllReadyH.nil
  rw [if_pos (by rfl)]
  go_simp
  with_reducible refine (CIg.out _ HB2_.out).mono ?_
  rintro e u3 ⟨ta, tc, rfl, hr, hb⟩
  have HF3_ := Lib.hid (HF2_.out.keep hb)
  have HG3_ := Lib.hid (HG2_.out.keep hb)
  have HB3_ := Lib.hid (HB2_.out.trans (hb.mono HB2_.out.size))
  have HRb := Lib.hid hr
  have HRa2 := Lib.hid (HRa.out.below hb)
  clear hr
  clear hb
  refine hK.out _ _ ?_ (fun hHeld => ?_)
  · exact ⟨HF3_.out, HG3_.out⟩
  clear hK K
  try simp only [Act.put, List.getElem_toArray, List.getElem_cons_zero, List.getElem_cons_succ, List.setIfInBounds_toArray, List.set_cons_zero, List.set_cons_succ]
  refine wpAnyH_ready (rs := [7]) (by kernel_rfl) (by simp) ?_
  refine AllReadyH.cons rfl (fun K hK => ?_) AllReadyH.nil
  rw [if_pos (by rfl)]
  go_simp
  with_reducible refine (CD.out _ sa sc ta tc HRa2.out HRb.out).mono ?_
  rintro e u4 ⟨rfl, hb⟩
  have HF4_ := Lib.hid (HF3_.out.keep hb)
  have HG4_ := Lib.hid (HG3_.out.keep hb)
  have HB4_ := Lib.hid (HB3_.out.trans (hb.mono HB3_.out.size))
  clear hb
  refine hK.out _ _ ?_ (fun hHeld => ?_)
  · exact ⟨HF4_.out, HG4_.out⟩
  clear hK K
  try simp only [Act.put, List.getElem_toArray, List.getElem_cons_zero, List.getElem_cons_succ, List.setIfInBounds_toArray, List.set_cons_zero, List.set_cons_succ]
  refine wpAnyH_take (i := 8) (v := ?_) rfl (by kernel_rfl) (by kernel_rfl) (by kernel_rfl) (fun _ _ _ h => h) (Or.inl ⟨by rfl, ?_⟩) (by assumption) ?_
  rotate_left
  · (intro w hSw; (obtain ⟨hSf, hSg⟩ := hSw; have p0 := hSf.cell0; have p1 := hSf.cell1; have p2 := hSf.cell2; have p3 := hSf.cell3; have p4 := hSf.cell4; have p5 := hSf.cell5; have p6 := hSf.cell6; have p7 := hSf.cell7; have p8 := hSf.cell8; have p9 := hSf.cell9; have p10 := hSf.cell10; have p11 := hSf.cell11; have p12 := hSf.cell12; have q0 := hSg.cell0; have q1 := hSg.cell1; have q2 := hSg.cell2; have q3 := hSg.cell3; have q4 := hSg.cell4; have q5 := hSg.cell5; have q6 := hSg.cell6; have q7 := hSg.cell7; have q8 := hSg.cell8; have q9 := hSg.cell9; have q10 := hSg.cell10; have q11 := hSg.cell11; have q12 := hSg.cell12; clear hSf hSg); go_simp; (try with_reducible rfl))
  try simp only [Act.put, List.getElem_toArray, List.getElem_cons_zero, List.getElem_cons_succ, List.setIfInBounds_toArray, List.set_cons_zero, List.set_cons_succ]
  refine wpAnyH_take (i := 9) (v := ?_) rfl (by kernel_rfl) (by kernel_rfl) (by kernel_rfl) (fun _ _ _ h => h) (Or.inl ⟨by rfl, ?_⟩) (by assumption) ?_
  rotate_left
  · (intro w hSw; (obtain ⟨hSf, hSg⟩ := hSw; have p0 := hSf.cell0; have p1 := hSf.cell1; have p2 := hSf.cell2; have p3 := hSf.cell3; have p4 := hSf.cell4; have p5 := hSf.cell5; have p6 := hSf.cell6; have p7 := hSf.cell7; have p8 := hSf.cell8; have p9 := hSf.cell9; have p10 := hSf.cell10; have p11 := hSf.cell11; have p12 := hSf.cell12; have q0 := hSg.cell0; have q1 := hSg.cell1; have q2 := hSg.cell2; have q3 := hSg.cell3; have q4 := hSg.cell4; have q5 := hSg.cell5; have q6 := hSg.cell6; have q7 := hSg.cell7; have q8 := hSg.cell8; have q9 := hSg.cell9; have q10 := hSg.cell10; have q11 := hSg.cell11; have q12 := hSg.cell12; clear hSf hSg); go_simp; (try with_reducible rfl))
  try simp only [Act.put, List.getElem_toArray, List.getElem_cons_zero, List.getElem_cons_succ, List.setIfInBounds_toArray, List.set_cons_zero, List.set_cons_succ]
  refine wpAnyH_take (i := 10) (v := ?_) rfl (by kernel_rfl) (by kernel_rfl) (by kernel_rfl) (fun _ _ _ h => h) (Or.inl ⟨by rfl, ?_⟩) (by assumption) ?_
  rotate_left
  · (intro w hSw; (obtain ⟨hSf, hSg⟩ := hSw; have p0 := hSf.cell0; have p1 := hSf.cell1; have p2 := hSf.cell2; have p3 := hSf.cell3; have p4 := hSf.cell4; have p5 := hSf.cell5; have p6 := hSf.cell6; have p7 := hSf.cell7; have p8 := hSf.cell8; have p9 := hSf.cell9; have p10 := hSf.cell10; have p11 := hSf.cell11; have p12 := hSf.cell12; have q0 := hSg.cell0; have q1 := hSg.cell1; have q2 := hSg.cell2; have q3 := hSg.cell3; have q4 := hSg.cell4; have q5 := hSg.cell5; have q6 := hSg.cell6; have q7 := hSg.cell7; have q8 := hSg.cell8; have q9 := hSg.cell9; have q10 := hSg.cell10; have q11 := hSg.cell11; have q12 := hSg.cell12; clear hSf hSg); go_simp; (try with_reducible rfl))
  try simp only [Act.put, List.getElem_toArray, List.getElem_cons_zero, List.getElem_cons_succ, List.setIfInBounds_toArray, List.set_cons_zero, List.set_cons_succ]
  refine wpAnyH_take (i := 11) (v := ?_) rfl (by kernel_rfl) (by kernel_rfl) (by kernel_rfl) (fun _ _ _ h => h) (Or.inl ⟨by rfl, ?_⟩) (by assumption) ?_
  rotate_left
  · (intro w hSw; (obtain ⟨hSf, hSg⟩ := hSw; have p0 := hSf.cell0; have p1 := hSf.cell1; have p2 := hSf.cell2; have p3 := hSf.cell3; have p4 := hSf.cell4; have p5 := hSf.cell5; have p6 := hSf.cell6; have p7 := hSf.cell7; have p8 := hSf.cell8; have p9 := hSf.cell9; have p10 := hSf.cell10; have p11 := hSf.cell11; have p12 := hSf.cell12; have q0 := hSg.cell0; have q1 := hSg.cell1; have q2 := hSg.cell2; have q3 := hSg.cell3; have q4 := hSg.cell4; have q5 := hSg.cell5; have q6 := hSg.cell6; have q7 := hSg.cell7; have q8 := hSg.cell8; have q9 := hSg.cell9; have q10 := hSg.cell10; have q11 := hSg.cell11; have q12 := hSg.cell12; clear hSf hSg); go_simp; (try with_reducible rfl))
  try simp only [Act.put, List.getElem_toArray, List.getElem_cons_zero, List.getElem_cons_succ, List.setIfInBounds_toArray, List.set_cons_zero, List.set_cons_succ]
  refine wpAnyH_ready (rs := [12]) (by kernel_rfl) (by simp) ?_
  refine AllReadyH.cons rfl (fun K hK => ?_) AllReadyH.nil
  rw [if_pos (by rfl)]
  go_simp
  with_reducible refine (CSff.out _ HB4_.out).mono ?_
  rintro e u5 ⟨rfl, hb⟩
  have HF5_ := Lib.hid (HF4_.out.keep hb)
  have HG5_ := Lib.hid (HG4_.out.keep hb)
  have HB5_ := Lib.hid (HB4_.out.trans (hb.mono HB4_.out.size))
  clear hb
  refine hK.out _ _ ?_ (fun hHeld => ?_)
  · exact ⟨HF5_.out, HG5_.out⟩
  clear hK K
  try simp only [Act.put, List.getElem_toArray, List.getElem_cons_zero, List.getElem_cons_succ, List.setIfInBounds_toArray, List.set_cons_zero, List.set_cons_succ]
  refine wpAnyH_take (i := 13) (v := ?_) rfl (by kernel_rfl) (by kernel_rfl) (by kernel_rfl) (fun _ _ _ h => h) (Or.inl ⟨by rfl, ?_⟩) (by assumption) ?_
  rotate_left
  · (intro w hSw; (obtain ⟨hSf, hSg⟩ := hSw; have p0 := hSf.cell0; have p1 := hSf.cell1; have p2 := hSf.cell2; have p3 := hSf.cell3; have p4 := hSf.cell4; have p5 := hSf.cell5; have p6 := hSf.cell6; have p7 := hSf.cell7; have p8 := hSf.cell8; have p9 := hSf.cell9; have p10 := hSf.cell10; have p11 := hSf.cell11; have p12 := hSf.cell12; have q0 := hSg.cell0; have q1 := hSg.cell1; have q2 := hSg.cell2; have q3 := hSg.cell3; have q4 := hSg.cell4; have q5 := hSg.cell5; have q6 := hSg.cell6; have q7 := hSg.cell7; have q8 := hSg.cell8; have q9 := hSg.cell9; have q10 := hSg.cell10; have q11 := hSg.cell11; have q12 := hSg.cell12; clear hSf hSg); go_simp; (try with_reducible rfl))
  try simp only [Act.put, List.getElem_toArray, List.getElem_cons_zero, List.getElem_cons_succ, List.setIfInBounds_toArray, List.set_cons_zero, List.set_cons_succ]
  refine wpAnyH_take (i := 14) (v := ?_) rfl (by kernel_rfl) (by kernel_rfl) (by kernel_rfl) (fun _ _ _ h => h) (Or.inl ⟨by rfl, ?_⟩) (by assumption) ?_
  rotate_left
  · (intro w hSw; (obtain ⟨hSf, hSg⟩ := hSw; have p0 := hSf.cell0; have p1 := hSf.cell1; have p2 := hSf.cell2; have p3 := hSf.cell3; have p4 := hSf.cell4; have p5 := hSf.cell5; have p6 := hSf.cell6; have p7 := hSf.cell7; have p8 := hSf.cell8; have p9 := hSf.cell9; have p10 := hSf.cell10; have p11 := hSf.cell11; have p12 := hSf.cell12; have q0 := hSg.cell0; have q1 := hSg.cell1; have q2 := hSg.cell2; have q3 := hSg.cell3; have q4 := hSg.cell4; have q5 := hSg.cell5; have q6 := hSg.cell6; have q7 := hSg.cell7; have q8 := hSg.cell8; have q9 := hSg.cell9; have q10 := hSg.cell10; have q11 := hSg.cell11; have q12 := hSg.cell12; clear hSf hSg); go_simp; (try with_reducible rfl))
  try simp only [Act.put, List.getElem_toArray, List.getElem_cons_zero, List.getElem_cons_succ, List.setIfInBounds_toArray, List.set_cons_zero, List.set_cons_succ]
  refine wpAnyH_done (by kernel_rfl) (NoPanic.normal ?_) _
  go_wp2
  go_ret
  exact ⟨rfl, HB5_.out⟩
theorem same_out1 (f g : Frm) (w : World) (ht : Tab w) (hlf : lbB f = false) :
    Calls Tryd.prog 7 #[.agg #[.int .u64 f.kind, .int .u64 f.id, .int .u64 f.off, .int .u64 f.max, .int .u64 f.code, .int .u64 f.seq, .int .u64 f.prior, .int .u64 f.delay, .bool f.fin, .string ⟨f.data.toArray⟩, .string ⟨f.cid.toArray⟩, .string ⟨f.token.toArray⟩, .slice f.set.a f.set.n f.set.c], .agg #[.int .u64 g.kind, .int .u64 g.id, .int .u64 g.off, .int .u64 g.max, .int .u64 g.code, .int .u64 g.seq, .int .u64 g.prior, .int .u64 g.delay, .bool g.fin, .string ⟨g.data.toArray⟩, .string ⟨g.cid.toArray⟩, .string ⟨g.token.toArray⟩, .slice g.set.a g.set.n g.set.c]] w fun e w' => e = .returned (.bool true) ∧ Below w.heap.size w w' := by
  have CBf := Lib.hid (fun w => bounded_law f w)
  rw [hlf] at CBf
  have CS := Lib.hid (fun w ht => shown_any w ht)
  have HT := Lib.hid ht
  have HB0 : Hid (Below w.heap.size w ((w.alloc (.cells #[.int .u64 f.kind, .int .u64 f.id, .int .u64 f.off, .int .u64 f.max, .int .u64 f.code, .int .u64 f.seq, .int .u64 f.prior, .int .u64 f.delay, .bool f.fin, .string ⟨f.data.toArray⟩, .string ⟨f.cid.toArray⟩, .string ⟨f.token.toArray⟩, .slice f.set.a f.set.n f.set.c] 26 (0, 0))).alloc (.cells #[.int .u64 g.kind, .int .u64 g.id, .int .u64 g.off, .int .u64 g.max, .int .u64 g.code, .int .u64 g.seq, .int .u64 g.prior, .int .u64 g.delay, .bool g.fin, .string ⟨g.data.toArray⟩, .string ⟨g.cid.toArray⟩, .string ⟨g.token.toArray⟩, .slice g.set.a g.set.n g.set.c] 26 (0, 0)))) := Lib.hid (((Below.refl _ _).alloc (Nat.le_refl _) _).alloc (by simp) _)
  clear ht hlf
  go_enter Tryd.func7, Tryd.ntmps7
  go_wp2_with fail
  refine (CBf.out _).mono ?_
  rintro e w1 ⟨rfl, hb⟩
  have HB1 := Lib.hid (HB0.out.trans (hb.mono HB0.out.size))
  have HT1 := Lib.hid (HT.out.below HB1.out HT.out.lt)
  clear hb
  go_wp2_with fail
  refine (CS.out _ HT1.out).mono ?_
  rintro e w3 ⟨rfl, hb⟩
  have HB3 := Lib.hid (HB1.out.trans (hb.mono HB1.out.size))
  clear hb
  go_wp2
  go_ret
  exact ⟨rfl, HB3.out⟩
theorem same_out2 (f g : Frm) (w : World) (ht : Tab w) (hlf : lbB f = true) (hlg : lbB g = false) :
    Calls Tryd.prog 7 #[.agg #[.int .u64 f.kind, .int .u64 f.id, .int .u64 f.off, .int .u64 f.max, .int .u64 f.code, .int .u64 f.seq, .int .u64 f.prior, .int .u64 f.delay, .bool f.fin, .string ⟨f.data.toArray⟩, .string ⟨f.cid.toArray⟩, .string ⟨f.token.toArray⟩, .slice f.set.a f.set.n f.set.c], .agg #[.int .u64 g.kind, .int .u64 g.id, .int .u64 g.off, .int .u64 g.max, .int .u64 g.code, .int .u64 g.seq, .int .u64 g.prior, .int .u64 g.delay, .bool g.fin, .string ⟨g.data.toArray⟩, .string ⟨g.cid.toArray⟩, .string ⟨g.token.toArray⟩, .slice g.set.a g.set.n g.set.c]] w fun e w' => e = .returned (.bool true) ∧ Below w.heap.size w w' := by
  have CBf := Lib.hid (fun w => bounded_law f w)
  have CBg := Lib.hid (fun w => bounded_law g w)
  rw [hlf] at CBf
  rw [hlg] at CBg
  have CS := Lib.hid (fun w ht => shown_any w ht)
  have HT := Lib.hid ht
  obtain ⟨_, hF, hG⟩ := same_ctx f g w
  have HB0 : Hid (Below w.heap.size w ((w.alloc (.cells #[.int .u64 f.kind, .int .u64 f.id, .int .u64 f.off, .int .u64 f.max, .int .u64 f.code, .int .u64 f.seq, .int .u64 f.prior, .int .u64 f.delay, .bool f.fin, .string ⟨f.data.toArray⟩, .string ⟨f.cid.toArray⟩, .string ⟨f.token.toArray⟩, .slice f.set.a f.set.n f.set.c] 26 (0, 0))).alloc (.cells #[.int .u64 g.kind, .int .u64 g.id, .int .u64 g.off, .int .u64 g.max, .int .u64 g.code, .int .u64 g.seq, .int .u64 g.prior, .int .u64 g.delay, .bool g.fin, .string ⟨g.data.toArray⟩, .string ⟨g.cid.toArray⟩, .string ⟨g.token.toArray⟩, .slice g.set.a g.set.n g.set.c] 26 (0, 0)))) := Lib.hid (((Below.refl _ _).alloc (Nat.le_refl _) _).alloc (by simp) _)
  have HG0 : Hid (FrB (w.heap.size + 1) g ((w.alloc (.cells #[.int .u64 f.kind, .int .u64 f.id, .int .u64 f.off, .int .u64 f.max, .int .u64 f.code, .int .u64 f.seq, .int .u64 f.prior, .int .u64 f.delay, .bool f.fin, .string ⟨f.data.toArray⟩, .string ⟨f.cid.toArray⟩, .string ⟨f.token.toArray⟩, .slice f.set.a f.set.n f.set.c] 26 (0, 0))).alloc (.cells #[.int .u64 g.kind, .int .u64 g.id, .int .u64 g.off, .int .u64 g.max, .int .u64 g.code, .int .u64 g.seq, .int .u64 g.prior, .int .u64 g.delay, .bool g.fin, .string ⟨g.data.toArray⟩, .string ⟨g.cid.toArray⟩, .string ⟨g.token.toArray⟩, .slice g.set.a g.set.n g.set.c] 26 (0, 0)))) := Lib.hid hG
  clear ht hlf hlg hF hG
  go_enter Tryd.func7, Tryd.ntmps7
  go_wp2_with fail
  refine (CBf.out _).mono ?_
  rintro e w1 ⟨rfl, hb⟩
  have HB1 := Lib.hid (HB0.out.trans (hb.mono HB0.out.size))
  have HG1 := Lib.hid (HG0.out.keep hb)
  have c0 := HG1.out.cell0
  have c1 := HG1.out.cell1
  have c2 := HG1.out.cell2
  have c3 := HG1.out.cell3
  have c4 := HG1.out.cell4
  have c5 := HG1.out.cell5
  have c6 := HG1.out.cell6
  have c7 := HG1.out.cell7
  have c8 := HG1.out.cell8
  have c9 := HG1.out.cell9
  have c10 := HG1.out.cell10
  have c11 := HG1.out.cell11
  have c12 := HG1.out.cell12
  clear hb
  go_wp2_with fail
  refine (CBg.out _).mono ?_
  rintro e w2 ⟨rfl, hb⟩
  have HB2 := Lib.hid (HB1.out.trans (hb.mono HB1.out.size))
  have HT2 := Lib.hid (HT.out.below HB2.out HT.out.lt)
  clear hb
  go_wp2_with fail
  refine (CS.out _ HT2.out).mono ?_
  rintro e w3 ⟨rfl, hb⟩
  have HB3 := Lib.hid (HB2.out.trans (hb.mono HB2.out.size))
  clear hb
  go_wp2
  go_ret
  exact ⟨rfl, HB3.out⟩
theorem law_same (k0 id0 off0 max0 code0 seq0 prior0 delay0 : Int) (fin0 : Bool) (data0 cid0 token0 : List UInt8) (a0 : Option Addr) (n0 cap0 : Nat) (l0 : List Ran) (k1 id1 off1 max1 code1 seq1 prior1 delay1 : Int) (fin1 : Bool) (data1 cid1 token1 : List UInt8) (a1 : Option Addr) (n1 cap1 : Nat) (l1 : List Ran) (w : World) (ht : Tab w) (w0_0 : (Lit.int .u64 k0).wf = true) (w0_1 : (Lit.int .u64 id0).wf = true) (w0_2 : (Lit.int .u64 off0).wf = true) (w0_3 : (Lit.int .u64 max0).wf = true) (w0_4 : (Lit.int .u64 code0).wf = true) (w0_5 : (Lit.int .u64 seq0).wf = true) (w0_6 : (Lit.int .u64 prior0).wf = true) (w0_7 : (Lit.int .u64 delay0).wf = true) (w0_9 : (⟨data0.toArray⟩ : ByteArray).size ≤ maxLen) (w0_10 : (⟨cid0.toArray⟩ : ByteArray).size ≤ maxLen) (w0_11 : (⟨token0.toArray⟩ : ByteArray).size ≤ maxLen) (hn0 : l0.length = n0) (hm0 : n0 ≤ maxLen) (hrd0 : Rd w (.slice a0 n0 cap0) l0) (hu0 : Nums l0) (w1_0 : (Lit.int .u64 k1).wf = true) (w1_1 : (Lit.int .u64 id1).wf = true) (w1_2 : (Lit.int .u64 off1).wf = true) (w1_3 : (Lit.int .u64 max1).wf = true) (w1_4 : (Lit.int .u64 code1).wf = true) (w1_5 : (Lit.int .u64 seq1).wf = true) (w1_6 : (Lit.int .u64 prior1).wf = true) (w1_7 : (Lit.int .u64 delay1).wf = true) (w1_9 : (⟨data1.toArray⟩ : ByteArray).size ≤ maxLen) (w1_10 : (⟨cid1.toArray⟩ : ByteArray).size ≤ maxLen) (w1_11 : (⟨token1.toArray⟩ : ByteArray).size ≤ maxLen) (hn1 : l1.length = n1) (hm1 : n1 ≤ maxLen) (hrd1 : Rd w (.slice a1 n1 cap1) l1) (hu1 : Nums l1) :
    Calls Tryd.prog 7 #[.agg #[.int .u64 k0, .int .u64 id0, .int .u64 off0, .int .u64 max0, .int .u64 code0, .int .u64 seq0, .int .u64 prior0, .int .u64 delay0, .bool fin0, .string ⟨data0.toArray⟩, .string ⟨cid0.toArray⟩, .string ⟨token0.toArray⟩, .slice a0 n0 cap0], .agg #[.int .u64 k1, .int .u64 id1, .int .u64 off1, .int .u64 max1, .int .u64 code1, .int .u64 seq1, .int .u64 prior1, .int .u64 delay1, .bool fin1, .string ⟨data1.toArray⟩, .string ⟨cid1.toArray⟩, .string ⟨token1.toArray⟩, .slice a1 n1 cap1]] w fun e w' => e = .returned (.bool true) ∧ Below w.heap.size w w' := by
  by_cases hlf : lbB ⟨k0, id0, off0, max0, code0, seq0, prior0, delay0, fin0, data0, cid0, token0, ⟨a0, n0, cap0⟩⟩ = true
  · by_cases hlg : lbB ⟨k1, id1, off1, max1, code1, seq1, prior1, delay1, fin1, data1, cid1, token1, ⟨a1, n1, cap1⟩⟩ = true
    · exact same_in ⟨k0, id0, off0, max0, code0, seq0, prior0, delay0, fin0, data0, cid0, token0, ⟨a0, n0, cap0⟩⟩ ⟨k1, id1, off1, max1, code1, seq1, prior1, delay1, fin1, data1, cid1, token1, ⟨a1, n1, cap1⟩⟩ l0 l1 w ht hrd0 hrd1 hlf hlg
    · exact same_out2 ⟨k0, id0, off0, max0, code0, seq0, prior0, delay0, fin0, data0, cid0, token0, ⟨a0, n0, cap0⟩⟩ ⟨k1, id1, off1, max1, code1, seq1, prior1, delay1, fin1, data1, cid1, token1, ⟨a1, n1, cap1⟩⟩ w ht hlf (by simpa using hlg)
  · exact same_out1 ⟨k0, id0, off0, max0, code0, seq0, prior0, delay0, fin0, data0, cid0, token0, ⟨a0, n0, cap0⟩⟩ ⟨k1, id1, off1, max1, code1, seq1, prior1, delay1, fin1, data1, cid1, token1, ⟨a1, n1, cap1⟩⟩ w ht (by simpa using hlf)
end Go.Proofs.YteelcihgbjhnbaaDoor.Fm
