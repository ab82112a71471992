/- Layer 6: the law FrameCut, walked. By tools/gen-frame-22.py. -/
import Derived.Test.YteelcihgbjhnbaaDoorFmBack
namespace Go.Proofs.YteelcihgbjhnbaaDoor.Fm
set_option maxRecDepth 20000
open Go.RowKit Vm
set_option linter.unusedVariables false
set_option linter.unusedSimpArgs false

theorem kinds12 : ∀ k : Fin 31, (partsN k.val).isSome = true → k.val ≠ 8 → (toldP k.val).testBit 12 = false := by decide
theorem fst_12 (k : Nat) (f : Frm) (hf : f.kind = (k : Nat)) (hs : (partsN k).isSome = true) : ∃ q : Nat, fstN f = (q : Int) ∧ q < 64 ∧ (toldP q).testBit 12 = false := by
  have hk := kind_lt hs
  unfold fstN
  by_cases h : f.kind = 8
  · rw [if_pos h]
    cases f.fin
    · by_cases ho : f.off = 0
      · exact ⟨10, by rw [if_neg (by decide), if_pos ho]; rfl, by decide, by decide⟩
      · exact ⟨14, by rw [if_neg (by decide), if_neg ho]; rfl, by decide, by decide⟩
    · by_cases ho : f.off = 0
      · exact ⟨11, by rw [if_pos rfl, if_pos ho]; rfl, by decide, by decide⟩
      · exact ⟨15, by rw [if_pos rfl, if_neg ho]; rfl, by decide, by decide⟩
  · rw [if_neg h]
    exact ⟨k, hf, by omega, kinds12 ⟨k, hk⟩ hs (by simp only; omega)⟩
theorem pt_one (q : Nat) (hq : q < 64) : pt q = [UInt8.ofNat q] := by
  have hpl : pl q = 0 := by unfold pl; rw [if_pos hq]
  unfold pt
  rw [hpl]
  simp [wd, fx]
  rw [Nat.mod_eq_of_lt (show q < 256 by omega)]
theorem cut_getN (k : Nat) (f : Frm) (rs : List (Nat × Nat)) (w : World) (hf : Fit w k f rs) (hm : mayF k f (ints rs) = true) (n : Nat) (hlt : n < (putL f rs).length) : getN ((putL f rs).take n) = none := by
  have hb := may_bounds hf.kind hm
  obtain ⟨q, h1, h2, h3⟩ := fst_12 k f hf.kind (mayF_k hm).some
  have hc := cut_none k f rs hf.kind hf.n hf.pos (by omega) hm (fun c t hct => by
    have e : putL f rs = UInt8.ofNat q :: (putL f rs).drop 1 := by
      unfold putL
      rw [h1, Int.toNat_natCast, pt_one q h2]
      rfl
    rw [e] at hct
    injection hct with h4 h5
    rw [← h4]
    have : (UInt8.ofNat q).toNat = q := by rw [UInt8.toNat_ofNat']; omega
    rw [this]
    exact h3) n hlt
  unfold getN
  rw [hc]
theorem ext_take (l : List UInt8) (n : Nat) : (⟨l.toArray⟩ : ByteArray).extract 0 n = ⟨(l.take n).toArray⟩ := by
  apply ByteArray.ext
  simp
set_option maxRecDepth 100000 in
set_option maxHeartbeats 8000000 in
theorem cut_no0 (f : Frm) (k : Nat) (rs : List (Nat × Nat)) (cut : Nat) (w : World) (ht : Tab w) (hf : Fit w k f rs) (hm : mayF k f (ints rs) = false) (hlb : lbB f = false) :
    Calls Tryd.prog 9 #[.agg #[.int .u64 f.kind, .int .u64 f.id, .int .u64 f.off, .int .u64 f.max, .int .u64 f.code, .int .u64 f.seq, .int .u64 f.prior, .int .u64 f.delay, .bool f.fin, .string ⟨f.data.toArray⟩, .string ⟨f.cid.toArray⟩, .string ⟨f.token.toArray⟩, .slice f.set.a f.set.n f.set.c], .int .u16 (cut : Nat)] w fun e w' => e = .returned (.bool true) ∧ Below w.heap.size w w' := by
  have CB := Lib.hid (fun w => bounded_law f w)
  have CS := Lib.hid (fun w ht => shown_any w ht)
  have CP := Lib.hid (fun w (_ : Tab w) (h : Fit w k f rs) => put_no k f rs w h hm)
  have HT := Lib.hid ht
  have HB0 : Hid (Below w.heap.size w (w.alloc (.cells #[.int .u64 f.kind, .int .u64 f.id, .int .u64 f.off, .int .u64 f.max, .int .u64 f.code, .int .u64 f.seq, .int .u64 f.prior, .int .u64 f.delay, .bool f.fin, .string ⟨f.data.toArray⟩, .string ⟨f.cid.toArray⟩, .string ⟨f.token.toArray⟩, .slice f.set.a f.set.n f.set.c] 26 (0, 0)))) := Lib.hid ((Below.refl w.heap.size w).alloc (Nat.le_refl _) _)
  have HX0 : Hid (FrB w.heap.size f (w.alloc (.cells #[.int .u64 f.kind, .int .u64 f.id, .int .u64 f.off, .int .u64 f.max, .int .u64 f.code, .int .u64 f.seq, .int .u64 f.prior, .int .u64 f.delay, .bool f.fin, .string ⟨f.data.toArray⟩, .string ⟨f.cid.toArray⟩, .string ⟨f.token.toArray⟩, .slice f.set.a f.set.n f.set.c] 26 (0, 0)))) := Lib.hid (World.alloc_heap_new w _)
  have HFit := Lib.hid (hf.below HB0.out)
  have HT0 := Lib.hid (HT.out.below HB0.out HT.out.lt)
  rw [hlb] at CB
  clear ht hf hm hlb
  go_enter Tryd.func9, Tryd.ntmps9
  go_wp2_with fail
  refine (CP.out _ HT0.out HFit.out).mono ?_
  rintro e w1 ⟨rfl, hb⟩
  have HB1 := Lib.hid (HB0.out.trans (hb.mono (by simp)))
  have HT1 := Lib.hid (HT.out.below HB1.out HT.out.lt)
  have HX1 := Lib.hid (HX0.out.keep hb)
  have c0 := HX1.out.cell0
  have c1 := HX1.out.cell1
  have c2 := HX1.out.cell2
  have c3 := HX1.out.cell3
  have c4 := HX1.out.cell4
  have c5 := HX1.out.cell5
  have c6 := HX1.out.cell6
  have c7 := HX1.out.cell7
  have c8 := HX1.out.cell8
  have c9 := HX1.out.cell9
  have c10 := HX1.out.cell10
  have c11 := HX1.out.cell11
  have c12 := HX1.out.cell12
  clear hb
  go_wp2_with fail
  refine (CB.out _).mono ?_
  rintro e w2 ⟨rfl, hb⟩
  have HB2 := Lib.hid (HB1.out.trans (hb.mono HB1.out.size))
  have HT2 := Lib.hid (HT1.out.below hb HT1.out.lt)
  clear hb
  go_wp2_with fail
  refine (CS.out _ HT2.out).mono ?_
  rintro e w3 ⟨rfl, hb⟩
  have HB3 := Lib.hid (HB2.out.trans (hb.mono HB2.out.size))
  have HT3 := Lib.hid (HT2.out.below hb HT2.out.lt)
  clear hb
  go_wp2
  go_ret
  exact ⟨rfl, HB3.out⟩
set_option maxRecDepth 100000 in
set_option maxHeartbeats 8000000 in
theorem cut_no1 (f : Frm) (k : Nat) (rs : List (Nat × Nat)) (cut : Nat) (w : World) (ht : Tab w) (hf : Fit w k f rs) (hm : mayF k f (ints rs) = false) (hlb : lbB f = true) :
    Calls Tryd.prog 9 #[.agg #[.int .u64 f.kind, .int .u64 f.id, .int .u64 f.off, .int .u64 f.max, .int .u64 f.code, .int .u64 f.seq, .int .u64 f.prior, .int .u64 f.delay, .bool f.fin, .string ⟨f.data.toArray⟩, .string ⟨f.cid.toArray⟩, .string ⟨f.token.toArray⟩, .slice f.set.a f.set.n f.set.c], .int .u16 (cut : Nat)] w fun e w' => e = .returned (.bool true) ∧ Below w.heap.size w w' := by
  have CB := Lib.hid (fun w => bounded_law f w)
  have CS := Lib.hid (fun w ht => shown_any w ht)
  have CP := Lib.hid (fun w (_ : Tab w) (h : Fit w k f rs) => put_no k f rs w h hm)
  have HT := Lib.hid ht
  have HB0 : Hid (Below w.heap.size w (w.alloc (.cells #[.int .u64 f.kind, .int .u64 f.id, .int .u64 f.off, .int .u64 f.max, .int .u64 f.code, .int .u64 f.seq, .int .u64 f.prior, .int .u64 f.delay, .bool f.fin, .string ⟨f.data.toArray⟩, .string ⟨f.cid.toArray⟩, .string ⟨f.token.toArray⟩, .slice f.set.a f.set.n f.set.c] 26 (0, 0)))) := Lib.hid ((Below.refl w.heap.size w).alloc (Nat.le_refl _) _)
  have HX0 : Hid (FrB w.heap.size f (w.alloc (.cells #[.int .u64 f.kind, .int .u64 f.id, .int .u64 f.off, .int .u64 f.max, .int .u64 f.code, .int .u64 f.seq, .int .u64 f.prior, .int .u64 f.delay, .bool f.fin, .string ⟨f.data.toArray⟩, .string ⟨f.cid.toArray⟩, .string ⟨f.token.toArray⟩, .slice f.set.a f.set.n f.set.c] 26 (0, 0)))) := Lib.hid (World.alloc_heap_new w _)
  have HFit := Lib.hid (hf.below HB0.out)
  have HT0 := Lib.hid (HT.out.below HB0.out HT.out.lt)
  rw [hlb] at CB
  clear ht hf hm hlb
  go_enter Tryd.func9, Tryd.ntmps9
  go_wp2_with fail
  refine (CP.out _ HT0.out HFit.out).mono ?_
  rintro e w1 ⟨rfl, hb⟩
  have HB1 := Lib.hid (HB0.out.trans (hb.mono (by simp)))
  have HT1 := Lib.hid (HT.out.below HB1.out HT.out.lt)
  have HX1 := Lib.hid (HX0.out.keep hb)
  have c0 := HX1.out.cell0
  have c1 := HX1.out.cell1
  have c2 := HX1.out.cell2
  have c3 := HX1.out.cell3
  have c4 := HX1.out.cell4
  have c5 := HX1.out.cell5
  have c6 := HX1.out.cell6
  have c7 := HX1.out.cell7
  have c8 := HX1.out.cell8
  have c9 := HX1.out.cell9
  have c10 := HX1.out.cell10
  have c11 := HX1.out.cell11
  have c12 := HX1.out.cell12
  clear hb
  go_wp2_with fail
  refine (CB.out _).mono ?_
  rintro e w2 ⟨rfl, hb⟩
  have HB2 := Lib.hid (HB1.out.trans (hb.mono HB1.out.size))
  have HT2 := Lib.hid (HT1.out.below hb HT1.out.lt)
  clear hb
  go_wp2_with fail
  refine (CS.out _ HT2.out).mono ?_
  rintro e w3 ⟨rfl, hb⟩
  have HB3 := Lib.hid (HB2.out.trans (hb.mono HB2.out.size))
  have HT3 := Lib.hid (HT2.out.below hb HT2.out.lt)
  clear hb
  go_wp2
  go_ret
  exact ⟨rfl, HB3.out⟩
set_option maxRecDepth 100000 in
set_option maxHeartbeats 8000000 in
theorem cut_big (f : Frm) (k : Nat) (rs : List (Nat × Nat)) (cut : Nat) (w : World) (ht : Tab w) (hf : Fit w k f rs) (hm : mayF k f (ints rs) = true) (hlb : lbB f = false) :
    Calls Tryd.prog 9 #[.agg #[.int .u64 f.kind, .int .u64 f.id, .int .u64 f.off, .int .u64 f.max, .int .u64 f.code, .int .u64 f.seq, .int .u64 f.prior, .int .u64 f.delay, .bool f.fin, .string ⟨f.data.toArray⟩, .string ⟨f.cid.toArray⟩, .string ⟨f.token.toArray⟩, .slice f.set.a f.set.n f.set.c], .int .u16 (cut : Nat)] w fun e w' => e = .returned (.bool true) ∧ Below w.heap.size w w' := by
  have CB := Lib.hid (fun w => bounded_law f w)
  have CS := Lib.hid (fun w ht => shown_any w ht)
  have CP := Lib.hid (fun w ht (h : Fit w k f rs) => put_yes k f rs w ht h hm)
  have HT := Lib.hid ht
  have HB0 : Hid (Below w.heap.size w (w.alloc (.cells #[.int .u64 f.kind, .int .u64 f.id, .int .u64 f.off, .int .u64 f.max, .int .u64 f.code, .int .u64 f.seq, .int .u64 f.prior, .int .u64 f.delay, .bool f.fin, .string ⟨f.data.toArray⟩, .string ⟨f.cid.toArray⟩, .string ⟨f.token.toArray⟩, .slice f.set.a f.set.n f.set.c] 26 (0, 0)))) := Lib.hid ((Below.refl w.heap.size w).alloc (Nat.le_refl _) _)
  have HX0 : Hid (FrB w.heap.size f (w.alloc (.cells #[.int .u64 f.kind, .int .u64 f.id, .int .u64 f.off, .int .u64 f.max, .int .u64 f.code, .int .u64 f.seq, .int .u64 f.prior, .int .u64 f.delay, .bool f.fin, .string ⟨f.data.toArray⟩, .string ⟨f.cid.toArray⟩, .string ⟨f.token.toArray⟩, .slice f.set.a f.set.n f.set.c] 26 (0, 0)))) := Lib.hid (World.alloc_heap_new w _)
  have HFit := Lib.hid (hf.below HB0.out)
  have HT0 := Lib.hid (HT.out.below HB0.out HT.out.lt)
  rw [hlb] at CB
  clear ht hf hm hlb
  go_enter Tryd.func9, Tryd.ntmps9
  go_wp2_with fail
  refine (CP.out _ HT0.out HFit.out).mono ?_
  rintro e w1 ⟨rfl, hb⟩
  have HB1 := Lib.hid (HB0.out.trans (hb.mono (by simp)))
  have HT1 := Lib.hid (HT.out.below HB1.out HT.out.lt)
  have HX1 := Lib.hid (HX0.out.keep hb)
  have c0 := HX1.out.cell0
  have c1 := HX1.out.cell1
  have c2 := HX1.out.cell2
  have c3 := HX1.out.cell3
  have c4 := HX1.out.cell4
  have c5 := HX1.out.cell5
  have c6 := HX1.out.cell6
  have c7 := HX1.out.cell7
  have c8 := HX1.out.cell8
  have c9 := HX1.out.cell9
  have c10 := HX1.out.cell10
  have c11 := HX1.out.cell11
  have c12 := HX1.out.cell12
  clear hb
  go_wp2_with fail
  refine (CB.out _).mono ?_
  rintro e w2 ⟨rfl, hb⟩
  have HB2 := Lib.hid (HB1.out.trans (hb.mono HB1.out.size))
  have HT2 := Lib.hid (HT1.out.below hb HT1.out.lt)
  clear hb
  go_wp2_with fail
  refine (CS.out _ HT2.out).mono ?_
  rintro e w3 ⟨rfl, hb⟩
  have HB3 := Lib.hid (HB2.out.trans (hb.mono HB2.out.size))
  have HT3 := Lib.hid (HT2.out.below hb HT2.out.lt)
  clear hb
  go_wp2
  go_ret
  exact ⟨rfl, HB3.out⟩
set_option maxRecDepth 100000 in
set_option maxHeartbeats 8000000 in
theorem cut_in (f : Frm) (k : Nat) (rs : List (Nat × Nat)) (cut : Nat) (w : World) (ht : Tab w) (hf : Fit w k f rs) (hm : mayF k f (ints rs) = true) (hlb : lbB f = true) (hcut : cut < 65536) :
    Calls Tryd.prog 9 #[.agg #[.int .u64 f.kind, .int .u64 f.id, .int .u64 f.off, .int .u64 f.max, .int .u64 f.code, .int .u64 f.seq, .int .u64 f.prior, .int .u64 f.delay, .bool f.fin, .string ⟨f.data.toArray⟩, .string ⟨f.cid.toArray⟩, .string ⟨f.token.toArray⟩, .slice f.set.a f.set.n f.set.c], .int .u16 (cut : Nat)] w fun e w' => e = .returned (.bool true) ∧ Below w.heap.size w w' := by
  have CB := Lib.hid (fun w => bounded_law f w)
  have CS := Lib.hid (fun w ht => shown_any w ht)
  have CP := Lib.hid (fun w ht (h : Fit w k f rs) => put_yes k f rs w ht h hm)
  have HT := Lib.hid ht
  have HB0 : Hid (Below w.heap.size w (w.alloc (.cells #[.int .u64 f.kind, .int .u64 f.id, .int .u64 f.off, .int .u64 f.max, .int .u64 f.code, .int .u64 f.seq, .int .u64 f.prior, .int .u64 f.delay, .bool f.fin, .string ⟨f.data.toArray⟩, .string ⟨f.cid.toArray⟩, .string ⟨f.token.toArray⟩, .slice f.set.a f.set.n f.set.c] 26 (0, 0)))) := Lib.hid ((Below.refl w.heap.size w).alloc (Nat.le_refl _) _)
  have HX0 : Hid (FrB w.heap.size f (w.alloc (.cells #[.int .u64 f.kind, .int .u64 f.id, .int .u64 f.off, .int .u64 f.max, .int .u64 f.code, .int .u64 f.seq, .int .u64 f.prior, .int .u64 f.delay, .bool f.fin, .string ⟨f.data.toArray⟩, .string ⟨f.cid.toArray⟩, .string ⟨f.token.toArray⟩, .slice f.set.a f.set.n f.set.c] 26 (0, 0)))) := Lib.hid (World.alloc_heap_new w _)
  have HFit := Lib.hid (hf.below HB0.out)
  have HT0 := Lib.hid (HT.out.below HB0.out HT.out.lt)
  rw [hlb] at CB
  have hb3 := lbB_yes hlb
  have hpl := putL_len f rs hf.pos (by have := hf.n; omega) (by omega) (by omega) (by omega)
  have hpos : 0 < (putL f rs).length := List.length_pos_iff.2 (putL_ne f rs)
  obtain ⟨n, hn⟩ : ∃ n, cut % (putL f rs).length = n := ⟨_, rfl⟩
  have hnl : n < (putL f rs).length := by rw [← hn]; exact Nat.mod_lt _ hpos
  have hg := cut_getN k f rs w hf hm n hnl
  have CGz : Hid (∀ W, Tab W → Calls Tryd.prog 21 #[.string ⟨((putL f rs).take n).toArray⟩] W fun e w' => Below W.heap.size W w' ∧ e = .returned (.tuple #[.agg #[.int .u64 0, .int .u64 0, .int .u64 0, .int .u64 0, .int .u64 0, .int .u64 0, .int .u64 0, .int .u64 0, .bool false, .string ⟨#[]⟩, .string ⟨#[]⟩, .string ⟨#[]⟩, .slice none 0 0], .string ⟨#[]⟩, .int .i64 60])) := Lib.hid (fun W ht => by
    have h := get_any ((putL f rs).take n) W ht (by rw [List.length_take]; omega)
    rw [hg] at h
    exact h)
  have CSZ : Hid (∀ W, Calls Tryd.prog 28 #[.agg #[.int .u64 0, .int .u64 0, .int .u64 0, .int .u64 0, .int .u64 0, .int .u64 0, .int .u64 0, .int .u64 0, .bool false, .string ⟨#[]⟩, .string ⟨#[]⟩, .string ⟨#[]⟩, .slice none 0 0], .agg #[.int .u64 0, .int .u64 0, .int .u64 0, .int .u64 0, .int .u64 0, .int .u64 0, .int .u64 0, .int .u64 0, .bool false, .string ⟨#[]⟩, .string ⟨#[]⟩, .string ⟨#[]⟩, .slice none 0 0]] W fun e w' => e = .returned (.bool true) ∧ Below W.heap.size W w') := Lib.hid (fun W => by
    have h := same_any frZ frZ [] [] W (by decide) (by decide) (rd_none W) (rd_none W)
    rw [show sameF frZ frZ [] [] = true from rfl] at h
    exact h)
  have hext := ext_take (putL f rs) n
  have hmod : (cut : Int).tmod ((putL f rs).length : Int) = (n : Int) := by
    rw [Int.tmod_eq_emod_of_nonneg (by omega), ← hn]
    exact (Int.natCast_emod _ _).symm
  have hz : (((putL f rs).length : Int) == 0) = false := by
    rw [beq_eq_false_iff_ne]; omega
  generalize (putL f rs).take n = Q at *
  generalize putL f rs = P at *
  have n0 : (0 : Int) ≤ (n : Int) := by omega
  have n1 : (n : Int) ≤ (P.length : Int) := by omega
  have hcu : (cut : Int) ≤ 65535 := by omega
  have hcv : (0 : Int) ≤ (cut : Int) := by omega
  have p1 : (P.length : Int) ≤ 2400 := by omega
  have p3 : ¬ P = [] := by intro e; rw [e] at hpos; simp at hpos
  have p4 : P.isEmpty = false := by cases P with
    | nil => exact absurd rfl p3
    | cons _ _ => rfl
  clear ht hf hm hlb hb3 hpl hpos hn hnl hg hcut
  go_enter Tryd.func9, Tryd.ntmps9
  go_wp2_with fail
  refine (CP.out _ HT0.out HFit.out).mono ?_
  rintro e w1 ⟨rfl, hb⟩
  have HB1 := Lib.hid (HB0.out.trans (hb.mono (by simp)))
  have HT1 := Lib.hid (HT.out.below HB1.out HT.out.lt)
  have HX1 := Lib.hid (HX0.out.keep hb)
  have c0 := HX1.out.cell0
  have c1 := HX1.out.cell1
  have c2 := HX1.out.cell2
  have c3 := HX1.out.cell3
  have c4 := HX1.out.cell4
  have c5 := HX1.out.cell5
  have c6 := HX1.out.cell6
  have c7 := HX1.out.cell7
  have c8 := HX1.out.cell8
  have c9 := HX1.out.cell9
  have c10 := HX1.out.cell10
  have c11 := HX1.out.cell11
  have c12 := HX1.out.cell12
  clear hb
  go_wp2_with fail
  refine (CB.out _).mono ?_
  rintro e w2 ⟨rfl, hb⟩
  have HB2 := Lib.hid (HB1.out.trans (hb.mono HB1.out.size))
  have HT2 := Lib.hid (HT1.out.below hb HT1.out.lt)
  clear hb
  go_wp2_with fail
  refine (CS.out _ HT2.out).mono ?_
  rintro e w3 ⟨rfl, hb⟩
  have HB3 := Lib.hid (HB2.out.trans (hb.mono HB2.out.size))
  have HT3 := Lib.hid (HT2.out.below hb HT2.out.lt)
  clear hb
  go_wp2_with fail
  refine (CGz.out _ HT3.out).mono ?_
  rintro e w8 ⟨hb, rfl⟩
  have HB8 := Lib.hid (HB3.out.trans (hb.mono HB3.out.size))
  have HB9 := Lib.hid (HB8.out.alloc HB8.out.size (.cells #[.int .u64 0, .int .u64 0, .int .u64 0, .int .u64 0, .int .u64 0, .int .u64 0, .int .u64 0, .int .u64 0, .bool false, .string ⟨#[]⟩, .string ⟨#[]⟩, .string ⟨#[]⟩, .slice none 0 0] 26))
  clear hb
  go_wp2_with fail
  with_reducible refine (CSZ.out _).mono ?_
  rintro e w9 ⟨rfl, hb⟩
  have HB10 := Lib.hid (HB9.out.trans (hb.mono HB9.out.size))
  clear hb
  go_wp2
  go_ret
  exact ⟨rfl, HB10.out⟩
theorem law_cut (k id off max code seq prior delay : Int) (fin : Bool) (data cid token : List UInt8) (a : Option Addr) (n cap : Nat) (l : List Ran) (cut : Int) (w : World) (ht : Tab w) (w0 : (Lit.int .u64 k).wf = true) (w1 : (Lit.int .u64 id).wf = true) (w2 : (Lit.int .u64 off).wf = true) (w3 : (Lit.int .u64 max).wf = true) (w4 : (Lit.int .u64 code).wf = true) (w5 : (Lit.int .u64 seq).wf = true) (w6 : (Lit.int .u64 prior).wf = true) (w7 : (Lit.int .u64 delay).wf = true) (w9 : (⟨data.toArray⟩ : ByteArray).size ≤ maxLen) (w10 : (⟨cid.toArray⟩ : ByteArray).size ≤ maxLen) (w11 : (⟨token.toArray⟩ : ByteArray).size ≤ maxLen) (hn : l.length = n) (hm : n ≤ maxLen) (hrd : Rd w (.slice a n cap) l) (hu : Nums l) (wc : (Lit.int .u16 cut).wf = true) :
    Calls Tryd.prog 9 #[.agg #[.int .u64 k, .int .u64 id, .int .u64 off, .int .u64 max, .int .u64 code, .int .u64 seq, .int .u64 prior, .int .u64 delay, .bool fin, .string ⟨data.toArray⟩, .string ⟨cid.toArray⟩, .string ⟨token.toArray⟩, .slice a n cap], .int .u16 cut] w fun e w' => e = .returned (.bool true) ∧ Below w.heap.size w w' := by
  obtain ⟨hc0, hc1⟩ := bounds_u16 wc
  obtain ⟨c, rfl⟩ : ∃ c : Nat, cut = (c : Int) := ⟨cut.toNat, by omega⟩
  have hf := fit_arg k id off max code seq prior delay fin data cid token a n cap l w w0 w1 w2 w3 w4 w5 w6 w7 w9 w10 w11 hn hm hrd hu
  by_cases hmf : mayF k.toNat ⟨k, id, off, max, code, seq, prior, delay, fin, data, cid, token, ⟨a, n, cap⟩⟩ (ints (rsOf l)) = true
  · by_cases hlb : lbB ⟨k, id, off, max, code, seq, prior, delay, fin, data, cid, token, ⟨a, n, cap⟩⟩ = true
    · exact cut_in ⟨k, id, off, max, code, seq, prior, delay, fin, data, cid, token, ⟨a, n, cap⟩⟩ k.toNat (rsOf l) c w ht hf hmf hlb (by omega)
    · exact cut_big ⟨k, id, off, max, code, seq, prior, delay, fin, data, cid, token, ⟨a, n, cap⟩⟩ k.toNat (rsOf l) c w ht hf hmf (by simpa using hlb)
  · have hmf : mayF k.toNat ⟨k, id, off, max, code, seq, prior, delay, fin, data, cid, token, ⟨a, n, cap⟩⟩ (ints (rsOf l)) = false := by simpa using hmf
    by_cases hlb : lbB ⟨k, id, off, max, code, seq, prior, delay, fin, data, cid, token, ⟨a, n, cap⟩⟩ = true
    · exact cut_no1 ⟨k, id, off, max, code, seq, prior, delay, fin, data, cid, token, ⟨a, n, cap⟩⟩ k.toNat (rsOf l) c w ht hf hmf hlb
    · exact cut_no0 ⟨k, id, off, max, code, seq, prior, delay, fin, data, cid, token, ⟨a, n, cap⟩⟩ k.toNat (rsOf l) c w ht hf hmf (by simpa using hlb)
end Go.Proofs.YteelcihgbjhnbaaDoor.Fm
