/- Layer 6: the law FrameBack, walked. By tools/gen-frame-21.py. -/
import Derived.Test.YteelcihgbjhnbaaDoorFmLw
import Derived.Test.YteelcihgbjhnbaaDoorFmArg
namespace Go.Proofs.YteelcihgbjhnbaaDoor.Fm
set_option maxRecDepth 20000
open Go.RowKit Vm
set_option linter.unusedVariables false
set_option linter.unusedSimpArgs false

theorem pt_16 (n : Nat) : (pt n).length ≤ 16 := by
  have h : (pt n).length = wd (pl n) := by unfold pt; rw [fx_length]
  rw [h]
  have := pl_cases n
  unfold wd
  have h2 : 2 ^ pl n ≤ 2 ^ 4 := Nat.pow_le_pow_right (by decide) (by omega)
  omega
theorem ackQ_len : ∀ (l : List (Nat × Nat)) (lo : Nat), (ackQ lo l).length ≤ 32 * l.length
  | [], _ => Nat.le_refl _
  | p :: t, lo => by
    have h := ackQ_len t p.1
    have h1 := pt_16 (lo - p.2 - 2)
    have h2 := pt_16 (p.2 - p.1)
    rw [ackQ, List.length_append, List.length_append, List.length_cons]
    omega
theorem ackP_len (dl : Nat) (l : List (Nat × Nat)) : (ackP dl l).length ≤ 64 + 32 * l.length := by
  match l with
  | [] => simp [ackP]
  | p :: t =>
    have h := ackQ_len t p.1
    have h1 := pt_16 p.2
    have h2 := pt_16 dl
    have h3 := pt_16 t.length
    have h4 := pt_16 (p.2 - p.1)
    rw [ackP, List.length_append, List.length_append, List.length_append, List.length_append, List.length_cons]
    omega
theorem putL_len (f : Frm) (rs : List (Nat × Nat)) (h0 : ∀ j, j < 7 → 0 ≤ nm f j) (hr : rs.length ≤ 50) (hd : f.data.length ≤ 1300) (hc : f.cid.length ≤ 100) (ht : f.token.length ≤ 100) : (putL f rs).length ≤ 2400 := by
  unfold putL
  have h1 := pt_16 (fstN f).toNat
  have h2 := ackP_len f.delay.toNat rs.reverse
  have h3 := chN_len (toldP (fstN f).toNat) f 7
  have h4 := pcat_bound (chN (toldP (fstN f).toNat) f 7)
  have h5 : (txtL (toldP (fstN f).toNat) f).length ≤ 16 + 1 + 1300 + 100 + 100 := by
    have := pt_16 f.data.length
    unfold txtL
    split <;> split <;> simp only [List.length_append, List.length_nil, List.length_singleton] <;> omega
  rw [List.length_reverse] at h2
  rw [List.length_append]
  split
  · omega
  · rw [List.length_append]; omega
set_option maxRecDepth 100000 in
set_option maxHeartbeats 16000000 in
theorem back_00 (f : Frm) (k : Nat) (rs : List (Nat × Nat)) (s : List UInt8) (w : World) (ht : Tab w) (hf : Fit w k f rs) (hlb : lbB f = true) (hs : (s.length : Int) ≤ 1500) (hm : mayF k f (ints rs) = false) (hg : getN s = none) :
    Calls Tryd.prog 5 #[.agg #[.int .u64 f.kind, .int .u64 f.id, .int .u64 f.off, .int .u64 f.max, .int .u64 f.code, .int .u64 f.seq, .int .u64 f.prior, .int .u64 f.delay, .bool f.fin, .string ⟨f.data.toArray⟩, .string ⟨f.cid.toArray⟩, .string ⟨f.token.toArray⟩, .slice f.set.a f.set.n f.set.c], .string ⟨s.toArray⟩] w fun e w' => e = .returned (.bool true) ∧ Below w.heap.size w w' := by
  have CB := Lib.hid (fun w => bounded_law f w)
  rw [hlb] at CB
  have CS := Lib.hid (fun w ht => shown_any w ht)
  have HT := Lib.hid ht
  have HFit := Lib.hid hf
  have hb3 := lbB_yes hlb
  have hrl : rs.length ≤ 50 := by have := hf.n; omega
  have HB0 : Hid (Below w.heap.size w (w.alloc (.cells #[.int .u64 f.kind, .int .u64 f.id, .int .u64 f.off, .int .u64 f.max, .int .u64 f.code, .int .u64 f.seq, .int .u64 f.prior, .int .u64 f.delay, .bool f.fin, .string ⟨f.data.toArray⟩, .string ⟨f.cid.toArray⟩, .string ⟨f.token.toArray⟩, .slice f.set.a f.set.n f.set.c] 26 (0, 0)))) := Lib.hid ((Below.refl w.heap.size w).alloc (Nat.le_refl _) _)
  have HX0 : Hid (FrB w.heap.size f (w.alloc (.cells #[.int .u64 f.kind, .int .u64 f.id, .int .u64 f.off, .int .u64 f.max, .int .u64 f.code, .int .u64 f.seq, .int .u64 f.prior, .int .u64 f.delay, .bool f.fin, .string ⟨f.data.toArray⟩, .string ⟨f.cid.toArray⟩, .string ⟨f.token.toArray⟩, .slice f.set.a f.set.n f.set.c] 26 (0, 0)))) := Lib.hid (World.alloc_heap_new w _)
  have CP := Lib.hid (fun w (_ : Tab w) (h : Fit w k f rs) => put_no k f rs w h hm)
  have CGz : Hid (∀ W, Tab W → Calls Tryd.prog 21 #[.string ⟨s.toArray⟩] W fun e w' => Below W.heap.size W w' ∧ e = .returned (.tuple #[.agg #[.int .u64 0, .int .u64 0, .int .u64 0, .int .u64 0, .int .u64 0, .int .u64 0, .int .u64 0, .int .u64 0, .bool false, .string ⟨#[]⟩, .string ⟨#[]⟩, .string ⟨#[]⟩, .slice none 0 0], .string ⟨#[]⟩, .int .i64 60])) := Lib.hid (fun W ht => by
    have h := get_any s W ht (by omega)
    rw [hg] at h
    exact h)
  have CSZ : Hid (∀ W, Calls Tryd.prog 28 #[.agg #[.int .u64 0, .int .u64 0, .int .u64 0, .int .u64 0, .int .u64 0, .int .u64 0, .int .u64 0, .int .u64 0, .bool false, .string ⟨#[]⟩, .string ⟨#[]⟩, .string ⟨#[]⟩, .slice none 0 0], .agg #[.int .u64 0, .int .u64 0, .int .u64 0, .int .u64 0, .int .u64 0, .int .u64 0, .int .u64 0, .int .u64 0, .bool false, .string ⟨#[]⟩, .string ⟨#[]⟩, .string ⟨#[]⟩, .slice none 0 0]] W fun e w' => e = .returned (.bool true) ∧ Below W.heap.size W w') := Lib.hid (fun W => by
    have h := same_any frZ frZ [] [] W (by decide) (by decide) (rd_none W) (rd_none W)
    rw [show sameF frZ frZ [] [] = true from rfl] at h
    exact h)
  clear hf hlb hb3 hrl ht hm hg
  go_enter Tryd.func5, Tryd.ntmps5
  go_wp2_with fail
  refine (CB.out _).mono ?_
  rintro e w1 ⟨rfl, hb⟩
  have HB1 := Lib.hid (HB0.out.trans (hb.mono (by simp)))
  have HT1 := Lib.hid (HT.out.below HB1.out HT.out.lt)
  have HX1 := Lib.hid (HX0.out.keep hb)
  clear hb
  go_wp2_with fail
  refine (CS.out _ HT1.out).mono ?_
  rintro e w2 ⟨rfl, hb⟩
  have HB2 := Lib.hid (HB1.out.trans (hb.mono HB1.out.size))
  have HT2 := Lib.hid (HT1.out.below hb HT1.out.lt)
  have HX2 := Lib.hid (HX1.out.keep hb)
  have HFit2 := Lib.hid (HFit.out.below HB2.out)
  have c0 := HX2.out.cell0
  have c1 := HX2.out.cell1
  have c2 := HX2.out.cell2
  have c3 := HX2.out.cell3
  have c4 := HX2.out.cell4
  have c5 := HX2.out.cell5
  have c6 := HX2.out.cell6
  have c7 := HX2.out.cell7
  have c8 := HX2.out.cell8
  have c9 := HX2.out.cell9
  have c10 := HX2.out.cell10
  have c11 := HX2.out.cell11
  have c12 := HX2.out.cell12
  clear hb
  go_wp2_with fail
  refine (CP.out _ HT2.out HFit2.out).mono ?_
  rintro e w3 ⟨rfl, hb⟩
  have HB3 := Lib.hid (HB2.out.trans (hb.mono HB2.out.size))
  have HT3 := Lib.hid (HT2.out.below hb HT2.out.lt)
  clear hb
  go_wp2_with fail
  refine (CGz.out _ HT3.out).mono ?_
  rintro e w8 ⟨hb, rfl⟩
  have HB8 := Lib.hid (HB3.out.trans (hb.mono HB3.out.size))
  have HB9 := Lib.hid (HB8.out.alloc HB8.out.size (.cells #[.int .u64 0, .int .u64 0, .int .u64 0, .int .u64 0, .int .u64 0, .int .u64 0, .int .u64 0, .int .u64 0, .bool false, .string ⟨#[]⟩, .string ⟨#[]⟩, .string ⟨#[]⟩, .slice none 0 0] 26))
  clear hb
  go_wp2_with fail
  with_reducible refine (CSZ.out _).mono ?_
  rintro e w9 ⟨rfl, hb⟩
  have HB10 := Lib.hid (HB9.out.trans (hb.mono HB9.out.size))
  clear hb
  go_wp2
  go_ret
  exact ⟨rfl, HB10.out⟩
set_option maxRecDepth 100000 in
set_option maxHeartbeats 16000000 in
theorem back_01 (f : Frm) (k : Nat) (rs : List (Nat × Nat)) (s : List UInt8) (w : World) (ht : Tab w) (hf : Fit w k f rs) (hlb : lbB f = true) (hs : (s.length : Int) ≤ 1500) (hm : mayF k f (ints rs) = false) (g : Frm) (qs : List (Nat × Nat)) (r : List UInt8) (hg : getN s = some (g, qs, r)) :
    Calls Tryd.prog 5 #[.agg #[.int .u64 f.kind, .int .u64 f.id, .int .u64 f.off, .int .u64 f.max, .int .u64 f.code, .int .u64 f.seq, .int .u64 f.prior, .int .u64 f.delay, .bool f.fin, .string ⟨f.data.toArray⟩, .string ⟨f.cid.toArray⟩, .string ⟨f.token.toArray⟩, .slice f.set.a f.set.n f.set.c], .string ⟨s.toArray⟩] w fun e w' => e = .returned (.bool true) ∧ Below w.heap.size w w' := by
  have CB := Lib.hid (fun w => bounded_law f w)
  rw [hlb] at CB
  have CS := Lib.hid (fun w ht => shown_any w ht)
  have HT := Lib.hid ht
  have HFit := Lib.hid hf
  have hb3 := lbB_yes hlb
  have hrl : rs.length ≤ 50 := by have := hf.n; omega
  have HB0 : Hid (Below w.heap.size w (w.alloc (.cells #[.int .u64 f.kind, .int .u64 f.id, .int .u64 f.off, .int .u64 f.max, .int .u64 f.code, .int .u64 f.seq, .int .u64 f.prior, .int .u64 f.delay, .bool f.fin, .string ⟨f.data.toArray⟩, .string ⟨f.cid.toArray⟩, .string ⟨f.token.toArray⟩, .slice f.set.a f.set.n f.set.c] 26 (0, 0)))) := Lib.hid ((Below.refl w.heap.size w).alloc (Nat.le_refl _) _)
  have HX0 : Hid (FrB w.heap.size f (w.alloc (.cells #[.int .u64 f.kind, .int .u64 f.id, .int .u64 f.off, .int .u64 f.max, .int .u64 f.code, .int .u64 f.seq, .int .u64 f.prior, .int .u64 f.delay, .bool f.fin, .string ⟨f.data.toArray⟩, .string ⟨f.cid.toArray⟩, .string ⟨f.token.toArray⟩, .slice f.set.a f.set.n f.set.c] 26 (0, 0)))) := Lib.hid (World.alloc_heap_new w _)
  have CP := Lib.hid (fun w (_ : Tab w) (h : Fit w k f rs) => put_no k f rs w h hm)
  obtain ⟨hg1, hg2, pre, hpre, hpn⟩ := getN_is hg
  have CGy : Hid (∀ W, Tab W → Calls Tryd.prog 21 #[.string ⟨s.toArray⟩] W fun e w' => Below W.heap.size W w' ∧ ∃ (F : Frm) (sl : Sl), { g with set := sl } = F ∧ sl.n = qs.length ∧ Rd w' (.slice F.set.a F.set.n F.set.c) (ints qs) ∧ e = .returned (.tuple #[.agg #[.int .u64 F.kind, .int .u64 F.id, .int .u64 F.off, .int .u64 F.max, .int .u64 F.code, .int .u64 F.seq, .int .u64 F.prior, .int .u64 F.delay, .bool F.fin, .string ⟨F.data.toArray⟩, .string ⟨F.cid.toArray⟩, .string ⟨F.token.toArray⟩, .slice F.set.a F.set.n F.set.c], .string ⟨r.toArray⟩, .int .i64 0])) := Lib.hid (fun W ht => by
    have h := get_any s W ht (by omega)
    rw [hg] at h
    refine h.mono ?_
    rintro e w' ⟨h1, sl, h2, h3, h4, h5⟩
    exact ⟨h1, _, sl, rfl, h2, h3, h5⟩)
  have CGM := Lib.hid (fun F sl hF hn W hrd => got_may g F qs r s hg1 (by omega) sl hF hn W hrd)
  rw [hg2] at CGM
  have hext := ext_suf pre r
  have hsl : s.length = pre.length + r.length := by rw [hpre, List.length_append]
  have hpp : 0 < pre.length := List.length_pos_iff.2 hpn
  rw [← hpre] at hext
  have hi1 : (s.length : Int) - (r.length : Int) = (pre.length : Int) := by omega
  have hi2 : (r.length : Int) < (s.length : Int) := by omega
  have hi3 : (pre.length : Int) ≤ (s.length : Int) := by omega
  have hi4 : (0 : Int) ≤ (pre.length : Int) := by omega
  rw [← hsl] at hext
  clear hf hlb hb3 hrl ht hm hg hg1 hg2 hpre hpn hsl hpp
  go_enter Tryd.func5, Tryd.ntmps5
  go_wp2_with fail
  refine (CB.out _).mono ?_
  rintro e w1 ⟨rfl, hb⟩
  have HB1 := Lib.hid (HB0.out.trans (hb.mono (by simp)))
  have HT1 := Lib.hid (HT.out.below HB1.out HT.out.lt)
  have HX1 := Lib.hid (HX0.out.keep hb)
  clear hb
  go_wp2_with fail
  refine (CS.out _ HT1.out).mono ?_
  rintro e w2 ⟨rfl, hb⟩
  have HB2 := Lib.hid (HB1.out.trans (hb.mono HB1.out.size))
  have HT2 := Lib.hid (HT1.out.below hb HT1.out.lt)
  have HX2 := Lib.hid (HX1.out.keep hb)
  have HFit2 := Lib.hid (HFit.out.below HB2.out)
  have c0 := HX2.out.cell0
  have c1 := HX2.out.cell1
  have c2 := HX2.out.cell2
  have c3 := HX2.out.cell3
  have c4 := HX2.out.cell4
  have c5 := HX2.out.cell5
  have c6 := HX2.out.cell6
  have c7 := HX2.out.cell7
  have c8 := HX2.out.cell8
  have c9 := HX2.out.cell9
  have c10 := HX2.out.cell10
  have c11 := HX2.out.cell11
  have c12 := HX2.out.cell12
  clear hb
  go_wp2_with fail
  refine (CP.out _ HT2.out HFit2.out).mono ?_
  rintro e w3 ⟨rfl, hb⟩
  have HB3 := Lib.hid (HB2.out.trans (hb.mono HB2.out.size))
  have HT3 := Lib.hid (HT2.out.below hb HT2.out.lt)
  clear hb
  go_wp2_with fail
  with_reducible refine (CGy.out _ HT3.out).mono ?_
  rintro e w8 ⟨hb, F, sl, hF, hn, hrd, rfl⟩
  have HB8 := Lib.hid (HB3.out.trans (hb.mono HB3.out.size))
  have HBG : Hid (Below w8.heap.size w8 (w8.alloc (.cells #[.int .u64 F.kind, .int .u64 F.id, .int .u64 F.off, .int .u64 F.max, .int .u64 F.code, .int .u64 F.seq, .int .u64 F.prior, .int .u64 F.delay, .bool F.fin, .string ⟨F.data.toArray⟩, .string ⟨F.cid.toArray⟩, .string ⟨F.token.toArray⟩, .slice F.set.a F.set.n F.set.c] 26))) := Lib.hid ((Below.refl _ _).alloc (Nat.le_refl _) _)
  have HB9 := Lib.hid (HB8.out.trans (HBG.out.mono HB8.out.size))
  have HGM := Lib.hid (CGM.out F sl hF hn _ (hrd.below HBG.out))
  clear hb hF hn hrd
  go_wp2_with fail
  refine HGM.out.mono ?_
  rintro e w9 ⟨rfl, hb⟩
  have HB10 := Lib.hid (HB9.out.trans (hb.mono HB9.out.size))
  clear hb
  go_wp2
  go_ret
  exact ⟨rfl, HB10.out⟩
set_option maxRecDepth 100000 in
set_option maxHeartbeats 16000000 in
theorem back_10 (f : Frm) (k : Nat) (rs : List (Nat × Nat)) (s : List UInt8) (w : World) (ht : Tab w) (hf : Fit w k f rs) (hlb : lbB f = true) (hs : (s.length : Int) ≤ 1500) (hm : mayF k f (ints rs) = true) (hg : getN s = none) :
    Calls Tryd.prog 5 #[.agg #[.int .u64 f.kind, .int .u64 f.id, .int .u64 f.off, .int .u64 f.max, .int .u64 f.code, .int .u64 f.seq, .int .u64 f.prior, .int .u64 f.delay, .bool f.fin, .string ⟨f.data.toArray⟩, .string ⟨f.cid.toArray⟩, .string ⟨f.token.toArray⟩, .slice f.set.a f.set.n f.set.c], .string ⟨s.toArray⟩] w fun e w' => e = .returned (.bool true) ∧ Below w.heap.size w w' := by
  have CB := Lib.hid (fun w => bounded_law f w)
  rw [hlb] at CB
  have CS := Lib.hid (fun w ht => shown_any w ht)
  have HT := Lib.hid ht
  have HFit := Lib.hid hf
  have hb3 := lbB_yes hlb
  have hrl : rs.length ≤ 50 := by have := hf.n; omega
  have HB0 : Hid (Below w.heap.size w (w.alloc (.cells #[.int .u64 f.kind, .int .u64 f.id, .int .u64 f.off, .int .u64 f.max, .int .u64 f.code, .int .u64 f.seq, .int .u64 f.prior, .int .u64 f.delay, .bool f.fin, .string ⟨f.data.toArray⟩, .string ⟨f.cid.toArray⟩, .string ⟨f.token.toArray⟩, .slice f.set.a f.set.n f.set.c] 26 (0, 0)))) := Lib.hid ((Below.refl w.heap.size w).alloc (Nat.le_refl _) _)
  have HX0 : Hid (FrB w.heap.size f (w.alloc (.cells #[.int .u64 f.kind, .int .u64 f.id, .int .u64 f.off, .int .u64 f.max, .int .u64 f.code, .int .u64 f.seq, .int .u64 f.prior, .int .u64 f.delay, .bool f.fin, .string ⟨f.data.toArray⟩, .string ⟨f.cid.toArray⟩, .string ⟨f.token.toArray⟩, .slice f.set.a f.set.n f.set.c] 26 (0, 0)))) := Lib.hid (World.alloc_heap_new w _)
  have CP := Lib.hid (fun w ht (h : Fit w k f rs) => put_yes k f rs w ht h hm)
  have CM := Lib.hid (fun w (h : Fit w k f rs) => fit_may h)
  rw [hm] at CM
  have hpl := putL_len f rs hf.pos hrl (by omega) (by omega) (by omega)
  have hcat : (⟨(putL f rs).toArray⟩ : ByteArray) ++ ⟨s.toArray⟩ = ⟨(putL f rs ++ s).toArray⟩ := by apply ByteArray.ext; simp
  have CG1 : Hid (∀ W, Tab W → Calls Tryd.prog 21 #[.string ⟨(putL f rs ++ s).toArray⟩] W fun e w' => Below W.heap.size W w' ∧ ∃ (sa : Option Addr) (sc : Nat), Rd w' (.slice sa rs.length sc) (ints rs) ∧ e = .returned (.tuple #[.agg #[.int .u64 f.kind, .int .u64 f.id, .int .u64 f.off, .int .u64 f.max, .int .u64 f.code, .int .u64 f.seq, .int .u64 f.prior, .int .u64 f.delay, .bool f.fin, .string ⟨f.data.toArray⟩, .string ⟨f.cid.toArray⟩, .string ⟨f.token.toArray⟩, .slice sa rs.length sc], .string ⟨s.toArray⟩, .int .i64 0])) := Lib.hid (fun W ht => by
    have h := get_any (putL f rs ++ s) W ht (by rw [List.length_append]; omega)
    rw [get_back k f rs s hf.kind hf.n hf.pos (by omega) hm] at h
    refine h.mono ?_
    rintro e w' ⟨h1, ⟨sa, sn, sc⟩, h2, h3, h4, h5⟩
    have h2 : sn = rs.length := h2
    subst h2
    exact ⟨h1, sa, sc, h3, h5⟩)
  have CSM : Hid (∀ (sa : Option Addr) (sc : Nat) W, Rd W (.slice f.set.a f.set.n f.set.c) (ints rs) → Rd W (.slice sa rs.length sc) (ints rs) → Calls Tryd.prog 28 #[.agg #[.int .u64 f.kind, .int .u64 f.id, .int .u64 f.off, .int .u64 f.max, .int .u64 f.code, .int .u64 f.seq, .int .u64 f.prior, .int .u64 f.delay, .bool f.fin, .string ⟨f.data.toArray⟩, .string ⟨f.cid.toArray⟩, .string ⟨f.token.toArray⟩, .slice f.set.a f.set.n f.set.c], .agg #[.int .u64 f.kind, .int .u64 f.id, .int .u64 f.off, .int .u64 f.max, .int .u64 f.code, .int .u64 f.seq, .int .u64 f.prior, .int .u64 f.delay, .bool f.fin, .string ⟨f.data.toArray⟩, .string ⟨f.cid.toArray⟩, .string ⟨f.token.toArray⟩, .slice sa rs.length sc]] W fun e w' => e = .returned (.bool true) ∧ Below W.heap.size W w') := Lib.hid (fun sa sc W h1 h2 => by
    have h := same_any f { f with set := ⟨sa, rs.length, sc⟩ } (ints rs) (ints rs) W (by rw [ints_len]; omega) (by rw [ints_len]; omega) h1 h2
    rw [show sameF f { f with set := ⟨sa, rs.length, sc⟩ } (ints rs) (ints rs) = true from same_self f f.set ⟨sa, rs.length, sc⟩ (ints rs)] at h
    exact h)
  have hpi : ¬ 9223372036854775807 < (putL f rs).length + s.length := by omega
  have CGz : Hid (∀ W, Tab W → Calls Tryd.prog 21 #[.string ⟨s.toArray⟩] W fun e w' => Below W.heap.size W w' ∧ e = .returned (.tuple #[.agg #[.int .u64 0, .int .u64 0, .int .u64 0, .int .u64 0, .int .u64 0, .int .u64 0, .int .u64 0, .int .u64 0, .bool false, .string ⟨#[]⟩, .string ⟨#[]⟩, .string ⟨#[]⟩, .slice none 0 0], .string ⟨#[]⟩, .int .i64 60])) := Lib.hid (fun W ht => by
    have h := get_any s W ht (by omega)
    rw [hg] at h
    exact h)
  have CSZ : Hid (∀ W, Calls Tryd.prog 28 #[.agg #[.int .u64 0, .int .u64 0, .int .u64 0, .int .u64 0, .int .u64 0, .int .u64 0, .int .u64 0, .int .u64 0, .bool false, .string ⟨#[]⟩, .string ⟨#[]⟩, .string ⟨#[]⟩, .slice none 0 0], .agg #[.int .u64 0, .int .u64 0, .int .u64 0, .int .u64 0, .int .u64 0, .int .u64 0, .int .u64 0, .int .u64 0, .bool false, .string ⟨#[]⟩, .string ⟨#[]⟩, .string ⟨#[]⟩, .slice none 0 0]] W fun e w' => e = .returned (.bool true) ∧ Below W.heap.size W w') := Lib.hid (fun W => by
    have h := same_any frZ frZ [] [] W (by decide) (by decide) (rd_none W) (rd_none W)
    rw [show sameF frZ frZ [] [] = true from rfl] at h
    exact h)
  clear hf hlb hb3 hrl ht hm hpl hg
  go_enter Tryd.func5, Tryd.ntmps5
  go_wp2_with fail
  refine (CB.out _).mono ?_
  rintro e w1 ⟨rfl, hb⟩
  have HB1 := Lib.hid (HB0.out.trans (hb.mono (by simp)))
  have HT1 := Lib.hid (HT.out.below HB1.out HT.out.lt)
  have HX1 := Lib.hid (HX0.out.keep hb)
  clear hb
  go_wp2_with fail
  refine (CS.out _ HT1.out).mono ?_
  rintro e w2 ⟨rfl, hb⟩
  have HB2 := Lib.hid (HB1.out.trans (hb.mono HB1.out.size))
  have HT2 := Lib.hid (HT1.out.below hb HT1.out.lt)
  have HX2 := Lib.hid (HX1.out.keep hb)
  have HFit2 := Lib.hid (HFit.out.below HB2.out)
  have c0 := HX2.out.cell0
  have c1 := HX2.out.cell1
  have c2 := HX2.out.cell2
  have c3 := HX2.out.cell3
  have c4 := HX2.out.cell4
  have c5 := HX2.out.cell5
  have c6 := HX2.out.cell6
  have c7 := HX2.out.cell7
  have c8 := HX2.out.cell8
  have c9 := HX2.out.cell9
  have c10 := HX2.out.cell10
  have c11 := HX2.out.cell11
  have c12 := HX2.out.cell12
  clear hb
  go_wp2_with fail
  refine (CP.out _ HT2.out HFit2.out).mono ?_
  rintro e w3 ⟨rfl, hb⟩
  have HB3 := Lib.hid (HB2.out.trans (hb.mono HB2.out.size))
  have HT3 := Lib.hid (HT2.out.below hb HT2.out.lt)
  have HX3 := Lib.hid (HX2.out.keep hb)
  clear hb c0 c1 c2 c3 c4 c5 c6 c7 c8 c9 c10 c11 c12
  go_wp2_with fail
  with_reducible refine (CG1.out _ HT3.out).mono ?_
  rintro e w4 ⟨hb, sa, sc, hrd, rfl⟩
  have HB4 := Lib.hid (HB3.out.trans (hb.mono HB3.out.size))
  have HX4 := Lib.hid (HX3.out.keep hb)
  have HT4 := Lib.hid (HT3.out.below hb HT3.out.lt)
  have HBA : Hid (Below w4.heap.size w4 (w4.alloc (.cells #[.int .u64 f.kind, .int .u64 f.id, .int .u64 f.off, .int .u64 f.max, .int .u64 f.code, .int .u64 f.seq, .int .u64 f.prior, .int .u64 f.delay, .bool f.fin, .string ⟨f.data.toArray⟩, .string ⟨f.cid.toArray⟩, .string ⟨f.token.toArray⟩, .slice sa rs.length sc] 26))) := Lib.hid ((Below.refl _ _).alloc (Nat.le_refl _) _)
  have HR5 := Lib.hid (hrd.below HBA.out)
  have HF5 := Lib.hid (HFit.out.below (HB4.out.trans (HBA.out.mono HB4.out.size)))
  have hlt := HX4.out.lt
  have hne : ¬ w.heap.size = w4.heap.size := by omega
  have c0 := HX4.out.cell0
  have c1 := HX4.out.cell1
  have c2 := HX4.out.cell2
  have c3 := HX4.out.cell3
  have c4 := HX4.out.cell4
  have c5 := HX4.out.cell5
  have c6 := HX4.out.cell6
  have c7 := HX4.out.cell7
  have c8 := HX4.out.cell8
  have c9 := HX4.out.cell9
  have c10 := HX4.out.cell10
  have c11 := HX4.out.cell11
  have c12 := HX4.out.cell12
  have HB5 := Lib.hid (HB4.out.trans (HBA.out.mono HB4.out.size))
  have HX5 := Lib.hid (HX4.out.keep HBA.out)
  have HT5 := Lib.hid (HT4.out.below HBA.out HT4.out.lt)
  clear hb hrd
  go_wp2_with fail
  with_reducible refine (CSM.out sa sc _ HF5.out.rd HR5.out).mono ?_
  rintro e w6 ⟨rfl, hb⟩
  have HB6 := Lib.hid (HB5.out.trans (hb.mono HB5.out.size))
  have HX6 := Lib.hid (HX5.out.keep hb)
  have HT6 := Lib.hid (HT5.out.below hb HT5.out.lt)
  have HF6 := Lib.hid (HFit.out.below HB6.out)
  clear hb hlt hne c0 c1 c2 c3 c4 c5 c6 c7 c8 c9 c10 c11 c12
  have c0 := HX6.out.cell0
  have c1 := HX6.out.cell1
  have c2 := HX6.out.cell2
  have c3 := HX6.out.cell3
  have c4 := HX6.out.cell4
  have c5 := HX6.out.cell5
  have c6 := HX6.out.cell6
  have c7 := HX6.out.cell7
  have c8 := HX6.out.cell8
  have c9 := HX6.out.cell9
  have c10 := HX6.out.cell10
  have c11 := HX6.out.cell11
  have c12 := HX6.out.cell12
  go_wp2_with fail
  refine (CM.out _ HF6.out).mono ?_
  rintro e w7 ⟨rfl, hb⟩
  have HB3 := Lib.hid (HB6.out.trans (hb.mono HB6.out.size))
  have HT3 := Lib.hid (HT6.out.below hb HT6.out.lt)
  clear hb
  go_wp2_with fail
  refine (CGz.out _ HT3.out).mono ?_
  rintro e w8 ⟨hb, rfl⟩
  have HB8 := Lib.hid (HB3.out.trans (hb.mono HB3.out.size))
  have HB9 := Lib.hid (HB8.out.alloc HB8.out.size (.cells #[.int .u64 0, .int .u64 0, .int .u64 0, .int .u64 0, .int .u64 0, .int .u64 0, .int .u64 0, .int .u64 0, .bool false, .string ⟨#[]⟩, .string ⟨#[]⟩, .string ⟨#[]⟩, .slice none 0 0] 26))
  clear hb
  go_wp2_with fail
  with_reducible refine (CSZ.out _).mono ?_
  rintro e w9 ⟨rfl, hb⟩
  have HB10 := Lib.hid (HB9.out.trans (hb.mono HB9.out.size))
  clear hb
  go_wp2
  go_ret
  exact ⟨rfl, HB10.out⟩
set_option maxRecDepth 100000 in
set_option maxHeartbeats 16000000 in
theorem back_11 (f : Frm) (k : Nat) (rs : List (Nat × Nat)) (s : List UInt8) (w : World) (ht : Tab w) (hf : Fit w k f rs) (hlb : lbB f = true) (hs : (s.length : Int) ≤ 1500) (hm : mayF k f (ints rs) = true) (g : Frm) (qs : List (Nat × Nat)) (r : List UInt8) (hg : getN s = some (g, qs, r)) :
    Calls Tryd.prog 5 #[.agg #[.int .u64 f.kind, .int .u64 f.id, .int .u64 f.off, .int .u64 f.max, .int .u64 f.code, .int .u64 f.seq, .int .u64 f.prior, .int .u64 f.delay, .bool f.fin, .string ⟨f.data.toArray⟩, .string ⟨f.cid.toArray⟩, .string ⟨f.token.toArray⟩, .slice f.set.a f.set.n f.set.c], .string ⟨s.toArray⟩] w fun e w' => e = .returned (.bool true) ∧ Below w.heap.size w w' := by
  have CB := Lib.hid (fun w => bounded_law f w)
  rw [hlb] at CB
  have CS := Lib.hid (fun w ht => shown_any w ht)
  have HT := Lib.hid ht
  have HFit := Lib.hid hf
  have hb3 := lbB_yes hlb
  have hrl : rs.length ≤ 50 := by have := hf.n; omega
  have HB0 : Hid (Below w.heap.size w (w.alloc (.cells #[.int .u64 f.kind, .int .u64 f.id, .int .u64 f.off, .int .u64 f.max, .int .u64 f.code, .int .u64 f.seq, .int .u64 f.prior, .int .u64 f.delay, .bool f.fin, .string ⟨f.data.toArray⟩, .string ⟨f.cid.toArray⟩, .string ⟨f.token.toArray⟩, .slice f.set.a f.set.n f.set.c] 26 (0, 0)))) := Lib.hid ((Below.refl w.heap.size w).alloc (Nat.le_refl _) _)
  have HX0 : Hid (FrB w.heap.size f (w.alloc (.cells #[.int .u64 f.kind, .int .u64 f.id, .int .u64 f.off, .int .u64 f.max, .int .u64 f.code, .int .u64 f.seq, .int .u64 f.prior, .int .u64 f.delay, .bool f.fin, .string ⟨f.data.toArray⟩, .string ⟨f.cid.toArray⟩, .string ⟨f.token.toArray⟩, .slice f.set.a f.set.n f.set.c] 26 (0, 0)))) := Lib.hid (World.alloc_heap_new w _)
  have CP := Lib.hid (fun w ht (h : Fit w k f rs) => put_yes k f rs w ht h hm)
  have CM := Lib.hid (fun w (h : Fit w k f rs) => fit_may h)
  rw [hm] at CM
  have hpl := putL_len f rs hf.pos hrl (by omega) (by omega) (by omega)
  have hcat : (⟨(putL f rs).toArray⟩ : ByteArray) ++ ⟨s.toArray⟩ = ⟨(putL f rs ++ s).toArray⟩ := by apply ByteArray.ext; simp
  have CG1 : Hid (∀ W, Tab W → Calls Tryd.prog 21 #[.string ⟨(putL f rs ++ s).toArray⟩] W fun e w' => Below W.heap.size W w' ∧ ∃ (sa : Option Addr) (sc : Nat), Rd w' (.slice sa rs.length sc) (ints rs) ∧ e = .returned (.tuple #[.agg #[.int .u64 f.kind, .int .u64 f.id, .int .u64 f.off, .int .u64 f.max, .int .u64 f.code, .int .u64 f.seq, .int .u64 f.prior, .int .u64 f.delay, .bool f.fin, .string ⟨f.data.toArray⟩, .string ⟨f.cid.toArray⟩, .string ⟨f.token.toArray⟩, .slice sa rs.length sc], .string ⟨s.toArray⟩, .int .i64 0])) := Lib.hid (fun W ht => by
    have h := get_any (putL f rs ++ s) W ht (by rw [List.length_append]; omega)
    rw [get_back k f rs s hf.kind hf.n hf.pos (by omega) hm] at h
    refine h.mono ?_
    rintro e w' ⟨h1, ⟨sa, sn, sc⟩, h2, h3, h4, h5⟩
    have h2 : sn = rs.length := h2
    subst h2
    exact ⟨h1, sa, sc, h3, h5⟩)
  have CSM : Hid (∀ (sa : Option Addr) (sc : Nat) W, Rd W (.slice f.set.a f.set.n f.set.c) (ints rs) → Rd W (.slice sa rs.length sc) (ints rs) → Calls Tryd.prog 28 #[.agg #[.int .u64 f.kind, .int .u64 f.id, .int .u64 f.off, .int .u64 f.max, .int .u64 f.code, .int .u64 f.seq, .int .u64 f.prior, .int .u64 f.delay, .bool f.fin, .string ⟨f.data.toArray⟩, .string ⟨f.cid.toArray⟩, .string ⟨f.token.toArray⟩, .slice f.set.a f.set.n f.set.c], .agg #[.int .u64 f.kind, .int .u64 f.id, .int .u64 f.off, .int .u64 f.max, .int .u64 f.code, .int .u64 f.seq, .int .u64 f.prior, .int .u64 f.delay, .bool f.fin, .string ⟨f.data.toArray⟩, .string ⟨f.cid.toArray⟩, .string ⟨f.token.toArray⟩, .slice sa rs.length sc]] W fun e w' => e = .returned (.bool true) ∧ Below W.heap.size W w') := Lib.hid (fun sa sc W h1 h2 => by
    have h := same_any f { f with set := ⟨sa, rs.length, sc⟩ } (ints rs) (ints rs) W (by rw [ints_len]; omega) (by rw [ints_len]; omega) h1 h2
    rw [show sameF f { f with set := ⟨sa, rs.length, sc⟩ } (ints rs) (ints rs) = true from same_self f f.set ⟨sa, rs.length, sc⟩ (ints rs)] at h
    exact h)
  have hpi : ¬ 9223372036854775807 < (putL f rs).length + s.length := by omega
  obtain ⟨hg1, hg2, pre, hpre, hpn⟩ := getN_is hg
  have CGy : Hid (∀ W, Tab W → Calls Tryd.prog 21 #[.string ⟨s.toArray⟩] W fun e w' => Below W.heap.size W w' ∧ ∃ (F : Frm) (sl : Sl), { g with set := sl } = F ∧ sl.n = qs.length ∧ Rd w' (.slice F.set.a F.set.n F.set.c) (ints qs) ∧ e = .returned (.tuple #[.agg #[.int .u64 F.kind, .int .u64 F.id, .int .u64 F.off, .int .u64 F.max, .int .u64 F.code, .int .u64 F.seq, .int .u64 F.prior, .int .u64 F.delay, .bool F.fin, .string ⟨F.data.toArray⟩, .string ⟨F.cid.toArray⟩, .string ⟨F.token.toArray⟩, .slice F.set.a F.set.n F.set.c], .string ⟨r.toArray⟩, .int .i64 0])) := Lib.hid (fun W ht => by
    have h := get_any s W ht (by omega)
    rw [hg] at h
    refine h.mono ?_
    rintro e w' ⟨h1, sl, h2, h3, h4, h5⟩
    exact ⟨h1, _, sl, rfl, h2, h3, h5⟩)
  have CGM := Lib.hid (fun F sl hF hn W hrd => got_may g F qs r s hg1 (by omega) sl hF hn W hrd)
  rw [hg2] at CGM
  have hext := ext_suf pre r
  have hsl : s.length = pre.length + r.length := by rw [hpre, List.length_append]
  have hpp : 0 < pre.length := List.length_pos_iff.2 hpn
  rw [← hpre] at hext
  have hi1 : (s.length : Int) - (r.length : Int) = (pre.length : Int) := by omega
  have hi2 : (r.length : Int) < (s.length : Int) := by omega
  have hi3 : (pre.length : Int) ≤ (s.length : Int) := by omega
  have hi4 : (0 : Int) ≤ (pre.length : Int) := by omega
  rw [← hsl] at hext
  clear hf hlb hb3 hrl ht hm hpl hg hg1 hg2 hpre hpn hsl hpp
  go_enter Tryd.func5, Tryd.ntmps5
  go_wp2_with fail
  refine (CB.out _).mono ?_
  rintro e w1 ⟨rfl, hb⟩
  have HB1 := Lib.hid (HB0.out.trans (hb.mono (by simp)))
  have HT1 := Lib.hid (HT.out.below HB1.out HT.out.lt)
  have HX1 := Lib.hid (HX0.out.keep hb)
  clear hb
  go_wp2_with fail
  refine (CS.out _ HT1.out).mono ?_
  rintro e w2 ⟨rfl, hb⟩
  have HB2 := Lib.hid (HB1.out.trans (hb.mono HB1.out.size))
  have HT2 := Lib.hid (HT1.out.below hb HT1.out.lt)
  have HX2 := Lib.hid (HX1.out.keep hb)
  have HFit2 := Lib.hid (HFit.out.below HB2.out)
  have c0 := HX2.out.cell0
  have c1 := HX2.out.cell1
  have c2 := HX2.out.cell2
  have c3 := HX2.out.cell3
  have c4 := HX2.out.cell4
  have c5 := HX2.out.cell5
  have c6 := HX2.out.cell6
  have c7 := HX2.out.cell7
  have c8 := HX2.out.cell8
  have c9 := HX2.out.cell9
  have c10 := HX2.out.cell10
  have c11 := HX2.out.cell11
  have c12 := HX2.out.cell12
  clear hb
  go_wp2_with fail
  refine (CP.out _ HT2.out HFit2.out).mono ?_
  rintro e w3 ⟨rfl, hb⟩
  have HB3 := Lib.hid (HB2.out.trans (hb.mono HB2.out.size))
  have HT3 := Lib.hid (HT2.out.below hb HT2.out.lt)
  have HX3 := Lib.hid (HX2.out.keep hb)
  clear hb c0 c1 c2 c3 c4 c5 c6 c7 c8 c9 c10 c11 c12
  go_wp2_with fail
  with_reducible refine (CG1.out _ HT3.out).mono ?_
  rintro e w4 ⟨hb, sa, sc, hrd, rfl⟩
  have HB4 := Lib.hid (HB3.out.trans (hb.mono HB3.out.size))
  have HX4 := Lib.hid (HX3.out.keep hb)
  have HT4 := Lib.hid (HT3.out.below hb HT3.out.lt)
  have HBA : Hid (Below w4.heap.size w4 (w4.alloc (.cells #[.int .u64 f.kind, .int .u64 f.id, .int .u64 f.off, .int .u64 f.max, .int .u64 f.code, .int .u64 f.seq, .int .u64 f.prior, .int .u64 f.delay, .bool f.fin, .string ⟨f.data.toArray⟩, .string ⟨f.cid.toArray⟩, .string ⟨f.token.toArray⟩, .slice sa rs.length sc] 26))) := Lib.hid ((Below.refl _ _).alloc (Nat.le_refl _) _)
  have HR5 := Lib.hid (hrd.below HBA.out)
  have HF5 := Lib.hid (HFit.out.below (HB4.out.trans (HBA.out.mono HB4.out.size)))
  have hlt := HX4.out.lt
  have hne : ¬ w.heap.size = w4.heap.size := by omega
  have c0 := HX4.out.cell0
  have c1 := HX4.out.cell1
  have c2 := HX4.out.cell2
  have c3 := HX4.out.cell3
  have c4 := HX4.out.cell4
  have c5 := HX4.out.cell5
  have c6 := HX4.out.cell6
  have c7 := HX4.out.cell7
  have c8 := HX4.out.cell8
  have c9 := HX4.out.cell9
  have c10 := HX4.out.cell10
  have c11 := HX4.out.cell11
  have c12 := HX4.out.cell12
  have HB5 := Lib.hid (HB4.out.trans (HBA.out.mono HB4.out.size))
  have HX5 := Lib.hid (HX4.out.keep HBA.out)
  have HT5 := Lib.hid (HT4.out.below HBA.out HT4.out.lt)
  clear hb hrd
  go_wp2_with fail
  with_reducible refine (CSM.out sa sc _ HF5.out.rd HR5.out).mono ?_
  rintro e w6 ⟨rfl, hb⟩
  have HB6 := Lib.hid (HB5.out.trans (hb.mono HB5.out.size))
  have HX6 := Lib.hid (HX5.out.keep hb)
  have HT6 := Lib.hid (HT5.out.below hb HT5.out.lt)
  have HF6 := Lib.hid (HFit.out.below HB6.out)
  clear hb hlt hne c0 c1 c2 c3 c4 c5 c6 c7 c8 c9 c10 c11 c12
  have c0 := HX6.out.cell0
  have c1 := HX6.out.cell1
  have c2 := HX6.out.cell2
  have c3 := HX6.out.cell3
  have c4 := HX6.out.cell4
  have c5 := HX6.out.cell5
  have c6 := HX6.out.cell6
  have c7 := HX6.out.cell7
  have c8 := HX6.out.cell8
  have c9 := HX6.out.cell9
  have c10 := HX6.out.cell10
  have c11 := HX6.out.cell11
  have c12 := HX6.out.cell12
  go_wp2_with fail
  refine (CM.out _ HF6.out).mono ?_
  rintro e w7 ⟨rfl, hb⟩
  have HB3 := Lib.hid (HB6.out.trans (hb.mono HB6.out.size))
  have HT3 := Lib.hid (HT6.out.below hb HT6.out.lt)
  clear hb
  go_wp2_with fail
  with_reducible refine (CGy.out _ HT3.out).mono ?_
  rintro e w8 ⟨hb, F, sl, hF, hn, hrd, rfl⟩
  have HB8 := Lib.hid (HB3.out.trans (hb.mono HB3.out.size))
  have HBG : Hid (Below w8.heap.size w8 (w8.alloc (.cells #[.int .u64 F.kind, .int .u64 F.id, .int .u64 F.off, .int .u64 F.max, .int .u64 F.code, .int .u64 F.seq, .int .u64 F.prior, .int .u64 F.delay, .bool F.fin, .string ⟨F.data.toArray⟩, .string ⟨F.cid.toArray⟩, .string ⟨F.token.toArray⟩, .slice F.set.a F.set.n F.set.c] 26))) := Lib.hid ((Below.refl _ _).alloc (Nat.le_refl _) _)
  have HB9 := Lib.hid (HB8.out.trans (HBG.out.mono HB8.out.size))
  have HGM := Lib.hid (CGM.out F sl hF hn _ (hrd.below HBG.out))
  clear hb hF hn hrd
  go_wp2_with fail
  refine HGM.out.mono ?_
  rintro e w9 ⟨rfl, hb⟩
  have HB10 := Lib.hid (HB9.out.trans (hb.mono HB9.out.size))
  clear hb
  go_wp2
  go_ret
  exact ⟨rfl, HB10.out⟩
/-- A frame that is handed to a law is one that fits. -/
theorem fit_arg (k id off max code seq prior delay : Int) (fin : Bool) (data cid token : List UInt8) (a : Option Addr) (n cap : Nat) (l : List Ran) (w : World) (w0 : (Lit.int .u64 k).wf = true) (w1 : (Lit.int .u64 id).wf = true) (w2 : (Lit.int .u64 off).wf = true) (w3 : (Lit.int .u64 max).wf = true) (w4 : (Lit.int .u64 code).wf = true) (w5 : (Lit.int .u64 seq).wf = true) (w6 : (Lit.int .u64 prior).wf = true) (w7 : (Lit.int .u64 delay).wf = true) (w9 : (⟨data.toArray⟩ : ByteArray).size ≤ maxLen) (w10 : (⟨cid.toArray⟩ : ByteArray).size ≤ maxLen) (w11 : (⟨token.toArray⟩ : ByteArray).size ≤ maxLen) (hn : l.length = n) (hm : n ≤ maxLen) (hrd : Rd w (.slice a n cap) l) (hu : Nums l) : Fit w k.toNat ⟨k, id, off, max, code, seq, prior, delay, fin, data, cid, token, ⟨a, n, cap⟩⟩ (rsOf l) := by
  refine ⟨?_, ?_, ?_⟩
  · have := (bounds_u64 w0).1
    show k = ((k.toNat : Nat) : Int)
    omega
  · rw [ints_rsOf (fun x hx => ⟨(hu x hx).1.1, (hu x hx).2.1⟩)]
    exact hrd
  · intro j hj
    have a1 := (bounds_u64 w1).1
    have a2 := (bounds_u64 w2).1
    have a3 := (bounds_u64 w3).1
    have a4 := (bounds_u64 w4).1
    have a5 := (bounds_u64 w5).1
    have a6 := (bounds_u64 w6).1
    have a7 := (bounds_u64 w7).1
    unfold nm
    split <;> first | assumption | exact Int.le_refl 0
theorem back_out1 (f : Frm) (s : List UInt8) (w : World) (ht : Tab w) (hlb : lbB f = false) :
    Calls Tryd.prog 5 #[.agg #[.int .u64 f.kind, .int .u64 f.id, .int .u64 f.off, .int .u64 f.max, .int .u64 f.code, .int .u64 f.seq, .int .u64 f.prior, .int .u64 f.delay, .bool f.fin, .string ⟨f.data.toArray⟩, .string ⟨f.cid.toArray⟩, .string ⟨f.token.toArray⟩, .slice f.set.a f.set.n f.set.c], .string ⟨s.toArray⟩] w fun e w' => e = .returned (.bool true) ∧ Below w.heap.size w w' := by
  have CB := Lib.hid (fun w => bounded_law f w)
  rw [hlb] at CB
  have CS := Lib.hid (fun w ht => shown_any w ht)
  have HT := Lib.hid ht
  have HB0 : Hid (Below w.heap.size w (w.alloc (.cells #[.int .u64 f.kind, .int .u64 f.id, .int .u64 f.off, .int .u64 f.max, .int .u64 f.code, .int .u64 f.seq, .int .u64 f.prior, .int .u64 f.delay, .bool f.fin, .string ⟨f.data.toArray⟩, .string ⟨f.cid.toArray⟩, .string ⟨f.token.toArray⟩, .slice f.set.a f.set.n f.set.c] 26 (0, 0)))) := Lib.hid ((Below.refl w.heap.size w).alloc (Nat.le_refl _) _)
  clear ht hlb
  go_enter Tryd.func5, Tryd.ntmps5
  go_wp2_with fail
  refine (CB.out _).mono ?_
  rintro e w1 ⟨rfl, hb⟩
  have HB1 := Lib.hid (HB0.out.trans (hb.mono (by simp)))
  have HT1 := Lib.hid (HT.out.below HB1.out HT.out.lt)
  clear hb
  go_wp2_with fail
  refine (CS.out _ HT1.out).mono ?_
  rintro e w2 ⟨rfl, hb⟩
  have HB2 := Lib.hid (HB1.out.trans (hb.mono HB1.out.size))
  clear hb
  go_wp2
  go_ret
  exact ⟨rfl, HB2.out⟩
theorem back_out2 (f : Frm) (s : List UInt8) (w : World) (ht : Tab w) (hlb : lbB f = true) (hs : ¬ (s.length : Int) ≤ 1500) (hs2 : (s.length : Int) ≤ 9223372036854775807) :
    Calls Tryd.prog 5 #[.agg #[.int .u64 f.kind, .int .u64 f.id, .int .u64 f.off, .int .u64 f.max, .int .u64 f.code, .int .u64 f.seq, .int .u64 f.prior, .int .u64 f.delay, .bool f.fin, .string ⟨f.data.toArray⟩, .string ⟨f.cid.toArray⟩, .string ⟨f.token.toArray⟩, .slice f.set.a f.set.n f.set.c], .string ⟨s.toArray⟩] w fun e w' => e = .returned (.bool true) ∧ Below w.heap.size w w' := by
  have CB := Lib.hid (fun w => bounded_law f w)
  rw [hlb] at CB
  have CS := Lib.hid (fun w ht => shown_any w ht)
  have HT := Lib.hid ht
  have HB0 : Hid (Below w.heap.size w (w.alloc (.cells #[.int .u64 f.kind, .int .u64 f.id, .int .u64 f.off, .int .u64 f.max, .int .u64 f.code, .int .u64 f.seq, .int .u64 f.prior, .int .u64 f.delay, .bool f.fin, .string ⟨f.data.toArray⟩, .string ⟨f.cid.toArray⟩, .string ⟨f.token.toArray⟩, .slice f.set.a f.set.n f.set.c] 26 (0, 0)))) := Lib.hid ((Below.refl w.heap.size w).alloc (Nat.le_refl _) _)
  clear ht hlb
  go_enter Tryd.func5, Tryd.ntmps5
  go_wp2_with fail
  refine (CB.out _).mono ?_
  rintro e w1 ⟨rfl, hb⟩
  have HB1 := Lib.hid (HB0.out.trans (hb.mono (by simp)))
  have HT1 := Lib.hid (HT.out.below HB1.out HT.out.lt)
  clear hb
  go_wp2_with fail
  refine (CS.out _ HT1.out).mono ?_
  rintro e w2 ⟨rfl, hb⟩
  have HB2 := Lib.hid (HB1.out.trans (hb.mono HB1.out.size))
  clear hb
  go_wp2
  go_ret
  exact ⟨rfl, HB2.out⟩
theorem law_back (k id off max code seq prior delay : Int) (fin : Bool) (data cid token : List UInt8) (a : Option Addr) (n cap : Nat) (l : List Ran) (s : List UInt8) (w : World) (ht : Tab w) (w0 : (Lit.int .u64 k).wf = true) (w1 : (Lit.int .u64 id).wf = true) (w2 : (Lit.int .u64 off).wf = true) (w3 : (Lit.int .u64 max).wf = true) (w4 : (Lit.int .u64 code).wf = true) (w5 : (Lit.int .u64 seq).wf = true) (w6 : (Lit.int .u64 prior).wf = true) (w7 : (Lit.int .u64 delay).wf = true) (w9 : (⟨data.toArray⟩ : ByteArray).size ≤ maxLen) (w10 : (⟨cid.toArray⟩ : ByteArray).size ≤ maxLen) (w11 : (⟨token.toArray⟩ : ByteArray).size ≤ maxLen) (hn : l.length = n) (hm : n ≤ maxLen) (hrd : Rd w (.slice a n cap) l) (hu : Nums l) (ws : (⟨s.toArray⟩ : ByteArray).size ≤ maxLen) :
    Calls Tryd.prog 5 #[.agg #[.int .u64 k, .int .u64 id, .int .u64 off, .int .u64 max, .int .u64 code, .int .u64 seq, .int .u64 prior, .int .u64 delay, .bool fin, .string ⟨data.toArray⟩, .string ⟨cid.toArray⟩, .string ⟨token.toArray⟩, .slice a n cap], .string ⟨s.toArray⟩] w fun e w' => e = .returned (.bool true) ∧ Below w.heap.size w w' := by
  by_cases hlb : lbB ⟨k, id, off, max, code, seq, prior, delay, fin, data, cid, token, ⟨a, n, cap⟩⟩ = true
  · by_cases hs : (s.length : Int) ≤ 1500
    · have hf := fit_arg k id off max code seq prior delay fin data cid token a n cap l w w0 w1 w2 w3 w4 w5 w6 w7 w9 w10 w11 hn hm hrd hu
      by_cases hmf : mayF k.toNat ⟨k, id, off, max, code, seq, prior, delay, fin, data, cid, token, ⟨a, n, cap⟩⟩ (ints (rsOf l)) = true
      · match hg : getN s with
        | none => exact back_10 ⟨k, id, off, max, code, seq, prior, delay, fin, data, cid, token, ⟨a, n, cap⟩⟩ k.toNat (rsOf l) s w ht hf hlb hs hmf hg
        | some (g, qs, r) => exact back_11 ⟨k, id, off, max, code, seq, prior, delay, fin, data, cid, token, ⟨a, n, cap⟩⟩ k.toNat (rsOf l) s w ht hf hlb hs hmf g qs r hg
      · have hmf : mayF k.toNat ⟨k, id, off, max, code, seq, prior, delay, fin, data, cid, token, ⟨a, n, cap⟩⟩ (ints (rsOf l)) = false := by simpa using hmf
        match hg : getN s with
        | none => exact back_00 ⟨k, id, off, max, code, seq, prior, delay, fin, data, cid, token, ⟨a, n, cap⟩⟩ k.toNat (rsOf l) s w ht hf hlb hs hmf hg
        | some (g, qs, r) => exact back_01 ⟨k, id, off, max, code, seq, prior, delay, fin, data, cid, token, ⟨a, n, cap⟩⟩ k.toNat (rsOf l) s w ht hf hlb hs hmf g qs r hg
    · refine back_out2 ⟨k, id, off, max, code, seq, prior, delay, fin, data, cid, token, ⟨a, n, cap⟩⟩ s w ht hlb hs ?_
      have : s.length ≤ maxLen := ws
      unfold maxLen at this
      omega
  · exact back_out1 ⟨k, id, off, max, code, seq, prior, delay, fin, data, cid, token, ⟨a, n, cap⟩⟩ s w ht (by simpa using hlb)
end Go.Proofs.YteelcihgbjhnbaaDoor.Fm
