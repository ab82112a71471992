/- The walks of layer 4: a long header's parts are read -/
import Derived.Test.YtojoalmldapboaaGreatDoorJa25
import Derived.Deep.RegionWith
namespace Go.Proofs.YtojoalmldapboaaGreatDoor.Hd
set_option maxRecDepth 20000
open Go.RowKit Vm
set_option linter.unusedVariables false

/-- A text behind a byte of its length, and one behind a number of it, as the program reads them. -/
def rdId (st : St) : List UInt8 := (st.skip 1).take (bk (st.take 1))
def rdIdS (st : St) : St := (st.skip 1).skip (bk (st.take 1))
def rdTok (st : St) : List UInt8 := st.vs.take st.vn
def rdTokS (st : St) : St := st.vs.skip st.vn
theorem bk4 (l : List UInt8) (h : l.length ≤ 4) : (0:Int) ≤ (bk l : Nat) ∧ ((bk l : Nat) : Int) ≤ 4294967295 := by
  have h1 := bk_lt l
  have h2 : 256 ^ l.length ≤ 256 ^ 4 := Nat.pow_le_pow_right (by decide) h
  omega
theorem rdIdS_len (st : St) : (rdIdS st).s.length ≤ st.s.length := Nat.le_trans (St.skip_len _ _) (St.skip_len _ _)
theorem rdTokS_len (st : St) : (rdTokS st).s.length ≤ st.s.length := Nat.le_trans (St.skip_len _ _) (St.vs_len _)
theorem t48 : ∀ n : Nat, n < 256 → (bits .and .u8 (n : Int) 48 / 16 = ((n / 16 % 4 : Nat) : Int) ∧ (0:Int) ≤ bits .and .u8 (n : Int) 48 ∧ bits .and .u8 (n : Int) 48 ≤ 48) := by decide +kernel
/-- The contracts, what is read under names. -/
theorem takeE (b : Nat) (st st' : St) (v : List UInt8) (x2 x3 x4 x5 x6 x7 x8 x9 xa xb xc xd : Value) (n : Nat) (w : World) (e : Hid (st.take n = v ∧ st.skip n = st')) (h : Hid (Blk b st x2 x3 x4 x5 x6 x7 x8 x9 xa xb xc xd w)) (hl : st.s.length ≤ 9223372036854775807) :
    Calls Tryz.prog 154 #[.pointer (some ⟨b, 0, none⟩), .int .u64 n] w fun e w' => e = .returned (.string ⟨v.toArray⟩) ∧ Blk b st' x2 x3 x4 x5 x6 x7 x8 x9 xa xb xc xd w' ∧ Below b w w' := by
  obtain ⟨rfl, rfl⟩ := e.out
  exact take_any b st x2 x3 x4 x5 x6 x7 x8 x9 xa xb xc xd n w h.out hl
theorem numberE1 (b : Nat) (st st' : St) (n : Nat) (x2 x3 x4 x5 x6 x7 x8 x9 xa xb xc xd : Value) (w : World) (e : Hid (bk (st.take 1) = n ∧ st.skip 1 = st')) (h : Hid (Blk b st x2 x3 x4 x5 x6 x7 x8 x9 xa xb xc xd w)) (hl : st.s.length ≤ 9223372036854775807) :
    Calls Tryz.prog 152 #[.pointer (some ⟨b, 0, none⟩), .int .i64 1] w fun e w' => e = .returned (.int .u64 (n : Nat)) ∧ Blk b st' x2 x3 x4 x5 x6 x7 x8 x9 xa xb xc xd w' ∧ Below b w w' := by
  obtain ⟨rfl, rfl⟩ := e.out
  exact number_1 b st x2 x3 x4 x5 x6 x7 x8 x9 xa xb xc xd w h.out hl
theorem numberE4 (b : Nat) (st st' : St) (n : Nat) (x2 x3 x4 x5 x6 x7 x8 x9 xa xb xc xd : Value) (w : World) (e : Hid (bk (st.take 4) = n ∧ st.skip 4 = st')) (h : Hid (Blk b st x2 x3 x4 x5 x6 x7 x8 x9 xa xb xc xd w)) (hl : st.s.length ≤ 9223372036854775807) :
    Calls Tryz.prog 152 #[.pointer (some ⟨b, 0, none⟩), .int .i64 4] w fun e w' => e = .returned (.int .u64 (n : Nat)) ∧ Blk b st' x2 x3 x4 x5 x6 x7 x8 x9 xa xb xc xd w' ∧ Below b w w' := by
  obtain ⟨rfl, rfl⟩ := e.out
  exact number_4 b st x2 x3 x4 x5 x6 x7 x8 x9 xa xb xc xd w h.out hl
theorem varintE (b : Nat) (st st' : St) (n : Nat) (x2 x3 x4 x5 x6 x7 x8 x9 xa xb xc xd : Value) (w : World) (e : Hid (st.vn = n ∧ st.vs = st')) (ht : Hid (Tab w)) (h : Hid (Blk b st x2 x3 x4 x5 x6 x7 x8 x9 xa xb xc xd w)) (hl : st.s.length ≤ 9223372036854775807) :
    Calls Tryz.prog 173 #[.pointer (some ⟨b, 0, none⟩)] w fun e w' => e = .returned (.int .u64 (n : Nat)) ∧ Blk b st' x2 x3 x4 x5 x6 x7 x8 x9 xa xb xc xd w' ∧ Below b w w' := by
  obtain ⟨rfl, rfl⟩ := e.out
  exact varint_any b st x2 x3 x4 x5 x6 x7 x8 x9 xa xb xc xd w ht.out h.out hl
set_option maxHeartbeats 4000000 in
theorem readLong_0c (b n : Nat)  (s0 s1 s2 s3 s4 s5 s6 s7 s8 : St) (n4 n1 n2 n3 n8 : Nat) (v7 v8 v9 : List UInt8) (E4 : Hid (bk (s0.take 4) = n4 ∧ s0.skip 4 = s1)) (E1 : Hid (bk (s1.take 1) = n1 ∧ s1.skip 1 = s2)) (E2 : Hid (s2.take n1 = v7 ∧ s2.skip n1 = s3)) (E3 : Hid (bk (s3.take 1) = n2 ∧ s3.skip 1 = s4)) (E5 : Hid (s4.take n2 = v8 ∧ s4.skip n2 = s5)) (E6 : Hid (s5.vn = n3 ∧ s5.vs = s6)) (E7 : Hid (s6.take n3 = v9 ∧ s6.skip n3 = s7)) (E8 : Hid (s7.vn = n8 ∧ s7.vs = s8)) (hl0 : s0.s.length ≤ 9223372036854775807) (hl1 : s1.s.length ≤ 9223372036854775807) (hl2 : s2.s.length ≤ 9223372036854775807) (hl3 : s3.s.length ≤ 9223372036854775807) (hl4 : s4.s.length ≤ 9223372036854775807) (hl5 : s5.s.length ≤ 9223372036854775807) (hl6 : s6.s.length ≤ 9223372036854775807) (hl7 : s7.s.length ≤ 9223372036854775807) (hv0 : (0:Int) ≤ (n4 : Nat)) (hv1 : ((n4 : Nat) : Int) ≤ 4294967295) (x2 x3 x4 x5 x6 x7 x8 x9 xa xb xc : Value) (w : World) (HT : Hid (Tab w)) (A1 : Hid (bits .and .u8 (n : Int) 48 / 16 = 0)) (a1 : (0:Int) ≤ bits .and .u8 (n : Int) 48 ∧ bits .and .u8 (n : Int) 48 ≤ 48) (h : Blk b s0 x2 x3 x4 x5 x6 x7 x8 x9 xa xb xc (.int .u8 n) w) (hB : 0 < b) :
    Calls Tryz.prog 153 #[.pointer (some ⟨b, 0, none⟩)] w fun e w' => e = .returned (.tuple #[]) ∧ Blk b s8 x2 x3 x4 (.int .i64 0) (.int .u32 (n4 : Nat)) (.string ⟨v7.toArray⟩) (.string ⟨v8.toArray⟩) (.string ⟨v9.toArray⟩) (.int .u64 (n8 : Nat)) xb xc (.int .u8 n) w' ∧ Below b w w' := by
  have cd : w.cell? ⟨b, 13, none⟩ = some (.int .u8 n) := h.cell 13
  have c5 := h.cell 5
  have f5 : w.frozen? ⟨b, 5, none⟩ = false := h.fz 5
  have HB := Lib.hid ((Below.refl b w).setCell (p := ⟨b, 5, none⟩) (Nat.le_refl _) (.int .i64 0))
  have H := Lib.hid (h.set5 (.int .i64 0))
  clear h
  simp only [List.getElem?_toArray, List.getElem?_cons_succ, List.getElem?_cons_zero] at c5
  go_enter Tryz.func153, Tryz.ntmps153
  go_wp2_with fail
  rw [A1.out]
  refine (numberE4 b s0 s1 n4 _ _ _ _ _ _ _ _ _ _ _ _ _ E4 H hl0).mono ?_
  clear cd c5 f5
  rintro e w1 ⟨rfl, h1, hb1⟩
  have c6 : w1.cell? ⟨b, 6, none⟩ = some x6 := h1.cell 6
  have f6 := h1.fz 6
  replace HB := Lib.hid ((HB.out.trans hb1).setCell (p := ⟨b, 6, none⟩) (Nat.le_refl _) (.int .u32 n4))
  replace H := Lib.hid (h1.set6 (.int .u32 n4))
  clear h1 hb1
  go_wp2_with fail
  clear c6 f6
  have HD := Lib.hid H.out.drew
  have HBD := Lib.hid (below_drew HB.out)
  go_region_with (first | (go_at_call 152; (with_reducible refine (numberE1 b s1 s2 n1 _ _ _ _ _ _ _ _ _ _ _ _ _ E1 HD hl1).mono ?_); rintro e w2 ⟨rfl, h2, hb2⟩; have H2 := Lib.hid h2; clear h2) | (go_at_call 154; (with_reducible refine (takeE b s2 s3 v7 _ _ _ _ _ _ _ _ _ _ _ _ n1 _ E2 H2 hl2).mono ?_); rintro e w3 ⟨rfl, h3, hb3⟩; replace HB := Lib.hid (((HBD.out.trans hb2).trans hb3).setCell (p := ⟨b, 7, none⟩) (Nat.le_refl _) (.string ⟨v7.toArray⟩)); replace H := Lib.hid (h3.set7 (.string ⟨v7.toArray⟩)); have c7 := h3.cell 7; have f7 := h3.fz 7; simp only [List.getElem?_toArray, List.getElem?_cons_succ, List.getElem?_cons_zero] at c7; clear h3 hb2 hb3))
  clear H2 c7 f7 HD HBD
  generalize w3.setCell _ _ = W3 at H HB ⊢
  clear A1
  go_wp2_with fail
  have HD := Lib.hid H.out.drew
  have HBD := Lib.hid (below_drew HB.out)
  go_region_with (first | (go_at_call 152; (with_reducible refine (numberE1 b s3 s4 n2 _ _ _ _ _ _ _ _ _ _ _ _ _ E3 HD hl3).mono ?_); rintro e w4 ⟨rfl, h4, hb4⟩; have H4 := Lib.hid h4; clear h4) | (go_at_call 154; (with_reducible refine (takeE b s4 s5 v8 _ _ _ _ _ _ _ _ _ _ _ _ n2 _ E5 H4 hl4).mono ?_); rintro e w5 ⟨rfl, h5, hb5⟩; replace HB := Lib.hid (((HBD.out.trans hb4).trans hb5).setCell (p := ⟨b, 8, none⟩) (Nat.le_refl _) (.string ⟨v8.toArray⟩)); replace H := Lib.hid (h5.set8 (.string ⟨v8.toArray⟩)); have c8 := h5.cell 8; have f8 := h5.fz 8; simp only [List.getElem?_toArray, List.getElem?_cons_succ, List.getElem?_cons_zero] at c8; clear h5 hb4 hb5))
  clear H4 c8 f8 HD HBD
  generalize w5.setCell _ _ = W5 at H HB ⊢
  have c5 := H.out.cell 5
  simp only [List.getElem?_toArray, List.getElem?_cons_succ, List.getElem?_cons_zero] at c5
  go_wp2_with fail
  clear c5
  have HD := Lib.hid H.out.drew
  have HBD := Lib.hid (below_drew HB.out)
  have HT2 := Lib.hid (HT.out.below HB.out hB).drew
  go_region_with (first | (go_at_call 173; (with_reducible refine (varintE b s5 s6 n3 _ _ _ _ _ _ _ _ _ _ _ _ _ E6 HT2 HD hl5).mono ?_); rintro e w6 ⟨rfl, h6, hb6⟩; have H6 := Lib.hid h6; clear h6) | (go_at_call 154; (with_reducible refine (takeE b s6 s7 v9 _ _ _ _ _ _ _ _ _ _ _ _ n3 _ E7 H6 hl6).mono ?_); rintro e w7 ⟨rfl, h7, hb7⟩; replace HB := Lib.hid (((HBD.out.trans hb6).trans hb7).setCell (p := ⟨b, 9, none⟩) (Nat.le_refl _) (.string ⟨v9.toArray⟩)); replace H := Lib.hid (h7.set9 (.string ⟨v9.toArray⟩)); have c9 := h7.cell 9; have f9 := h7.fz 9; simp only [List.getElem?_toArray, List.getElem?_cons_succ, List.getElem?_cons_zero] at c9; clear h7 hb6 hb7))
  clear H6 c9 f9 HD HBD
  clear HT2
  generalize w7.setCell _ _ = W7 at H HB ⊢
  go_wp2_with fail
  have HT3 := Lib.hid (HT.out.below HB.out hB)
  refine (varintE b s7 s8 n8 _ _ _ _ _ _ _ _ _ _ _ _ _ E8 HT3 H hl7).mono ?_
  rintro e w8 ⟨rfl, h8, hb8⟩
  have ca := h8.cell 10
  have fa := h8.fz 10
  simp only [List.getElem?_toArray, List.getElem?_cons_succ, List.getElem?_cons_zero] at ca
  replace HB := Lib.hid ((HB.out.trans hb8).setCell (p := ⟨b, 10, none⟩) (Nat.le_refl _) (.int .u64 n8))
  replace H := Lib.hid (h8.set10 (.int .u64 n8))
  clear h8 hb8
  go_wp2
  go_end0
  exact ⟨rfl, H.out, HB.out⟩
set_option maxHeartbeats 4000000 in
theorem readLong_nc (b n : Nat) (t : Int) (t1 : 0 < t) (t2 : t ≤ 3) (s0 s1 s2 s3 s4 s5 s8 : St) (n4 n1 n2 n8 : Nat) (v7 v8 : List UInt8) (E4 : Hid (bk (s0.take 4) = n4 ∧ s0.skip 4 = s1)) (E1 : Hid (bk (s1.take 1) = n1 ∧ s1.skip 1 = s2)) (E2 : Hid (s2.take n1 = v7 ∧ s2.skip n1 = s3)) (E3 : Hid (bk (s3.take 1) = n2 ∧ s3.skip 1 = s4)) (E5 : Hid (s4.take n2 = v8 ∧ s4.skip n2 = s5)) (E8 : Hid (s5.vn = n8 ∧ s5.vs = s8)) (hl0 : s0.s.length ≤ 9223372036854775807) (hl1 : s1.s.length ≤ 9223372036854775807) (hl2 : s2.s.length ≤ 9223372036854775807) (hl3 : s3.s.length ≤ 9223372036854775807) (hl4 : s4.s.length ≤ 9223372036854775807) (hl5 : s5.s.length ≤ 9223372036854775807) (hv0 : (0:Int) ≤ (n4 : Nat)) (hv1 : ((n4 : Nat) : Int) ≤ 4294967295) (x2 x3 x4 x5 x6 x7 x8 x9 xa xb xc : Value) (w : World) (HT : Hid (Tab w)) (A1 : Hid (bits .and .u8 (n : Int) 48 / 16 = t)) (a1 : (0:Int) ≤ bits .and .u8 (n : Int) 48 ∧ bits .and .u8 (n : Int) 48 ≤ 48) (h : Blk b s0 x2 x3 x4 x5 x6 x7 x8 x9 xa xb xc (.int .u8 n) w) (hB : 0 < b) :
    Calls Tryz.prog 153 #[.pointer (some ⟨b, 0, none⟩)] w fun e w' => e = .returned (.tuple #[]) ∧ Blk b s8 x2 x3 x4 (.int .i64 t) (.int .u32 (n4 : Nat)) (.string ⟨v7.toArray⟩) (.string ⟨v8.toArray⟩) x9 (.int .u64 (n8 : Nat)) xb xc (.int .u8 n) w' ∧ Below b w w' := by
  have cd : w.cell? ⟨b, 13, none⟩ = some (.int .u8 n) := h.cell 13
  have c5 := h.cell 5
  have f5 : w.frozen? ⟨b, 5, none⟩ = false := h.fz 5
  have HB := Lib.hid ((Below.refl b w).setCell (p := ⟨b, 5, none⟩) (Nat.le_refl _) (.int .i64 t))
  have H := Lib.hid (h.set5 (.int .i64 t))
  clear h
  simp only [List.getElem?_toArray, List.getElem?_cons_succ, List.getElem?_cons_zero] at c5
  go_enter Tryz.func153, Tryz.ntmps153
  go_wp2_with fail
  rw [A1.out]
  refine (numberE4 b s0 s1 n4 _ _ _ _ _ _ _ _ _ _ _ _ _ E4 H hl0).mono ?_
  clear cd c5 f5
  rintro e w1 ⟨rfl, h1, hb1⟩
  have c6 : w1.cell? ⟨b, 6, none⟩ = some x6 := h1.cell 6
  have f6 := h1.fz 6
  replace HB := Lib.hid ((HB.out.trans hb1).setCell (p := ⟨b, 6, none⟩) (Nat.le_refl _) (.int .u32 n4))
  replace H := Lib.hid (h1.set6 (.int .u32 n4))
  clear h1 hb1
  go_wp2_with fail
  clear c6 f6
  have HD := Lib.hid H.out.drew
  have HBD := Lib.hid (below_drew HB.out)
  go_region_with (first | (go_at_call 152; (with_reducible refine (numberE1 b s1 s2 n1 _ _ _ _ _ _ _ _ _ _ _ _ _ E1 HD hl1).mono ?_); rintro e w2 ⟨rfl, h2, hb2⟩; have H2 := Lib.hid h2; clear h2) | (go_at_call 154; (with_reducible refine (takeE b s2 s3 v7 _ _ _ _ _ _ _ _ _ _ _ _ n1 _ E2 H2 hl2).mono ?_); rintro e w3 ⟨rfl, h3, hb3⟩; replace HB := Lib.hid (((HBD.out.trans hb2).trans hb3).setCell (p := ⟨b, 7, none⟩) (Nat.le_refl _) (.string ⟨v7.toArray⟩)); replace H := Lib.hid (h3.set7 (.string ⟨v7.toArray⟩)); have c7 := h3.cell 7; have f7 := h3.fz 7; simp only [List.getElem?_toArray, List.getElem?_cons_succ, List.getElem?_cons_zero] at c7; clear h3 hb2 hb3))
  clear H2 c7 f7 HD HBD
  generalize w3.setCell _ _ = W3 at H HB ⊢
  clear A1
  go_wp2_with fail
  have HD := Lib.hid H.out.drew
  have HBD := Lib.hid (below_drew HB.out)
  go_region_with (first | (go_at_call 152; (with_reducible refine (numberE1 b s3 s4 n2 _ _ _ _ _ _ _ _ _ _ _ _ _ E3 HD hl3).mono ?_); rintro e w4 ⟨rfl, h4, hb4⟩; have H4 := Lib.hid h4; clear h4) | (go_at_call 154; (with_reducible refine (takeE b s4 s5 v8 _ _ _ _ _ _ _ _ _ _ _ _ n2 _ E5 H4 hl4).mono ?_); rintro e w5 ⟨rfl, h5, hb5⟩; replace HB := Lib.hid (((HBD.out.trans hb4).trans hb5).setCell (p := ⟨b, 8, none⟩) (Nat.le_refl _) (.string ⟨v8.toArray⟩)); replace H := Lib.hid (h5.set8 (.string ⟨v8.toArray⟩)); have c8 := h5.cell 8; have f8 := h5.fz 8; simp only [List.getElem?_toArray, List.getElem?_cons_succ, List.getElem?_cons_zero] at c8; clear h5 hb4 hb5))
  clear H4 c8 f8 HD HBD
  generalize w5.setCell _ _ = W5 at H HB ⊢
  have c5 := H.out.cell 5
  simp only [List.getElem?_toArray, List.getElem?_cons_succ, List.getElem?_cons_zero] at c5
  go_wp2_with fail
  clear c5
  have HT3 := Lib.hid (HT.out.below HB.out hB)
  refine (varintE b s5 s8 n8 _ _ _ _ _ _ _ _ _ _ _ _ _ E8 HT3 H hl5).mono ?_
  rintro e w8 ⟨rfl, h8, hb8⟩
  have ca := h8.cell 10
  have fa := h8.fz 10
  simp only [List.getElem?_toArray, List.getElem?_cons_succ, List.getElem?_cons_zero] at ca
  replace HB := Lib.hid ((HB.out.trans hb8).setCell (p := ⟨b, 10, none⟩) (Nat.le_refl _) (.int .u64 n8))
  replace H := Lib.hid (h8.set10 (.int .u64 n8))
  clear h8 hb8
  go_wp2
  go_end0
  exact ⟨rfl, H.out, HB.out⟩

/-- readLong: what it reads, of the first byte and of what is left. -/
def lgTy (n : Nat) : Nat := n / 16 % 4
def lgTok (n : Nat) (st : St) : List UInt8 := if lgTy n = 0 then rdTok (rdIdS (rdIdS (st.skip 4))) else []
def lgSt (n : Nat) (st : St) : St := if lgTy n = 0 then rdTokS (rdIdS (rdIdS (st.skip 4))) else rdIdS (rdIdS (st.skip 4))
theorem readLong_any (b n : Nat) (st : St) (x2 x3 x4 x5 x6 x7 x8 xa xb xc : Value) (w : World) (ht : Tab w) (h : Blk b st x2 x3 x4 x5 x6 x7 x8 (.string ⟨#[]⟩) xa xb xc (.int .u8 n) w) (hl : st.s.length ≤ 9223372036854775807) (hn : n < 256) (hB : 0 < b) :
    Calls Tryz.prog 153 #[.pointer (some ⟨b, 0, none⟩)] w fun e w' => e = .returned (.tuple #[]) ∧ Blk b (lgSt n st).vs x2 x3 x4 (.int .i64 (lgTy n : Nat)) (.int .u32 (bk (st.take 4) : Nat)) (.string ⟨(rdId (st.skip 4)).toArray⟩) (.string ⟨(rdId (rdIdS (st.skip 4))).toArray⟩) (.string ⟨(lgTok n st).toArray⟩) (.int .u64 ((lgSt n st).vn : Nat)) xb xc (.int .u8 n) w' ∧ Below b w w' := by
  have hl1 := Nat.le_trans (St.skip_len st 4) hl
  have hl2 := Nat.le_trans (St.skip_len (st.skip 4) 1) hl1
  have hl3 := Nat.le_trans (rdIdS_len (st.skip 4)) hl1
  have hl4 := Nat.le_trans (St.skip_len (rdIdS (st.skip 4)) 1) hl3
  have hl5 := Nat.le_trans (rdIdS_len (rdIdS (st.skip 4))) hl3
  have hl6 := Nat.le_trans (St.vs_len (rdIdS (rdIdS (st.skip 4)))) hl5
  have hl7 := Nat.le_trans (rdTokS_len (rdIdS (rdIdS (st.skip 4)))) hl5
  have hv := bk4 (st.take 4) (St.take_len _ _)
  by_cases h0 : lgTy n = 0
  · have e1 : lgTok n st = rdTok (rdIdS (rdIdS (st.skip 4))) := if_pos h0
    have e2 : lgSt n st = rdTokS (rdIdS (rdIdS (st.skip 4))) := if_pos h0
    rw [e1, e2, h0]
    exact readLong_0c b n st _ _ _ _ _ _ _ _ _ _ _ _ _ _ _ _ (Lib.hid ⟨rfl, rfl⟩) (Lib.hid ⟨rfl, rfl⟩) (Lib.hid ⟨rfl, rfl⟩) (Lib.hid ⟨rfl, rfl⟩) (Lib.hid ⟨rfl, rfl⟩) (Lib.hid ⟨rfl, rfl⟩) (Lib.hid ⟨rfl, rfl⟩) (Lib.hid ⟨rfl, rfl⟩) hl hl1 hl2 hl3 hl4 hl5 hl6 hl7 hv.1 hv.2 x2 x3 x4 x5 x6 x7 x8 (.string ⟨#[]⟩) xa xb xc w (Lib.hid ht) (Lib.hid (by rw [(t48 n hn).1]; unfold lgTy at h0; rw [h0]; rfl)) (t48 n hn).2 h hB
  · have e1 : lgTok n st = [] := if_neg h0
    have e2 : lgSt n st = rdIdS (rdIdS (st.skip 4)) := if_neg h0
    rw [e1, e2]
    exact readLong_nc b n (lgTy n : Nat) (by omega) (by unfold lgTy; omega) st _ _ _ _ _ _ _ _ _ _ _ _ (Lib.hid ⟨rfl, rfl⟩) (Lib.hid ⟨rfl, rfl⟩) (Lib.hid ⟨rfl, rfl⟩) (Lib.hid ⟨rfl, rfl⟩) (Lib.hid ⟨rfl, rfl⟩) (Lib.hid ⟨rfl, rfl⟩) hl hl1 hl2 hl3 hl4 hl5 hv.1 hv.2 x2 x3 x4 x5 x6 x7 x8 (.string ⟨#[]⟩) xa xb xc w (Lib.hid ht) (Lib.hid (t48 n hn).1) (t48 n hn).2 h hB
end Go.Proofs.YtojoalmldapboaaGreatDoor.Hd
