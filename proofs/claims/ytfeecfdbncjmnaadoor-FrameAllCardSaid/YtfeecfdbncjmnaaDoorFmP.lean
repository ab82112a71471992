/- The walks of layer 6: reader.ack's panicking ways. By tools/gen-frame-9.py. -/
import Derived.Test.YtfeecfdbncjmnaaDoorFmN
import Derived.Test.YtfeecfdbncjmnaaDoorBld
import Derived.Lib.AppendZeros
namespace Go.Proofs.YtfeecfdbncjmnaaDoor.Fm
set_option maxRecDepth 20000
open Go.RowKit Vm
set_option linter.unusedVariables false
set_option linter.unusedSimpArgs false

theorem infoP : (Tryd.prog.info? 54).map (fun i => (i.zero, i.size, i.bytes)) = some (some (.agg #[.int .u64 0, .int .u64 0]), 2, 16) := by kernel_rfl
theorem push_P (w : World) (B g c : Nat) (l : List (Nat × Nat)) (p : Nat × Nat) (ty : TypeId) (h : OwnP w B g c l) (hl : l.length ≤ 1000) (hb : B ≤ w.heap.size) :
    ∃ g' c' w', (Builtin.append_ #[25, 25] ty #[.slice (some ⟨g, 0, none⟩) l.length c, .slice (some ⟨w.heap.size, 0, none⟩) 1 1]).run Tryd.prog (w.alloc (.cells #[.int .u64 p.1, .int .u64 p.2] 54)) = .ok (.slice (some ⟨g', 0, none⟩) (l ++ [p]).length c') w' ∧ OwnP w' B g' c' (l ++ [p]) ∧ Below B w w' := by
  obtain ⟨i0, hi, hz0, hz1, hz2⟩ := info_parts infoP
  have ho := World.ownsRow.alloc h (.cells #[.int .u64 p.1, .int .u64 p.2] 54)
  obtain ⟨v', w', hr, h1, h2, h3⟩ := run_append_own (P := Tryd.prog) (w.alloc (.cells #[.int .u64 p.1, .int .u64 p.2] 54)) B 25 ty 54 i0 (.agg #[.int .u64 0, .int .u64 0]) 2 16 Tryd.underlying25 hi hz0 hz1 hz2 rfl (by decide) _ l.length (flatV l) ho ⟨w.heap.size, 0, none⟩ 1 1 [.int .u64 p.1, .int .u64 p.2] rfl
    (by
      intro j u hu
      have e : (⟨w.heap.size, 0, none⟩ : Addr).add j = ⟨w.heap.size, j, none⟩ := by unfold Addr.add; split <;> simp_all
      rw [e, cell_of_row _ _ _ _ _ _ (heap_alloc_new w _), ← hu]
      simp) (by intro u hu; simp only [List.mem_cons, List.not_mem_nil, or_false] at hu; rcases hu with rfl | rfl <;> rfl) (by unfold maxLen; omega) (by omega) (by simp; omega)
  have e : flatV (l ++ [p]) = flatV l ++ [.int .u64 p.1, .int .u64 p.2] := by rw [flatV_app]; rfl
  obtain ⟨g', c', rfl⟩ : ∃ g' c', v' = .slice (some ⟨g', 0, none⟩) (l.length + 1) c' := by
    rcases h1.2 with ⟨_, h⟩ | ⟨g, cap, cur, hv, _⟩
    · omega
    · exact ⟨g, cap, hv⟩
  refine ⟨g', c', w', by rw [List.length_append]; exact hr, ?_, ?_⟩
  · unfold OwnP
    rw [e, List.length_append]
    exact h1
  · exact ((Below.refl _ _).alloc hb _).grown h2 (by simp; omega) (fun k hk => by cases hk; exact h.lt.1)
theorem OwnP.only {w w' : World} {B g c : Nat} {l : List (Nat × Nat)} {O : Nat → Prop} (h : OwnP w B g c l) (ho : It.Only O w w') (hn : ¬ O g) : OwnP w' B g c l := by
  have hlt := h.lt.2
  rcases h.2 with ⟨hv, _⟩ | ⟨g', cap, cur, hv, hb, hg, r⟩
  · cases hv
  · simp only [Value.slice.injEq, Option.some.injEq, Addr.mk.injEq, and_true, true_and] at hv
    obtain ⟨rfl, rfl⟩ := hv
    exact ⟨h.1, .inr ⟨g, c, cur, rfl, hb, (ho.block g hlt hn).trans hg, r⟩⟩
theorem OwnP.new (w : World) (B : Nat) (p : Nat × Nat) (hb : B ≤ w.heap.size) : OwnP (w.alloc (.cells #[.int .u64 p.1, .int .u64 p.2] 54)) B w.heap.size 1 [p] :=
  World.ownsRow_lit (e := 54) (size := 2) w #[.int .u64 p.1, .int .u64 p.2] 1 hb (by decide) rfl
theorem tab_only' {O : Nat → Prop} {w w' : World} (h : Tab w) (ho : It.Only O w w') (hn : ¬ O 0) : Tab w' :=
  ⟨ho.cell h.1 hn, ho.cell h.2.1 hn, ho.cell h.2.2.1 hn, ho.cell h.2.2.2 hn⟩
theorem tab_ne' {b : Nat} {l : List UInt8} {f : Frm} {w : World} (ht : Tab w) (h : FBk b l f w) : b ≠ 0 := fun e => by
  subst e
  have h1 := h.cell0
  rw [ht.1] at h1
  cases h1

theorem vt_lt {l : List UInt8} {n : Nat} {r : List UInt8} (h : vt l = some (n, r)) : n < 4611686018427387904 := by
  obtain ⟨h1, h2, _⟩ := vt_some h
  rw [← h2, (g_ok h1).1]
  unfold gn
  have hk : gk l ≤ 8 := by
    cases l with
    | nil => decide
    | cons b t =>
      show gw b ≤ 8
      unfold gw wd
      have := b.toNat_lt
      have : b.toNat / 64 = 0 ∨ b.toNat / 64 = 1 ∨ b.toNat / 64 = 2 ∨ b.toNat / 64 = 3 := by omega
      rcases this with e | e | e | e <;> rw [e] <;> decide
  have h3 : 2 ^ (8 * gk l - 2) ≤ 2 ^ 62 := Nat.pow_le_pow_right (by decide) (by omega)
  have h4 := Nat.mod_lt (bk (l.take (gk l))) (Nat.two_pow_pos (8 * gk l - 2))
  omega
theorem varint_vt (b : Nat) (l : List UInt8) (f : Frm) (n : Nat) (r : List UInt8) (w : World) (ht : Tab w) (h : FBk b l f w) (hl : l.length ≤ 100000) (hv : vt l = some (n, r)) :
    Calls Tryd.prog 55 #[.pointer (some ⟨b, 0, none⟩)] w fun e w' => e = .returned (.int .u64 n) ∧ FBk b r f w' ∧ It.Only (fun k => k = b) w w' := by
  obtain ⟨h1, h2, h3⟩ := vt_some hv
  have := varint_ok b l f w ht h (by omega) h1
  rw [h2, h3] at this
  exact this
set_option maxHeartbeats 8000000 in
theorem ack_yes (b : Nat) (l : List UInt8) (f : Frm) (w : World) (ht : Tab w) (h : FBk b l f w) (hl : l.length ≤ 100000) (delay : Nat) (rs : List (Nat × Nat)) (l5 : List UInt8) (hr : ackN l = some (delay, rs, l5)) :
    Calls Tryd.prog 53 #[.pointer (some ⟨b, 0, none⟩)] w fun e w' => e = .returned (.tuple #[]) ∧ ∃ g c, FBk b l5 { f with delay := (delay : Nat), set := ⟨some ⟨g, 0, none⟩, rs.length, c⟩ } w' ∧ OwnP w' w.heap.size g c rs ∧ It.Only (fun k => k = b) w w' := by
  unfold ackN at hr
  match h1 : vt l with
  | none => rw [h1] at hr; cases hr
  | some (hi, l1) =>
  rw [h1] at hr
  simp only at hr
  match h2 : vt l1 with
  | none => rw [h2] at hr; cases hr
  | some (dl, l2) =>
  rw [h2] at hr
  simp only at hr
  match h3 : vt l2 with
  | none => rw [h3] at hr; cases hr
  | some (more, l3) =>
  rw [h3] at hr
  simp only at hr
  split at hr
  · cases hr
  rename_i hmore
  match h4 : vt l3 with
  | none => rw [h4] at hr; cases hr
  | some (d, l4) =>
  rw [h4] at hr
  simp only at hr
  split at hr
  · cases hr
  rename_i hd
  match h5 : ackG more (hi - d) [(hi - d, hi)] l4 with
  | none => rw [h5] at hr; cases hr
  | some (acc, l6) =>
  rw [h5] at hr
  simp only [Option.some.injEq, Prod.mk.injEq] at hr
  obtain ⟨rfl, rfl, rfl⟩ := hr
  have hl1 := vt_len h1
  have hl2 := vt_len h2
  have hl3 := vt_len h3
  have hl4 := vt_len h4
  have n1 := vt_lt h1
  have n4 := vt_lt h4
  have n2 := vt_lt h2
  have V1 := Lib.hid (fun W f' (ht : Tab W) (h : FBk b l f' W) => varint_vt b l f' hi l1 W ht h (by omega) h1)
  have V2 := Lib.hid (fun W f' (ht : Tab W) (h : FBk b l1 f' W) => varint_vt b l1 f' dl l2 W ht h (by omega) h2)
  have V3 := Lib.hid (fun W f' (ht : Tab W) (h : FBk b l2 f' W) => varint_vt b l2 f' more l3 W ht h (by omega) h3)
  have V4 := Lib.hid (fun W f' (ht : Tab W) (h : FBk b l3 f' W) => varint_vt b l3 f' d l4 W ht h (by omega) h4)
  obtain ⟨lo, hlo⟩ : ∃ lo, hi - d = lo := ⟨_, rfl⟩
  rw [hlo] at h5
  have hloi : (hi : Int) - (d : Int) = (lo : Int) := by omega
  have CB : Hid (∀ W, Calls Tryd.prog 65 #[.int .u64 hi, .int .u64 d] W fun e w' => e = .returned (.int .u64 lo) ∧ w' = W) := Lib.hid (fun W => by
    rw [← hloi]
    exact below_ok hi d W (by omega) (by omega) (by omega))
  have hmi : ¬ (32 : Int) ≤ (more : Int) := by omega
  have hbg := tab_ne' ht h
  have hbl := h.lt
  have HT := Lib.hid ht
  have HB := Lib.hid h
  have H5 := Lib.hid h5
  have hlo1 : lo < 4611686018427387904 := by omega
  have hm32 : more < 32 := by omega
  have hl4' : l4.length ≤ 100000 := by omega
  clear h1 h2 h3 h4 h5 ht h hmore hd hl1 hl2 hl3 hl4 hl hlo n1 n4
  go_enter Tryd.func53, Tryd.ntmps53
  go_wp2_with fail
  refine (V1.out _ _ HT.out HB.out).mono ?_
  rintro e w1 ⟨rfl, hb, ho⟩
  have HB1 := Lib.hid hb
  have HO1 := Lib.hid ho
  have HT1 := Lib.hid (tab_only' HT.out ho (fun e => hbg e.symm))
  clear hb ho
  go_wp2_with fail
  refine (V2.out _ _ HT1.out HB1.out).mono ?_
  rintro e w2 ⟨rfl, hb, ho⟩
  have c8 := hb.cell8
  have f8 := hb.fz 8
  have HB2 : Hid (FBk b l2 { f with delay := (dl : Nat) } (w2.setCell ⟨b, 8, none⟩ (.int .u64 dl))) := Lib.hid (hb.set8 _)
  have HO2 : Hid (It.Only (fun k => k = b) w (w2.setCell ⟨b, 8, none⟩ (.int .u64 dl))) := Lib.hid ((HO1.out.trans ho).trans (It.Only.setCell (O := fun k => k = b) (p := ⟨b, 8, none⟩) rfl _ _))
  have HT2 := Lib.hid (tab_only' HT.out HO2.out (fun e => hbg e.symm))
  clear hb ho
  go_wp2_with fail
  refine (V3.out _ _ HT2.out HB2.out).mono ?_
  rintro e w3 ⟨rfl, hb, ho⟩
  have HB3 := Lib.hid hb
  have HO3 := Lib.hid (HO2.out.trans ho)
  have HT3 := Lib.hid (tab_only' HT.out HO3.out (fun e => hbg e.symm))
  clear hb ho c8 f8
  go_wp2_with fail
  refine (V4.out _ _ HT3.out HB3.out).mono ?_
  rintro e w4 ⟨rfl, hb, ho⟩
  have c13 := hb.cell13
  have f13 := hb.fz 13
  have HB4 := Lib.hid hb
  have HO4 := Lib.hid (HO3.out.trans ho)
  have hw4 := HO4.out.size
  clear ho hb
  go_wp2_with fail
  refine (CB.out _).mono ?_
  rintro e w' ⟨rfl, hw'⟩
  rw [hw']
  clear hw' w'
  have hb4 := HB4.out.lt
  have es : (w4.setCell ⟨b, 13, none⟩ (.slice (some ⟨w4.heap.size, 0, none⟩) 1 1)).heap.size = w4.heap.size := by simp
  have HBA : Hid (FBk b l4 { f with delay := (dl : Nat), set := ⟨some ⟨w4.heap.size, 0, none⟩, 1, 1⟩ } ((w4.setCell ⟨b, 13, none⟩ (.slice (some ⟨w4.heap.size, 0, none⟩) 1 1)).alloc (.cells #[.int .u64 lo, .int .u64 hi] 54))) := Lib.hid (FBk.keep (HB4.out.set13 ⟨some ⟨w4.heap.size, 0, none⟩, 1, 1⟩) ((Below.refl _ _).alloc (Nat.le_refl _) _))
  have HPA : Hid (OwnP ((w4.setCell ⟨b, 13, none⟩ (.slice (some ⟨w4.heap.size, 0, none⟩) 1 1)).alloc (.cells #[.int .u64 lo, .int .u64 hi] 54)) w.heap.size w4.heap.size 1 [(lo, hi)]) := Lib.hid (by
    have h := OwnP.new (w4.setCell ⟨b, 13, none⟩ (.slice (some ⟨w4.heap.size, 0, none⟩) 1 1)) w.heap.size (lo, hi) (by rw [es]; exact hw4)
    rw [es] at h
    exact h)
  have HOA : Hid (It.Only (fun k => k = b) w ((w4.setCell ⟨b, 13, none⟩ (.slice (some ⟨w4.heap.size, 0, none⟩) 1 1)).alloc (.cells #[.int .u64 lo, .int .u64 hi] 54))) := Lib.hid ((HO4.out.trans (It.Only.setCell (O := fun k => k = b) (p := ⟨b, 13, none⟩) rfl _ _)).trans (It.Only.of_all ((Below.refl _ _).alloc (Nat.le_refl _) _) _))
  clear V1 V2 V3 V4 CB HB HB1 HB2 HB3 HB4 HO1 HO2 HO3 HO4 HT1 HT2 HT3 es
  go_wp2
  go_loopw [2, 4, 40] (fun hv lv cv wr => ∃ (m lo hi : Nat) (ac : List (Nat × Nat)) (l' : List UInt8) (g c : Nat), m ≤ more ∧ cv = .int .u64 (more - m : Nat) ∧ hv = .int .u64 hi ∧ lv = .int .u64 lo ∧ lo < 4611686018427387904 ∧ ac.length + m ≤ 40 ∧ l'.length ≤ 100000 ∧ ackG m lo ac l' = some (acc, l6) ∧ FBk b l' { f with delay := (dl : Nat), set := ⟨some ⟨g, 0, none⟩, ac.length, c⟩ } wr ∧ OwnP wr w.heap.size g c ac ∧ It.Only (fun k => k = b) w wr) (fun _ _ cv _ => more - (intOf cv).toNat)
  case atStart => exact ⟨more, lo, hi, [(lo, hi)], l4, w4.heap.size, 1, Nat.le_refl _, by simp, rfl, rfl, hlo1, by simp; omega, hl4', H5.out, HBA.out, HPA.out, HOA.out⟩
  case round =>
    clear HBA HPA HOA H5 c13 f13
    obtain ⟨m, lo, hi, ac, l', g, c, hm, rfl, rfl, rfl, hlo, hac, hl', hG, hB, hP, hO⟩ := hrel
    have HB := Lib.hid hB
    have HP := Lib.hid hP
    have HO := Lib.hid hO
    have hgl := hP.lt
    cases m with
    | zero =>
      simp only [ackG, Option.some.injEq, Prod.mk.injEq] at hG
      obtain ⟨rfl, rfl⟩ := hG
      have c13 := hB.cell13
      have CR := Lib.hid (reverse_own w.heap.size g c ac wr hP (by omega))
      clear hB hP hO
      go_wp2_with fail
      refine CR.out.mono ?_
      rintro e w' ⟨rfl, hp, ho⟩
      have HB6 := Lib.hid (HB.out.only ho (by intro e; omega))
      have HP6 := Lib.hid hp
      have HO6 : Hid (It.Only (fun k => k = b) w w') := Lib.hid ⟨ho.os.trans HO.out.os, ho.tape.trans HO.out.tape, ho.output.trans HO.out.output, Nat.le_trans HO.out.size ho.size, fun k hk hn => (ho.block k (Nat.lt_of_lt_of_le hk HO.out.size) (by intro e; omega)).trans (HO.out.block k hk hn)⟩
      clear hp ho
      go_wp2
      go_end0
      exact ⟨rfl, g, c, by rw [List.length_reverse]; exact HB6.out, HP6.out, HO6.out⟩
    | succ m =>
      rw [ackG] at hG
      match k1 : vt l' with
      | none => rw [k1] at hG; cases hG
      | some (d1, l1') =>
      rw [k1] at hG
      simp only at hG
      split at hG
      · cases hG
      rename_i hd1
      match k2 : vt l1' with
      | none => rw [k2] at hG; cases hG
      | some (e1, l2') =>
      rw [k2] at hG
      simp only at hG
      split at hG
      · cases hG
      rename_i he1
      have q1 := vt_len k1
      have q2 := vt_len k2
      have q3 := vt_lt k1
      obtain ⟨hi2, hhi⟩ : ∃ x, lo - (d1 + 2) = x := ⟨_, rfl⟩
      rw [hhi] at hG he1
      obtain ⟨lo2, hlo2⟩ : ∃ x, hi2 - e1 = x := ⟨_, rfl⟩
      rw [hlo2] at hG
      have U1 := Lib.hid (fun W f' (ht : Tab W) (h : FBk b l' f' W) => varint_vt b l' f' d1 l1' W ht h hl' k1)
      have U2 := Lib.hid (fun W f' (ht : Tab W) (h : FBk b l1' f' W) => varint_vt b l1' f' e1 l2' W ht h (by omega) k2)
      obtain ⟨d2, hd2⟩ : ∃ x, d1 + 2 = x := ⟨_, rfl⟩
      have e2 : (d1 : Int) + 2 = (d2 : Int) := by omega
      have e2' : IntKind.u64.wrap (d2 : Int) = (d2 : Int) := by rw [IntKind.wrap_u64]; omega
      have B1 : Hid (∀ W, Calls Tryd.prog 65 #[.int .u64 lo, .int .u64 d2] W fun e w' => e = .returned (.int .u64 hi2) ∧ w' = W) := Lib.hid (fun W => by
        rw [show ((hi2 : Nat) : Int) = (lo : Int) - (d2 : Int) by omega]
        exact below_ok lo d2 W (by omega) (by omega) (by omega))
      have B2 : Hid (∀ W, Calls Tryd.prog 65 #[.int .u64 hi2, .int .u64 e1] W fun e w' => e = .returned (.int .u64 lo2) ∧ w' = W) := Lib.hid (fun W => by
        rw [show ((lo2 : Nat) : Int) = (hi2 : Int) - (e1 : Int) by omega]
        exact below_ok hi2 e1 W (by omega) (by omega) (by omega))
      have HTr := Lib.hid (tab_only' HT.out hO (fun e => hbg e.symm))
      have HG := Lib.hid hG
      have hcnt : (((more - (m + 1) : Nat) : Int)) < (more : Int) := by omega
      obtain ⟨cn, hcn⟩ : ∃ x, more - (m + 1) = x := ⟨_, rfl⟩
      have hcn2 : cn + 1 = more - m := by omega
      have HCN := Lib.hid hcn2
      have hl2' : l2'.length ≤ 100000 := by omega
      have hlo2' : lo2 < 4611686018427387904 := by omega
      rw [hcn] at hcnt ⊢
      have hcn32 : cn < 32 := by omega
      clear k1 k2 hG hB hP hO hd1 he1 hhi hlo2 hd2 hcn q1 q2 hcn2
      go_wp2_with fail
      refine (U1.out _ _ HTr.out HB.out).mono ?_
      rintro e w6 ⟨rfl, hb, ho⟩
      have HB6 := Lib.hid hb
      have HO6 := Lib.hid (HO.out.trans ho)
      have HP6 := Lib.hid (HP.out.only ho (by intro e; omega))
      have HT6 := Lib.hid (tab_only' HT.out HO6.out (fun e => hbg e.symm))
      clear hb ho
      go_wp2_with fail
      refine (B1.out _).mono ?_
      rintro e w' ⟨rfl, hw'⟩
      rw [hw']
      clear hw' w'
      go_wp2_with fail
      refine (U2.out _ _ HT6.out HB6.out).mono ?_
      rintro e w7 ⟨rfl, hb, ho⟩
      have c13 := hb.cell13
      have f13 := hb.fz 13
      have HB7 := Lib.hid hb
      have HO7 := Lib.hid (HO6.out.trans ho)
      have HP7 := Lib.hid (HP6.out.only ho (by intro e; omega))
      have hw7 := HO7.out.size
      clear hb ho
      go_wp2_with fail
      refine (B2.out _).mono ?_
      rintro e w' ⟨rfl, hw'⟩
      rw [hw']
      clear hw' w'
      obtain ⟨g2, c2, w8, ha, hp8, hb8⟩ := push_P w7 w.heap.size g c ac (lo2, hi2) 25 HP7.out (by omega) hw7
      have HA := Lib.hid ha
      have hF8 : FBk b l2' { f with delay := (dl : Nat), set := ⟨some ⟨g, 0, none⟩, ac.length, c⟩ } w8 := (hb8.block b hbl).trans HB7.out
      have d13 := hF8.cell13
      have df13 := hF8.fz 13
      have HB9 : Hid (FBk b l2' { f with delay := (dl : Nat), set := ⟨some ⟨g2, 0, none⟩, ac.length + 1, c2⟩ } (w8.setCell ⟨b, 13, none⟩ (.slice (some ⟨g2, 0, none⟩) (ac.length + 1) c2))) := Lib.hid (hF8.set13 _)
      have HP9 := Lib.hid (hp8.only (It.Only.setCell (O := fun k => k = b) (p := ⟨b, 13, none⟩) rfl w8 (.slice (some ⟨g2, 0, none⟩) (ac.length + 1) c2)) (by intro e; have := hp8.lt; omega))
      have HO9 : Hid (It.Only (fun k => k = b) w (w8.setCell ⟨b, 13, none⟩ (.slice (some ⟨g2, 0, none⟩) (ac.length + 1) c2))) := Lib.hid ((⟨hb8.os.trans HO7.out.os, hb8.tape.trans HO7.out.tape, hb8.output.trans HO7.out.output, Nat.le_trans HO7.out.size hb8.size, fun k hk hn => (hb8.block k hk).trans (HO7.out.block k hk hn)⟩ : It.Only (fun k => k = b) w w8).trans (It.Only.setCell (O := fun k => k = b) (p := ⟨b, 13, none⟩) rfl _ _))
      have el : (ac ++ [(lo2, hi2)]).length = ac.length + 1 := by simp
      have EL := Lib.hid el
      clear ha hp8 hb8 hF8 el
      go_wp2_with (at_builtin; refine Lib.wpList_append_run _ rfl _ _ _ _ rfl _ _ rfl rfl _ _ HA.out ?_)
      go_roundw
      case rel => exact ⟨m, lo2, hi2, ac ++ [(lo2, hi2)], l2', g2, c2, by omega, by have := HCN.out; go_num, rfl, rfl, hlo2', by rw [List.length_append, List.length_singleton]; omega, hl2', HG.out, by rw [EL.out]; exact HB9.out, HP9.out, HO9.out⟩
      case measure => simp [intOf]; omega

theorem varint_vn (b : Nat) (l : List UInt8) (f : Frm) (w : World) (ht : Tab w) (h : FBk b l f w) (hl : l.length ≤ 100000) (hv : vt l = none) :
    Calls Tryd.prog 55 #[.pointer (some ⟨b, 0, none⟩)] w fun e w' => e = .panicked GU ∧ FBk b l f w' ∧ It.Only (fun k => k = b) w w' :=
  varint_no b l f w ht h (by omega) (vt_none hv)
/-- What a panicking way leaves. -/
def AckNo (b : Nat) (w : World) (e : Ending) (w' : World) : Prop := e = .panicked GU ∧ (∃ l2 f2, FBk b l2 f2 w') ∧ It.Only (fun k => k = b) w w'
set_option maxHeartbeats 16000000 in
theorem ack_no (b : Nat) (l : List UInt8) (f : Frm) (w : World) (ht : Tab w) (h : FBk b l f w) (hl : l.length ≤ 100000) (hr : ackN l = none) :
    Calls Tryd.prog 53 #[.pointer (some ⟨b, 0, none⟩)] w fun e w' => e = .panicked GU ∧ (∃ l2 f2, FBk b l2 f2 w') ∧ It.Only (fun k => k = b) w w' := by
  have hbg := tab_ne' ht h
  have hbl := h.lt
  have HT := Lib.hid ht
  have HB := Lib.hid h
  unfold ackN at hr
  match h1 : vt l with
  | none =>
    have V1 := Lib.hid (fun W f' (ht : Tab W) (h : FBk b l f' W) => varint_vn b l f' W ht h (by omega) h1)
    clear ht h hr
    go_enter Tryd.func53, Tryd.ntmps53
    go_wp2_with fail
    refine (V1.out _ _ HT.out HB.out).mono ?_
    rintro e wN ⟨rfl, hb, ho⟩
    have HBN := Lib.hid hb
    have HON := Lib.hid (ho)
    clear hb ho
    go_wp2
    exact ⟨rfl, rfl, ⟨_, _, HBN.out⟩, HON.out⟩
  | some (hi, l1) =>
  rw [h1] at hr
  simp only at hr
  match h2 : vt l1 with
  | none =>
    have hl1 := vt_len h1
    have n1 := vt_lt h1
    have V1 := Lib.hid (fun W f' (ht : Tab W) (h : FBk b l f' W) => varint_vt b l f' hi l1 W ht h (by omega) h1)
    have V2 := Lib.hid (fun W f' (ht : Tab W) (h : FBk b l1 f' W) => varint_vn b l1 f' W ht h (by omega) h2)
    clear ht h hr
    go_enter Tryd.func53, Tryd.ntmps53
    go_wp2_with fail
    refine (V1.out _ _ HT.out HB.out).mono ?_
    rintro e w1 ⟨rfl, hb, ho⟩
    have HB1 := Lib.hid hb
    have HO1 := Lib.hid ho
    have HT1 := Lib.hid (tab_only' HT.out ho (fun e => hbg e.symm))
    clear hb ho
    go_wp2_with fail
    refine (V2.out _ _ HT1.out HB1.out).mono ?_
    rintro e wN ⟨rfl, hb, ho⟩
    have HBN := Lib.hid hb
    have HON := Lib.hid (HO1.out.trans ho)
    clear hb ho
    go_wp2
    exact ⟨rfl, rfl, ⟨_, _, HBN.out⟩, HON.out⟩
  | some (dl, l2) =>
  rw [h2] at hr
  simp only at hr
  match h3 : vt l2 with
  | none =>
    have hl1 := vt_len h1
    have hl2 := vt_len h2
    have n1 := vt_lt h1
    have n2 := vt_lt h2
    have V1 := Lib.hid (fun W f' (ht : Tab W) (h : FBk b l f' W) => varint_vt b l f' hi l1 W ht h (by omega) h1)
    have V2 := Lib.hid (fun W f' (ht : Tab W) (h : FBk b l1 f' W) => varint_vt b l1 f' dl l2 W ht h (by omega) h2)
    have V3 := Lib.hid (fun W f' (ht : Tab W) (h : FBk b l2 f' W) => varint_vn b l2 f' W ht h (by omega) h3)
    clear ht h hr
    go_enter Tryd.func53, Tryd.ntmps53
    go_wp2_with fail
    refine (V1.out _ _ HT.out HB.out).mono ?_
    rintro e w1 ⟨rfl, hb, ho⟩
    have HB1 := Lib.hid hb
    have HO1 := Lib.hid ho
    have HT1 := Lib.hid (tab_only' HT.out ho (fun e => hbg e.symm))
    clear hb ho
    go_wp2_with fail
    refine (V2.out _ _ HT1.out HB1.out).mono ?_
    rintro e w2 ⟨rfl, hb, ho⟩
    have c8 := hb.cell8
    have f8 := hb.fz 8
    have HB2 : Hid (FBk b l2 { f with delay := (dl : Nat) } (w2.setCell ⟨b, 8, none⟩ (.int .u64 dl))) := Lib.hid (hb.set8 _)
    have HO2 : Hid (It.Only (fun k => k = b) w (w2.setCell ⟨b, 8, none⟩ (.int .u64 dl))) := Lib.hid ((HO1.out.trans ho).trans (It.Only.setCell (O := fun k => k = b) (p := ⟨b, 8, none⟩) rfl _ _))
    have HT2 := Lib.hid (tab_only' HT.out HO2.out (fun e => hbg e.symm))
    clear hb ho
    go_wp2_with fail
    refine (V3.out _ _ HT2.out HB2.out).mono ?_
    rintro e wN ⟨rfl, hb, ho⟩
    have HBN := Lib.hid hb
    have HON := Lib.hid (HO2.out.trans ho)
    clear hb ho
    go_wp2
    exact ⟨rfl, rfl, ⟨_, _, HBN.out⟩, HON.out⟩
  | some (more, l3) =>
  rw [h3] at hr
  simp only at hr
  by_cases hmore : 32 ≤ more
  · have hmi : (32 : Int) ≤ (more : Int) := by omega
    have hl1 := vt_len h1
    have hl2 := vt_len h2
    have hl3 := vt_len h3
    have n1 := vt_lt h1
    have n2 := vt_lt h2
    have n3 := vt_lt h3
    have V1 := Lib.hid (fun W f' (ht : Tab W) (h : FBk b l f' W) => varint_vt b l f' hi l1 W ht h (by omega) h1)
    have V2 := Lib.hid (fun W f' (ht : Tab W) (h : FBk b l1 f' W) => varint_vt b l1 f' dl l2 W ht h (by omega) h2)
    have V3 := Lib.hid (fun W f' (ht : Tab W) (h : FBk b l2 f' W) => varint_vt b l2 f' more l3 W ht h (by omega) h3)
    clear ht h hr
    go_enter Tryd.func53, Tryd.ntmps53
    go_wp2_with fail
    refine (V1.out _ _ HT.out HB.out).mono ?_
    rintro e w1 ⟨rfl, hb, ho⟩
    have HB1 := Lib.hid hb
    have HO1 := Lib.hid ho
    have HT1 := Lib.hid (tab_only' HT.out ho (fun e => hbg e.symm))
    clear hb ho
    go_wp2_with fail
    refine (V2.out _ _ HT1.out HB1.out).mono ?_
    rintro e w2 ⟨rfl, hb, ho⟩
    have c8 := hb.cell8
    have f8 := hb.fz 8
    have HB2 : Hid (FBk b l2 { f with delay := (dl : Nat) } (w2.setCell ⟨b, 8, none⟩ (.int .u64 dl))) := Lib.hid (hb.set8 _)
    have HO2 : Hid (It.Only (fun k => k = b) w (w2.setCell ⟨b, 8, none⟩ (.int .u64 dl))) := Lib.hid ((HO1.out.trans ho).trans (It.Only.setCell (O := fun k => k = b) (p := ⟨b, 8, none⟩) rfl _ _))
    have HT2 := Lib.hid (tab_only' HT.out HO2.out (fun e => hbg e.symm))
    clear hb ho
    go_wp2_with fail
    refine (V3.out _ _ HT2.out HB2.out).mono ?_
    rintro e w3 ⟨rfl, hb, ho⟩
    have HB3 := Lib.hid hb
    have HO3 := Lib.hid (HO2.out.trans ho)
    have HT3 := Lib.hid (tab_only' HT.out HO3.out (fun e => hbg e.symm))
    clear hb ho c8 f8
    go_wp2
    exact ⟨rfl, rfl, ⟨_, _, HB3.out⟩, HO3.out⟩
  rw [if_neg hmore] at hr
  have hmi : ¬ (32 : Int) ≤ (more : Int) := by omega
  match h4 : vt l3 with
  | none =>
    have hl1 := vt_len h1
    have hl2 := vt_len h2
    have hl3 := vt_len h3
    have n1 := vt_lt h1
    have n2 := vt_lt h2
    have n3 := vt_lt h3
    have V1 := Lib.hid (fun W f' (ht : Tab W) (h : FBk b l f' W) => varint_vt b l f' hi l1 W ht h (by omega) h1)
    have V2 := Lib.hid (fun W f' (ht : Tab W) (h : FBk b l1 f' W) => varint_vt b l1 f' dl l2 W ht h (by omega) h2)
    have V3 := Lib.hid (fun W f' (ht : Tab W) (h : FBk b l2 f' W) => varint_vt b l2 f' more l3 W ht h (by omega) h3)
    have V4 := Lib.hid (fun W f' (ht : Tab W) (h : FBk b l3 f' W) => varint_vn b l3 f' W ht h (by omega) h4)
    clear ht h hr
    go_enter Tryd.func53, Tryd.ntmps53
    go_wp2_with fail
    refine (V1.out _ _ HT.out HB.out).mono ?_
    rintro e w1 ⟨rfl, hb, ho⟩
    have HB1 := Lib.hid hb
    have HO1 := Lib.hid ho
    have HT1 := Lib.hid (tab_only' HT.out ho (fun e => hbg e.symm))
    clear hb ho
    go_wp2_with fail
    refine (V2.out _ _ HT1.out HB1.out).mono ?_
    rintro e w2 ⟨rfl, hb, ho⟩
    have c8 := hb.cell8
    have f8 := hb.fz 8
    have HB2 : Hid (FBk b l2 { f with delay := (dl : Nat) } (w2.setCell ⟨b, 8, none⟩ (.int .u64 dl))) := Lib.hid (hb.set8 _)
    have HO2 : Hid (It.Only (fun k => k = b) w (w2.setCell ⟨b, 8, none⟩ (.int .u64 dl))) := Lib.hid ((HO1.out.trans ho).trans (It.Only.setCell (O := fun k => k = b) (p := ⟨b, 8, none⟩) rfl _ _))
    have HT2 := Lib.hid (tab_only' HT.out HO2.out (fun e => hbg e.symm))
    clear hb ho
    go_wp2_with fail
    refine (V3.out _ _ HT2.out HB2.out).mono ?_
    rintro e w3 ⟨rfl, hb, ho⟩
    have HB3 := Lib.hid hb
    have HO3 := Lib.hid (HO2.out.trans ho)
    have HT3 := Lib.hid (tab_only' HT.out HO3.out (fun e => hbg e.symm))
    clear hb ho c8 f8
    go_wp2_with fail
    refine (V4.out _ _ HT3.out HB3.out).mono ?_
    rintro e wN ⟨rfl, hb, ho⟩
    have HBN := Lib.hid hb
    have HON := Lib.hid (HO3.out.trans ho)
    clear hb ho
    go_wp2
    exact ⟨rfl, rfl, ⟨_, _, HBN.out⟩, HON.out⟩
  | some (d, l4) =>
  rw [h4] at hr
  simp only at hr
  by_cases hd : hi < d
  · have hl1 := vt_len h1
    have hl2 := vt_len h2
    have hl3 := vt_len h3
    have hl4 := vt_len h4
    have n1 := vt_lt h1
    have n2 := vt_lt h2
    have n3 := vt_lt h3
    have n4 := vt_lt h4
    have V1 := Lib.hid (fun W f' (ht : Tab W) (h : FBk b l f' W) => varint_vt b l f' hi l1 W ht h (by omega) h1)
    have V2 := Lib.hid (fun W f' (ht : Tab W) (h : FBk b l1 f' W) => varint_vt b l1 f' dl l2 W ht h (by omega) h2)
    have V3 := Lib.hid (fun W f' (ht : Tab W) (h : FBk b l2 f' W) => varint_vt b l2 f' more l3 W ht h (by omega) h3)
    have V4 := Lib.hid (fun W f' (ht : Tab W) (h : FBk b l3 f' W) => varint_vt b l3 f' d l4 W ht h (by omega) h4)
    have CB := Lib.hid (fun W => below_no hi d W (by omega))
    clear ht h hr
    go_enter Tryd.func53, Tryd.ntmps53
    go_wp2_with fail
    refine (V1.out _ _ HT.out HB.out).mono ?_
    rintro e w1 ⟨rfl, hb, ho⟩
    have HB1 := Lib.hid hb
    have HO1 := Lib.hid ho
    have HT1 := Lib.hid (tab_only' HT.out ho (fun e => hbg e.symm))
    clear hb ho
    go_wp2_with fail
    refine (V2.out _ _ HT1.out HB1.out).mono ?_
    rintro e w2 ⟨rfl, hb, ho⟩
    have c8 := hb.cell8
    have f8 := hb.fz 8
    have HB2 : Hid (FBk b l2 { f with delay := (dl : Nat) } (w2.setCell ⟨b, 8, none⟩ (.int .u64 dl))) := Lib.hid (hb.set8 _)
    have HO2 : Hid (It.Only (fun k => k = b) w (w2.setCell ⟨b, 8, none⟩ (.int .u64 dl))) := Lib.hid ((HO1.out.trans ho).trans (It.Only.setCell (O := fun k => k = b) (p := ⟨b, 8, none⟩) rfl _ _))
    have HT2 := Lib.hid (tab_only' HT.out HO2.out (fun e => hbg e.symm))
    clear hb ho
    go_wp2_with fail
    refine (V3.out _ _ HT2.out HB2.out).mono ?_
    rintro e w3 ⟨rfl, hb, ho⟩
    have HB3 := Lib.hid hb
    have HO3 := Lib.hid (HO2.out.trans ho)
    have HT3 := Lib.hid (tab_only' HT.out HO3.out (fun e => hbg e.symm))
    clear hb ho c8 f8
    go_wp2_with fail
    refine (V4.out _ _ HT3.out HB3.out).mono ?_
    rintro e w4 ⟨rfl, hb, ho⟩
    have c13 := hb.cell13
    have f13 := hb.fz 13
    have HB4 := Lib.hid hb
    have HO4 := Lib.hid (HO3.out.trans ho)
    have hw4 := HO4.out.size
    clear ho hb
    go_wp2_with fail
    refine (CB.out _).mono ?_
    rintro e w' ⟨rfl, hw'⟩
    rw [hw']
    clear hw' w'
    go_wp2
    exact ⟨rfl, rfl, ⟨_, _, HB4.out⟩, HO4.out⟩
  rw [if_neg hd] at hr
  match h5 : ackG more (hi - d) [(hi - d, hi)] l4 with
  | some (acc, l6) => rw [h5] at hr; cases hr
  | none =>
  have hl1 := vt_len h1
  have hl2 := vt_len h2
  have hl3 := vt_len h3
  have hl4 := vt_len h4
  have n1 := vt_lt h1
  have n2 := vt_lt h2
  have n3 := vt_lt h3
  have n4 := vt_lt h4
  have V1 := Lib.hid (fun W f' (ht : Tab W) (h : FBk b l f' W) => varint_vt b l f' hi l1 W ht h (by omega) h1)
  have V2 := Lib.hid (fun W f' (ht : Tab W) (h : FBk b l1 f' W) => varint_vt b l1 f' dl l2 W ht h (by omega) h2)
  have V3 := Lib.hid (fun W f' (ht : Tab W) (h : FBk b l2 f' W) => varint_vt b l2 f' more l3 W ht h (by omega) h3)
  have V4 := Lib.hid (fun W f' (ht : Tab W) (h : FBk b l3 f' W) => varint_vt b l3 f' d l4 W ht h (by omega) h4)
  obtain ⟨lo, hlo⟩ : ∃ lo, hi - d = lo := ⟨_, rfl⟩
  rw [hlo] at h5
  have hloi : (hi : Int) - (d : Int) = (lo : Int) := by omega
  have CB : Hid (∀ W, Calls Tryd.prog 65 #[.int .u64 hi, .int .u64 d] W fun e w' => e = .returned (.int .u64 lo) ∧ w' = W) := Lib.hid (fun W => by
    rw [← hloi]
    exact below_ok hi d W (by omega) (by omega) (by omega))
  have H5 := Lib.hid h5
  have hlo1 : lo < 4611686018427387904 := by omega
  have hm32 : more < 32 := by omega
  have hl4' : l4.length ≤ 100000 := by omega
  clear h1 h2 h3 h4 h5 ht h hmore hd hl1 hl2 hl3 hl4 hl hlo n1 n4 n3 hr
  go_enter Tryd.func53, Tryd.ntmps53
  go_wp2_with fail
  refine (V1.out _ _ HT.out HB.out).mono ?_
  rintro e w1 ⟨rfl, hb, ho⟩
  have HB1 := Lib.hid hb
  have HO1 := Lib.hid ho
  have HT1 := Lib.hid (tab_only' HT.out ho (fun e => hbg e.symm))
  clear hb ho
  go_wp2_with fail
  refine (V2.out _ _ HT1.out HB1.out).mono ?_
  rintro e w2 ⟨rfl, hb, ho⟩
  have c8 := hb.cell8
  have f8 := hb.fz 8
  have HB2 : Hid (FBk b l2 { f with delay := (dl : Nat) } (w2.setCell ⟨b, 8, none⟩ (.int .u64 dl))) := Lib.hid (hb.set8 _)
  have HO2 : Hid (It.Only (fun k => k = b) w (w2.setCell ⟨b, 8, none⟩ (.int .u64 dl))) := Lib.hid ((HO1.out.trans ho).trans (It.Only.setCell (O := fun k => k = b) (p := ⟨b, 8, none⟩) rfl _ _))
  have HT2 := Lib.hid (tab_only' HT.out HO2.out (fun e => hbg e.symm))
  clear hb ho
  go_wp2_with fail
  refine (V3.out _ _ HT2.out HB2.out).mono ?_
  rintro e w3 ⟨rfl, hb, ho⟩
  have HB3 := Lib.hid hb
  have HO3 := Lib.hid (HO2.out.trans ho)
  have HT3 := Lib.hid (tab_only' HT.out HO3.out (fun e => hbg e.symm))
  clear hb ho c8 f8
  go_wp2_with fail
  refine (V4.out _ _ HT3.out HB3.out).mono ?_
  rintro e w4 ⟨rfl, hb, ho⟩
  have c13 := hb.cell13
  have f13 := hb.fz 13
  have HB4 := Lib.hid hb
  have HO4 := Lib.hid (HO3.out.trans ho)
  have hw4 := HO4.out.size
  clear ho hb
  go_wp2_with fail
  refine (CB.out _).mono ?_
  rintro e w' ⟨rfl, hw'⟩
  rw [hw']
  clear hw' w'
  have hb4 := HB4.out.lt
  have es : (w4.setCell ⟨b, 13, none⟩ (.slice (some ⟨w4.heap.size, 0, none⟩) 1 1)).heap.size = w4.heap.size := by simp
  have HBA : Hid (FBk b l4 { f with delay := (dl : Nat), set := ⟨some ⟨w4.heap.size, 0, none⟩, 1, 1⟩ } ((w4.setCell ⟨b, 13, none⟩ (.slice (some ⟨w4.heap.size, 0, none⟩) 1 1)).alloc (.cells #[.int .u64 lo, .int .u64 hi] 54))) := Lib.hid (FBk.keep (HB4.out.set13 ⟨some ⟨w4.heap.size, 0, none⟩, 1, 1⟩) ((Below.refl _ _).alloc (Nat.le_refl _) _))
  have HPA : Hid (OwnP ((w4.setCell ⟨b, 13, none⟩ (.slice (some ⟨w4.heap.size, 0, none⟩) 1 1)).alloc (.cells #[.int .u64 lo, .int .u64 hi] 54)) w.heap.size w4.heap.size 1 [(lo, hi)]) := Lib.hid (by
    have h := OwnP.new (w4.setCell ⟨b, 13, none⟩ (.slice (some ⟨w4.heap.size, 0, none⟩) 1 1)) w.heap.size (lo, hi) (by rw [es]; exact hw4)
    rw [es] at h
    exact h)
  have HOA : Hid (It.Only (fun k => k = b) w ((w4.setCell ⟨b, 13, none⟩ (.slice (some ⟨w4.heap.size, 0, none⟩) 1 1)).alloc (.cells #[.int .u64 lo, .int .u64 hi] 54))) := Lib.hid ((HO4.out.trans (It.Only.setCell (O := fun k => k = b) (p := ⟨b, 13, none⟩) rfl _ _)).trans (It.Only.of_all ((Below.refl _ _).alloc (Nat.le_refl _) _) _))
  clear V1 V2 V3 V4 CB HB HB1 HB2 HB3 HB4 HO1 HO2 HO3 HO4 HT1 HT2 HT3 es
  go_wp2
  go_loopw [2, 4, 40] (fun hv lv cv wr => ∃ (m lo hi : Nat) (ac : List (Nat × Nat)) (l' : List UInt8) (g c : Nat), m ≤ more ∧ cv = .int .u64 (more - m : Nat) ∧ hv = .int .u64 hi ∧ lv = .int .u64 lo ∧ lo < 4611686018427387904 ∧ ac.length + m ≤ 40 ∧ l'.length ≤ 100000 ∧ ackG m lo ac l' = none ∧ FBk b l' { f with delay := (dl : Nat), set := ⟨some ⟨g, 0, none⟩, ac.length, c⟩ } wr ∧ OwnP wr w.heap.size g c ac ∧ It.Only (fun k => k = b) w wr) (fun _ _ cv _ => more - (intOf cv).toNat)
  case atStart => exact ⟨more, lo, hi, [(lo, hi)], l4, w4.heap.size, 1, Nat.le_refl _, by simp, rfl, rfl, hlo1, by simp; omega, hl4', H5.out, HBA.out, HPA.out, HOA.out⟩
  case round =>
    clear HBA HPA HOA H5 c13 f13
    obtain ⟨m, lo, hi, ac, l', g, c, hm, rfl, rfl, rfl, hlo, hac, hl', hG, hB, hP, hO⟩ := hrel
    have HB := Lib.hid hB
    have HP := Lib.hid hP
    have HO := Lib.hid hO
    have hgl := hP.lt
    cases m with
    | zero => simp [ackG] at hG
    | succ m =>
      rw [ackG] at hG
      match k1 : vt l' with
      | none =>
        have U1 := Lib.hid (fun W f' (ht : Tab W) (h : FBk b l' f' W) => varint_vn b l' f' W ht h hl' k1)
        have HTr := Lib.hid (tab_only' HT.out hO (fun e => hbg e.symm))
        have hcnt : (((more - (m + 1) : Nat) : Int)) < (more : Int) := by omega
        obtain ⟨cn, hcn⟩ : ∃ x, more - (m + 1) = x := ⟨_, rfl⟩
        rw [hcn] at hcnt ⊢
        have hcn32 : cn < 32 := by omega
        clear hcn hG hB hP hO
        go_wp2_with fail
        refine (U1.out _ _ HTr.out HB.out).mono ?_
        rintro e wN ⟨rfl, hb, ho⟩
        have HBN := Lib.hid hb
        have HON := Lib.hid (HO.out.trans ho)
        clear hb ho
        go_wp2
        exact ⟨rfl, rfl, ⟨_, _, HBN.out⟩, HON.out⟩
      | some (d1, l1') =>
        rw [k1] at hG
        simp only at hG
        have q3 := vt_lt k1
        have q1 := vt_len k1
        have U1 := Lib.hid (fun W f' (ht : Tab W) (h : FBk b l' f' W) => varint_vt b l' f' d1 l1' W ht h hl' k1)
        obtain ⟨d2, hd2⟩ : ∃ x, d1 + 2 = x := ⟨_, rfl⟩
        have e2 : (d1 : Int) + 2 = (d2 : Int) := by omega
        have e2' : IntKind.u64.wrap (d2 : Int) = (d2 : Int) := by rw [IntKind.wrap_u64]; omega
        by_cases hd1 : lo < d1 + 2
        · have B1 := Lib.hid (fun W => below_no lo d2 W (by omega))
          have HTr := Lib.hid (tab_only' HT.out hO (fun e => hbg e.symm))
          have hcnt : (((more - (m + 1) : Nat) : Int)) < (more : Int) := by omega
          obtain ⟨cn, hcn⟩ : ∃ x, more - (m + 1) = x := ⟨_, rfl⟩
          rw [hcn] at hcnt ⊢
          have hcn32 : cn < 32 := by omega
          clear hcn hG hB hP hO
          go_wp2_with fail
          refine (U1.out _ _ HTr.out HB.out).mono ?_
          rintro e w6 ⟨rfl, hb, ho⟩
          have HB6 := Lib.hid hb
          have HO6 := Lib.hid (HO.out.trans ho)
          have HT6 := Lib.hid (tab_only' HT.out HO6.out (fun e => hbg e.symm))
          clear hb ho
          go_wp2_with fail
          refine (B1.out _).mono ?_
          rintro e w' ⟨rfl, hw'⟩
          rw [hw']
          clear hw' w'
          go_wp2
          exact ⟨rfl, rfl, ⟨_, _, HB6.out⟩, HO6.out⟩
        rw [if_neg hd1] at hG
        obtain ⟨hi2, hhi⟩ : ∃ x, lo - (d1 + 2) = x := ⟨_, rfl⟩
        rw [hhi] at hG
        have B1 : Hid (∀ W, Calls Tryd.prog 65 #[.int .u64 lo, .int .u64 d2] W fun e w' => e = .returned (.int .u64 hi2) ∧ w' = W) := Lib.hid (fun W => by
          rw [show ((hi2 : Nat) : Int) = (lo : Int) - (d2 : Int) by omega]
          exact below_ok lo d2 W (by omega) (by omega) (by omega))
        match k2 : vt l1' with
        | none =>
          have U2 := Lib.hid (fun W f' (ht : Tab W) (h : FBk b l1' f' W) => varint_vn b l1' f' W ht h (by omega) k2)
          have HTr := Lib.hid (tab_only' HT.out hO (fun e => hbg e.symm))
          have hcnt : (((more - (m + 1) : Nat) : Int)) < (more : Int) := by omega
          obtain ⟨cn, hcn⟩ : ∃ x, more - (m + 1) = x := ⟨_, rfl⟩
          rw [hcn] at hcnt ⊢
          have hcn32 : cn < 32 := by omega
          clear hcn hG hB hP hO
          go_wp2_with fail
          refine (U1.out _ _ HTr.out HB.out).mono ?_
          rintro e w6 ⟨rfl, hb, ho⟩
          have HB6 := Lib.hid hb
          have HO6 := Lib.hid (HO.out.trans ho)
          have HT6 := Lib.hid (tab_only' HT.out HO6.out (fun e => hbg e.symm))
          clear hb ho
          go_wp2_with fail
          refine (B1.out _).mono ?_
          rintro e w' ⟨rfl, hw'⟩
          rw [hw']
          clear hw' w'
          go_wp2_with fail
          refine (U2.out _ _ HT6.out HB6.out).mono ?_
          rintro e wN ⟨rfl, hb, ho⟩
          have HBN := Lib.hid hb
          have HON := Lib.hid (HO6.out.trans ho)
          clear hb ho
          go_wp2
          exact ⟨rfl, rfl, ⟨_, _, HBN.out⟩, HON.out⟩
        | some (e1, l2') =>
          rw [k2] at hG
          simp only at hG
          have q2 := vt_len k2
          have U2 := Lib.hid (fun W f' (ht : Tab W) (h : FBk b l1' f' W) => varint_vt b l1' f' e1 l2' W ht h (by omega) k2)
          by_cases he1 : hi2 < e1
          · have B2 := Lib.hid (fun W => below_no hi2 e1 W (by omega))
            have HTr := Lib.hid (tab_only' HT.out hO (fun e => hbg e.symm))
            have hcnt : (((more - (m + 1) : Nat) : Int)) < (more : Int) := by omega
            obtain ⟨cn, hcn⟩ : ∃ x, more - (m + 1) = x := ⟨_, rfl⟩
            rw [hcn] at hcnt ⊢
            have hcn32 : cn < 32 := by omega
            clear hcn hG hB hP hO
            go_wp2_with fail
            refine (U1.out _ _ HTr.out HB.out).mono ?_
            rintro e w6 ⟨rfl, hb, ho⟩
            have HB6 := Lib.hid hb
            have HO6 := Lib.hid (HO.out.trans ho)
            have HT6 := Lib.hid (tab_only' HT.out HO6.out (fun e => hbg e.symm))
            clear hb ho
            go_wp2_with fail
            refine (B1.out _).mono ?_
            rintro e w' ⟨rfl, hw'⟩
            rw [hw']
            clear hw' w'
            go_wp2_with fail
            refine (U2.out _ _ HT6.out HB6.out).mono ?_
            rintro e w7 ⟨rfl, hb, ho⟩
            have HB7 := Lib.hid hb
            have HO7 := Lib.hid (HO6.out.trans ho)
            clear hb ho
            go_wp2_with fail
            refine (B2.out _).mono ?_
            rintro e w' ⟨rfl, hw'⟩
            rw [hw']
            clear hw' w'
            go_wp2
            exact ⟨rfl, rfl, ⟨_, _, HB7.out⟩, HO7.out⟩
          rw [if_neg he1] at hG
          obtain ⟨lo2, hlo2⟩ : ∃ x, hi2 - e1 = x := ⟨_, rfl⟩
          rw [hlo2] at hG
          have B2 : Hid (∀ W, Calls Tryd.prog 65 #[.int .u64 hi2, .int .u64 e1] W fun e w' => e = .returned (.int .u64 lo2) ∧ w' = W) := Lib.hid (fun W => by
            rw [show ((lo2 : Nat) : Int) = (hi2 : Int) - (e1 : Int) by omega]
            exact below_ok hi2 e1 W (by omega) (by omega) (by omega))
          have HTr := Lib.hid (tab_only' HT.out hO (fun e => hbg e.symm))
          have HG := Lib.hid hG
          have hcnt : (((more - (m + 1) : Nat) : Int)) < (more : Int) := by omega
          obtain ⟨cn, hcn⟩ : ∃ x, more - (m + 1) = x := ⟨_, rfl⟩
          have hcn2 : cn + 1 = more - m := by omega
          have HCN := Lib.hid hcn2
          have hl2' : l2'.length ≤ 100000 := by omega
          have hlo2' : lo2 < 4611686018427387904 := by omega
          rw [hcn] at hcnt ⊢
          have hcn32 : cn < 32 := by omega
          clear k1 k2 hG hB hP hO hd1 he1 hhi hlo2 hd2 hcn q1 q2 hcn2
          go_wp2_with fail
          refine (U1.out _ _ HTr.out HB.out).mono ?_
          rintro e w6 ⟨rfl, hb, ho⟩
          have HB6 := Lib.hid hb
          have HO6 := Lib.hid (HO.out.trans ho)
          have HP6 := Lib.hid (HP.out.only ho (by intro e; omega))
          have HT6 := Lib.hid (tab_only' HT.out HO6.out (fun e => hbg e.symm))
          clear hb ho
          go_wp2_with fail
          refine (B1.out _).mono ?_
          rintro e w' ⟨rfl, hw'⟩
          rw [hw']
          clear hw' w'
          go_wp2_with fail
          refine (U2.out _ _ HT6.out HB6.out).mono ?_
          rintro e w7 ⟨rfl, hb, ho⟩
          have c13 := hb.cell13
          have f13 := hb.fz 13
          have HB7 := Lib.hid hb
          have HO7 := Lib.hid (HO6.out.trans ho)
          have HP7 := Lib.hid (HP6.out.only ho (by intro e; omega))
          have hw7 := HO7.out.size
          clear hb ho
          go_wp2_with fail
          refine (B2.out _).mono ?_
          rintro e w' ⟨rfl, hw'⟩
          rw [hw']
          clear hw' w'
          obtain ⟨g2, c2, w8, ha, hp8, hb8⟩ := push_P w7 w.heap.size g c ac (lo2, hi2) 25 HP7.out (by omega) hw7
          have HA := Lib.hid ha
          have hF8 : FBk b l2' { f with delay := (dl : Nat), set := ⟨some ⟨g, 0, none⟩, ac.length, c⟩ } w8 := (hb8.block b hbl).trans HB7.out
          have d13 := hF8.cell13
          have df13 := hF8.fz 13
          have HB9 : Hid (FBk b l2' { f with delay := (dl : Nat), set := ⟨some ⟨g2, 0, none⟩, ac.length + 1, c2⟩ } (w8.setCell ⟨b, 13, none⟩ (.slice (some ⟨g2, 0, none⟩) (ac.length + 1) c2))) := Lib.hid (hF8.set13 _)
          have HP9 := Lib.hid (hp8.only (It.Only.setCell (O := fun k => k = b) (p := ⟨b, 13, none⟩) rfl w8 (.slice (some ⟨g2, 0, none⟩) (ac.length + 1) c2)) (by intro e; have := hp8.lt; omega))
          have HO9 : Hid (It.Only (fun k => k = b) w (w8.setCell ⟨b, 13, none⟩ (.slice (some ⟨g2, 0, none⟩) (ac.length + 1) c2))) := Lib.hid ((⟨hb8.os.trans HO7.out.os, hb8.tape.trans HO7.out.tape, hb8.output.trans HO7.out.output, Nat.le_trans HO7.out.size hb8.size, fun k hk hn => (hb8.block k hk).trans (HO7.out.block k hk hn)⟩ : It.Only (fun k => k = b) w w8).trans (It.Only.setCell (O := fun k => k = b) (p := ⟨b, 13, none⟩) rfl _ _))
          have el : (ac ++ [(lo2, hi2)]).length = ac.length + 1 := by simp
          have EL := Lib.hid el
          clear ha hp8 hb8 hF8 el
          go_wp2_with (at_builtin; refine Lib.wpList_append_run _ rfl _ _ _ _ rfl _ _ rfl rfl _ _ HA.out ?_)
          go_roundw
          case rel => exact ⟨m, lo2, hi2, ac ++ [(lo2, hi2)], l2', g2, c2, by omega, by have := HCN.out; go_num, rfl, rfl, hlo2', by rw [List.length_append, List.length_singleton]; omega, hl2', HG.out, by rw [EL.out]; exact HB9.out, HP9.out, HO9.out⟩
          case measure => simp [intOf]; omega
end Go.Proofs.YtfeecfdbncjmnaaDoor.Fm
