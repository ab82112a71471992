/- The walk of the law HeaderFew. By tools/gen-header-laws.py. -/
import Derived.Test.YtpjhpknbnbiabaaDoorHdJ
namespace Go.Proofs.YtpjhpknbnbiabaaDoor.Hd
open Go.RowKit Vm
set_option linter.unusedVariables false
set_option linter.unusedSimpArgs false

set_option maxHeartbeats 4000000 in
theorem few_no0 (lg sp ph : Bool) (ty ve : Int) (dc sc tk : List UInt8) (le wi nu : Int) (cut : Int) (w : World) (ht : Tab w) (wty : -9223372036854775808 ≤ ty) (wty2 : ty ≤ 9223372036854775807) (wve : 0 ≤ ve) (wve2 : ve ≤ 4294967295) (wdc : dc.length ≤ 9223372036854775807) (wsc : sc.length ≤ 9223372036854775807) (wtk : tk.length ≤ 9223372036854775807) (wle : 0 ≤ le) (wle2 : le ≤ 18446744073709551615) (wwi : -9223372036854775808 ≤ wi) (wwi2 : wi ≤ 9223372036854775807) (wnu : 0 ≤ nu) (wnu2 : nu ≤ 18446744073709551615) (EM : mayB lg sp ph ty ve dc sc tk le wi nu = false) (EB : lawB dc sc tk = false) (wc : 0 ≤ cut) (wc2 : cut ≤ 65535) :
    Calls Tryd.prog 9 #[.agg #[.bool lg, .bool sp, .bool ph, .int .i64 ty, .int .u32 ve, .string ⟨dc.toArray⟩, .string ⟨sc.toArray⟩, .string ⟨tk.toArray⟩, .int .u64 le, .int .i64 wi, .int .u64 nu], .int .u16 cut] w fun e w' => e = .returned (.bool true) ∧ Below w.heap.size w w' := by
  have hlt := ht.lt
  have HT := Lib.hid ht
  clear ht
  have HX := Lib.hid (Box.made w (.bool lg) (.bool sp) (.bool ph) (.int .i64 ty) (.int .u32 ve) (.string ⟨dc.toArray⟩) (.string ⟨sc.toArray⟩) (.string ⟨tk.toArray⟩) (.int .u64 le) (.int .i64 wi) (.int .u64 nu) 25)
  have CP := Lib.hid (fun w (ht : Tab w) => Put_no lg sp ph ty ve dc sc tk le wi nu w ht wty wty2 wve wve2 wdc wsc wtk wle wle2 wwi wwi2 wnu wnu2 EM)
  have CB := Lib.hid (fun w => lawBounded_any lg sp ph ty ve dc sc tk le wi nu w wty wty2 wve wve2 wdc wsc wtk wle wle2 wwi wwi2 wnu wnu2)
  rw [EB] at CB
  clear EM
  go_enter Tryd.func9, Tryd.ntmps9
  have HT1 := Lib.hid (HT.out.below HX.out.bel hlt)
  go_wp2_with fail
  refine (CP.out _ HT1.out).mono ?_
  rintro e w1 ⟨rfl, hb⟩
  replace HX := Lib.hid (HX.out.keep hb)
  clear hb
  have HT1 := Lib.hid (HT.out.below HX.out.bel hlt)
  (try clear z0 z1 z2 z3 z4 z5 z6 z7 z8 z9 z10)
  have z0 := HX.out.cell0
  have z1 := HX.out.cell1
  have z2 := HX.out.cell2
  have z3 := HX.out.cell3
  have z4 := HX.out.cell4
  have z5 := HX.out.cell5
  have z6 := HX.out.cell6
  have z7 := HX.out.cell7
  have z8 := HX.out.cell8
  have z9 := HX.out.cell9
  have z10 := HX.out.cell10
  go_wp2_with fail
  refine (CB.out _).mono ?_
  rintro e w1 ⟨rfl, hb⟩
  replace HX := Lib.hid (HX.out.keep hb)
  clear hb
  have HT1 := Lib.hid (HT.out.below HX.out.bel hlt)
  (try clear z0 z1 z2 z3 z4 z5 z6 z7 z8 z9 z10)
  have z0 := HX.out.cell0
  have z1 := HX.out.cell1
  have z2 := HX.out.cell2
  have z3 := HX.out.cell3
  have z4 := HX.out.cell4
  have z5 := HX.out.cell5
  have z6 := HX.out.cell6
  have z7 := HX.out.cell7
  have z8 := HX.out.cell8
  have z9 := HX.out.cell9
  have z10 := HX.out.cell10
  go_wp2_with fail
  refine (shown_any _ HT1.out).mono ?_
  rintro e w1 ⟨rfl, hb⟩
  replace HX := Lib.hid (HX.out.keep hb)
  clear hb
  have HT1 := Lib.hid (HT.out.below HX.out.bel hlt)
  (try clear z0 z1 z2 z3 z4 z5 z6 z7 z8 z9 z10)
  have z0 := HX.out.cell0
  have z1 := HX.out.cell1
  have z2 := HX.out.cell2
  have z3 := HX.out.cell3
  have z4 := HX.out.cell4
  have z5 := HX.out.cell5
  have z6 := HX.out.cell6
  have z7 := HX.out.cell7
  have z8 := HX.out.cell8
  have z9 := HX.out.cell9
  have z10 := HX.out.cell10
  have HB := Lib.hid HX.out.bel
  clear HX
  go_wp2
  go_ret
  exact ⟨rfl, HB.out⟩
set_option maxHeartbeats 4000000 in
theorem few_no1 (lg sp ph : Bool) (ty ve : Int) (dc sc tk : List UInt8) (le wi nu : Int) (cut : Int) (w : World) (ht : Tab w) (wty : -9223372036854775808 ≤ ty) (wty2 : ty ≤ 9223372036854775807) (wve : 0 ≤ ve) (wve2 : ve ≤ 4294967295) (wdc : dc.length ≤ 9223372036854775807) (wsc : sc.length ≤ 9223372036854775807) (wtk : tk.length ≤ 9223372036854775807) (wle : 0 ≤ le) (wle2 : le ≤ 18446744073709551615) (wwi : -9223372036854775808 ≤ wi) (wwi2 : wi ≤ 9223372036854775807) (wnu : 0 ≤ nu) (wnu2 : nu ≤ 18446744073709551615) (EM : mayB lg sp ph ty ve dc sc tk le wi nu = false) (EB : lawB dc sc tk = true) (wc : 0 ≤ cut) (wc2 : cut ≤ 65535) :
    Calls Tryd.prog 9 #[.agg #[.bool lg, .bool sp, .bool ph, .int .i64 ty, .int .u32 ve, .string ⟨dc.toArray⟩, .string ⟨sc.toArray⟩, .string ⟨tk.toArray⟩, .int .u64 le, .int .i64 wi, .int .u64 nu], .int .u16 cut] w fun e w' => e = .returned (.bool true) ∧ Below w.heap.size w w' := by
  have hlt := ht.lt
  have HT := Lib.hid ht
  clear ht
  have HX := Lib.hid (Box.made w (.bool lg) (.bool sp) (.bool ph) (.int .i64 ty) (.int .u32 ve) (.string ⟨dc.toArray⟩) (.string ⟨sc.toArray⟩) (.string ⟨tk.toArray⟩) (.int .u64 le) (.int .i64 wi) (.int .u64 nu) 25)
  have CP := Lib.hid (fun w (ht : Tab w) => Put_no lg sp ph ty ve dc sc tk le wi nu w ht wty wty2 wve wve2 wdc wsc wtk wle wle2 wwi wwi2 wnu wnu2 EM)
  have CB := Lib.hid (fun w => lawBounded_any lg sp ph ty ve dc sc tk le wi nu w wty wty2 wve wve2 wdc wsc wtk wle wle2 wwi wwi2 wnu wnu2)
  rw [EB] at CB
  clear EM
  go_enter Tryd.func9, Tryd.ntmps9
  have HT1 := Lib.hid (HT.out.below HX.out.bel hlt)
  go_wp2_with fail
  refine (CP.out _ HT1.out).mono ?_
  rintro e w1 ⟨rfl, hb⟩
  replace HX := Lib.hid (HX.out.keep hb)
  clear hb
  have HT1 := Lib.hid (HT.out.below HX.out.bel hlt)
  (try clear z0 z1 z2 z3 z4 z5 z6 z7 z8 z9 z10)
  have z0 := HX.out.cell0
  have z1 := HX.out.cell1
  have z2 := HX.out.cell2
  have z3 := HX.out.cell3
  have z4 := HX.out.cell4
  have z5 := HX.out.cell5
  have z6 := HX.out.cell6
  have z7 := HX.out.cell7
  have z8 := HX.out.cell8
  have z9 := HX.out.cell9
  have z10 := HX.out.cell10
  go_wp2_with fail
  refine (CB.out _).mono ?_
  rintro e w1 ⟨rfl, hb⟩
  replace HX := Lib.hid (HX.out.keep hb)
  clear hb
  have HT1 := Lib.hid (HT.out.below HX.out.bel hlt)
  (try clear z0 z1 z2 z3 z4 z5 z6 z7 z8 z9 z10)
  have z0 := HX.out.cell0
  have z1 := HX.out.cell1
  have z2 := HX.out.cell2
  have z3 := HX.out.cell3
  have z4 := HX.out.cell4
  have z5 := HX.out.cell5
  have z6 := HX.out.cell6
  have z7 := HX.out.cell7
  have z8 := HX.out.cell8
  have z9 := HX.out.cell9
  have z10 := HX.out.cell10
  go_wp2_with fail
  refine (shown_any _ HT1.out).mono ?_
  rintro e w1 ⟨rfl, hb⟩
  replace HX := Lib.hid (HX.out.keep hb)
  clear hb
  have HT1 := Lib.hid (HT.out.below HX.out.bel hlt)
  (try clear z0 z1 z2 z3 z4 z5 z6 z7 z8 z9 z10)
  have z0 := HX.out.cell0
  have z1 := HX.out.cell1
  have z2 := HX.out.cell2
  have z3 := HX.out.cell3
  have z4 := HX.out.cell4
  have z5 := HX.out.cell5
  have z6 := HX.out.cell6
  have z7 := HX.out.cell7
  have z8 := HX.out.cell8
  have z9 := HX.out.cell9
  have z10 := HX.out.cell10
  have HB := Lib.hid HX.out.bel
  clear HX
  go_wp2
  go_ret
  exact ⟨rfl, HB.out⟩
theorem cut_get {l : List UInt8} {x : Hdr × List UInt8} (hg : getO l = some x) (hx : x.2 = []) (n : Nat) (hn : n < l.length) : getO (l.take n) = none ∧ ((plE (l.take n) = 0 ∧ (l.length : Int) - x.1.wi ≤ n ∧ plN (l.take n) = (l.length : Int) - x.1.wi) ∨ (plE (l.take n) = 40 ∧ (n : Int) < (l.length : Int) - x.1.wi ∧ plN (l.take n) = 0)) := by
  obtain ⟨b, pre, num, p, hP, hx1⟩ := parts_of hg
  rw [hx] at hP
  have hw := hP.wide
  have hw4 := wide_4 b
  have hwi : x.1.wi = ((wideB b : Nat) : Int) := by rw [hx1]; rfl
  have he : l = b :: (pre ++ num) := by have := hP.eq; rw [List.append_nil] at this; exact this
  have hlen : l.length = 1 + pre.length + num.length := by rw [he]; simp; omega
  have hfit := hP.fit
  by_cases hc : 1 + pre.length ≤ n
  · have ht : l.take n = b :: (pre ++ num.take (n - (1 + pre.length))) := by
      rw [he, show n = (n - 1) + 1 by omega, List.take_succ_cons, List.take_append]
      rw [List.take_of_length_le (by omega)]
      congr 2
      congr 1
      omega
    have ha := hfit.go b (num.take (n - (1 + pre.length))) (by split <;> rfl)
    rw [← ht] at ha
    have hl2 : (num.take (n - (1 + pre.length))).length = n - (1 + pre.length) := by rw [List.length_take]; omega
    constructor
    · rw [ht] at ha ⊢
      simp only [getO, ha]
      rw [if_pos (.inl (by omega))]
    · left
      refine ⟨by unfold plE; rw [ha], by omega, ?_⟩
      unfold plN
      rw [ha]
      simp only
      rw [hl2, List.length_take]
      omega
  · have ha : ahO (l.take n) = none := by
      cases h : ahO (l.take n) with
      | none => rfl
      | some q =>
        exfalso
        cases hl : l.take n with
        | nil => rw [hl] at h; cases h
        | cons b2 r2 =>
          rw [hl] at h
          obtain ⟨pre2, hf2⟩ := ahO_local h
          have hc2 := hf2.cut
          have hg2 := hf2.go b2 (q.re ++ l.drop n) (by split <;> rfl)
          rw [← List.append_assoc, ← hc2, ← List.cons_append, ← hl, List.take_append_drop] at hg2
          have hp := hP.ah
          rw [hp] at hg2
          have e := congrArg (fun o : Option Pre => match o with | some q => q.re.length | none => 0) hg2
          simp only [List.length_append, List.length_drop] at e
          have e2 : p.re.length = num.length := by rw [hP.re]; simp
          omega
    constructor
    · cases hl : l.take n with
      | nil => rfl
      | cons b2 r2 => rw [hl] at ha; simp only [getO, ha]
    · right
      exact ⟨by unfold plE; rw [ha], by omega, by unfold plN; rw [ha]⟩
theorem none_get {l : List UInt8} (h : getO l = none) : gHd l = ⟨false, false, false, 0, 0, [], [], [], 0, 0, 0⟩ ∧ gRs l = [] ∧ gEr l = 40 := by
  unfold gHd gRs gEr
  rw [h]
  exact ⟨rfl, rfl, rfl⟩
set_option maxHeartbeats 4000000 in
theorem few_in (lg sp ph : Bool) (ty ve : Int) (dc sc tk : List UInt8) (le wi nu : Int) (cut : Int) (pl c : List UInt8) (n : Nat) (w : World) (ht : Tab w) (wty : -9223372036854775808 ≤ ty) (wty2 : ty ≤ 9223372036854775807) (wve : 0 ≤ ve) (wve2 : ve ≤ 4294967295) (wdc : dc.length ≤ 9223372036854775807) (wsc : sc.length ≤ 9223372036854775807) (wtk : tk.length ≤ 9223372036854775807) (wle : 0 ≤ le) (wle2 : le ≤ 18446744073709551615) (wwi : -9223372036854775808 ≤ wi) (wwi2 : wi ≤ 9223372036854775807) (wnu : 0 ≤ nu) (wnu2 : nu ≤ 18446744073709551615) (EM : mayB lg sp ph ty ve dc sc tk le wi nu = true) (wc : 0 ≤ cut) (wc2 : cut ≤ 65535) (EP : Hid (putL lg sp ph ty ve dc sc tk le wi nu = pl)) (EN : cut % ((pl.length : Nat) : Int) = (n : Int)) (hn : n < pl.length) (hp9 : pl.length ≤ 20000) (EC : (⟨pl.toArray⟩ : ByteArray).extract 0 n = ⟨c.toArray⟩) (hc9 : Hid (c.length ≤ 20000)) (EG : Hid (getO c = none)) (EQ : Hid (plN c = ((pl.length : Int) - wi) ∧ plE c = 0)) (hc : (pl.length : Int) - wi ≤ n) (hw1 : 1 ≤ wi) (hw2 : wi ≤ 4) (hwp : wi ≤ pl.length) :
    Calls Tryd.prog 9 #[.agg #[.bool lg, .bool sp, .bool ph, .int .i64 ty, .int .u32 ve, .string ⟨dc.toArray⟩, .string ⟨sc.toArray⟩, .string ⟨tk.toArray⟩, .int .u64 le, .int .i64 wi, .int .u64 nu], .int .u16 cut] w fun e w' => e = .returned (.bool true) ∧ Below w.heap.size w w' := by
  have hlt := ht.lt
  have HT := Lib.hid ht
  clear ht
  have HX := Lib.hid (Box.made w (.bool lg) (.bool sp) (.bool ph) (.int .i64 ty) (.int .u32 ve) (.string ⟨dc.toArray⟩) (.string ⟨sc.toArray⟩) (.string ⟨tk.toArray⟩) (.int .u64 le) (.int .i64 wi) (.int .u64 nu) 25)
  have CP := Lib.hid (fun w (ht : Tab w) => Put_yes lg sp ph ty ve dc sc tk le wi nu w ht wty wty2 wve wve2 wdc wsc wtk wle wle2 wwi wwi2 wnu wnu2 EM)
  have CB := Lib.hid (fun w => lawBounded_any lg sp ph ty ve dc sc tk le wi nu w wty wty2 wve wve2 wdc wsc wtk wle wle2 wwi wwi2 wnu wnu2)
  rw [law_of_may EM] at CB
  rw [EP.out] at CP
  have CG := Lib.hid (fun w (ht : Tab w) => Get_any c w ht (by have := hc9.out; omega))
  have CQ := Lib.hid (fun w (ht : Tab w) => Place_any c w ht (by have := hc9.out; omega))
  rw [(none_get EG.out).1, (none_get EG.out).2.1, (none_get EG.out).2.2] at CG
  rw [EQ.out.1, EQ.out.2] at CQ
  have hne : (((pl.length : Nat) : Int) == 0) = false := by rw [beq_eq_false_iff_ne]; omega
  clear EM EP EG EQ hc9
  go_enter Tryd.func9, Tryd.ntmps9
  have HT1 := Lib.hid (HT.out.below HX.out.bel hlt)
  go_wp2_with fail
  refine (CP.out _ HT1.out).mono ?_
  rintro e w1 ⟨rfl, hb⟩
  replace HX := Lib.hid (HX.out.keep hb)
  clear hb
  have HT1 := Lib.hid (HT.out.below HX.out.bel hlt)
  (try clear z0 z1 z2 z3 z4 z5 z6 z7 z8 z9 z10)
  have z0 := HX.out.cell0
  have z1 := HX.out.cell1
  have z2 := HX.out.cell2
  have z3 := HX.out.cell3
  have z4 := HX.out.cell4
  have z5 := HX.out.cell5
  have z6 := HX.out.cell6
  have z7 := HX.out.cell7
  have z8 := HX.out.cell8
  have z9 := HX.out.cell9
  have z10 := HX.out.cell10
  go_wp2_with fail
  refine (CB.out _).mono ?_
  rintro e w1 ⟨rfl, hb⟩
  replace HX := Lib.hid (HX.out.keep hb)
  clear hb
  have HT1 := Lib.hid (HT.out.below HX.out.bel hlt)
  (try clear z0 z1 z2 z3 z4 z5 z6 z7 z8 z9 z10)
  have z0 := HX.out.cell0
  have z1 := HX.out.cell1
  have z2 := HX.out.cell2
  have z3 := HX.out.cell3
  have z4 := HX.out.cell4
  have z5 := HX.out.cell5
  have z6 := HX.out.cell6
  have z7 := HX.out.cell7
  have z8 := HX.out.cell8
  have z9 := HX.out.cell9
  have z10 := HX.out.cell10
  go_wp2_with fail
  refine (shown_any _ HT1.out).mono ?_
  rintro e w1 ⟨rfl, hb⟩
  replace HX := Lib.hid (HX.out.keep hb)
  clear hb
  have HT1 := Lib.hid (HT.out.below HX.out.bel hlt)
  (try clear z0 z1 z2 z3 z4 z5 z6 z7 z8 z9 z10)
  have z0 := HX.out.cell0
  have z1 := HX.out.cell1
  have z2 := HX.out.cell2
  have z3 := HX.out.cell3
  have z4 := HX.out.cell4
  have z5 := HX.out.cell5
  have z6 := HX.out.cell6
  have z7 := HX.out.cell7
  have z8 := HX.out.cell8
  have z9 := HX.out.cell9
  have z10 := HX.out.cell10
  go_wp2_with fail
  refine (CG.out _ HT1.out).mono ?_
  rintro e w1 ⟨rfl, hb⟩
  replace HX := Lib.hid ((HX.out.keep hb).keep ((Below.refl _ _).alloc (Nat.le_refl _) (.cells #[.bool false, .bool false, .bool false, .int .i64 0, .int .u32 0, .string ⟨#[]⟩, .string ⟨#[]⟩, .string ⟨#[]⟩, .int .u64 0, .int .i64 0, .int .u64 0] 25)))
  clear hb
  replace HT1 := Lib.hid (HT.out.below HX.out.bel hlt)
  (try clear z0 z1 z2 z3 z4 z5 z6 z7 z8 z9 z10)
  have z0 := HX.out.cell0
  have z1 := HX.out.cell1
  have z2 := HX.out.cell2
  have z3 := HX.out.cell3
  have z4 := HX.out.cell4
  have z5 := HX.out.cell5
  have z6 := HX.out.cell6
  have z7 := HX.out.cell7
  have z8 := HX.out.cell8
  have z9 := HX.out.cell9
  have z10 := HX.out.cell10
  go_wp2_with fail
  refine (CQ.out _ HT1.out).mono ?_
  rintro e w1 ⟨rfl, hb⟩
  replace HX := Lib.hid (HX.out.keep hb)
  clear hb
  have HT1 := Lib.hid (HT.out.below HX.out.bel hlt)
  (try clear z0 z1 z2 z3 z4 z5 z6 z7 z8 z9 z10)
  have z0 := HX.out.cell0
  have z1 := HX.out.cell1
  have z2 := HX.out.cell2
  have z3 := HX.out.cell3
  have z4 := HX.out.cell4
  have z5 := HX.out.cell5
  have z6 := HX.out.cell6
  have z7 := HX.out.cell7
  have z8 := HX.out.cell8
  have z9 := HX.out.cell9
  have z10 := HX.out.cell10
  have HB := Lib.hid HX.out.bel
  clear HX
  go_wp2
  go_ret
  exact ⟨by simp <;> omega, HB.out⟩
set_option maxHeartbeats 4000000 in
theorem few_out (lg sp ph : Bool) (ty ve : Int) (dc sc tk : List UInt8) (le wi nu : Int) (cut : Int) (pl c : List UInt8) (n : Nat) (w : World) (ht : Tab w) (wty : -9223372036854775808 ≤ ty) (wty2 : ty ≤ 9223372036854775807) (wve : 0 ≤ ve) (wve2 : ve ≤ 4294967295) (wdc : dc.length ≤ 9223372036854775807) (wsc : sc.length ≤ 9223372036854775807) (wtk : tk.length ≤ 9223372036854775807) (wle : 0 ≤ le) (wle2 : le ≤ 18446744073709551615) (wwi : -9223372036854775808 ≤ wi) (wwi2 : wi ≤ 9223372036854775807) (wnu : 0 ≤ nu) (wnu2 : nu ≤ 18446744073709551615) (EM : mayB lg sp ph ty ve dc sc tk le wi nu = true) (wc : 0 ≤ cut) (wc2 : cut ≤ 65535) (EP : Hid (putL lg sp ph ty ve dc sc tk le wi nu = pl)) (EN : cut % ((pl.length : Nat) : Int) = (n : Int)) (hn : n < pl.length) (hp9 : pl.length ≤ 20000) (EC : (⟨pl.toArray⟩ : ByteArray).extract 0 n = ⟨c.toArray⟩) (hc9 : Hid (c.length ≤ 20000)) (EG : Hid (getO c = none)) (EQ : Hid (plN c = 0 ∧ plE c = 40)) (hc : (n : Int) < (pl.length : Int) - wi) (hw1 : 1 ≤ wi) (hw2 : wi ≤ 4) (hwp : wi ≤ pl.length) :
    Calls Tryd.prog 9 #[.agg #[.bool lg, .bool sp, .bool ph, .int .i64 ty, .int .u32 ve, .string ⟨dc.toArray⟩, .string ⟨sc.toArray⟩, .string ⟨tk.toArray⟩, .int .u64 le, .int .i64 wi, .int .u64 nu], .int .u16 cut] w fun e w' => e = .returned (.bool true) ∧ Below w.heap.size w w' := by
  have hlt := ht.lt
  have HT := Lib.hid ht
  clear ht
  have HX := Lib.hid (Box.made w (.bool lg) (.bool sp) (.bool ph) (.int .i64 ty) (.int .u32 ve) (.string ⟨dc.toArray⟩) (.string ⟨sc.toArray⟩) (.string ⟨tk.toArray⟩) (.int .u64 le) (.int .i64 wi) (.int .u64 nu) 25)
  have CP := Lib.hid (fun w (ht : Tab w) => Put_yes lg sp ph ty ve dc sc tk le wi nu w ht wty wty2 wve wve2 wdc wsc wtk wle wle2 wwi wwi2 wnu wnu2 EM)
  have CB := Lib.hid (fun w => lawBounded_any lg sp ph ty ve dc sc tk le wi nu w wty wty2 wve wve2 wdc wsc wtk wle wle2 wwi wwi2 wnu wnu2)
  rw [law_of_may EM] at CB
  rw [EP.out] at CP
  have CG := Lib.hid (fun w (ht : Tab w) => Get_any c w ht (by have := hc9.out; omega))
  have CQ := Lib.hid (fun w (ht : Tab w) => Place_any c w ht (by have := hc9.out; omega))
  rw [(none_get EG.out).1, (none_get EG.out).2.1, (none_get EG.out).2.2] at CG
  rw [EQ.out.1, EQ.out.2] at CQ
  have hne : (((pl.length : Nat) : Int) == 0) = false := by rw [beq_eq_false_iff_ne]; omega
  clear EM EP EG EQ hc9
  go_enter Tryd.func9, Tryd.ntmps9
  have HT1 := Lib.hid (HT.out.below HX.out.bel hlt)
  go_wp2_with fail
  refine (CP.out _ HT1.out).mono ?_
  rintro e w1 ⟨rfl, hb⟩
  replace HX := Lib.hid (HX.out.keep hb)
  clear hb
  have HT1 := Lib.hid (HT.out.below HX.out.bel hlt)
  (try clear z0 z1 z2 z3 z4 z5 z6 z7 z8 z9 z10)
  have z0 := HX.out.cell0
  have z1 := HX.out.cell1
  have z2 := HX.out.cell2
  have z3 := HX.out.cell3
  have z4 := HX.out.cell4
  have z5 := HX.out.cell5
  have z6 := HX.out.cell6
  have z7 := HX.out.cell7
  have z8 := HX.out.cell8
  have z9 := HX.out.cell9
  have z10 := HX.out.cell10
  go_wp2_with fail
  refine (CB.out _).mono ?_
  rintro e w1 ⟨rfl, hb⟩
  replace HX := Lib.hid (HX.out.keep hb)
  clear hb
  have HT1 := Lib.hid (HT.out.below HX.out.bel hlt)
  (try clear z0 z1 z2 z3 z4 z5 z6 z7 z8 z9 z10)
  have z0 := HX.out.cell0
  have z1 := HX.out.cell1
  have z2 := HX.out.cell2
  have z3 := HX.out.cell3
  have z4 := HX.out.cell4
  have z5 := HX.out.cell5
  have z6 := HX.out.cell6
  have z7 := HX.out.cell7
  have z8 := HX.out.cell8
  have z9 := HX.out.cell9
  have z10 := HX.out.cell10
  go_wp2_with fail
  refine (shown_any _ HT1.out).mono ?_
  rintro e w1 ⟨rfl, hb⟩
  replace HX := Lib.hid (HX.out.keep hb)
  clear hb
  have HT1 := Lib.hid (HT.out.below HX.out.bel hlt)
  (try clear z0 z1 z2 z3 z4 z5 z6 z7 z8 z9 z10)
  have z0 := HX.out.cell0
  have z1 := HX.out.cell1
  have z2 := HX.out.cell2
  have z3 := HX.out.cell3
  have z4 := HX.out.cell4
  have z5 := HX.out.cell5
  have z6 := HX.out.cell6
  have z7 := HX.out.cell7
  have z8 := HX.out.cell8
  have z9 := HX.out.cell9
  have z10 := HX.out.cell10
  go_wp2_with fail
  refine (CG.out _ HT1.out).mono ?_
  rintro e w1 ⟨rfl, hb⟩
  replace HX := Lib.hid ((HX.out.keep hb).keep ((Below.refl _ _).alloc (Nat.le_refl _) (.cells #[.bool false, .bool false, .bool false, .int .i64 0, .int .u32 0, .string ⟨#[]⟩, .string ⟨#[]⟩, .string ⟨#[]⟩, .int .u64 0, .int .i64 0, .int .u64 0] 25)))
  clear hb
  replace HT1 := Lib.hid (HT.out.below HX.out.bel hlt)
  (try clear z0 z1 z2 z3 z4 z5 z6 z7 z8 z9 z10)
  have z0 := HX.out.cell0
  have z1 := HX.out.cell1
  have z2 := HX.out.cell2
  have z3 := HX.out.cell3
  have z4 := HX.out.cell4
  have z5 := HX.out.cell5
  have z6 := HX.out.cell6
  have z7 := HX.out.cell7
  have z8 := HX.out.cell8
  have z9 := HX.out.cell9
  have z10 := HX.out.cell10
  go_wp2_with fail
  refine (CQ.out _ HT1.out).mono ?_
  rintro e w1 ⟨rfl, hb⟩
  replace HX := Lib.hid (HX.out.keep hb)
  clear hb
  have HT1 := Lib.hid (HT.out.below HX.out.bel hlt)
  (try clear z0 z1 z2 z3 z4 z5 z6 z7 z8 z9 z10)
  have z0 := HX.out.cell0
  have z1 := HX.out.cell1
  have z2 := HX.out.cell2
  have z3 := HX.out.cell3
  have z4 := HX.out.cell4
  have z5 := HX.out.cell5
  have z6 := HX.out.cell6
  have z7 := HX.out.cell7
  have z8 := HX.out.cell8
  have z9 := HX.out.cell9
  have z10 := HX.out.cell10
  have HB := Lib.hid HX.out.bel
  clear HX
  go_wp2
  go_ret
  exact ⟨by simp <;> omega, HB.out⟩
theorem few_any (lg sp ph : Bool) (ty ve : Int) (dc sc tk : List UInt8) (le wi nu : Int) (cut : Int) (w : World) (ht : Tab w) (wty : -9223372036854775808 ≤ ty) (wty2 : ty ≤ 9223372036854775807) (wve : 0 ≤ ve) (wve2 : ve ≤ 4294967295) (wdc : dc.length ≤ 9223372036854775807) (wsc : sc.length ≤ 9223372036854775807) (wtk : tk.length ≤ 9223372036854775807) (wle : 0 ≤ le) (wle2 : le ≤ 18446744073709551615) (wwi : -9223372036854775808 ≤ wi) (wwi2 : wi ≤ 9223372036854775807) (wnu : 0 ≤ nu) (wnu2 : nu ≤ 18446744073709551615) (wc : 0 ≤ cut) (wc2 : cut ≤ 65535) :
    Calls Tryd.prog 9 #[.agg #[.bool lg, .bool sp, .bool ph, .int .i64 ty, .int .u32 ve, .string ⟨dc.toArray⟩, .string ⟨sc.toArray⟩, .string ⟨tk.toArray⟩, .int .u64 le, .int .i64 wi, .int .u64 nu], .int .u16 cut] w fun e w' => e = .returned (.bool true) ∧ Below w.heap.size w w' := by
  cases EM : mayB lg sp ph ty ve dc sc tk le wi nu with
  | false => cases EB : lawB dc sc tk with
    | false => exact few_no0 lg sp ph ty ve dc sc tk le wi nu cut w ht wty wty2 wve wve2 wdc wsc wtk wle wle2 wwi wwi2 wnu wnu2 EM EB wc wc2
    | true => exact few_no1 lg sp ph ty ve dc sc tk le wi nu cut w ht wty wty2 wve wve2 wdc wsc wtk wle wle2 wwi wwi2 wnu wnu2 EM EB wc wc2
  | true =>
    have hg := get_put EM wve wve2 wle wnu []
    rw [List.append_nil] at hg
    have hpl := putL_len EM
    have hpw := may_parts EM
    obtain ⟨pl, hpE⟩ : ∃ l, l = putL lg sp ph ty ve dc sc tk le wi nu := ⟨_, rfl⟩
    rw [← hpE] at hg hpl
    obtain ⟨n, hnE⟩ : ∃ n : Nat, cut % ((pl.length : Nat) : Int) = (n : Int) := ⟨(cut % ((pl.length : Nat) : Int)).toNat, by have := Int.emod_nonneg cut (show ((pl.length : Nat) : Int) ≠ 0 by omega); omega⟩
    have hn : n < pl.length := by have := Int.emod_lt_of_pos cut (show (0 : Int) < ((pl.length : Nat) : Int) by omega); omega
    have hcg := cut_get hg rfl n hn
    simp only at hcg
    have hwp : wi ≤ pl.length := by
      obtain ⟨b, pre, num, p, hP, hx⟩ := parts_of hg
      have h1 := congrArg Hdr.wi hx
      have h2 := congrArg List.length hP.eq
      have h3 := hP.wide
      simp at h2
      have h4 : wi = ((wideB b : Nat) : Int) := h1
      omega
    have hc9 : (pl.take n).length ≤ 20000 := by rw [List.length_take]; omega
    rcases hcg with ⟨h0, ⟨h1, h2, h3⟩ | ⟨h1, h2, h3⟩⟩
    · exact few_in lg sp ph ty ve dc sc tk le wi nu cut pl (pl.take n) n w ht wty wty2 wve wve2 wdc wsc wtk wle wle2 wwi wwi2 wnu wnu2 EM wc wc2 (Lib.hid hpE.symm) hnE hn hpl.1 (sv_to pl n) (Lib.hid hc9) (Lib.hid h0) (Lib.hid ⟨h3, h1⟩) h2 hpw.2.2.1 hpw.2.2.2.1 hwp
    · exact few_out lg sp ph ty ve dc sc tk le wi nu cut pl (pl.take n) n w ht wty wty2 wve wve2 wdc wsc wtk wle wle2 wwi wwi2 wnu wnu2 EM wc wc2 (Lib.hid hpE.symm) hnE hn hpl.1 (sv_to pl n) (Lib.hid hc9) (Lib.hid h0) (Lib.hid ⟨h3, h1⟩) h2 hpw.2.2.1 hpw.2.2.2.1 hwp
theorem law_few (lg sp ph : Bool) (ty ve : Int) (dc sc tk : List UInt8) (le wi nu : Int) (cut : Int) (w : World) (ht : Tab w) (w3 : (Lit.int .i64 ty).wf = true) (w4 : (Lit.int .u32 ve).wf = true) (w5 : (⟨dc.toArray⟩ : ByteArray).size ≤ maxLen) (w6 : (⟨sc.toArray⟩ : ByteArray).size ≤ maxLen) (w7 : (⟨tk.toArray⟩ : ByteArray).size ≤ maxLen) (w8 : (Lit.int .u64 le).wf = true) (w9 : (Lit.int .i64 wi).wf = true) (w10 : (Lit.int .u64 nu).wf = true) (wc : (Lit.int .u16 cut).wf = true) :
    Calls Tryd.prog 9 #[.agg #[.bool lg, .bool sp, .bool ph, .int .i64 ty, .int .u32 ve, .string ⟨dc.toArray⟩, .string ⟨sc.toArray⟩, .string ⟨tk.toArray⟩, .int .u64 le, .int .i64 wi, .int .u64 nu], .int .u16 cut] w fun e w' => e = .returned (.bool true) ∧ Below w.heap.size w w' :=
  few_any lg sp ph ty ve dc sc tk le wi nu cut w ht (bounds_i64 w3).1 (bounds_i64 w3).2 (bounds_u32 w4).1 (bounds_u32 w4).2 (str_len w5) (str_len w6) (str_len w7) (bounds_u64 w8).1 (bounds_u64 w8).2 (bounds_i64 w9).1 (bounds_i64 w9).2 (bounds_u64 w10).1 (bounds_u64 w10).2 (bounds_u16 wc).1 (bounds_u16 wc).2
end Go.Proofs.YtpjhpknbnbiabaaDoor.Hd
