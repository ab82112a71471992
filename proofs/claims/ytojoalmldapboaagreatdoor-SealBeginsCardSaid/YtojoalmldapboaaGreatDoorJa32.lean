/- The walks of layer 4: May in one word. · The walks of layer 4: the number in one word; whether what was read is a header. · Plain mathematics of headers: what the program's reader reads is what stands ahead of a number. -/
import Derived.Test.YtojoalmldapboaaGreatDoorJa31
import Derived.Test.YtojoalmldapboaaGreatDoorJa30
import Derived.Test.YtojoalmldapboaaGreatDoorJa28
namespace Go.Proofs.YtojoalmldapboaaGreatDoor.Hd
set_option maxRecDepth 20000
open Go.RowKit Vm
set_option linter.unusedVariables false

/-- Whether a header has none but the parts that are put of one of its form. -/
def keptB (lg sp ph : Bool) (ty ve : Int) (sc tk : List UInt8) (le : Int) : Bool :=
  if lg then decide (sp = false ∧ ph = false ∧ (ty ≠ 0 → tk = [])) else decide (ty = 0 ∧ ve = 0 ∧ sc = [] ∧ tk = [] ∧ le = 0)
/-- Whether there is such a header. -/
def mayB (lg sp ph : Bool) (ty ve : Int) (dc sc tk : List UInt8) (le wi nu : Int) : Bool :=
  keptB lg sp ph ty ve sc tk le && bndB lg ty dc sc tk le && numB wi nu
theorem mayB_1 {lg sp ph : Bool} {ty ve : Int} {dc sc tk : List UInt8} {le wi nu : Int} (h : keptB lg sp ph ty ve sc tk le = false) : mayB lg sp ph ty ve dc sc tk le wi nu = false := by unfold mayB; rw [h]; rfl
theorem mayB_2 {lg sp ph : Bool} {ty ve : Int} {dc sc tk : List UInt8} {le wi nu : Int} (h : bndB lg ty dc sc tk le = false) : mayB lg sp ph ty ve dc sc tk le wi nu = false := by unfold mayB; rw [h]; simp
theorem mayB_3 {lg sp ph : Bool} {ty ve : Int} {dc sc tk : List UInt8} {le wi nu : Int} (h1 : keptB lg sp ph ty ve sc tk le = true) (h : bndB lg ty dc sc tk le = true) : mayB lg sp ph ty ve dc sc tk le wi nu = numB wi nu := by unfold mayB; rw [h1, h]; simp
theorem may_any (lg sp ph : Bool) (ty ve : Int) (dc sc tk : List UInt8) (le wi nu : Int) (w : World) (wty : -9223372036854775808 ≤ ty) (wty2 : ty ≤ 9223372036854775807) (wve : 0 ≤ ve) (wve2 : ve ≤ 4294967295) (wdc : dc.length ≤ 9223372036854775807) (wsc : sc.length ≤ 9223372036854775807) (wtk : tk.length ≤ 9223372036854775807) (wle : 0 ≤ le) (wle2 : le ≤ 18446744073709551615) (wwi : -9223372036854775808 ≤ wi) (wwi2 : wi ≤ 9223372036854775807) (wnu : 0 ≤ nu) (wnu2 : nu ≤ 18446744073709551615) :
    Calls Tryz.prog 85 #[.agg #[.bool lg, .bool sp, .bool ph, .int .i64 ty, .int .u32 ve, .string ⟨dc.toArray⟩, .string ⟨sc.toArray⟩, .string ⟨tk.toArray⟩, .int .u64 le, .int .i64 wi, .int .u64 nu]] w fun e w' => e = .returned (.bool (mayB lg sp ph ty ve dc sc tk le wi nu)) ∧ Below w.heap.size w w' := by
  cases lg with
  | false =>
    by_cases h : ty = 0 ∧ ve = 0 ∧ sc = [] ∧ tk = [] ∧ le = 0
    · have hk : keptB false sp ph ty ve sc tk le = true := by unfold keptB; rw [if_neg (by decide)]; exact decide_eq_true h
      cases hb : bndB false ty dc sc tk le with
      | false => rw [mayB_2 hb]; obtain ⟨rfl, rfl, rfl, rfl, rfl⟩ := h; exact may_s10 sp ph dc wi nu w wdc wwi wwi2 wnu wnu2 hb
      | true => rw [mayB_3 hk hb]; obtain ⟨rfl, rfl, rfl, rfl, rfl⟩ := h; exact may_s11 sp ph dc wi nu w wdc wwi wwi2 wnu wnu2 hb
    · have hk : keptB false sp ph ty ve sc tk le = false := by unfold keptB; rw [if_neg (by decide)]; exact decide_eq_false h
      rw [mayB_1 hk]
      exact may_s2 sp ph ty ve dc sc tk le wi nu w wty wty2 wve wve2 wdc wsc wtk wle wle2 wwi wwi2 wnu wnu2 (Lib.hid h)
  | true =>
    by_cases h0 : ty = 0
    · subst h0
      cases sp with
      | true =>
        have hk : keptB true true ph 0 ve sc tk le = false := by simp [keptB]
        rw [mayB_1 hk]; exact may_l2 ph ve dc sc tk le wi nu w wve wve2 wdc wsc wtk wle wle2 wwi wwi2 wnu wnu2
      | false => cases ph with
        | true =>
          have hk : keptB true false true 0 ve sc tk le = false := by simp [keptB]
          rw [mayB_1 hk]; exact may_l3 ve dc sc tk le wi nu w wve wve2 wdc wsc wtk wle wle2 wwi wwi2 wnu wnu2
        | false =>
          have hk : keptB true false false 0 ve sc tk le = true := by simp [keptB]
          cases hb : bndB true 0 dc sc tk le with
          | false => rw [mayB_2 hb]; exact may_l10 ve dc sc tk le wi nu w wve wve2 wdc wsc wtk wle wle2 wwi wwi2 wnu wnu2 hb
          | true => rw [mayB_3 hk hb]; exact may_l11 ve dc sc tk le wi nu w wve wve2 wdc wsc wtk wle wle2 wwi wwi2 wnu wnu2 hb
    · have hne : (ty != 0) = true := by simp [h0]
      cases sp with
      | true =>
        have hk : keptB true true ph ty ve sc tk le = false := by simp [keptB]
        rw [mayB_1 hk]; exact may_n2 ph ty ve dc sc tk le wi nu w wty wty2 wve wve2 wdc wsc wtk wle wle2 wwi wwi2 wnu wnu2 hne
      | false => cases ph with
        | true =>
          have hk : keptB true false true ty ve sc tk le = false := by simp [keptB]
          rw [mayB_1 hk]; exact may_n3 ty ve dc sc tk le wi nu w wty wty2 wve wve2 wdc wsc wtk wle wle2 wwi wwi2 wnu wnu2 hne
        | false =>
          by_cases ht : tk = []
          · subst ht
            have hk : keptB true false false ty ve sc [] le = true := by simp [keptB]
            cases hb : bndB true ty dc sc [] le with
            | false => rw [mayB_2 hb]; exact may_n10 ty ve dc sc le wi nu w wty wty2 wve wve2 wdc wsc wle wle2 wwi wwi2 wnu wnu2 hne hb
            | true => rw [mayB_3 hk hb]; exact may_n11 ty ve dc sc le wi nu w wty wty2 wve wve2 wdc wsc wle wle2 wwi wwi2 wnu wnu2 hne hb
          · have hk : keptB true false false ty ve sc tk le = false := by simp [keptB, h0, ht]
            rw [mayB_1 hk]; exact may_n4 ty ve dc sc tk le wi nu w wty wty2 wve wve2 wdc wsc wtk wle wle2 wwi wwi2 wnu wnu2 hne ht
end Go.Proofs.YtojoalmldapboaaGreatDoor.Hd
namespace Go.Proofs.YtojoalmldapboaaGreatDoor.Hd
set_option maxRecDepth 20000
open Go.RowKit Vm
set_option linter.unusedVariables false
set_option linter.unusedSimpArgs false

/-- Whether a first byte has a bit that is always 0. -/
def badN (n : Nat) : Bool := if n < 128 then decide (n / 8 % 4 ≠ 0) else decide (n / 4 % 4 ≠ 0)
theorem badN_eq : ∀ n : Nat, n < 256 → (bits .and .u8 (n : Int) (if 128 ≤ n then (12:Int) else 24) != 0) = badN n := by decide +kernel
theorem t4 : ∀ n : Nat, n < 256 → (bits .and .u8 (n : Int) 4 != 0) = decide (n / 4 % 2 = 1) := by decide +kernel
def rn1 (n : Nat) (st : St) : St := ⟨st.s, st.w || badN n⟩
def rnV (n : Nat) (st : St) : Nat := bk ((rn1 n st).take (1 + n % 4))
def rnS (n : Nat) (st : St) : St := (rn1 n st).skip (1 + n % 4)
theorem readNumber_any (b n : Nat) (st : St) (x2 x3 x5 x6 x7 x8 x9 xa : Value) (w : World) (h : Blk b st x2 x3 (.bool false) x5 x6 x7 x8 x9 xa (.int .i64 0) (.int .u64 0) (.int .u8 n) w) (hl : st.s.length ≤ 9223372036854775807) (hn : n < 256) :
    Calls Tryz.prog 131 #[.pointer (some ⟨b, 0, none⟩)] w fun e w' => e = .returned (.tuple #[]) ∧ Blk b (rnS n st) x2 x3 (.bool (decide (n / 4 % 2 = 1))) x5 x6 x7 x8 x9 xa (.int .i64 (1 + n % 4 : Nat)) (.int .u64 (rnV n st : Nat)) (.int .u8 n) w' ∧ Below b w w' := by
  obtain ⟨s, wr⟩ := st
  cases wr with
  | false =>
    have e : rn1 n ⟨s, false⟩ = ⟨s, badN n⟩ := rfl
    exact readNumber_f b n (1 + n % 4) (rnV n ⟨s, false⟩) s (rnS n ⟨s, false⟩) x2 x3 x5 x6 x7 x8 x9 xa (badN n) (decide (n / 4 % 2 = 1)) _ w h (Lib.hid ⟨by unfold rnV; rw [e], by unfold rnS; rw [e]⟩) (Lib.hid rfl) (Lib.hid rfl) (badN_eq n hn) (t4 n hn) hl hn (by omega)
  | true =>
    have e : rn1 n ⟨s, true⟩ = ⟨s, true⟩ := rfl
    exact readNumber_t b n (1 + n % 4) (rnV n ⟨s, true⟩) s (rnS n ⟨s, true⟩) x2 x3 x5 x6 x7 x8 x9 xa (decide (n / 4 % 2 = 1)) w h (Lib.hid ⟨by unfold rnV; rw [e], by unfold rnS; rw [e]⟩) (Lib.hid rfl) (t4 n hn) hl hn (by omega)
set_option maxHeartbeats 1000000 in
theorem good_t (b n : Nat) (s : List UInt8) (lg sp ph : Bool) (ty ve : Int) (dc sc tk : List UInt8) (le wi nu : Int) (w : World) (h : Blk b ⟨s, true⟩ (.bool lg) (.bool sp) (.bool ph) (.int .i64 ty) (.int .u32 ve) (.string ⟨dc.toArray⟩) (.string ⟨sc.toArray⟩) (.string ⟨tk.toArray⟩) (.int .u64 le) (.int .i64 wi) (.int .u64 nu) (.int .u8 n) w) :
    Calls Tryz.prog 128 #[.pointer (some ⟨b, 0, none⟩)] w fun e w' => e = .returned (.bool false) ∧ Below w.heap.size w w' := by
  have c1 : w.cell? ⟨b, 1, none⟩ = some (.bool true) := h.cell 1
  clear h
  go_enter Tryz.func128, Tryz.ntmps128
  go_wp2
  go_ret
  exact ⟨rfl, Below.refl _ _⟩
set_option maxHeartbeats 1000000 in
theorem good_f (b n : Nat) (s : List UInt8) (lg sp ph : Bool) (ty ve : Int) (dc sc tk : List UInt8) (le wi nu : Int) (w : World) (h : Blk b ⟨s, false⟩ (.bool lg) (.bool sp) (.bool ph) (.int .i64 ty) (.int .u32 ve) (.string ⟨dc.toArray⟩) (.string ⟨sc.toArray⟩) (.string ⟨tk.toArray⟩) (.int .u64 le) (.int .i64 wi) (.int .u64 nu) (.int .u8 n) w) (wty : -9223372036854775808 ≤ ty) (wty2 : ty ≤ 9223372036854775807) (wve : 0 ≤ ve) (wve2 : ve ≤ 4294967295) (wdc : dc.length ≤ 9223372036854775807) (wsc : sc.length ≤ 9223372036854775807) (wtk : tk.length ≤ 9223372036854775807) (wle : 0 ≤ le) (wle2 : le ≤ 18446744073709551615) (wwi : -9223372036854775808 ≤ wi) (wwi2 : wi ≤ 9223372036854775807) (wnu : 0 ≤ nu) (wnu2 : nu ≤ 18446744073709551615) :
    Calls Tryz.prog 128 #[.pointer (some ⟨b, 0, none⟩)] w fun e w' => e = .returned (.bool (mayB lg sp ph ty ve dc sc tk le wi nu)) ∧ Below w.heap.size w w' := by
  have c1 : w.cell? ⟨b, 1, none⟩ = some (.bool false) := h.cell 1
  have c2 := h.cell 2
  simp only [List.getElem?_toArray, List.getElem?_cons_succ, List.getElem?_cons_zero] at c2
  have c3 := h.cell 3
  simp only [List.getElem?_toArray, List.getElem?_cons_succ, List.getElem?_cons_zero] at c3
  have c4 := h.cell 4
  simp only [List.getElem?_toArray, List.getElem?_cons_succ, List.getElem?_cons_zero] at c4
  have c5 := h.cell 5
  simp only [List.getElem?_toArray, List.getElem?_cons_succ, List.getElem?_cons_zero] at c5
  have c6 := h.cell 6
  simp only [List.getElem?_toArray, List.getElem?_cons_succ, List.getElem?_cons_zero] at c6
  have c7 := h.cell 7
  simp only [List.getElem?_toArray, List.getElem?_cons_succ, List.getElem?_cons_zero] at c7
  have c8 := h.cell 8
  simp only [List.getElem?_toArray, List.getElem?_cons_succ, List.getElem?_cons_zero] at c8
  have c9 := h.cell 9
  simp only [List.getElem?_toArray, List.getElem?_cons_succ, List.getElem?_cons_zero] at c9
  have c10 := h.cell 10
  simp only [List.getElem?_toArray, List.getElem?_cons_succ, List.getElem?_cons_zero] at c10
  have c11 := h.cell 11
  simp only [List.getElem?_toArray, List.getElem?_cons_succ, List.getElem?_cons_zero] at c11
  have c12 := h.cell 12
  simp only [List.getElem?_toArray, List.getElem?_cons_succ, List.getElem?_cons_zero] at c12
  clear h
  go_enter Tryz.func128, Tryz.ntmps128
  go_wp2_with fail
  refine (may_any lg sp ph ty ve dc sc tk le wi nu _ wty wty2 wve wve2 wdc wsc wtk wle wle2 wwi wwi2 wnu wnu2).mono ?_
  rintro e w1 ⟨rfl, hb⟩
  go_wp2
  go_ret
  exact ⟨rfl, hb⟩
theorem good_any (b n : Nat) (st : St) (lg sp ph : Bool) (ty ve : Int) (dc sc tk : List UInt8) (le wi nu : Int) (w : World) (h : Blk b st (.bool lg) (.bool sp) (.bool ph) (.int .i64 ty) (.int .u32 ve) (.string ⟨dc.toArray⟩) (.string ⟨sc.toArray⟩) (.string ⟨tk.toArray⟩) (.int .u64 le) (.int .i64 wi) (.int .u64 nu) (.int .u8 n) w) (wty : -9223372036854775808 ≤ ty) (wty2 : ty ≤ 9223372036854775807) (wve : 0 ≤ ve) (wve2 : ve ≤ 4294967295) (wdc : dc.length ≤ 9223372036854775807) (wsc : sc.length ≤ 9223372036854775807) (wtk : tk.length ≤ 9223372036854775807) (wle : 0 ≤ le) (wle2 : le ≤ 18446744073709551615) (wwi : -9223372036854775808 ≤ wi) (wwi2 : wi ≤ 9223372036854775807) (wnu : 0 ≤ nu) (wnu2 : nu ≤ 18446744073709551615) :
    Calls Tryz.prog 128 #[.pointer (some ⟨b, 0, none⟩)] w fun e w' => e = .returned (.bool (!st.w && mayB lg sp ph ty ve dc sc tk le wi nu)) ∧ Below w.heap.size w w' := by
  obtain ⟨s, wr⟩ := st
  cases wr with
  | false => exact good_f b n s lg sp ph ty ve dc sc tk le wi nu w h wty wty2 wve wve2 wdc wsc wtk wle wle2 wwi wwi2 wnu wnu2
  | true => exact good_t b n s lg sp ph ty ve dc sc tk le wi nu w h
end Go.Proofs.YtojoalmldapboaaGreatDoor.Hd
namespace Go.Proofs.YtojoalmldapboaaGreatDoor.Hd
set_option maxRecDepth 20000
open Go.RowKit Vm
set_option linter.unusedVariables false

theorem St.take_len' (st : St) (n : Nat) : (st.take n).length ≤ st.s.length := by
  unfold St.take
  split
  · rw [List.length_take]; omega
  · exact Nat.zero_le _
theorem St.take_ok {s : List UInt8} {w : Bool} {n : Nat} (h : n ≤ s.length) : St.take ⟨s, w⟩ n = s.take n := if_pos h
theorem St.skip_ok {s : List UInt8} {w : Bool} {n : Nat} (h : n ≤ s.length) : St.skip ⟨s, w⟩ n = ⟨s.drop n, w⟩ := if_pos h
theorem St.skip_no {s : List UInt8} {w : Bool} {n : Nat} (h : s.length < n) : St.skip ⟨s, w⟩ n = ⟨s, true⟩ := if_neg (Nat.not_le.2 h)
theorem gN_lt (l : List UInt8) : gN l < 4611686018427387904 := by
  unfold gN
  split
  · have hg := gk_pos l
    unfold gn
    exact Nat.lt_of_lt_of_le (Nat.mod_lt _ (Nat.pow_pos (by decide))) (Nat.le_trans (Nat.pow_le_pow_right (by decide) (show 8 * gk l - 2 ≤ 62 by omega)) (by decide))
  · decide
theorem rdId_len (st : St) : (rdId st).length ≤ st.s.length := Nat.le_trans (St.take_len' _ _) (St.skip_len _ _)
theorem rdTok_len (st : St) : (rdTok st).length ≤ st.s.length := Nat.le_trans (St.take_len' _ _) (St.vs_len _)
/-- What readAhead tells is bounded. -/
structure Bnd (r : Rd) (m : Nat) : Prop where
  ty : r.ty ≤ 3
  ve : r.ve ≤ 4294967295
  dc : r.dc.length ≤ m
  sc : r.sc.length ≤ m
  tk : r.tk.length ≤ m
  le : r.le < 4611686018427387904
  n : r.n < 256
  st : r.st.s.length ≤ m
theorem raN_lt (l : List UInt8) : raN l < 256 := bk1 _ (St.take_len _ _)
theorem ra_bnd (l : List UInt8) : Bnd (ra l) l.length := by
  have hn := raN_lt l
  have h1 : (raS2 l).s.length ≤ l.length := St.skip_len _ _
  by_cases h : 128 ≤ raN l
  · have e : ra l = ⟨(lgSt (raN l) (raS2 l)).vs, true, false, lgTy (raN l), bk ((raS2 l).take 4), rdId ((raS2 l).skip 4), rdId (rdIdS ((raS2 l).skip 4)), lgTok (raN l) (raS2 l), (lgSt (raN l) (raS2 l)).vn, raN l⟩ := if_pos h
    rw [e]
    clear e
    have h2 := Nat.le_trans (St.skip_len (raS2 l) 4) h1
    have h3 := Nat.le_trans (rdIdS_len ((raS2 l).skip 4)) h2
    have h4 := Nat.le_trans (rdIdS_len (rdIdS ((raS2 l).skip 4))) h3
    have hv : bk ((raS2 l).take 4) ≤ 4294967295 := by have := (bk4 ((raS2 l).take 4) (St.take_len _ _)).2; omega
    have h5 : (lgSt (raN l) (raS2 l)).s.length ≤ l.length := by
      unfold lgSt
      split
      · exact Nat.le_trans (rdTokS_len _) h4
      · exact h4
    have h6 : (lgTok (raN l) (raS2 l)).length ≤ l.length := by
      unfold lgTok
      split
      · exact Nat.le_trans (rdTok_len _) h4
      · exact Nat.zero_le _
    have h7 := Nat.le_trans (rdId_len ((raS2 l).skip 4)) h2
    have h8 := Nat.le_trans (rdId_len (rdIdS ((raS2 l).skip 4))) h3
    have h9 : (lgSt (raN l) (raS2 l)).vn < 4611686018427387904 := gN_lt _
    have h10 := Nat.le_trans (St.vs_len (lgSt (raN l) (raS2 l))) h5
    have h11 : lgTy (raN l) ≤ 3 := by unfold lgTy; omega
    generalize lgSt (raN l) (raS2 l) = a1 at *
    generalize lgTok (raN l) (raS2 l) = a2 at *
    generalize rdId ((raS2 l).skip 4) = a3 at *
    generalize rdId (rdIdS ((raS2 l).skip 4)) = a4 at *
    generalize bk ((raS2 l).take 4) = a5 at *
    generalize lgTy (raN l) = a6 at *
    exact ⟨h11, hv, h7, h8, h6, h9, hn, h10⟩
  · have e : ra l = ⟨(raS2 l).skip 8, false, decide (raN l / 32 % 2 = 1), 0, 0, (raS2 l).take 8, [], [], 0, raN l⟩ := if_neg h
    rw [e]
    clear e
    have h7 := Nat.le_trans (St.take_len' (raS2 l) 8) h1
    have h10 := Nat.le_trans (St.skip_len (raS2 l) 8) h1
    generalize (raS2 l).skip 8 = a1 at *
    generalize (raS2 l).take 8 = a2 at *
    exact ⟨Nat.zero_le _, Nat.zero_le _, h7, Nat.zero_le _, Nat.zero_le _, (show (0:Nat) < 4611686018427387904 by omega), hn, h10⟩
end Go.Proofs.YtojoalmldapboaaGreatDoor.Hd
