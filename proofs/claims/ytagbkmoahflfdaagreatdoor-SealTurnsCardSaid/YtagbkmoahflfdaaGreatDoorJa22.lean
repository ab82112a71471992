/- The walks of layer 4: May in one word. · The walks of layer 4: the number in one word; whether what was read is a header. · Plain mathematics of headers: what the program's reader reads is what stands ahead of a number. · The walks of layer 4: Get and Place, the program's -/
import Derived.Test.YtagbkmoahflfdaaGreatDoorJa21
import Derived.Test.YtagbkmoahflfdaaGreatDoorJa20
import Derived.Test.YtagbkmoahflfdaaGreatDoorJa19
import Derived.OpenShut
namespace Go.Proofs.YtagbkmoahflfdaaGreatDoor.Hd
set_option maxRecDepth 20000
open Go.RowKit Vm
set_option linter.unusedVariables false

/-- Whether a header has none but the parts that are put of one of its form. -/
def keptB (lg sp ph : Bool) (ty ve : Int) (sc tk : List UInt8) (le : Int) : Bool :=
  if lg then decide (sp = false ∧ ph = false ∧ (ty ≠ 0 → tk = [])) else decide (ty = 0 ∧ ve = 0 ∧ sc = [] ∧ tk = [] ∧ le = 0)
/-- Whether there is such a header. -/
def mayB (lg sp ph : Bool) (ty ve : Int) (dc sc tk : List UInt8) (le wi nu : Int) : Bool :=
  keptB lg sp ph ty ve sc tk le && bndB lg ty dc sc tk le && numB wi nu
theorem mayB_1 {lg sp ph : Bool} {ty ve : Int} {dc sc tk : List UInt8} {le wi nu : Int} (h : keptB lg sp ph ty ve sc tk le = false) : mayB lg sp ph ty ve dc sc tk le wi nu = false := by unfold mayB; rw [h]; rfl
theorem mayB_2 {lg sp ph : Bool} {ty ve : Int} {dc sc tk : List UInt8} {le wi nu : Int} (h : bndB lg ty dc sc tk le = false) : mayB lg sp ph ty ve dc sc tk le wi nu = false := by unfold mayB; rw [h]; simp
theorem mayB_3 {lg sp ph : Bool} {ty ve : Int} {dc sc tk : List UInt8} {le wi nu : Int} (h1 : keptB lg sp ph ty ve sc tk le = true) (h : bndB lg ty dc sc tk le = true) : mayB lg sp ph ty ve dc sc tk le wi nu = numB wi nu := by unfold mayB; rw [h1, h]; simp
theorem may_any (lg sp ph : Bool) (ty ve : Int) (dc sc tk : List UInt8) (le wi nu : Int) (w : World) (wty : -9223372036854775808 ≤ ty) (wty2 : ty ≤ 9223372036854775807) (wve : 0 ≤ ve) (wve2 : ve ≤ 4294967295) (wdc : dc.length ≤ 9223372036854775807) (wsc : sc.length ≤ 9223372036854775807) (wtk : tk.length ≤ 9223372036854775807) (wle : 0 ≤ le) (wle2 : le ≤ 18446744073709551615) (wwi : -9223372036854775808 ≤ wi) (wwi2 : wi ≤ 9223372036854775807) (wnu : 0 ≤ nu) (wnu2 : nu ≤ 18446744073709551615) :
    Calls Tryz.prog 85 #[.agg #[.bool lg, .bool sp, .bool ph, .int .i64 ty, .int .u32 ve, .string ⟨dc.toArray⟩, .string ⟨sc.toArray⟩, .string ⟨tk.toArray⟩, .int .u64 le, .int .i64 wi, .int .u64 nu]] w fun e w' => e = .returned (.bool (mayB lg sp ph ty ve dc sc tk le wi nu)) ∧ Below w.heap.size w w' := by
  cases lg with
  | false =>
    by_cases h : ty = 0 ∧ ve = 0 ∧ sc = [] ∧ tk = [] ∧ le = 0
    · have hk : keptB false sp ph ty ve sc tk le = true := by unfold keptB; rw [if_neg (by decide)]; exact decide_eq_true h
      cases hb : bndB false ty dc sc tk le with
      | false => rw [mayB_2 hb]; obtain ⟨rfl, rfl, rfl, rfl, rfl⟩ := h; exact may_s10 sp ph dc wi nu w wdc wwi wwi2 wnu wnu2 hb
      | true => rw [mayB_3 hk hb]; obtain ⟨rfl, rfl, rfl, rfl, rfl⟩ := h; exact may_s11 sp ph dc wi nu w wdc wwi wwi2 wnu wnu2 hb
    · have hk : keptB false sp ph ty ve sc tk le = false := by unfold keptB; rw [if_neg (by decide)]; exact decide_eq_false h
      rw [mayB_1 hk]
      exact may_s2 sp ph ty ve dc sc tk le wi nu w wty wty2 wve wve2 wdc wsc wtk wle wle2 wwi wwi2 wnu wnu2 (Lib.hid h)
  | true =>
    by_cases h0 : ty = 0
    · subst h0
      cases sp with
      | true =>
        have hk : keptB true true ph 0 ve sc tk le = false := by simp [keptB]
        rw [mayB_1 hk]; exact may_l2 ph ve dc sc tk le wi nu w wve wve2 wdc wsc wtk wle wle2 wwi wwi2 wnu wnu2
      | false => cases ph with
        | true =>
          have hk : keptB true false true 0 ve sc tk le = false := by simp [keptB]
          rw [mayB_1 hk]; exact may_l3 ve dc sc tk le wi nu w wve wve2 wdc wsc wtk wle wle2 wwi wwi2 wnu wnu2
        | false =>
          have hk : keptB true false false 0 ve sc tk le = true := by simp [keptB]
          cases hb : bndB true 0 dc sc tk le with
          | false => rw [mayB_2 hb]; exact may_l10 ve dc sc tk le wi nu w wve wve2 wdc wsc wtk wle wle2 wwi wwi2 wnu wnu2 hb
          | true => rw [mayB_3 hk hb]; exact may_l11 ve dc sc tk le wi nu w wve wve2 wdc wsc wtk wle wle2 wwi wwi2 wnu wnu2 hb
    · have hne : (ty != 0) = true := by simp [h0]
      cases sp with
      | true =>
        have hk : keptB true true ph ty ve sc tk le = false := by simp [keptB]
        rw [mayB_1 hk]; exact may_n2 ph ty ve dc sc tk le wi nu w wty wty2 wve wve2 wdc wsc wtk wle wle2 wwi wwi2 wnu wnu2 hne
      | false => cases ph with
        | true =>
          have hk : keptB true false true ty ve sc tk le = false := by simp [keptB]
          rw [mayB_1 hk]; exact may_n3 ty ve dc sc tk le wi nu w wty wty2 wve wve2 wdc wsc wtk wle wle2 wwi wwi2 wnu wnu2 hne
        | false =>
          by_cases ht : tk = []
          · subst ht
            have hk : keptB true false false ty ve sc [] le = true := by simp [keptB]
            cases hb : bndB true ty dc sc [] le with
            | false => rw [mayB_2 hb]; exact may_n10 ty ve dc sc le wi nu w wty wty2 wve wve2 wdc wsc wle wle2 wwi wwi2 wnu wnu2 hne hb
            | true => rw [mayB_3 hk hb]; exact may_n11 ty ve dc sc le wi nu w wty wty2 wve wve2 wdc wsc wle wle2 wwi wwi2 wnu wnu2 hne hb
          · have hk : keptB true false false ty ve sc tk le = false := by simp [keptB, h0, ht]
            rw [mayB_1 hk]; exact may_n4 ty ve dc sc tk le wi nu w wty wty2 wve wve2 wdc wsc wtk wle wle2 wwi wwi2 wnu wnu2 hne ht
end Go.Proofs.YtagbkmoahflfdaaGreatDoor.Hd
namespace Go.Proofs.YtagbkmoahflfdaaGreatDoor.Hd
set_option maxRecDepth 20000
open Go.RowKit Vm
set_option linter.unusedVariables false
set_option linter.unusedSimpArgs false

/-- Whether a first byte has a bit that is always 0. -/
def badN (n : Nat) : Bool := if n < 128 then decide (n / 8 % 4 ≠ 0) else decide (n / 4 % 4 ≠ 0)
theorem badN_eq : ∀ n : Nat, n < 256 → (bits .and .u8 (n : Int) (if 128 ≤ n then (12:Int) else 24) != 0) = badN n := by decide +kernel
theorem t4 : ∀ n : Nat, n < 256 → (bits .and .u8 (n : Int) 4 != 0) = decide (n / 4 % 2 = 1) := by decide +kernel
def rn1 (n : Nat) (st : St) : St := ⟨st.s, st.w || badN n⟩
def rnV (n : Nat) (st : St) : Nat := bk ((rn1 n st).take (1 + n % 4))
def rnS (n : Nat) (st : St) : St := (rn1 n st).skip (1 + n % 4)
theorem readNumber_any (b n : Nat) (st : St) (x2 x3 x5 x6 x7 x8 x9 xa : Value) (w : World) (h : Blk b st x2 x3 (.bool false) x5 x6 x7 x8 x9 xa (.int .i64 0) (.int .u64 0) (.int .u8 n) w) (hl : st.s.length ≤ 9223372036854775807) (hn : n < 256) :
    Calls Tryz.prog 131 #[.pointer (some ⟨b, 0, none⟩)] w fun e w' => e = .returned (.tuple #[]) ∧ Blk b (rnS n st) x2 x3 (.bool (decide (n / 4 % 2 = 1))) x5 x6 x7 x8 x9 xa (.int .i64 (1 + n % 4 : Nat)) (.int .u64 (rnV n st : Nat)) (.int .u8 n) w' ∧ Below b w w' := by
  obtain ⟨s, wr⟩ := st
  cases wr with
  | false =>
    have e : rn1 n ⟨s, false⟩ = ⟨s, badN n⟩ := rfl
    exact readNumber_f b n (1 + n % 4) (rnV n ⟨s, false⟩) s (rnS n ⟨s, false⟩) x2 x3 x5 x6 x7 x8 x9 xa (badN n) (decide (n / 4 % 2 = 1)) _ w h (Lib.hid ⟨by unfold rnV; rw [e], by unfold rnS; rw [e]⟩) (Lib.hid rfl) (Lib.hid rfl) (badN_eq n hn) (t4 n hn) hl hn (by omega)
  | true =>
    have e : rn1 n ⟨s, true⟩ = ⟨s, true⟩ := rfl
    exact readNumber_t b n (1 + n % 4) (rnV n ⟨s, true⟩) s (rnS n ⟨s, true⟩) x2 x3 x5 x6 x7 x8 x9 xa (decide (n / 4 % 2 = 1)) w h (Lib.hid ⟨by unfold rnV; rw [e], by unfold rnS; rw [e]⟩) (Lib.hid rfl) (t4 n hn) hl hn (by omega)
set_option maxHeartbeats 1000000 in
theorem good_t (b n : Nat) (s : List UInt8) (lg sp ph : Bool) (ty ve : Int) (dc sc tk : List UInt8) (le wi nu : Int) (w : World) (h : Blk b ⟨s, true⟩ (.bool lg) (.bool sp) (.bool ph) (.int .i64 ty) (.int .u32 ve) (.string ⟨dc.toArray⟩) (.string ⟨sc.toArray⟩) (.string ⟨tk.toArray⟩) (.int .u64 le) (.int .i64 wi) (.int .u64 nu) (.int .u8 n) w) :
    Calls Tryz.prog 128 #[.pointer (some ⟨b, 0, none⟩)] w fun e w' => e = .returned (.bool false) ∧ Below w.heap.size w w' := by
  have c1 : w.cell? ⟨b, 1, none⟩ = some (.bool true) := h.cell 1
  clear h
  go_enter Tryz.func128, Tryz.ntmps128
  go_wp2
  go_ret
  exact ⟨rfl, Below.refl _ _⟩
set_option maxHeartbeats 1000000 in
theorem good_f (b n : Nat) (s : List UInt8) (lg sp ph : Bool) (ty ve : Int) (dc sc tk : List UInt8) (le wi nu : Int) (w : World) (h : Blk b ⟨s, false⟩ (.bool lg) (.bool sp) (.bool ph) (.int .i64 ty) (.int .u32 ve) (.string ⟨dc.toArray⟩) (.string ⟨sc.toArray⟩) (.string ⟨tk.toArray⟩) (.int .u64 le) (.int .i64 wi) (.int .u64 nu) (.int .u8 n) w) (wty : -9223372036854775808 ≤ ty) (wty2 : ty ≤ 9223372036854775807) (wve : 0 ≤ ve) (wve2 : ve ≤ 4294967295) (wdc : dc.length ≤ 9223372036854775807) (wsc : sc.length ≤ 9223372036854775807) (wtk : tk.length ≤ 9223372036854775807) (wle : 0 ≤ le) (wle2 : le ≤ 18446744073709551615) (wwi : -9223372036854775808 ≤ wi) (wwi2 : wi ≤ 9223372036854775807) (wnu : 0 ≤ nu) (wnu2 : nu ≤ 18446744073709551615) :
    Calls Tryz.prog 128 #[.pointer (some ⟨b, 0, none⟩)] w fun e w' => e = .returned (.bool (mayB lg sp ph ty ve dc sc tk le wi nu)) ∧ Below w.heap.size w w' := by
  have c1 : w.cell? ⟨b, 1, none⟩ = some (.bool false) := h.cell 1
  have c2 := h.cell 2
  simp only [List.getElem?_toArray, List.getElem?_cons_succ, List.getElem?_cons_zero] at c2
  have c3 := h.cell 3
  simp only [List.getElem?_toArray, List.getElem?_cons_succ, List.getElem?_cons_zero] at c3
  have c4 := h.cell 4
  simp only [List.getElem?_toArray, List.getElem?_cons_succ, List.getElem?_cons_zero] at c4
  have c5 := h.cell 5
  simp only [List.getElem?_toArray, List.getElem?_cons_succ, List.getElem?_cons_zero] at c5
  have c6 := h.cell 6
  simp only [List.getElem?_toArray, List.getElem?_cons_succ, List.getElem?_cons_zero] at c6
  have c7 := h.cell 7
  simp only [List.getElem?_toArray, List.getElem?_cons_succ, List.getElem?_cons_zero] at c7
  have c8 := h.cell 8
  simp only [List.getElem?_toArray, List.getElem?_cons_succ, List.getElem?_cons_zero] at c8
  have c9 := h.cell 9
  simp only [List.getElem?_toArray, List.getElem?_cons_succ, List.getElem?_cons_zero] at c9
  have c10 := h.cell 10
  simp only [List.getElem?_toArray, List.getElem?_cons_succ, List.getElem?_cons_zero] at c10
  have c11 := h.cell 11
  simp only [List.getElem?_toArray, List.getElem?_cons_succ, List.getElem?_cons_zero] at c11
  have c12 := h.cell 12
  simp only [List.getElem?_toArray, List.getElem?_cons_succ, List.getElem?_cons_zero] at c12
  clear h
  go_enter Tryz.func128, Tryz.ntmps128
  go_wp2_with fail
  refine (may_any lg sp ph ty ve dc sc tk le wi nu _ wty wty2 wve wve2 wdc wsc wtk wle wle2 wwi wwi2 wnu wnu2).mono ?_
  rintro e w1 ⟨rfl, hb⟩
  go_wp2
  go_ret
  exact ⟨rfl, hb⟩
theorem good_any (b n : Nat) (st : St) (lg sp ph : Bool) (ty ve : Int) (dc sc tk : List UInt8) (le wi nu : Int) (w : World) (h : Blk b st (.bool lg) (.bool sp) (.bool ph) (.int .i64 ty) (.int .u32 ve) (.string ⟨dc.toArray⟩) (.string ⟨sc.toArray⟩) (.string ⟨tk.toArray⟩) (.int .u64 le) (.int .i64 wi) (.int .u64 nu) (.int .u8 n) w) (wty : -9223372036854775808 ≤ ty) (wty2 : ty ≤ 9223372036854775807) (wve : 0 ≤ ve) (wve2 : ve ≤ 4294967295) (wdc : dc.length ≤ 9223372036854775807) (wsc : sc.length ≤ 9223372036854775807) (wtk : tk.length ≤ 9223372036854775807) (wle : 0 ≤ le) (wle2 : le ≤ 18446744073709551615) (wwi : -9223372036854775808 ≤ wi) (wwi2 : wi ≤ 9223372036854775807) (wnu : 0 ≤ nu) (wnu2 : nu ≤ 18446744073709551615) :
    Calls Tryz.prog 128 #[.pointer (some ⟨b, 0, none⟩)] w fun e w' => e = .returned (.bool (!st.w && mayB lg sp ph ty ve dc sc tk le wi nu)) ∧ Below w.heap.size w w' := by
  obtain ⟨s, wr⟩ := st
  cases wr with
  | false => exact good_f b n s lg sp ph ty ve dc sc tk le wi nu w h wty wty2 wve wve2 wdc wsc wtk wle wle2 wwi wwi2 wnu wnu2
  | true => exact good_t b n s lg sp ph ty ve dc sc tk le wi nu w h
end Go.Proofs.YtagbkmoahflfdaaGreatDoor.Hd
namespace Go.Proofs.YtagbkmoahflfdaaGreatDoor.Hd
set_option maxRecDepth 20000
open Go.RowKit Vm
set_option linter.unusedVariables false

theorem St.take_len' (st : St) (n : Nat) : (st.take n).length ≤ st.s.length := by
  unfold St.take
  split
  · rw [List.length_take]; omega
  · exact Nat.zero_le _
theorem St.take_ok {s : List UInt8} {w : Bool} {n : Nat} (h : n ≤ s.length) : St.take ⟨s, w⟩ n = s.take n := if_pos h
theorem St.skip_ok {s : List UInt8} {w : Bool} {n : Nat} (h : n ≤ s.length) : St.skip ⟨s, w⟩ n = ⟨s.drop n, w⟩ := if_pos h
theorem St.skip_no {s : List UInt8} {w : Bool} {n : Nat} (h : s.length < n) : St.skip ⟨s, w⟩ n = ⟨s, true⟩ := if_neg (Nat.not_le.2 h)
theorem gN_lt (l : List UInt8) : gN l < 4611686018427387904 := by
  unfold gN
  split
  · have hg := gk_pos l
    unfold gn
    exact Nat.lt_of_lt_of_le (Nat.mod_lt _ (Nat.pow_pos (by decide))) (Nat.le_trans (Nat.pow_le_pow_right (by decide) (show 8 * gk l - 2 ≤ 62 by omega)) (by decide))
  · decide
theorem rdId_len (st : St) : (rdId st).length ≤ st.s.length := Nat.le_trans (St.take_len' _ _) (St.skip_len _ _)
theorem rdTok_len (st : St) : (rdTok st).length ≤ st.s.length := Nat.le_trans (St.take_len' _ _) (St.vs_len _)
/-- What readAhead tells is bounded. -/
structure Bnd (r : Rd) (m : Nat) : Prop where
  ty : r.ty ≤ 3
  ve : r.ve ≤ 4294967295
  dc : r.dc.length ≤ m
  sc : r.sc.length ≤ m
  tk : r.tk.length ≤ m
  le : r.le < 4611686018427387904
  n : r.n < 256
  st : r.st.s.length ≤ m
theorem raN_lt (l : List UInt8) : raN l < 256 := bk1 _ (St.take_len _ _)
theorem ra_bnd (l : List UInt8) : Bnd (ra l) l.length := by
  have hn := raN_lt l
  have h1 : (raS2 l).s.length ≤ l.length := St.skip_len _ _
  by_cases h : 128 ≤ raN l
  · have e : ra l = ⟨(lgSt (raN l) (raS2 l)).vs, true, false, lgTy (raN l), bk ((raS2 l).take 4), rdId ((raS2 l).skip 4), rdId (rdIdS ((raS2 l).skip 4)), lgTok (raN l) (raS2 l), (lgSt (raN l) (raS2 l)).vn, raN l⟩ := if_pos h
    rw [e]
    clear e
    have h2 := Nat.le_trans (St.skip_len (raS2 l) 4) h1
    have h3 := Nat.le_trans (rdIdS_len ((raS2 l).skip 4)) h2
    have h4 := Nat.le_trans (rdIdS_len (rdIdS ((raS2 l).skip 4))) h3
    have hv : bk ((raS2 l).take 4) ≤ 4294967295 := by have := (bk4 ((raS2 l).take 4) (St.take_len _ _)).2; omega
    have h5 : (lgSt (raN l) (raS2 l)).s.length ≤ l.length := by
      unfold lgSt
      split
      · exact Nat.le_trans (rdTokS_len _) h4
      · exact h4
    have h6 : (lgTok (raN l) (raS2 l)).length ≤ l.length := by
      unfold lgTok
      split
      · exact Nat.le_trans (rdTok_len _) h4
      · exact Nat.zero_le _
    have h7 := Nat.le_trans (rdId_len ((raS2 l).skip 4)) h2
    have h8 := Nat.le_trans (rdId_len (rdIdS ((raS2 l).skip 4))) h3
    have h9 : (lgSt (raN l) (raS2 l)).vn < 4611686018427387904 := gN_lt _
    have h10 := Nat.le_trans (St.vs_len (lgSt (raN l) (raS2 l))) h5
    have h11 : lgTy (raN l) ≤ 3 := by unfold lgTy; omega
    generalize lgSt (raN l) (raS2 l) = a1 at *
    generalize lgTok (raN l) (raS2 l) = a2 at *
    generalize rdId ((raS2 l).skip 4) = a3 at *
    generalize rdId (rdIdS ((raS2 l).skip 4)) = a4 at *
    generalize bk ((raS2 l).take 4) = a5 at *
    generalize lgTy (raN l) = a6 at *
    exact ⟨h11, hv, h7, h8, h6, h9, hn, h10⟩
  · have e : ra l = ⟨(raS2 l).skip 8, false, decide (raN l / 32 % 2 = 1), 0, 0, (raS2 l).take 8, [], [], 0, raN l⟩ := if_neg h
    rw [e]
    clear e
    have h7 := Nat.le_trans (St.take_len' (raS2 l) 8) h1
    have h10 := Nat.le_trans (St.skip_len (raS2 l) 8) h1
    generalize (raS2 l).skip 8 = a1 at *
    generalize (raS2 l).take 8 = a2 at *
    exact ⟨Nat.zero_le _, Nat.zero_le _, h7, Nat.zero_le _, Nat.zero_le _, (show (0:Nat) < 4611686018427387904 by omega), hn, h10⟩
end Go.Proofs.YtagbkmoahflfdaaGreatDoor.Hd
namespace Go.Proofs.YtagbkmoahflfdaaGreatDoor.Hd
set_option maxRecDepth 20000
open Go.RowKit Vm
set_option linter.unusedVariables false
set_option linter.unusedSimpArgs false

/-- A block that holds a header, known whole. -/
def HBk (b : Nat) (x0 x1 x2 x3 x4 x5 x6 x7 x8 x9 x10 : Value) (w : World) : Prop := w.heap[b]? = some (.cells #[x0, x1, x2, x3, x4, x5, x6, x7, x8, x9, x10] 101 (0, 0))
theorem HBk.made (w : World) (x0 x1 x2 x3 x4 x5 x6 x7 x8 x9 x10 : Value) : HBk w.heap.size x0 x1 x2 x3 x4 x5 x6 x7 x8 x9 x10 (w.alloc (.cells #[x0, x1, x2, x3, x4, x5, x6, x7, x8, x9, x10] 101)) := by
  unfold HBk World.alloc
  simp
theorem HBk.up {b : Nat} {x0 x1 x2 x3 x4 x5 x6 x7 x8 x9 x10 : Value} {w w' : World} (h : HBk b x0 x1 x2 x3 x4 x5 x6 x7 x8 x9 x10 w) {n : Nat} (hb : Below n w w') (hn : b < n) : HBk b x0 x1 x2 x3 x4 x5 x6 x7 x8 x9 x10 w' := by
  unfold HBk at *
  rw [hb.block b hn]; exact h
theorem HBk.lt {b : Nat} {x0 x1 x2 x3 x4 x5 x6 x7 x8 x9 x10 : Value} {w : World} (h : HBk b x0 x1 x2 x3 x4 x5 x6 x7 x8 x9 x10 w) : b < w.heap.size := by
  rcases Nat.lt_or_ge b w.heap.size with h1 | h1
  · exact h1
  · unfold HBk at h; rw [Array.getElem?_eq_none h1] at h; cases h
theorem HBk.keep {b : Nat} {x0 x1 x2 x3 x4 x5 x6 x7 x8 x9 x10 : Value} {w w' : World} (h : HBk b x0 x1 x2 x3 x4 x5 x6 x7 x8 x9 x10 w) (hb : Below w.heap.size w w') : HBk b x0 x1 x2 x3 x4 x5 x6 x7 x8 x9 x10 w' := h.up hb h.lt
theorem HBk.cell {b : Nat} {x0 x1 x2 x3 x4 x5 x6 x7 x8 x9 x10 : Value} {w : World} (h : HBk b x0 x1 x2 x3 x4 x5 x6 x7 x8 x9 x10 w) (j : Nat) : w.cell? ⟨b, j, none⟩ = (#[x0, x1, x2, x3, x4, x5, x6, x7, x8, x9, x10] : Array Value)[j]? := Lib.cell_of_heap h j
theorem HBk.fz {b : Nat} {x0 x1 x2 x3 x4 x5 x6 x7 x8 x9 x10 : Value} {w : World} (h : HBk b x0 x1 x2 x3 x4 x5 x6 x7 x8 x9 x10 w) (j : Nat) : w.frozen? ⟨b, j, none⟩ = false := Lib.frozen_of_heap h j
set_option maxHeartbeats 4000000 in
theorem get_g (l s0 : List UInt8) (wr lg sp : Bool) (ty ve le n : Nat) (dc sc tk : List UInt8) (k v : Nat) (rest : List UInt8) (bad : Bool) (w : World) (ht : Tab w) (ER : Hid (ra l = ⟨⟨s0, wr⟩, lg, sp, ty, ve, dc, sc, tk, le, n⟩)) (EK : Hid (1 + n % 4 = k)) (EV : Hid (rnV n ⟨s0, wr⟩ = v)) (ES : Hid (rnS n ⟨s0, wr⟩ = ⟨rest, bad⟩)) (HB : Hid (Bnd (ra l) l.length)) (hl : l.length ≤ 140737488351232)
    (EG : Hid ((!bad && mayB lg sp (decide (n / 4 % 2 = 1)) (ty : Nat) (ve : Nat) dc sc tk (le : Nat) (k : Nat) (v : Nat)) = true)) (EK4 : k ≤ 4) (EV4 : ((v : Nat) : Int) < 4294967296) :
    Calls Tryz.prog 100 #[.string ⟨l.toArray⟩] w fun e w' => e = .returned (.tuple #[.agg #[.bool lg, .bool sp, .bool (decide (n / 4 % 2 = 1)), .int .i64 (ty : Nat), .int .u32 (ve : Nat), .string ⟨dc.toArray⟩, .string ⟨sc.toArray⟩, .string ⟨tk.toArray⟩, .int .u64 (le : Nat), .int .i64 (k : Nat), .int .u64 (v : Nat)], .string ⟨rest.toArray⟩, .int .i64 0]) ∧ Below w.heap.size w w' := by
  have HR := Lib.hid (fun (w : World) (ht : Tab w) => readAhead_any l w ht (by omega))
  rw [ER.out] at HR HB
  have bn := HB.out.n
  have bl := HB.out.st
  have hty : ((ty : Nat) : Int) ≤ 3 := Int.ofNat_le.2 HB.out.ty
  have hve : ((ve : Nat) : Int) ≤ 4294967295 := Int.ofNat_le.2 HB.out.ve
  have hdc := HB.out.dc
  have hsc := HB.out.sc
  have htk := HB.out.tk
  have hle : ((le : Nat) : Int) < 4611686018427387904 := Int.ofNat_lt.2 HB.out.le
  simp only at bn bl hdc hsc htk
  have hlt := ht.lt
  have HT := Lib.hid ht
  clear ht ER HB
  go_enter Tryz.func100, Tryz.ntmps100
  go_wp2_with fail
  refine (HR.out _ ?_).mono ?_
  · exact HT.out.below ((Below.refl _ _).alloc (Nat.le_refl _) _) hlt
  rintro e w1 ⟨rfl, hb1⟩
  have R := Lib.hid ((HBk.made w (.bool false) (.bool false) (.bool false) (.int .i64 0) (.int .u32 0) (.string ⟨#[]⟩) (.string ⟨#[]⟩) (.string ⟨#[]⟩) (.int .u64 0) (.int .i64 0) (.int .u64 0)).keep hb1)
  have HBL := Lib.hid (((Below.refl w.heap.size w).alloc (Nat.le_refl _) (.cells #[.bool false, .bool false, .bool false, .int .i64 0, .int .u32 0, .string ⟨#[]⟩, .string ⟨#[]⟩, .string ⟨#[]⟩, .int .u64 0, .int .i64 0, .int .u64 0] 101)).trans (hb1.mono (by simp)))
  have hz1 := R.out.lt
  go_wp2_with fail
  refine (readNumber_any w1.heap.size n ⟨s0, wr⟩ (.bool lg) (.bool sp) (.int .i64 (ty : Nat)) (.int .u32 (ve : Nat)) (.string ⟨dc.toArray⟩) (.string ⟨sc.toArray⟩) (.string ⟨tk.toArray⟩) (.int .u64 (le : Nat)) _ (Blk.made w1 ⟨s0, wr⟩ (.bool lg) (.bool sp) (.bool false) (.int .i64 (ty : Nat)) (.int .u32 (ve : Nat)) (.string ⟨dc.toArray⟩) (.string ⟨sc.toArray⟩) (.string ⟨tk.toArray⟩) (.int .u64 (le : Nat)) (.int .i64 0) (.int .u64 0) (.int .u8 (n : Nat))) (by show s0.length ≤ _; omega) bn).mono ?_
  rintro e w2 ⟨rfl, h2, hb2⟩
  rw [EK.out, EV.out, ES.out] at h2
  replace R := Lib.hid ((R.out.keep ((Below.refl _ _).alloc (Nat.le_refl _) (.cells #[.string ⟨s0.toArray⟩, .bool wr, .bool lg, .bool sp, .bool false, .int .i64 (ty : Nat), .int .u32 (ve : Nat), .string ⟨dc.toArray⟩, .string ⟨sc.toArray⟩, .string ⟨tk.toArray⟩, .int .u64 (le : Nat), .int .i64 0, .int .u64 0, .int .u8 (n : Nat)] 172))).up hb2 hz1)
  have hz2 := hb2.size
  simp at hz2
  replace HBL := Lib.hid ((HBL.out.alloc (by omega) (.cells #[.string ⟨s0.toArray⟩, .bool wr, .bool lg, .bool sp, .bool false, .int .i64 (ty : Nat), .int .u32 (ve : Nat), .string ⟨dc.toArray⟩, .string ⟨sc.toArray⟩, .string ⟨tk.toArray⟩, .int .u64 (le : Nat), .int .i64 0, .int .u64 0, .int .u8 (n : Nat)] 172)).trans (hb2.mono (by omega)))
  have H := Lib.hid h2
  clear h2 hb2
  go_wp2_with fail
  refine (good_any w1.heap.size n ⟨rest, bad⟩ (lg) (sp) ((decide (n / 4 % 2 = 1))) ((ty : Nat)) ((ve : Nat)) (dc) (sc) (tk) ((le : Nat)) ((k : Nat)) ((v : Nat)) _ H.out (by omega) (by omega) (by omega) (by omega) (by omega) (by omega) (by omega) (by omega) (by omega) (by omega) (by omega) (by omega) (by omega)).mono ?_
  rintro e w3 ⟨rfl, hb3⟩
  rw [EG.out]
  replace H := Lib.hid (H.out.below hb3)
  replace R := Lib.hid (R.out.keep hb3)
  replace HBL := Lib.hid (HBL.out.trans (hb3.mono (by omega)))
  clear hb1 hb3
  have r0 := R.out.cell 0
  simp only [List.getElem?_toArray, List.getElem?_cons_succ, List.getElem?_cons_zero] at r0
  have r1 := R.out.cell 1
  simp only [List.getElem?_toArray, List.getElem?_cons_succ, List.getElem?_cons_zero] at r1
  have r2 := R.out.cell 2
  simp only [List.getElem?_toArray, List.getElem?_cons_succ, List.getElem?_cons_zero] at r2
  have r3 := R.out.cell 3
  simp only [List.getElem?_toArray, List.getElem?_cons_succ, List.getElem?_cons_zero] at r3
  have r4 := R.out.cell 4
  simp only [List.getElem?_toArray, List.getElem?_cons_succ, List.getElem?_cons_zero] at r4
  have r5 := R.out.cell 5
  simp only [List.getElem?_toArray, List.getElem?_cons_succ, List.getElem?_cons_zero] at r5
  have r6 := R.out.cell 6
  simp only [List.getElem?_toArray, List.getElem?_cons_succ, List.getElem?_cons_zero] at r6
  have r7 := R.out.cell 7
  simp only [List.getElem?_toArray, List.getElem?_cons_succ, List.getElem?_cons_zero] at r7
  have r8 := R.out.cell 8
  simp only [List.getElem?_toArray, List.getElem?_cons_succ, List.getElem?_cons_zero] at r8
  have r9 := R.out.cell 9
  simp only [List.getElem?_toArray, List.getElem?_cons_succ, List.getElem?_cons_zero] at r9
  have r10 := R.out.cell 10
  simp only [List.getElem?_toArray, List.getElem?_cons_succ, List.getElem?_cons_zero] at r10
  have q0 := R.out.fz 0
  have q1 := R.out.fz 1
  have q2 := R.out.fz 2
  have q3 := R.out.fz 3
  have q4 := R.out.fz 4
  have q5 := R.out.fz 5
  have q6 := R.out.fz 6
  have q7 := R.out.fz 7
  have q8 := R.out.fz 8
  have q9 := R.out.fz 9
  have q10 := R.out.fz 10
  have g0 := H.out.cell 0
  simp only [List.getElem?_toArray, List.getElem?_cons_succ, List.getElem?_cons_zero] at g0
  have g1 := H.out.cell 1
  simp only [List.getElem?_toArray, List.getElem?_cons_succ, List.getElem?_cons_zero] at g1
  have g2 := H.out.cell 2
  simp only [List.getElem?_toArray, List.getElem?_cons_succ, List.getElem?_cons_zero] at g2
  have g3 := H.out.cell 3
  simp only [List.getElem?_toArray, List.getElem?_cons_succ, List.getElem?_cons_zero] at g3
  have g4 := H.out.cell 4
  simp only [List.getElem?_toArray, List.getElem?_cons_succ, List.getElem?_cons_zero] at g4
  have g5 := H.out.cell 5
  simp only [List.getElem?_toArray, List.getElem?_cons_succ, List.getElem?_cons_zero] at g5
  have g6 := H.out.cell 6
  simp only [List.getElem?_toArray, List.getElem?_cons_succ, List.getElem?_cons_zero] at g6
  have g7 := H.out.cell 7
  simp only [List.getElem?_toArray, List.getElem?_cons_succ, List.getElem?_cons_zero] at g7
  have g8 := H.out.cell 8
  simp only [List.getElem?_toArray, List.getElem?_cons_succ, List.getElem?_cons_zero] at g8
  have g9 := H.out.cell 9
  simp only [List.getElem?_toArray, List.getElem?_cons_succ, List.getElem?_cons_zero] at g9
  have g10 := H.out.cell 10
  simp only [List.getElem?_toArray, List.getElem?_cons_succ, List.getElem?_cons_zero] at g10
  have g11 := H.out.cell 11
  simp only [List.getElem?_toArray, List.getElem?_cons_succ, List.getElem?_cons_zero] at g11
  have g12 := H.out.cell 12
  simp only [List.getElem?_toArray, List.getElem?_cons_succ, List.getElem?_cons_zero] at g12
  go_wp2_with fail
  go_region
  all_goals go_wp2
  all_goals
    refine bodyPost_ret (v := .tuple #[.agg #[.bool lg, .bool sp, .bool (decide (n / 4 % 2 = 1)), .int .i64 (ty : Nat), .int .u32 (ve : Nat), .string ⟨dc.toArray⟩, .string ⟨sc.toArray⟩, .string ⟨tk.toArray⟩, .int .u64 (le : Nat), .int .i64 (k : Nat), .int .u64 (v : Nat)], .string ⟨rest.toArray⟩, .int .i64 0]) (by simp [results, Tryz.results100, go_sem, *]) rfl ⟨rfl, ?_⟩
    refine below_drew ?_
    iterate 11 (refine Below.setCell ?_ (by exact Nat.le_refl _) _)
    exact HBL.out
set_option maxHeartbeats 4000000 in
theorem get_b (l s0 : List UInt8) (wr lg sp : Bool) (ty ve le n : Nat) (dc sc tk : List UInt8) (k v : Nat) (rest : List UInt8) (bad : Bool) (w : World) (ht : Tab w) (ER : Hid (ra l = ⟨⟨s0, wr⟩, lg, sp, ty, ve, dc, sc, tk, le, n⟩)) (EK : Hid (1 + n % 4 = k)) (EV : Hid (rnV n ⟨s0, wr⟩ = v)) (ES : Hid (rnS n ⟨s0, wr⟩ = ⟨rest, bad⟩)) (HB : Hid (Bnd (ra l) l.length)) (hl : l.length ≤ 140737488351232)
    (EG : Hid ((!bad && mayB lg sp (decide (n / 4 % 2 = 1)) (ty : Nat) (ve : Nat) dc sc tk (le : Nat) (k : Nat) (v : Nat)) = false)) (EK4 : k ≤ 4) (EV4 : ((v : Nat) : Int) < 4294967296) :
    Calls Tryz.prog 100 #[.string ⟨l.toArray⟩] w fun e w' => e = .returned (.tuple #[.agg #[.bool false, .bool false, .bool false, .int .i64 0, .int .u32 0, .string ⟨#[]⟩, .string ⟨#[]⟩, .string ⟨#[]⟩, .int .u64 0, .int .i64 0, .int .u64 0], .string ⟨#[]⟩, .int .i64 40]) ∧ Below w.heap.size w w' := by
  have HR := Lib.hid (fun (w : World) (ht : Tab w) => readAhead_any l w ht (by omega))
  rw [ER.out] at HR HB
  have bn := HB.out.n
  have bl := HB.out.st
  have hty : ((ty : Nat) : Int) ≤ 3 := Int.ofNat_le.2 HB.out.ty
  have hve : ((ve : Nat) : Int) ≤ 4294967295 := Int.ofNat_le.2 HB.out.ve
  have hdc := HB.out.dc
  have hsc := HB.out.sc
  have htk := HB.out.tk
  have hle : ((le : Nat) : Int) < 4611686018427387904 := Int.ofNat_lt.2 HB.out.le
  simp only at bn bl hdc hsc htk
  have hlt := ht.lt
  have HT := Lib.hid ht
  clear ht ER HB
  go_enter Tryz.func100, Tryz.ntmps100
  go_wp2_with fail
  refine (HR.out _ ?_).mono ?_
  · exact HT.out.below ((Below.refl _ _).alloc (Nat.le_refl _) _) hlt
  rintro e w1 ⟨rfl, hb1⟩
  have R := Lib.hid ((HBk.made w (.bool false) (.bool false) (.bool false) (.int .i64 0) (.int .u32 0) (.string ⟨#[]⟩) (.string ⟨#[]⟩) (.string ⟨#[]⟩) (.int .u64 0) (.int .i64 0) (.int .u64 0)).keep hb1)
  have HBL := Lib.hid (((Below.refl w.heap.size w).alloc (Nat.le_refl _) (.cells #[.bool false, .bool false, .bool false, .int .i64 0, .int .u32 0, .string ⟨#[]⟩, .string ⟨#[]⟩, .string ⟨#[]⟩, .int .u64 0, .int .i64 0, .int .u64 0] 101)).trans (hb1.mono (by simp)))
  have hz1 := R.out.lt
  go_wp2_with fail
  refine (readNumber_any w1.heap.size n ⟨s0, wr⟩ (.bool lg) (.bool sp) (.int .i64 (ty : Nat)) (.int .u32 (ve : Nat)) (.string ⟨dc.toArray⟩) (.string ⟨sc.toArray⟩) (.string ⟨tk.toArray⟩) (.int .u64 (le : Nat)) _ (Blk.made w1 ⟨s0, wr⟩ (.bool lg) (.bool sp) (.bool false) (.int .i64 (ty : Nat)) (.int .u32 (ve : Nat)) (.string ⟨dc.toArray⟩) (.string ⟨sc.toArray⟩) (.string ⟨tk.toArray⟩) (.int .u64 (le : Nat)) (.int .i64 0) (.int .u64 0) (.int .u8 (n : Nat))) (by show s0.length ≤ _; omega) bn).mono ?_
  rintro e w2 ⟨rfl, h2, hb2⟩
  rw [EK.out, EV.out, ES.out] at h2
  replace R := Lib.hid ((R.out.keep ((Below.refl _ _).alloc (Nat.le_refl _) (.cells #[.string ⟨s0.toArray⟩, .bool wr, .bool lg, .bool sp, .bool false, .int .i64 (ty : Nat), .int .u32 (ve : Nat), .string ⟨dc.toArray⟩, .string ⟨sc.toArray⟩, .string ⟨tk.toArray⟩, .int .u64 (le : Nat), .int .i64 0, .int .u64 0, .int .u8 (n : Nat)] 172))).up hb2 hz1)
  have hz2 := hb2.size
  simp at hz2
  replace HBL := Lib.hid ((HBL.out.alloc (by omega) (.cells #[.string ⟨s0.toArray⟩, .bool wr, .bool lg, .bool sp, .bool false, .int .i64 (ty : Nat), .int .u32 (ve : Nat), .string ⟨dc.toArray⟩, .string ⟨sc.toArray⟩, .string ⟨tk.toArray⟩, .int .u64 (le : Nat), .int .i64 0, .int .u64 0, .int .u8 (n : Nat)] 172)).trans (hb2.mono (by omega)))
  have H := Lib.hid h2
  clear h2 hb2
  go_wp2_with fail
  refine (good_any w1.heap.size n ⟨rest, bad⟩ (lg) (sp) ((decide (n / 4 % 2 = 1))) ((ty : Nat)) ((ve : Nat)) (dc) (sc) (tk) ((le : Nat)) ((k : Nat)) ((v : Nat)) _ H.out (by omega) (by omega) (by omega) (by omega) (by omega) (by omega) (by omega) (by omega) (by omega) (by omega) (by omega) (by omega) (by omega)).mono ?_
  rintro e w3 ⟨rfl, hb3⟩
  rw [EG.out]
  replace H := Lib.hid (H.out.below hb3)
  replace R := Lib.hid (R.out.keep hb3)
  replace HBL := Lib.hid (HBL.out.trans (hb3.mono (by omega)))
  clear hb1 hb3
  have r0 := R.out.cell 0
  simp only [List.getElem?_toArray, List.getElem?_cons_succ, List.getElem?_cons_zero] at r0
  have r1 := R.out.cell 1
  simp only [List.getElem?_toArray, List.getElem?_cons_succ, List.getElem?_cons_zero] at r1
  have r2 := R.out.cell 2
  simp only [List.getElem?_toArray, List.getElem?_cons_succ, List.getElem?_cons_zero] at r2
  have r3 := R.out.cell 3
  simp only [List.getElem?_toArray, List.getElem?_cons_succ, List.getElem?_cons_zero] at r3
  have r4 := R.out.cell 4
  simp only [List.getElem?_toArray, List.getElem?_cons_succ, List.getElem?_cons_zero] at r4
  have r5 := R.out.cell 5
  simp only [List.getElem?_toArray, List.getElem?_cons_succ, List.getElem?_cons_zero] at r5
  have r6 := R.out.cell 6
  simp only [List.getElem?_toArray, List.getElem?_cons_succ, List.getElem?_cons_zero] at r6
  have r7 := R.out.cell 7
  simp only [List.getElem?_toArray, List.getElem?_cons_succ, List.getElem?_cons_zero] at r7
  have r8 := R.out.cell 8
  simp only [List.getElem?_toArray, List.getElem?_cons_succ, List.getElem?_cons_zero] at r8
  have r9 := R.out.cell 9
  simp only [List.getElem?_toArray, List.getElem?_cons_succ, List.getElem?_cons_zero] at r9
  have r10 := R.out.cell 10
  simp only [List.getElem?_toArray, List.getElem?_cons_succ, List.getElem?_cons_zero] at r10
  have q0 := R.out.fz 0
  have q1 := R.out.fz 1
  have q2 := R.out.fz 2
  have q3 := R.out.fz 3
  have q4 := R.out.fz 4
  have q5 := R.out.fz 5
  have q6 := R.out.fz 6
  have q7 := R.out.fz 7
  have q8 := R.out.fz 8
  have q9 := R.out.fz 9
  have q10 := R.out.fz 10
  have g0 := H.out.cell 0
  simp only [List.getElem?_toArray, List.getElem?_cons_succ, List.getElem?_cons_zero] at g0
  have g1 := H.out.cell 1
  simp only [List.getElem?_toArray, List.getElem?_cons_succ, List.getElem?_cons_zero] at g1
  have g2 := H.out.cell 2
  simp only [List.getElem?_toArray, List.getElem?_cons_succ, List.getElem?_cons_zero] at g2
  have g3 := H.out.cell 3
  simp only [List.getElem?_toArray, List.getElem?_cons_succ, List.getElem?_cons_zero] at g3
  have g4 := H.out.cell 4
  simp only [List.getElem?_toArray, List.getElem?_cons_succ, List.getElem?_cons_zero] at g4
  have g5 := H.out.cell 5
  simp only [List.getElem?_toArray, List.getElem?_cons_succ, List.getElem?_cons_zero] at g5
  have g6 := H.out.cell 6
  simp only [List.getElem?_toArray, List.getElem?_cons_succ, List.getElem?_cons_zero] at g6
  have g7 := H.out.cell 7
  simp only [List.getElem?_toArray, List.getElem?_cons_succ, List.getElem?_cons_zero] at g7
  have g8 := H.out.cell 8
  simp only [List.getElem?_toArray, List.getElem?_cons_succ, List.getElem?_cons_zero] at g8
  have g9 := H.out.cell 9
  simp only [List.getElem?_toArray, List.getElem?_cons_succ, List.getElem?_cons_zero] at g9
  have g10 := H.out.cell 10
  simp only [List.getElem?_toArray, List.getElem?_cons_succ, List.getElem?_cons_zero] at g10
  have g11 := H.out.cell 11
  simp only [List.getElem?_toArray, List.getElem?_cons_succ, List.getElem?_cons_zero] at g11
  have g12 := H.out.cell 12
  simp only [List.getElem?_toArray, List.getElem?_cons_succ, List.getElem?_cons_zero] at g12
  go_wp2_with fail
  all_goals
    refine bodyPost_ret (v := .tuple #[.agg #[.bool false, .bool false, .bool false, .int .i64 0, .int .u32 0, .string ⟨#[]⟩, .string ⟨#[]⟩, .string ⟨#[]⟩, .int .u64 0, .int .i64 0, .int .u64 0], .string ⟨#[]⟩, .int .i64 40]) (by simp [results, Tryz.results100, go_sem, *]) rfl ⟨rfl, ?_⟩
    skip
    iterate 11 (refine Below.setCell ?_ (by exact Nat.le_refl _) _)
    exact HBL.out
set_option maxHeartbeats 4000000 in
theorem place_g (l s0 : List UInt8) (wr lg sp : Bool) (ty ve le n : Nat) (dc sc tk : List UInt8)  (w : World) (ht : Tab w) (ER : Hid (ra l = ⟨⟨s0, wr⟩, lg, sp, ty, ve, dc, sc, tk, le, n⟩))  (HB : Hid (Bnd (ra l) l.length)) (hl : l.length ≤ 140737488351232)
    (EG : Hid ((!wr && mayB lg sp false (ty : Nat) (ve : Nat) dc sc tk (le : Nat) 1 0) = true))  :
    Calls Tryz.prog 98 #[.string ⟨l.toArray⟩] w fun e w' => e = .returned (.tuple #[.int .i64 ((l.length : Int) - (s0.length : Int)), .int .i64 0]) ∧ Below w.heap.size w w' := by
  have HR := Lib.hid (fun (w : World) (ht : Tab w) => readAhead_any l w ht (by omega))
  rw [ER.out] at HR HB
  have bn := HB.out.n
  have bl := HB.out.st
  have hty : ((ty : Nat) : Int) ≤ 3 := Int.ofNat_le.2 HB.out.ty
  have hve : ((ve : Nat) : Int) ≤ 4294967295 := Int.ofNat_le.2 HB.out.ve
  have hdc := HB.out.dc
  have hsc := HB.out.sc
  have htk := HB.out.tk
  have hle : ((le : Nat) : Int) < 4611686018427387904 := Int.ofNat_lt.2 HB.out.le
  simp only at bn bl hdc hsc htk
  have hlt := ht.lt
  have HT := Lib.hid ht
  clear ht ER HB
  go_enter Tryz.func98, Tryz.ntmps98
  go_wp2_with fail
  refine (HR.out _ HT.out).mono ?_
  rintro e w1 ⟨rfl, hb1⟩
  have hz1 := hb1.size
  have HBL := Lib.hid (hb1.trans (((Below.refl w1.heap.size w1).alloc (Nat.le_refl _) (.cells #[.string ⟨s0.toArray⟩, .bool wr, .bool lg, .bool sp, .bool false, .int .i64 (ty : Nat), .int .u32 (ve : Nat), .string ⟨dc.toArray⟩, .string ⟨sc.toArray⟩, .string ⟨tk.toArray⟩, .int .u64 (le : Nat), .int .i64 1, .int .u64 0, .int .u8 (n : Nat)] 172)).mono hz1))
  have H := Lib.hid (Blk.made w1 ⟨s0, wr⟩ (.bool lg) (.bool sp) (.bool false) (.int .i64 (ty : Nat)) (.int .u32 (ve : Nat)) (.string ⟨dc.toArray⟩) (.string ⟨sc.toArray⟩) (.string ⟨tk.toArray⟩) (.int .u64 (le : Nat)) (.int .i64 1) (.int .u64 0) (.int .u8 (n : Nat)))
  clear hb1
  go_wp2_with fail
  refine (good_any w1.heap.size n ⟨s0, wr⟩ lg sp false (ty : Nat) (ve : Nat) dc sc tk (le : Nat) 1 0 _ H.out (by omega) (by omega) (by omega) (by omega) (by omega) (by omega) (by omega) (by omega) (by omega) (by omega) (by omega) (by omega) (by omega)).mono ?_
  rintro e w3 ⟨rfl, hb3⟩
  rw [EG.out]
  replace HBL := Lib.hid (HBL.out.trans (hb3.mono (by simp; omega)))
  replace H := Lib.hid (H.out.below hb3)
  clear hb3
  have h0 := H.out.cell 0
  simp only [List.getElem?_toArray, List.getElem?_cons_succ, List.getElem?_cons_zero] at h0
  go_wp2
  go_ret2
  exact ⟨rfl, HBL.out⟩
set_option maxHeartbeats 4000000 in
theorem place_b (l s0 : List UInt8) (wr lg sp : Bool) (ty ve le n : Nat) (dc sc tk : List UInt8)  (w : World) (ht : Tab w) (ER : Hid (ra l = ⟨⟨s0, wr⟩, lg, sp, ty, ve, dc, sc, tk, le, n⟩))  (HB : Hid (Bnd (ra l) l.length)) (hl : l.length ≤ 140737488351232)
    (EG : Hid ((!wr && mayB lg sp false (ty : Nat) (ve : Nat) dc sc tk (le : Nat) 1 0) = false))  :
    Calls Tryz.prog 98 #[.string ⟨l.toArray⟩] w fun e w' => e = .returned (.tuple #[.int .i64 0, .int .i64 40]) ∧ Below w.heap.size w w' := by
  have HR := Lib.hid (fun (w : World) (ht : Tab w) => readAhead_any l w ht (by omega))
  rw [ER.out] at HR HB
  have bn := HB.out.n
  have bl := HB.out.st
  have hty : ((ty : Nat) : Int) ≤ 3 := Int.ofNat_le.2 HB.out.ty
  have hve : ((ve : Nat) : Int) ≤ 4294967295 := Int.ofNat_le.2 HB.out.ve
  have hdc := HB.out.dc
  have hsc := HB.out.sc
  have htk := HB.out.tk
  have hle : ((le : Nat) : Int) < 4611686018427387904 := Int.ofNat_lt.2 HB.out.le
  simp only at bn bl hdc hsc htk
  have hlt := ht.lt
  have HT := Lib.hid ht
  clear ht ER HB
  go_enter Tryz.func98, Tryz.ntmps98
  go_wp2_with fail
  refine (HR.out _ HT.out).mono ?_
  rintro e w1 ⟨rfl, hb1⟩
  have hz1 := hb1.size
  have HBL := Lib.hid (hb1.trans (((Below.refl w1.heap.size w1).alloc (Nat.le_refl _) (.cells #[.string ⟨s0.toArray⟩, .bool wr, .bool lg, .bool sp, .bool false, .int .i64 (ty : Nat), .int .u32 (ve : Nat), .string ⟨dc.toArray⟩, .string ⟨sc.toArray⟩, .string ⟨tk.toArray⟩, .int .u64 (le : Nat), .int .i64 1, .int .u64 0, .int .u8 (n : Nat)] 172)).mono hz1))
  have H := Lib.hid (Blk.made w1 ⟨s0, wr⟩ (.bool lg) (.bool sp) (.bool false) (.int .i64 (ty : Nat)) (.int .u32 (ve : Nat)) (.string ⟨dc.toArray⟩) (.string ⟨sc.toArray⟩) (.string ⟨tk.toArray⟩) (.int .u64 (le : Nat)) (.int .i64 1) (.int .u64 0) (.int .u8 (n : Nat)))
  clear hb1
  go_wp2_with fail
  refine (good_any w1.heap.size n ⟨s0, wr⟩ lg sp false (ty : Nat) (ve : Nat) dc sc tk (le : Nat) 1 0 _ H.out (by omega) (by omega) (by omega) (by omega) (by omega) (by omega) (by omega) (by omega) (by omega) (by omega) (by omega) (by omega) (by omega)).mono ?_
  rintro e w3 ⟨rfl, hb3⟩
  rw [EG.out]
  replace HBL := Lib.hid (HBL.out.trans (hb3.mono (by simp; omega)))
  replace H := Lib.hid (H.out.below hb3)
  clear hb3
  have h0 := H.out.cell 0
  simp only [List.getElem?_toArray, List.getElem?_cons_succ, List.getElem?_cons_zero] at h0
  go_wp2
  go_ret2
  exact ⟨rfl, HBL.out⟩
end Go.Proofs.YtagbkmoahflfdaaGreatDoor.Hd
