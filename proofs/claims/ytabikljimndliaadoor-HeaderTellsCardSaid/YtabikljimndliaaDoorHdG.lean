/- The walks of layer 4: the number in one word; whether what was read is a header. -/
import Derived.Test.YtabikljimndliaaDoorHdF
import Derived.Test.YtabikljimndliaaDoorHdE2
namespace Go.Proofs.YtabikljimndliaaDoor.Hd
open Go.RowKit Vm
set_option linter.unusedVariables false
set_option linter.unusedSimpArgs false

/-- Whether a first byte has a bit that is always 0. -/
def badN (n : Nat) : Bool := if n < 128 then decide (n / 8 % 4 ≠ 0) else decide (n / 4 % 4 ≠ 0)
theorem badN_eq : ∀ n : Nat, n < 256 → (bits .and .u8 (n : Int) (if 128 ≤ n then (12:Int) else 24) != 0) = badN n := by decide +kernel
theorem t4 : ∀ n : Nat, n < 256 → (bits .and .u8 (n : Int) 4 != 0) = decide (n / 4 % 2 = 1) := by decide +kernel
def rn1 (n : Nat) (st : St) : St := ⟨st.s, st.w || badN n⟩
def rnV (n : Nat) (st : St) : Nat := bk ((rn1 n st).take (1 + n % 4))
def rnS (n : Nat) (st : St) : St := (rn1 n st).skip (1 + n % 4)
theorem readNumber_any (b n : Nat) (st : St) (x2 x3 x5 x6 x7 x8 x9 xa : Value) (w : World) (h : Blk b st x2 x3 (.bool false) x5 x6 x7 x8 x9 xa (.int .i64 0) (.int .u64 0) (.int .u8 n) w) (hl : st.s.length ≤ 9223372036854775807) (hn : n < 256) :
    Calls Tryd.prog 26 #[.pointer (some ⟨b, 0, none⟩)] w fun e w' => e = .returned (.tuple #[]) ∧ Blk b (rnS n st) x2 x3 (.bool (decide (n / 4 % 2 = 1))) x5 x6 x7 x8 x9 xa (.int .i64 (1 + n % 4 : Nat)) (.int .u64 (rnV n st : Nat)) (.int .u8 n) w' ∧ Below b w w' := by
  obtain ⟨s, wr⟩ := st
  cases wr with
  | false =>
    have e : rn1 n ⟨s, false⟩ = ⟨s, badN n⟩ := rfl
    exact readNumber_f b n (1 + n % 4) (rnV n ⟨s, false⟩) s (rnS n ⟨s, false⟩) x2 x3 x5 x6 x7 x8 x9 xa (badN n) (decide (n / 4 % 2 = 1)) _ w h (Lib.hid ⟨by unfold rnV; rw [e], by unfold rnS; rw [e]⟩) (Lib.hid rfl) (Lib.hid rfl) (badN_eq n hn) (t4 n hn) hl hn (by omega)
  | true =>
    have e : rn1 n ⟨s, true⟩ = ⟨s, true⟩ := rfl
    exact readNumber_t b n (1 + n % 4) (rnV n ⟨s, true⟩) s (rnS n ⟨s, true⟩) x2 x3 x5 x6 x7 x8 x9 xa (decide (n / 4 % 2 = 1)) w h (Lib.hid ⟨by unfold rnV; rw [e], by unfold rnS; rw [e]⟩) (Lib.hid rfl) (t4 n hn) hl hn (by omega)
set_option maxHeartbeats 1000000 in
theorem good_t (b n : Nat) (s : List UInt8) (lg sp ph : Bool) (ty ve : Int) (dc sc tk : List UInt8) (le wi nu : Int) (w : World) (h : Blk b ⟨s, true⟩ (.bool lg) (.bool sp) (.bool ph) (.int .i64 ty) (.int .u32 ve) (.string ⟨dc.toArray⟩) (.string ⟨sc.toArray⟩) (.string ⟨tk.toArray⟩) (.int .u64 le) (.int .i64 wi) (.int .u64 nu) (.int .u8 n) w) :
    Calls Tryd.prog 27 #[.pointer (some ⟨b, 0, none⟩)] w fun e w' => e = .returned (.bool false) ∧ Below w.heap.size w w' := by
  have c1 : w.cell? ⟨b, 1, none⟩ = some (.bool true) := h.cell 1
  clear h
  go_enter Tryd.func27, Tryd.ntmps27
  go_wp2
  go_ret
  exact ⟨rfl, Below.refl _ _⟩
set_option maxHeartbeats 1000000 in
theorem good_f (b n : Nat) (s : List UInt8) (lg sp ph : Bool) (ty ve : Int) (dc sc tk : List UInt8) (le wi nu : Int) (w : World) (h : Blk b ⟨s, false⟩ (.bool lg) (.bool sp) (.bool ph) (.int .i64 ty) (.int .u32 ve) (.string ⟨dc.toArray⟩) (.string ⟨sc.toArray⟩) (.string ⟨tk.toArray⟩) (.int .u64 le) (.int .i64 wi) (.int .u64 nu) (.int .u8 n) w) (wty : -9223372036854775808 ≤ ty) (wty2 : ty ≤ 9223372036854775807) (wve : 0 ≤ ve) (wve2 : ve ≤ 4294967295) (wdc : dc.length ≤ 9223372036854775807) (wsc : sc.length ≤ 9223372036854775807) (wtk : tk.length ≤ 9223372036854775807) (wle : 0 ≤ le) (wle2 : le ≤ 18446744073709551615) (wwi : -9223372036854775808 ≤ wi) (wwi2 : wi ≤ 9223372036854775807) (wnu : 0 ≤ nu) (wnu2 : nu ≤ 18446744073709551615) :
    Calls Tryd.prog 27 #[.pointer (some ⟨b, 0, none⟩)] w fun e w' => e = .returned (.bool (mayB lg sp ph ty ve dc sc tk le wi nu)) ∧ Below w.heap.size w w' := by
  have c1 : w.cell? ⟨b, 1, none⟩ = some (.bool false) := h.cell 1
  have c2 := h.cell 2
  simp only [List.getElem?_toArray, List.getElem?_cons_succ, List.getElem?_cons_zero] at c2
  have c3 := h.cell 3
  simp only [List.getElem?_toArray, List.getElem?_cons_succ, List.getElem?_cons_zero] at c3
  have c4 := h.cell 4
  simp only [List.getElem?_toArray, List.getElem?_cons_succ, List.getElem?_cons_zero] at c4
  have c5 := h.cell 5
  simp only [List.getElem?_toArray, List.getElem?_cons_succ, List.getElem?_cons_zero] at c5
  have c6 := h.cell 6
  simp only [List.getElem?_toArray, List.getElem?_cons_succ, List.getElem?_cons_zero] at c6
  have c7 := h.cell 7
  simp only [List.getElem?_toArray, List.getElem?_cons_succ, List.getElem?_cons_zero] at c7
  have c8 := h.cell 8
  simp only [List.getElem?_toArray, List.getElem?_cons_succ, List.getElem?_cons_zero] at c8
  have c9 := h.cell 9
  simp only [List.getElem?_toArray, List.getElem?_cons_succ, List.getElem?_cons_zero] at c9
  have c10 := h.cell 10
  simp only [List.getElem?_toArray, List.getElem?_cons_succ, List.getElem?_cons_zero] at c10
  have c11 := h.cell 11
  simp only [List.getElem?_toArray, List.getElem?_cons_succ, List.getElem?_cons_zero] at c11
  have c12 := h.cell 12
  simp only [List.getElem?_toArray, List.getElem?_cons_succ, List.getElem?_cons_zero] at c12
  clear h
  go_enter Tryd.func27, Tryd.ntmps27
  go_wp2_with fail
  refine (may_any lg sp ph ty ve dc sc tk le wi nu _ wty wty2 wve wve2 wdc wsc wtk wle wle2 wwi wwi2 wnu wnu2).mono ?_
  rintro e w1 ⟨rfl, hb⟩
  go_wp2
  go_ret
  exact ⟨rfl, hb⟩
theorem good_any (b n : Nat) (st : St) (lg sp ph : Bool) (ty ve : Int) (dc sc tk : List UInt8) (le wi nu : Int) (w : World) (h : Blk b st (.bool lg) (.bool sp) (.bool ph) (.int .i64 ty) (.int .u32 ve) (.string ⟨dc.toArray⟩) (.string ⟨sc.toArray⟩) (.string ⟨tk.toArray⟩) (.int .u64 le) (.int .i64 wi) (.int .u64 nu) (.int .u8 n) w) (wty : -9223372036854775808 ≤ ty) (wty2 : ty ≤ 9223372036854775807) (wve : 0 ≤ ve) (wve2 : ve ≤ 4294967295) (wdc : dc.length ≤ 9223372036854775807) (wsc : sc.length ≤ 9223372036854775807) (wtk : tk.length ≤ 9223372036854775807) (wle : 0 ≤ le) (wle2 : le ≤ 18446744073709551615) (wwi : -9223372036854775808 ≤ wi) (wwi2 : wi ≤ 9223372036854775807) (wnu : 0 ≤ nu) (wnu2 : nu ≤ 18446744073709551615) :
    Calls Tryd.prog 27 #[.pointer (some ⟨b, 0, none⟩)] w fun e w' => e = .returned (.bool (!st.w && mayB lg sp ph ty ve dc sc tk le wi nu)) ∧ Below w.heap.size w w' := by
  obtain ⟨s, wr⟩ := st
  cases wr with
  | false => exact good_f b n s lg sp ph ty ve dc sc tk le wi nu w h wty wty2 wve wve2 wdc wsc wtk wle wle2 wwi wwi2 wnu wnu2
  | true => exact good_t b n s lg sp ph ty ve dc sc tk le wi nu w h
end Go.Proofs.YtabikljimndliaaDoor.Hd
