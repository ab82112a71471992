/- The walks of layer 4: May in one word. -/
import Derived.Test.YtabikljimndliaaDoorHdE
namespace Go.Proofs.YtabikljimndliaaDoor.Hd
open Go.RowKit Vm
set_option linter.unusedVariables false

/-- Whether a header has none but the parts that are put of one of its form. -/
def keptB (lg sp ph : Bool) (ty ve : Int) (sc tk : List UInt8) (le : Int) : Bool :=
  if lg then decide (sp = false ∧ ph = false ∧ (ty ≠ 0 → tk = [])) else decide (ty = 0 ∧ ve = 0 ∧ sc = [] ∧ tk = [] ∧ le = 0)
/-- Whether there is such a header. -/
def mayB (lg sp ph : Bool) (ty ve : Int) (dc sc tk : List UInt8) (le wi nu : Int) : Bool :=
  keptB lg sp ph ty ve sc tk le && bndB lg ty dc sc tk le && numB wi nu
theorem mayB_1 {lg sp ph : Bool} {ty ve : Int} {dc sc tk : List UInt8} {le wi nu : Int} (h : keptB lg sp ph ty ve sc tk le = false) : mayB lg sp ph ty ve dc sc tk le wi nu = false := by unfold mayB; rw [h]; rfl
theorem mayB_2 {lg sp ph : Bool} {ty ve : Int} {dc sc tk : List UInt8} {le wi nu : Int} (h : bndB lg ty dc sc tk le = false) : mayB lg sp ph ty ve dc sc tk le wi nu = false := by unfold mayB; rw [h]; simp
theorem mayB_3 {lg sp ph : Bool} {ty ve : Int} {dc sc tk : List UInt8} {le wi nu : Int} (h1 : keptB lg sp ph ty ve sc tk le = true) (h : bndB lg ty dc sc tk le = true) : mayB lg sp ph ty ve dc sc tk le wi nu = numB wi nu := by unfold mayB; rw [h1, h]; simp
theorem may_any (lg sp ph : Bool) (ty ve : Int) (dc sc tk : List UInt8) (le wi nu : Int) (w : World) (wty : -9223372036854775808 ≤ ty) (wty2 : ty ≤ 9223372036854775807) (wve : 0 ≤ ve) (wve2 : ve ≤ 4294967295) (wdc : dc.length ≤ 9223372036854775807) (wsc : sc.length ≤ 9223372036854775807) (wtk : tk.length ≤ 9223372036854775807) (wle : 0 ≤ le) (wle2 : le ≤ 18446744073709551615) (wwi : -9223372036854775808 ≤ wi) (wwi2 : wi ≤ 9223372036854775807) (wnu : 0 ≤ nu) (wnu2 : nu ≤ 18446744073709551615) :
    Calls Tryd.prog 13 #[.agg #[.bool lg, .bool sp, .bool ph, .int .i64 ty, .int .u32 ve, .string ⟨dc.toArray⟩, .string ⟨sc.toArray⟩, .string ⟨tk.toArray⟩, .int .u64 le, .int .i64 wi, .int .u64 nu]] w fun e w' => e = .returned (.bool (mayB lg sp ph ty ve dc sc tk le wi nu)) ∧ Below w.heap.size w w' := by
  cases lg with
  | false =>
    by_cases h : ty = 0 ∧ ve = 0 ∧ sc = [] ∧ tk = [] ∧ le = 0
    · have hk : keptB false sp ph ty ve sc tk le = true := by unfold keptB; rw [if_neg (by decide)]; exact decide_eq_true h
      cases hb : bndB false ty dc sc tk le with
      | false => rw [mayB_2 hb]; obtain ⟨rfl, rfl, rfl, rfl, rfl⟩ := h; exact may_s10 sp ph dc wi nu w wdc wwi wwi2 wnu wnu2 hb
      | true => rw [mayB_3 hk hb]; obtain ⟨rfl, rfl, rfl, rfl, rfl⟩ := h; exact may_s11 sp ph dc wi nu w wdc wwi wwi2 wnu wnu2 hb
    · have hk : keptB false sp ph ty ve sc tk le = false := by unfold keptB; rw [if_neg (by decide)]; exact decide_eq_false h
      rw [mayB_1 hk]
      exact may_s2 sp ph ty ve dc sc tk le wi nu w wty wty2 wve wve2 wdc wsc wtk wle wle2 wwi wwi2 wnu wnu2 (Lib.hid h)
  | true =>
    by_cases h0 : ty = 0
    · subst h0
      cases sp with
      | true =>
        have hk : keptB true true ph 0 ve sc tk le = false := by simp [keptB]
        rw [mayB_1 hk]; exact may_l2 ph ve dc sc tk le wi nu w wve wve2 wdc wsc wtk wle wle2 wwi wwi2 wnu wnu2
      | false => cases ph with
        | true =>
          have hk : keptB true false true 0 ve sc tk le = false := by simp [keptB]
          rw [mayB_1 hk]; exact may_l3 ve dc sc tk le wi nu w wve wve2 wdc wsc wtk wle wle2 wwi wwi2 wnu wnu2
        | false =>
          have hk : keptB true false false 0 ve sc tk le = true := by simp [keptB]
          cases hb : bndB true 0 dc sc tk le with
          | false => rw [mayB_2 hb]; exact may_l10 ve dc sc tk le wi nu w wve wve2 wdc wsc wtk wle wle2 wwi wwi2 wnu wnu2 hb
          | true => rw [mayB_3 hk hb]; exact may_l11 ve dc sc tk le wi nu w wve wve2 wdc wsc wtk wle wle2 wwi wwi2 wnu wnu2 hb
    · have hne : (ty != 0) = true := by simp [h0]
      cases sp with
      | true =>
        have hk : keptB true true ph ty ve sc tk le = false := by simp [keptB]
        rw [mayB_1 hk]; exact may_n2 ph ty ve dc sc tk le wi nu w wty wty2 wve wve2 wdc wsc wtk wle wle2 wwi wwi2 wnu wnu2 hne
      | false => cases ph with
        | true =>
          have hk : keptB true false true ty ve sc tk le = false := by simp [keptB]
          rw [mayB_1 hk]; exact may_n3 ty ve dc sc tk le wi nu w wty wty2 wve wve2 wdc wsc wtk wle wle2 wwi wwi2 wnu wnu2 hne
        | false =>
          by_cases ht : tk = []
          · subst ht
            have hk : keptB true false false ty ve sc [] le = true := by simp [keptB]
            cases hb : bndB true ty dc sc [] le with
            | false => rw [mayB_2 hb]; exact may_n10 ty ve dc sc le wi nu w wty wty2 wve wve2 wdc wsc wle wle2 wwi wwi2 wnu wnu2 hne hb
            | true => rw [mayB_3 hk hb]; exact may_n11 ty ve dc sc le wi nu w wty wty2 wve wve2 wdc wsc wle wle2 wwi wwi2 wnu wnu2 hne hb
          · have hk : keptB true false false ty ve sc tk le = false := by simp [keptB, h0, ht]
            rw [mayB_1 hk]; exact may_n4 ty ve dc sc tk le wi nu w wty wty2 wve wve2 wdc wsc wtk wle wle2 wwi wwi2 wnu wnu2 hne ht
end Go.Proofs.YtabikljimndliaaDoor.Hd
