/- The walks of layer 4: the law's bound; what a law is told of a header. By tools/gen-header-laws.py. -/
import Derived.Test.YtabikljimndliaaDoorHdK
import Derived.Test.YtabikljimndliaaDoorVmLaid
import Derived.OpenShut
namespace Go.Proofs.YtabikljimndliaaDoor.Hd
open Go.RowKit Vm
set_option linter.unusedVariables false
set_option linter.unusedSimpArgs false

def lawB (dc sc tk : List UInt8) : Bool := decide (dc.length ≤ 100 ∧ sc.length ≤ 100 ∧ tk.length ≤ 1100)
set_option maxHeartbeats 1000000 in
theorem lawBounded_0 (lg sp ph : Bool) (ty ve : Int) (dc sc tk : List UInt8) (le wi nu : Int) (w : World) (wty : -9223372036854775808 ≤ ty) (wty2 : ty ≤ 9223372036854775807) (wve : 0 ≤ ve) (wve2 : ve ≤ 4294967295) (wdc : dc.length ≤ 9223372036854775807) (wsc : sc.length ≤ 9223372036854775807) (wtk : tk.length ≤ 9223372036854775807) (wle : 0 ≤ le) (wle2 : le ≤ 18446744073709551615) (wwi : -9223372036854775808 ≤ wi) (wwi2 : wi ≤ 9223372036854775807) (wnu : 0 ≤ nu) (wnu2 : nu ≤ 18446744073709551615)  (h0 : ¬ dc.length ≤ 100) :
    Calls Tryd.prog 5 #[.agg #[.bool lg, .bool sp, .bool ph, .int .i64 ty, .int .u32 ve, .string ⟨dc.toArray⟩, .string ⟨sc.toArray⟩, .string ⟨tk.toArray⟩, .int .u64 le, .int .i64 wi, .int .u64 nu]] w fun e w' => e = .returned (.bool false) ∧ Below w.heap.size w w' := by
  go_enter Tryd.func5, Tryd.ntmps5
  go_wp2
  go_ret
  exact ⟨by simp <;> omega, (Below.refl _ _).alloc (Nat.le_refl _) _⟩
set_option maxHeartbeats 1000000 in
theorem lawBounded_1 (lg sp ph : Bool) (ty ve : Int) (dc sc tk : List UInt8) (le wi nu : Int) (w : World) (wty : -9223372036854775808 ≤ ty) (wty2 : ty ≤ 9223372036854775807) (wve : 0 ≤ ve) (wve2 : ve ≤ 4294967295) (wdc : dc.length ≤ 9223372036854775807) (wsc : sc.length ≤ 9223372036854775807) (wtk : tk.length ≤ 9223372036854775807) (wle : 0 ≤ le) (wle2 : le ≤ 18446744073709551615) (wwi : -9223372036854775808 ≤ wi) (wwi2 : wi ≤ 9223372036854775807) (wnu : 0 ≤ nu) (wnu2 : nu ≤ 18446744073709551615) (h0 : dc.length ≤ 100) (h1 : ¬ sc.length ≤ 100) :
    Calls Tryd.prog 5 #[.agg #[.bool lg, .bool sp, .bool ph, .int .i64 ty, .int .u32 ve, .string ⟨dc.toArray⟩, .string ⟨sc.toArray⟩, .string ⟨tk.toArray⟩, .int .u64 le, .int .i64 wi, .int .u64 nu]] w fun e w' => e = .returned (.bool false) ∧ Below w.heap.size w w' := by
  go_enter Tryd.func5, Tryd.ntmps5
  go_wp2
  go_ret
  exact ⟨by simp <;> omega, (Below.refl _ _).alloc (Nat.le_refl _) _⟩
set_option maxHeartbeats 1000000 in
theorem lawBounded_2 (lg sp ph : Bool) (ty ve : Int) (dc sc tk : List UInt8) (le wi nu : Int) (w : World) (wty : -9223372036854775808 ≤ ty) (wty2 : ty ≤ 9223372036854775807) (wve : 0 ≤ ve) (wve2 : ve ≤ 4294967295) (wdc : dc.length ≤ 9223372036854775807) (wsc : sc.length ≤ 9223372036854775807) (wtk : tk.length ≤ 9223372036854775807) (wle : 0 ≤ le) (wle2 : le ≤ 18446744073709551615) (wwi : -9223372036854775808 ≤ wi) (wwi2 : wi ≤ 9223372036854775807) (wnu : 0 ≤ nu) (wnu2 : nu ≤ 18446744073709551615) (h0 : dc.length ≤ 100) (h1 : sc.length ≤ 100) (h2 : ¬ tk.length ≤ 1100) :
    Calls Tryd.prog 5 #[.agg #[.bool lg, .bool sp, .bool ph, .int .i64 ty, .int .u32 ve, .string ⟨dc.toArray⟩, .string ⟨sc.toArray⟩, .string ⟨tk.toArray⟩, .int .u64 le, .int .i64 wi, .int .u64 nu]] w fun e w' => e = .returned (.bool false) ∧ Below w.heap.size w w' := by
  go_enter Tryd.func5, Tryd.ntmps5
  go_wp2
  go_ret
  exact ⟨by simp <;> omega, (Below.refl _ _).alloc (Nat.le_refl _) _⟩
set_option maxHeartbeats 1000000 in
theorem lawBounded_3 (lg sp ph : Bool) (ty ve : Int) (dc sc tk : List UInt8) (le wi nu : Int) (w : World) (wty : -9223372036854775808 ≤ ty) (wty2 : ty ≤ 9223372036854775807) (wve : 0 ≤ ve) (wve2 : ve ≤ 4294967295) (wdc : dc.length ≤ 9223372036854775807) (wsc : sc.length ≤ 9223372036854775807) (wtk : tk.length ≤ 9223372036854775807) (wle : 0 ≤ le) (wle2 : le ≤ 18446744073709551615) (wwi : -9223372036854775808 ≤ wi) (wwi2 : wi ≤ 9223372036854775807) (wnu : 0 ≤ nu) (wnu2 : nu ≤ 18446744073709551615) (h0 : dc.length ≤ 100) (h1 : sc.length ≤ 100) (h2 : tk.length ≤ 1100) :
    Calls Tryd.prog 5 #[.agg #[.bool lg, .bool sp, .bool ph, .int .i64 ty, .int .u32 ve, .string ⟨dc.toArray⟩, .string ⟨sc.toArray⟩, .string ⟨tk.toArray⟩, .int .u64 le, .int .i64 wi, .int .u64 nu]] w fun e w' => e = .returned (.bool true) ∧ Below w.heap.size w w' := by
  go_enter Tryd.func5, Tryd.ntmps5
  go_wp2
  go_ret
  exact ⟨by simp <;> omega, (Below.refl _ _).alloc (Nat.le_refl _) _⟩
theorem lawBounded_any (lg sp ph : Bool) (ty ve : Int) (dc sc tk : List UInt8) (le wi nu : Int) (w : World) (wty : -9223372036854775808 ≤ ty) (wty2 : ty ≤ 9223372036854775807) (wve : 0 ≤ ve) (wve2 : ve ≤ 4294967295) (wdc : dc.length ≤ 9223372036854775807) (wsc : sc.length ≤ 9223372036854775807) (wtk : tk.length ≤ 9223372036854775807) (wle : 0 ≤ le) (wle2 : le ≤ 18446744073709551615) (wwi : -9223372036854775808 ≤ wi) (wwi2 : wi ≤ 9223372036854775807) (wnu : 0 ≤ nu) (wnu2 : nu ≤ 18446744073709551615) :
    Calls Tryd.prog 5 #[.agg #[.bool lg, .bool sp, .bool ph, .int .i64 ty, .int .u32 ve, .string ⟨dc.toArray⟩, .string ⟨sc.toArray⟩, .string ⟨tk.toArray⟩, .int .u64 le, .int .i64 wi, .int .u64 nu]] w fun e w' => e = .returned (.bool (lawB dc sc tk)) ∧ Below w.heap.size w w' := by
  have no : ∀ (h : ¬ (dc.length ≤ 100 ∧ sc.length ≤ 100 ∧ tk.length ≤ 1100)), lawB dc sc tk = false := fun h => decide_eq_false h
  by_cases h0 : dc.length ≤ 100
  rotate_left
  · rw [no (by omega)]; exact lawBounded_0 lg sp ph ty ve dc sc tk le wi nu w wty wty2 wve wve2 wdc wsc wtk wle wle2 wwi wwi2 wnu wnu2 h0
  by_cases h1 : sc.length ≤ 100
  rotate_left
  · rw [no (by omega)]; exact lawBounded_1 lg sp ph ty ve dc sc tk le wi nu w wty wty2 wve wve2 wdc wsc wtk wle wle2 wwi wwi2 wnu wnu2 h0 h1
  by_cases h2 : tk.length ≤ 1100
  rotate_left
  · rw [no (by omega)]; exact lawBounded_2 lg sp ph ty ve dc sc tk le wi nu w wty wty2 wve wve2 wdc wsc wtk wle wle2 wwi wwi2 wnu wnu2 h0 h1 h2
  rw [show lawB dc sc tk = true from decide_eq_true ⟨h0, h1, h2⟩]
  exact lawBounded_3 lg sp ph ty ve dc sc tk le wi nu w wty wty2 wve wve2 wdc wsc wtk wle wle2 wwi wwi2 wnu wnu2 h0 h1 h2
theorem law_of_may {lg sp ph : Bool} {ty ve : Int} {dc sc tk : List UInt8} {le wi nu : Int} (h : mayB lg sp ph ty ve dc sc tk le wi nu = true) : lawB dc sc tk = true := by
  have hp := may_parts h
  cases lg with
  | true =>
    have hb := bnd_parts hp.2.1
    exact decide_eq_true ⟨by omega, by omega, by omega⟩
  | false =>
    have hb := bnd_short hp.2.1
    have hk := hp.1
    unfold keptB at hk
    rw [if_neg (by decide)] at hk
    obtain ⟨_, _, h1, h2, _⟩ := of_decide_eq_true hk
    rw [h1, h2]
    exact decide_eq_true ⟨by omega, by simp, by simp⟩
theorem putL_len {lg sp ph : Bool} {ty ve : Int} {dc sc tk : List UInt8} {le wi nu : Int} (h : mayB lg sp ph ty ve dc sc tk le wi nu = true) : (putL lg sp ph ty ve dc sc tk le wi nu).length ≤ 20000 ∧ 0 < (putL lg sp ph ty ve dc sc tk le wi nu).length := by
  have hp := may_parts h
  have l4 : (fx nu.toNat wi.toNat).length = wi.toNat := fx_length _ _
  unfold putL
  cases lg with
  | true =>
    have hb := bnd_parts hp.2.1
    have := lpL_len ty ve dc sc tk le hb.2.2.1 hb.2.2.2.1 hb.2.2.2.2.1
    simp only [if_pos, List.length_cons, List.length_append, l4]
    omega
  | false =>
    have hb := bnd_short hp.2.1
    rw [if_neg (by decide)]
    simp only [List.length_cons, List.length_append, l4]
    omega
theorem str_len {l : List UInt8} (h : (⟨l.toArray⟩ : ByteArray).size ≤ maxLen) : l.length ≤ 9223372036854775807 := by rw [sv_size] at h; unfold maxLen at h; omega
end Go.Proofs.YtabikljimndliaaDoor.Hd
