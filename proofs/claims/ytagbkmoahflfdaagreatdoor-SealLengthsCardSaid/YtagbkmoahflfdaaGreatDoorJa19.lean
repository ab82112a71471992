/- The walks of layer 4: readAhead in one word · The walks of layer 4: the small functions -/
import Derived.Test.YtagbkmoahflfdaaGreatDoorJa18
import Derived.Test.YtagbkmoahflfdaaGreatDoorJa17
import Derived.Lib.Builder
import Derived.Lib.Hide
namespace Go.Proofs.YtagbkmoahflfdaaGreatDoor.Hd
set_option maxRecDepth 20000
open Go.RowKit Vm
set_option linter.unusedVariables false
/-- What readAhead tells of bytes. -/
structure Rd where
  st : St
  lg : Bool
  sp : Bool
  ty : Nat
  ve : Nat
  dc : List UInt8
  sc : List UInt8
  tk : List UInt8
  le : Nat
  n : Nat
def raN (l : List UInt8) : Nat := bk (St.take ⟨l, false⟩ 1)
def raS1 (l : List UInt8) : St := St.skip ⟨l, false⟩ 1
def raS2 (l : List UInt8) : St := ⟨(raS1 l).s, (raS1 l).w || decide (raN l / 64 % 2 = 0)⟩
def ra (l : List UInt8) : Rd :=
  if 128 ≤ raN l then ⟨(lgSt (raN l) (raS2 l)).vs, true, false, lgTy (raN l), bk ((raS2 l).take 4), rdId ((raS2 l).skip 4), rdId (rdIdS ((raS2 l).skip 4)), lgTok (raN l) (raS2 l), (lgSt (raN l) (raS2 l)).vn, raN l⟩
  else ⟨(raS2 l).skip 8, false, decide (raN l / 32 % 2 = 1), 0, 0, (raS2 l).take 8, [], [], 0, raN l⟩
set_option maxHeartbeats 1000000 in
theorem readAhead_any (l : List UInt8) (w : World) (ht : Tab w) (hl : l.length ≤ 9223372036854775807) :
    Calls Tryz.prog 127 #[.string ⟨l.toArray⟩] w fun e w' => e = .returned (.agg #[.string ⟨(ra l).st.s.toArray⟩, .bool (ra l).st.w, .bool (ra l).lg, .bool (ra l).sp, .bool false, .int .i64 (ra l).ty, .int .u32 (ra l).ve, .string ⟨(ra l).dc.toArray⟩, .string ⟨(ra l).sc.toArray⟩, .string ⟨(ra l).tk.toArray⟩, .int .u64 (ra l).le, .int .i64 0, .int .u64 0, .int .u8 (ra l).n]) ∧ Below w.heap.size w w' := by
  have hn : raN l < 256 := bk1 _ (St.take_len _ _)
  have hl1 : (raS1 l).s.length ≤ 9223372036854775807 := Nat.le_trans (St.skip_len _ _) hl
  have hn1 : ((raN l : Nat) : Int) ≤ 255 := by omega
  by_cases h : 128 ≤ raN l
  · have e : ra l = ⟨(lgSt (raN l) (raS2 l)).vs, true, false, lgTy (raN l), bk ((raS2 l).take 4), rdId ((raS2 l).skip 4), rdId (rdIdS ((raS2 l).skip 4)), lgTok (raN l) (raS2 l), (lgSt (raN l) (raS2 l)).vn, raN l⟩ := if_pos h
    rw [e]
    dsimp only
    have g : (bits .and .u8 ((raN l : Nat) : Int) 128 != 0) = true := by rw [t128 _ hn]; exact decide_eq_true h
    cases hw : (raS1 l).w with
    | false =>
      have e2 : raS2 l = ⟨(raS1 l).s, decide (raN l / 64 % 2 = 0)⟩ := by unfold raS2; rw [hw]; rfl
      exact ahead_ls l (raN l) (raS1 l).s (lgSt (raN l) (raS2 l)).vs (decide (raN l / 64 % 2 = 0)) (lgTy (raN l) : Nat) (bk ((raS2 l).take 4) : Nat) ((lgSt (raN l) (raS2 l)).vn : Nat) (rdId ((raS2 l).skip 4)) (rdId (rdIdS ((raS2 l).skip 4))) (lgTok (raN l) (raS2 l)) (Lib.hid fun b w ht hB h => readLong_any b (raN l) (raS2 l) (.bool true) (.bool false) (.bool false) (.int .i64 0) (.int .u32 0) (.string ⟨#[]⟩) (.string ⟨#[]⟩) (.int .u64 0) (.int .i64 0) (.int .u64 0) w ht (by rw [e2]; exact h) hl1 hn hB) w ht (Lib.hid ⟨rfl, by show raS1 l = _; rw [← hw]⟩) (t64 _ hn) g hl hl1 (by omega) hn1
    | true =>
      have e2 : raS2 l = ⟨(raS1 l).s, true⟩ := by unfold raS2; rw [hw]; rfl
      exact ahead_lw l (raN l) (raS1 l).s (lgSt (raN l) (raS2 l)).vs (decide (raN l / 64 % 2 = 0)) (lgTy (raN l) : Nat) (bk ((raS2 l).take 4) : Nat) ((lgSt (raN l) (raS2 l)).vn : Nat) (rdId ((raS2 l).skip 4)) (rdId (rdIdS ((raS2 l).skip 4))) (lgTok (raN l) (raS2 l)) (Lib.hid fun b w ht hB h => readLong_any b (raN l) (raS2 l) (.bool true) (.bool false) (.bool false) (.int .i64 0) (.int .u32 0) (.string ⟨#[]⟩) (.string ⟨#[]⟩) (.int .u64 0) (.int .i64 0) (.int .u64 0) w ht (by rw [e2]; exact h) hl1 hn hB) w ht (Lib.hid ⟨rfl, by show raS1 l = _; rw [← hw]⟩) (t64 _ hn) g hl hl1 (by omega) hn1
  · have e : ra l = ⟨(raS2 l).skip 8, false, decide (raN l / 32 % 2 = 1), 0, 0, (raS2 l).take 8, [], [], 0, raN l⟩ := if_neg h
    rw [e]
    dsimp only
    have g : (bits .and .u8 ((raN l : Nat) : Int) 128 != 0) = false := by rw [t128 _ hn]; exact decide_eq_false h
    cases hw : (raS1 l).w with
    | false =>
      have e2 : raS2 l = ⟨(raS1 l).s, decide (raN l / 64 % 2 = 0)⟩ := by unfold raS2; rw [hw]; rfl
      exact ahead_ss l (raN l) (raS1 l).s ((raS2 l).skip 8) (decide (raN l / 64 % 2 = 0)) ((raS2 l).take 8) (decide (raN l / 32 % 2 = 1)) (t32 _ hn) (Lib.hid (by rw [e2]; exact ⟨rfl, rfl⟩)) w ht (Lib.hid ⟨rfl, by show raS1 l = _; rw [← hw]⟩) (t64 _ hn) g hl hl1 (by omega) hn1
    | true =>
      have e2 : raS2 l = ⟨(raS1 l).s, true⟩ := by unfold raS2; rw [hw]; rfl
      exact ahead_sw l (raN l) (raS1 l).s ((raS2 l).skip 8) (decide (raN l / 64 % 2 = 0)) ((raS2 l).take 8) (decide (raN l / 32 % 2 = 1)) (t32 _ hn) (Lib.hid (by rw [e2]; exact ⟨rfl, rfl⟩)) w ht (Lib.hid ⟨rfl, by show raS1 l = _; rw [← hw]⟩) (t64 _ hn) g hl hl1 (by omega) hn1
end Go.Proofs.YtagbkmoahflfdaaGreatDoor.Hd
namespace Go.Proofs.YtagbkmoahflfdaaGreatDoor.Hd
set_option maxRecDepth 20000
open Go.RowKit Vm
set_option linter.unusedVariables false
set_option linter.unusedSimpArgs false

/-- Whether a number has a width, and fits it. -/
def numB (wi nu : Int) : Bool := decide (1 ≤ wi ∧ wi ≤ 4 ∧ nu < 256 ^ wi.toNat)
theorem numB_no {wi nu : Int} (h : wi < 1 ∨ 4 < wi) : numB wi nu = false := decide_eq_false (by omega)
set_option maxHeartbeats 1000000 in
theorem numbered_no0 (lg sp ph : Bool) (ty ve : Int) (dc sc tk : List UInt8) (le wi nu : Int) (w : World) (wty : -9223372036854775808 ≤ ty) (wty2 : ty ≤ 9223372036854775807) (wve : 0 ≤ ve) (wve2 : ve ≤ 4294967295) (wdc : dc.length ≤ 9223372036854775807) (wsc : sc.length ≤ 9223372036854775807) (wtk : tk.length ≤ 9223372036854775807) (wle : 0 ≤ le) (wle2 : le ≤ 18446744073709551615) (wwi : -9223372036854775808 ≤ wi) (wwi2 : wi ≤ 9223372036854775807) (wnu : 0 ≤ nu) (wnu2 : nu ≤ 18446744073709551615) (h : wi < 1) :
    Calls Tryz.prog 121 #[.agg #[.bool lg, .bool sp, .bool ph, .int .i64 ty, .int .u32 ve, .string ⟨dc.toArray⟩, .string ⟨sc.toArray⟩, .string ⟨tk.toArray⟩, .int .u64 le, .int .i64 wi, .int .u64 nu]] w fun e w' => e = .returned (.bool false) ∧ Below w.heap.size w w' := by
  go_enter Tryz.func121, Tryz.ntmps121
  go_wp2
  go_ret
  exact ⟨rfl, (Below.refl _ _).alloc (Nat.le_refl _) _⟩
set_option maxHeartbeats 1000000 in
theorem numbered_no1 (lg sp ph : Bool) (ty ve : Int) (dc sc tk : List UInt8) (le wi nu : Int) (w : World) (wty : -9223372036854775808 ≤ ty) (wty2 : ty ≤ 9223372036854775807) (wve : 0 ≤ ve) (wve2 : ve ≤ 4294967295) (wdc : dc.length ≤ 9223372036854775807) (wsc : sc.length ≤ 9223372036854775807) (wtk : tk.length ≤ 9223372036854775807) (wle : 0 ≤ le) (wle2 : le ≤ 18446744073709551615) (wwi : -9223372036854775808 ≤ wi) (wwi2 : wi ≤ 9223372036854775807) (wnu : 0 ≤ nu) (wnu2 : nu ≤ 18446744073709551615) (h : 4 < wi) :
    Calls Tryz.prog 121 #[.agg #[.bool lg, .bool sp, .bool ph, .int .i64 ty, .int .u32 ve, .string ⟨dc.toArray⟩, .string ⟨sc.toArray⟩, .string ⟨tk.toArray⟩, .int .u64 le, .int .i64 wi, .int .u64 nu]] w fun e w' => e = .returned (.bool false) ∧ Below w.heap.size w w' := by
  go_enter Tryz.func121, Tryz.ntmps121
  go_wp2
  go_ret
  exact ⟨rfl, (Below.refl _ _).alloc (Nat.le_refl _) _⟩
theorem numB_1 (nu : Int) (h : 0 ≤ nu) : (nu / 256 == 0) = numB 1 nu := by
  unfold numB
  rw [Bool.eq_iff_iff]
  simp only [beq_iff_eq, decide_eq_true_eq]
  have : (256:Int) ^ (1 : Int).toNat = 256 := by decide
  rw [this]
  omega
set_option maxHeartbeats 1000000 in
theorem numbered_1 (lg sp ph : Bool) (ty ve : Int) (dc sc tk : List UInt8) (le nu : Int) (w : World) (wty : -9223372036854775808 ≤ ty) (wty2 : ty ≤ 9223372036854775807) (wve : 0 ≤ ve) (wve2 : ve ≤ 4294967295) (wdc : dc.length ≤ 9223372036854775807) (wsc : sc.length ≤ 9223372036854775807) (wtk : tk.length ≤ 9223372036854775807) (wle : 0 ≤ le) (wle2 : le ≤ 18446744073709551615)  (wnu : 0 ≤ nu) (wnu2 : nu ≤ 18446744073709551615) :
    Calls Tryz.prog 121 #[.agg #[.bool lg, .bool sp, .bool ph, .int .i64 ty, .int .u32 ve, .string ⟨dc.toArray⟩, .string ⟨sc.toArray⟩, .string ⟨tk.toArray⟩, .int .u64 le, .int .i64 1, .int .u64 nu]] w fun e w' => e = .returned (.bool (numB 1 nu)) ∧ Below w.heap.size w w' := by
  rw [← numB_1 nu wnu]
  go_enter Tryz.func121, Tryz.ntmps121
  go_wp2
  go_ret
  exact ⟨rfl, (Below.refl _ _).alloc (Nat.le_refl _) _⟩
theorem numB_2 (nu : Int) (h : 0 ≤ nu) : (nu / 65536 == 0) = numB 2 nu := by
  unfold numB
  rw [Bool.eq_iff_iff]
  simp only [beq_iff_eq, decide_eq_true_eq]
  have : (256:Int) ^ (2 : Int).toNat = 65536 := by decide
  rw [this]
  omega
set_option maxHeartbeats 1000000 in
theorem numbered_2 (lg sp ph : Bool) (ty ve : Int) (dc sc tk : List UInt8) (le nu : Int) (w : World) (wty : -9223372036854775808 ≤ ty) (wty2 : ty ≤ 9223372036854775807) (wve : 0 ≤ ve) (wve2 : ve ≤ 4294967295) (wdc : dc.length ≤ 9223372036854775807) (wsc : sc.length ≤ 9223372036854775807) (wtk : tk.length ≤ 9223372036854775807) (wle : 0 ≤ le) (wle2 : le ≤ 18446744073709551615)  (wnu : 0 ≤ nu) (wnu2 : nu ≤ 18446744073709551615) :
    Calls Tryz.prog 121 #[.agg #[.bool lg, .bool sp, .bool ph, .int .i64 ty, .int .u32 ve, .string ⟨dc.toArray⟩, .string ⟨sc.toArray⟩, .string ⟨tk.toArray⟩, .int .u64 le, .int .i64 2, .int .u64 nu]] w fun e w' => e = .returned (.bool (numB 2 nu)) ∧ Below w.heap.size w w' := by
  rw [← numB_2 nu wnu]
  go_enter Tryz.func121, Tryz.ntmps121
  go_wp2
  go_ret
  exact ⟨rfl, (Below.refl _ _).alloc (Nat.le_refl _) _⟩
theorem numB_3 (nu : Int) (h : 0 ≤ nu) : (nu / 16777216 == 0) = numB 3 nu := by
  unfold numB
  rw [Bool.eq_iff_iff]
  simp only [beq_iff_eq, decide_eq_true_eq]
  have : (256:Int) ^ (3 : Int).toNat = 16777216 := by decide
  rw [this]
  omega
set_option maxHeartbeats 1000000 in
theorem numbered_3 (lg sp ph : Bool) (ty ve : Int) (dc sc tk : List UInt8) (le nu : Int) (w : World) (wty : -9223372036854775808 ≤ ty) (wty2 : ty ≤ 9223372036854775807) (wve : 0 ≤ ve) (wve2 : ve ≤ 4294967295) (wdc : dc.length ≤ 9223372036854775807) (wsc : sc.length ≤ 9223372036854775807) (wtk : tk.length ≤ 9223372036854775807) (wle : 0 ≤ le) (wle2 : le ≤ 18446744073709551615)  (wnu : 0 ≤ nu) (wnu2 : nu ≤ 18446744073709551615) :
    Calls Tryz.prog 121 #[.agg #[.bool lg, .bool sp, .bool ph, .int .i64 ty, .int .u32 ve, .string ⟨dc.toArray⟩, .string ⟨sc.toArray⟩, .string ⟨tk.toArray⟩, .int .u64 le, .int .i64 3, .int .u64 nu]] w fun e w' => e = .returned (.bool (numB 3 nu)) ∧ Below w.heap.size w w' := by
  rw [← numB_3 nu wnu]
  go_enter Tryz.func121, Tryz.ntmps121
  go_wp2
  go_ret
  exact ⟨rfl, (Below.refl _ _).alloc (Nat.le_refl _) _⟩
theorem numB_4 (nu : Int) (h : 0 ≤ nu) : (nu / 4294967296 == 0) = numB 4 nu := by
  unfold numB
  rw [Bool.eq_iff_iff]
  simp only [beq_iff_eq, decide_eq_true_eq]
  have : (256:Int) ^ (4 : Int).toNat = 4294967296 := by decide
  rw [this]
  omega
set_option maxHeartbeats 1000000 in
theorem numbered_4 (lg sp ph : Bool) (ty ve : Int) (dc sc tk : List UInt8) (le nu : Int) (w : World) (wty : -9223372036854775808 ≤ ty) (wty2 : ty ≤ 9223372036854775807) (wve : 0 ≤ ve) (wve2 : ve ≤ 4294967295) (wdc : dc.length ≤ 9223372036854775807) (wsc : sc.length ≤ 9223372036854775807) (wtk : tk.length ≤ 9223372036854775807) (wle : 0 ≤ le) (wle2 : le ≤ 18446744073709551615)  (wnu : 0 ≤ nu) (wnu2 : nu ≤ 18446744073709551615) :
    Calls Tryz.prog 121 #[.agg #[.bool lg, .bool sp, .bool ph, .int .i64 ty, .int .u32 ve, .string ⟨dc.toArray⟩, .string ⟨sc.toArray⟩, .string ⟨tk.toArray⟩, .int .u64 le, .int .i64 4, .int .u64 nu]] w fun e w' => e = .returned (.bool (numB 4 nu)) ∧ Below w.heap.size w w' := by
  rw [← numB_4 nu wnu]
  go_enter Tryz.func121, Tryz.ntmps121
  go_wp2
  go_ret
  exact ⟨rfl, (Below.refl _ _).alloc (Nat.le_refl _) _⟩
theorem numbered_any (lg sp ph : Bool) (ty ve : Int) (dc sc tk : List UInt8) (le wi nu : Int) (w : World) (wty : -9223372036854775808 ≤ ty) (wty2 : ty ≤ 9223372036854775807) (wve : 0 ≤ ve) (wve2 : ve ≤ 4294967295) (wdc : dc.length ≤ 9223372036854775807) (wsc : sc.length ≤ 9223372036854775807) (wtk : tk.length ≤ 9223372036854775807) (wle : 0 ≤ le) (wle2 : le ≤ 18446744073709551615) (wwi : -9223372036854775808 ≤ wi) (wwi2 : wi ≤ 9223372036854775807) (wnu : 0 ≤ nu) (wnu2 : nu ≤ 18446744073709551615) :
    Calls Tryz.prog 121 #[.agg #[.bool lg, .bool sp, .bool ph, .int .i64 ty, .int .u32 ve, .string ⟨dc.toArray⟩, .string ⟨sc.toArray⟩, .string ⟨tk.toArray⟩, .int .u64 le, .int .i64 wi, .int .u64 nu]] w fun e w' => e = .returned (.bool (numB wi nu)) ∧ Below w.heap.size w w' := by
  by_cases h1 : wi < 1
  · rw [numB_no (.inl h1)]; exact numbered_no0 lg sp ph ty ve dc sc tk le wi nu w wty wty2 wve wve2 wdc wsc wtk wle wle2 wwi wwi2 wnu wnu2 h1
  by_cases h2 : 4 < wi
  · rw [numB_no (.inr h2)]; exact numbered_no1 lg sp ph ty ve dc sc tk le wi nu w wty wty2 wve wve2 wdc wsc wtk wle wle2 wwi wwi2 wnu wnu2 h2
  have : wi = 1 ∨ wi = 2 ∨ wi = 3 ∨ wi = 4 := by omega
  rcases this with rfl | rfl | rfl | rfl
  · exact numbered_1 lg sp ph ty ve dc sc tk le nu w wty wty2 wve wve2 wdc wsc wtk wle wle2 wnu wnu2
  · exact numbered_2 lg sp ph ty ve dc sc tk le nu w wty wty2 wve wve2 wdc wsc wtk wle wle2 wnu wnu2
  · exact numbered_3 lg sp ph ty ve dc sc tk le nu w wty wty2 wve wve2 wdc wsc wtk wle wle2 wnu wnu2
  · exact numbered_4 lg sp ph ty ve dc sc tk le nu w wty wty2 wve wve2 wdc wsc wtk wle wle2 wnu wnu2
/-- Whether the parts ahead of a number are as long, and as great, as they may be. -/
def bndB (lg : Bool) (ty : Int) (dc sc tk : List UInt8) (le : Int) : Bool :=
  if lg then decide (0 ≤ ty ∧ ty ≤ 2 ∧ dc.length ≤ 20 ∧ sc.length ≤ 20 ∧ tk.length ≤ 1000 ∧ le ≤ 4611686018427387903) else decide (dc.length = 8)
set_option maxHeartbeats 1000000 in
theorem bounded_s (sp ph : Bool) (ty ve : Int) (dc sc tk : List UInt8) (le wi nu : Int) (w : World) (wty : -9223372036854775808 ≤ ty) (wty2 : ty ≤ 9223372036854775807) (wve : 0 ≤ ve) (wve2 : ve ≤ 4294967295) (wdc : dc.length ≤ 9223372036854775807) (wsc : sc.length ≤ 9223372036854775807) (wtk : tk.length ≤ 9223372036854775807) (wle : 0 ≤ le) (wle2 : le ≤ 18446744073709551615) (wwi : -9223372036854775808 ≤ wi) (wwi2 : wi ≤ 9223372036854775807) (wnu : 0 ≤ nu) (wnu2 : nu ≤ 18446744073709551615) :
    Calls Tryz.prog 120 #[.agg #[.bool false, .bool sp, .bool ph, .int .i64 ty, .int .u32 ve, .string ⟨dc.toArray⟩, .string ⟨sc.toArray⟩, .string ⟨tk.toArray⟩, .int .u64 le, .int .i64 wi, .int .u64 nu]] w fun e w' => e = .returned (.bool (bndB false ty dc sc tk le)) ∧ Below w.heap.size w w' := by
  by_cases h : dc.length = 8
  · have hb : bndB false ty dc sc tk le = true := decide_eq_true h
    rw [hb]
    go_enter Tryz.func120, Tryz.ntmps120
    go_wp2
    go_ret
    exact ⟨by simp, (Below.refl _ _).alloc (Nat.le_refl _) _⟩
  · have hb : bndB false ty dc sc tk le = false := decide_eq_false h
    have h' : (((dc.length : Nat) : Int) == 8) = false := by simp; omega
    rw [hb]
    go_enter Tryz.func120, Tryz.ntmps120
    go_wp2
    go_ret
    exact ⟨by simp, (Below.refl _ _).alloc (Nat.le_refl _) _⟩
set_option maxHeartbeats 1000000 in
theorem bounded_l0 (sp ph : Bool) (ty ve : Int) (dc sc tk : List UInt8) (le wi nu : Int) (w : World) (wty : -9223372036854775808 ≤ ty) (wty2 : ty ≤ 9223372036854775807) (wve : 0 ≤ ve) (wve2 : ve ≤ 4294967295) (wdc : dc.length ≤ 9223372036854775807) (wsc : sc.length ≤ 9223372036854775807) (wtk : tk.length ≤ 9223372036854775807) (wle : 0 ≤ le) (wle2 : le ≤ 18446744073709551615) (wwi : -9223372036854775808 ≤ wi) (wwi2 : wi ≤ 9223372036854775807) (wnu : 0 ≤ nu) (wnu2 : nu ≤ 18446744073709551615)  (h0 : ¬ 0 ≤ ty) :
    Calls Tryz.prog 120 #[.agg #[.bool true, .bool sp, .bool ph, .int .i64 ty, .int .u32 ve, .string ⟨dc.toArray⟩, .string ⟨sc.toArray⟩, .string ⟨tk.toArray⟩, .int .u64 le, .int .i64 wi, .int .u64 nu]] w fun e w' => e = .returned (.bool false) ∧ Below w.heap.size w w' := by
  go_enter Tryz.func120, Tryz.ntmps120
  go_wp2
  go_ret
  exact ⟨by simp <;> omega, (Below.refl _ _).alloc (Nat.le_refl _) _⟩
set_option maxHeartbeats 1000000 in
theorem bounded_l1 (sp ph : Bool) (ty ve : Int) (dc sc tk : List UInt8) (le wi nu : Int) (w : World) (wty : -9223372036854775808 ≤ ty) (wty2 : ty ≤ 9223372036854775807) (wve : 0 ≤ ve) (wve2 : ve ≤ 4294967295) (wdc : dc.length ≤ 9223372036854775807) (wsc : sc.length ≤ 9223372036854775807) (wtk : tk.length ≤ 9223372036854775807) (wle : 0 ≤ le) (wle2 : le ≤ 18446744073709551615) (wwi : -9223372036854775808 ≤ wi) (wwi2 : wi ≤ 9223372036854775807) (wnu : 0 ≤ nu) (wnu2 : nu ≤ 18446744073709551615) (h0 : 0 ≤ ty) (h1 : ¬ ty ≤ 2) :
    Calls Tryz.prog 120 #[.agg #[.bool true, .bool sp, .bool ph, .int .i64 ty, .int .u32 ve, .string ⟨dc.toArray⟩, .string ⟨sc.toArray⟩, .string ⟨tk.toArray⟩, .int .u64 le, .int .i64 wi, .int .u64 nu]] w fun e w' => e = .returned (.bool false) ∧ Below w.heap.size w w' := by
  go_enter Tryz.func120, Tryz.ntmps120
  go_wp2
  go_ret
  exact ⟨by simp <;> omega, (Below.refl _ _).alloc (Nat.le_refl _) _⟩
set_option maxHeartbeats 1000000 in
theorem bounded_l2 (sp ph : Bool) (ty ve : Int) (dc sc tk : List UInt8) (le wi nu : Int) (w : World) (wty : -9223372036854775808 ≤ ty) (wty2 : ty ≤ 9223372036854775807) (wve : 0 ≤ ve) (wve2 : ve ≤ 4294967295) (wdc : dc.length ≤ 9223372036854775807) (wsc : sc.length ≤ 9223372036854775807) (wtk : tk.length ≤ 9223372036854775807) (wle : 0 ≤ le) (wle2 : le ≤ 18446744073709551615) (wwi : -9223372036854775808 ≤ wi) (wwi2 : wi ≤ 9223372036854775807) (wnu : 0 ≤ nu) (wnu2 : nu ≤ 18446744073709551615) (h0 : 0 ≤ ty) (h1 : ty ≤ 2) (h2 : ¬ dc.length ≤ 20) :
    Calls Tryz.prog 120 #[.agg #[.bool true, .bool sp, .bool ph, .int .i64 ty, .int .u32 ve, .string ⟨dc.toArray⟩, .string ⟨sc.toArray⟩, .string ⟨tk.toArray⟩, .int .u64 le, .int .i64 wi, .int .u64 nu]] w fun e w' => e = .returned (.bool false) ∧ Below w.heap.size w w' := by
  go_enter Tryz.func120, Tryz.ntmps120
  go_wp2
  go_ret
  exact ⟨by simp <;> omega, (Below.refl _ _).alloc (Nat.le_refl _) _⟩
set_option maxHeartbeats 1000000 in
theorem bounded_l3 (sp ph : Bool) (ty ve : Int) (dc sc tk : List UInt8) (le wi nu : Int) (w : World) (wty : -9223372036854775808 ≤ ty) (wty2 : ty ≤ 9223372036854775807) (wve : 0 ≤ ve) (wve2 : ve ≤ 4294967295) (wdc : dc.length ≤ 9223372036854775807) (wsc : sc.length ≤ 9223372036854775807) (wtk : tk.length ≤ 9223372036854775807) (wle : 0 ≤ le) (wle2 : le ≤ 18446744073709551615) (wwi : -9223372036854775808 ≤ wi) (wwi2 : wi ≤ 9223372036854775807) (wnu : 0 ≤ nu) (wnu2 : nu ≤ 18446744073709551615) (h0 : 0 ≤ ty) (h1 : ty ≤ 2) (h2 : dc.length ≤ 20) (h3 : ¬ sc.length ≤ 20) :
    Calls Tryz.prog 120 #[.agg #[.bool true, .bool sp, .bool ph, .int .i64 ty, .int .u32 ve, .string ⟨dc.toArray⟩, .string ⟨sc.toArray⟩, .string ⟨tk.toArray⟩, .int .u64 le, .int .i64 wi, .int .u64 nu]] w fun e w' => e = .returned (.bool false) ∧ Below w.heap.size w w' := by
  go_enter Tryz.func120, Tryz.ntmps120
  go_wp2
  go_ret
  exact ⟨by simp <;> omega, (Below.refl _ _).alloc (Nat.le_refl _) _⟩
set_option maxHeartbeats 1000000 in
theorem bounded_l4 (sp ph : Bool) (ty ve : Int) (dc sc tk : List UInt8) (le wi nu : Int) (w : World) (wty : -9223372036854775808 ≤ ty) (wty2 : ty ≤ 9223372036854775807) (wve : 0 ≤ ve) (wve2 : ve ≤ 4294967295) (wdc : dc.length ≤ 9223372036854775807) (wsc : sc.length ≤ 9223372036854775807) (wtk : tk.length ≤ 9223372036854775807) (wle : 0 ≤ le) (wle2 : le ≤ 18446744073709551615) (wwi : -9223372036854775808 ≤ wi) (wwi2 : wi ≤ 9223372036854775807) (wnu : 0 ≤ nu) (wnu2 : nu ≤ 18446744073709551615) (h0 : 0 ≤ ty) (h1 : ty ≤ 2) (h2 : dc.length ≤ 20) (h3 : sc.length ≤ 20) (h4 : ¬ tk.length ≤ 1000) :
    Calls Tryz.prog 120 #[.agg #[.bool true, .bool sp, .bool ph, .int .i64 ty, .int .u32 ve, .string ⟨dc.toArray⟩, .string ⟨sc.toArray⟩, .string ⟨tk.toArray⟩, .int .u64 le, .int .i64 wi, .int .u64 nu]] w fun e w' => e = .returned (.bool false) ∧ Below w.heap.size w w' := by
  go_enter Tryz.func120, Tryz.ntmps120
  go_wp2
  go_ret
  exact ⟨by simp <;> omega, (Below.refl _ _).alloc (Nat.le_refl _) _⟩
set_option maxHeartbeats 1000000 in
theorem bounded_l5 (sp ph : Bool) (ty ve : Int) (dc sc tk : List UInt8) (le wi nu : Int) (w : World) (wty : -9223372036854775808 ≤ ty) (wty2 : ty ≤ 9223372036854775807) (wve : 0 ≤ ve) (wve2 : ve ≤ 4294967295) (wdc : dc.length ≤ 9223372036854775807) (wsc : sc.length ≤ 9223372036854775807) (wtk : tk.length ≤ 9223372036854775807) (wle : 0 ≤ le) (wle2 : le ≤ 18446744073709551615) (wwi : -9223372036854775808 ≤ wi) (wwi2 : wi ≤ 9223372036854775807) (wnu : 0 ≤ nu) (wnu2 : nu ≤ 18446744073709551615) (h0 : 0 ≤ ty) (h1 : ty ≤ 2) (h2 : dc.length ≤ 20) (h3 : sc.length ≤ 20) (h4 : tk.length ≤ 1000) (h5 : ¬ le ≤ 4611686018427387903) :
    Calls Tryz.prog 120 #[.agg #[.bool true, .bool sp, .bool ph, .int .i64 ty, .int .u32 ve, .string ⟨dc.toArray⟩, .string ⟨sc.toArray⟩, .string ⟨tk.toArray⟩, .int .u64 le, .int .i64 wi, .int .u64 nu]] w fun e w' => e = .returned (.bool false) ∧ Below w.heap.size w w' := by
  go_enter Tryz.func120, Tryz.ntmps120
  go_wp2
  go_ret
  exact ⟨by simp <;> omega, (Below.refl _ _).alloc (Nat.le_refl _) _⟩
set_option maxHeartbeats 1000000 in
theorem bounded_l6 (sp ph : Bool) (ty ve : Int) (dc sc tk : List UInt8) (le wi nu : Int) (w : World) (wty : -9223372036854775808 ≤ ty) (wty2 : ty ≤ 9223372036854775807) (wve : 0 ≤ ve) (wve2 : ve ≤ 4294967295) (wdc : dc.length ≤ 9223372036854775807) (wsc : sc.length ≤ 9223372036854775807) (wtk : tk.length ≤ 9223372036854775807) (wle : 0 ≤ le) (wle2 : le ≤ 18446744073709551615) (wwi : -9223372036854775808 ≤ wi) (wwi2 : wi ≤ 9223372036854775807) (wnu : 0 ≤ nu) (wnu2 : nu ≤ 18446744073709551615) (h0 : 0 ≤ ty) (h1 : ty ≤ 2) (h2 : dc.length ≤ 20) (h3 : sc.length ≤ 20) (h4 : tk.length ≤ 1000) (h5 : le ≤ 4611686018427387903) :
    Calls Tryz.prog 120 #[.agg #[.bool true, .bool sp, .bool ph, .int .i64 ty, .int .u32 ve, .string ⟨dc.toArray⟩, .string ⟨sc.toArray⟩, .string ⟨tk.toArray⟩, .int .u64 le, .int .i64 wi, .int .u64 nu]] w fun e w' => e = .returned (.bool true) ∧ Below w.heap.size w w' := by
  go_enter Tryz.func120, Tryz.ntmps120
  go_wp2
  go_ret
  exact ⟨by simp <;> omega, (Below.refl _ _).alloc (Nat.le_refl _) _⟩
theorem bounded_any (lg sp ph : Bool) (ty ve : Int) (dc sc tk : List UInt8) (le wi nu : Int) (w : World) (wty : -9223372036854775808 ≤ ty) (wty2 : ty ≤ 9223372036854775807) (wve : 0 ≤ ve) (wve2 : ve ≤ 4294967295) (wdc : dc.length ≤ 9223372036854775807) (wsc : sc.length ≤ 9223372036854775807) (wtk : tk.length ≤ 9223372036854775807) (wle : 0 ≤ le) (wle2 : le ≤ 18446744073709551615) (wwi : -9223372036854775808 ≤ wi) (wwi2 : wi ≤ 9223372036854775807) (wnu : 0 ≤ nu) (wnu2 : nu ≤ 18446744073709551615) :
    Calls Tryz.prog 120 #[.agg #[.bool lg, .bool sp, .bool ph, .int .i64 ty, .int .u32 ve, .string ⟨dc.toArray⟩, .string ⟨sc.toArray⟩, .string ⟨tk.toArray⟩, .int .u64 le, .int .i64 wi, .int .u64 nu]] w fun e w' => e = .returned (.bool (bndB lg ty dc sc tk le)) ∧ Below w.heap.size w w' := by
  cases lg with
  | false => exact bounded_s sp ph ty ve dc sc tk le wi nu w wty wty2 wve wve2 wdc wsc wtk wle wle2 wwi wwi2 wnu wnu2
  | true =>
    have no : ∀ (h : ¬ (0 ≤ ty ∧ ty ≤ 2 ∧ dc.length ≤ 20 ∧ sc.length ≤ 20 ∧ tk.length ≤ 1000 ∧ le ≤ 4611686018427387903)), bndB true ty dc sc tk le = false := fun h => decide_eq_false h
    by_cases h0 : 0 ≤ ty
    rotate_left
    · rw [no (by omega)]; exact bounded_l0 sp ph ty ve dc sc tk le wi nu w wty wty2 wve wve2 wdc wsc wtk wle wle2 wwi wwi2 wnu wnu2 h0
    by_cases h1 : ty ≤ 2
    rotate_left
    · rw [no (by omega)]; exact bounded_l1 sp ph ty ve dc sc tk le wi nu w wty wty2 wve wve2 wdc wsc wtk wle wle2 wwi wwi2 wnu wnu2 h0 h1
    by_cases h2 : dc.length ≤ 20
    rotate_left
    · rw [no (by omega)]; exact bounded_l2 sp ph ty ve dc sc tk le wi nu w wty wty2 wve wve2 wdc wsc wtk wle wle2 wwi wwi2 wnu wnu2 h0 h1 h2
    by_cases h3 : sc.length ≤ 20
    rotate_left
    · rw [no (by omega)]; exact bounded_l3 sp ph ty ve dc sc tk le wi nu w wty wty2 wve wve2 wdc wsc wtk wle wle2 wwi wwi2 wnu wnu2 h0 h1 h2 h3
    by_cases h4 : tk.length ≤ 1000
    rotate_left
    · rw [no (by omega)]; exact bounded_l4 sp ph ty ve dc sc tk le wi nu w wty wty2 wve wve2 wdc wsc wtk wle wle2 wwi wwi2 wnu wnu2 h0 h1 h2 h3 h4
    by_cases h5 : le ≤ 4611686018427387903
    rotate_left
    · rw [no (by omega)]; exact bounded_l5 sp ph ty ve dc sc tk le wi nu w wty wty2 wve wve2 wdc wsc wtk wle wle2 wwi wwi2 wnu wnu2 h0 h1 h2 h3 h4 h5
    have yes : bndB true ty dc sc tk le = true := decide_eq_true ⟨h0, h1, h2, h3, h4, h5⟩
    rw [yes]; exact bounded_l6 sp ph ty ve dc sc tk le wi nu w wty wty2 wve wve2 wdc wsc wtk wle wle2 wwi wwi2 wnu wnu2 h0 h1 h2 h3 h4 h5
set_option maxHeartbeats 1000000 in
theorem kept_s (sp ph : Bool) (ty ve : Int) (dc sc tk : List UInt8) (le wi nu : Int) (w : World) (wty : -9223372036854775808 ≤ ty) (wty2 : ty ≤ 9223372036854775807) (wve : 0 ≤ ve) (wve2 : ve ≤ 4294967295) (wdc : dc.length ≤ 9223372036854775807) (wsc : sc.length ≤ 9223372036854775807) (wtk : tk.length ≤ 9223372036854775807) (wle : 0 ≤ le) (wle2 : le ≤ 18446744073709551615) (wwi : -9223372036854775808 ≤ wi) (wwi2 : wi ≤ 9223372036854775807) (wnu : 0 ≤ nu) (wnu2 : nu ≤ 18446744073709551615)  :
    Calls Tryz.prog 119 #[.agg #[.bool false, .bool sp, .bool ph, .int .i64 ty, .int .u32 ve, .string ⟨dc.toArray⟩, .string ⟨sc.toArray⟩, .string ⟨tk.toArray⟩, .int .u64 le, .int .i64 wi, .int .u64 nu]] w fun e w' => e = .returned (.agg #[.bool false, .bool sp, .bool ph, .int .i64 0, .int .u32 0, .string ⟨dc.toArray⟩, .string ⟨#[]⟩, .string ⟨#[]⟩, .int .u64 0, .int .i64 wi, .int .u64 nu]) ∧ Below w.heap.size w w' := by
  go_enter Tryz.func119, Tryz.ntmps119
  go_wp2
  refine bodyPost_ret (v := .agg #[.bool false, .bool sp, .bool ph, .int .i64 0, .int .u32 0, .string ⟨dc.toArray⟩, .string ⟨#[]⟩, .string ⟨#[]⟩, .int .u64 0, .int .i64 wi, .int .u64 nu]) (by simp [results, Tryz.results119, go_sem, *]) rfl ⟨rfl, ((Below.refl _ _).alloc (Nat.le_refl _) _).alloc (by simp) _⟩
set_option maxHeartbeats 1000000 in
theorem kept_l0 (sp ph : Bool) (ve : Int) (dc sc tk : List UInt8) (le wi nu : Int) (w : World)  (wve : 0 ≤ ve) (wve2 : ve ≤ 4294967295) (wdc : dc.length ≤ 9223372036854775807) (wsc : sc.length ≤ 9223372036854775807) (wtk : tk.length ≤ 9223372036854775807) (wle : 0 ≤ le) (wle2 : le ≤ 18446744073709551615) (wwi : -9223372036854775808 ≤ wi) (wwi2 : wi ≤ 9223372036854775807) (wnu : 0 ≤ nu) (wnu2 : nu ≤ 18446744073709551615)  :
    Calls Tryz.prog 119 #[.agg #[.bool true, .bool sp, .bool ph, .int .i64 0, .int .u32 ve, .string ⟨dc.toArray⟩, .string ⟨sc.toArray⟩, .string ⟨tk.toArray⟩, .int .u64 le, .int .i64 wi, .int .u64 nu]] w fun e w' => e = .returned (.agg #[.bool true, .bool false, .bool false, .int .i64 0, .int .u32 ve, .string ⟨dc.toArray⟩, .string ⟨sc.toArray⟩, .string ⟨tk.toArray⟩, .int .u64 le, .int .i64 wi, .int .u64 nu]) ∧ Below w.heap.size w w' := by
  go_enter Tryz.func119, Tryz.ntmps119
  go_wp2
  refine bodyPost_ret (v := .agg #[.bool true, .bool false, .bool false, .int .i64 0, .int .u32 ve, .string ⟨dc.toArray⟩, .string ⟨sc.toArray⟩, .string ⟨tk.toArray⟩, .int .u64 le, .int .i64 wi, .int .u64 nu]) (by simp [results, Tryz.results119, go_sem, *]) rfl ⟨rfl, ((Below.refl _ _).alloc (Nat.le_refl _) _).alloc (by simp) _⟩
set_option maxHeartbeats 1000000 in
theorem kept_ln (sp ph : Bool) (ty ve : Int) (dc sc tk : List UInt8) (le wi nu : Int) (w : World) (wty : -9223372036854775808 ≤ ty) (wty2 : ty ≤ 9223372036854775807) (wve : 0 ≤ ve) (wve2 : ve ≤ 4294967295) (wdc : dc.length ≤ 9223372036854775807) (wsc : sc.length ≤ 9223372036854775807) (wtk : tk.length ≤ 9223372036854775807) (wle : 0 ≤ le) (wle2 : le ≤ 18446744073709551615) (wwi : -9223372036854775808 ≤ wi) (wwi2 : wi ≤ 9223372036854775807) (wnu : 0 ≤ nu) (wnu2 : nu ≤ 18446744073709551615) (h0 : (ty != 0) = true) :
    Calls Tryz.prog 119 #[.agg #[.bool true, .bool sp, .bool ph, .int .i64 ty, .int .u32 ve, .string ⟨dc.toArray⟩, .string ⟨sc.toArray⟩, .string ⟨tk.toArray⟩, .int .u64 le, .int .i64 wi, .int .u64 nu]] w fun e w' => e = .returned (.agg #[.bool true, .bool false, .bool false, .int .i64 ty, .int .u32 ve, .string ⟨dc.toArray⟩, .string ⟨sc.toArray⟩, .string ⟨#[]⟩, .int .u64 le, .int .i64 wi, .int .u64 nu]) ∧ Below w.heap.size w w' := by
  go_enter Tryz.func119, Tryz.ntmps119
  go_wp2
  refine bodyPost_ret (v := .agg #[.bool true, .bool false, .bool false, .int .i64 ty, .int .u32 ve, .string ⟨dc.toArray⟩, .string ⟨sc.toArray⟩, .string ⟨#[]⟩, .int .u64 le, .int .i64 wi, .int .u64 nu]) (by simp [results, Tryz.results119, go_sem, *]) rfl ⟨rfl, ((Below.refl _ _).alloc (Nat.le_refl _) _).alloc (by simp) _⟩
theorem t3 : ∀ n : Nat, n < 256 → (bits .and .u8 (n : Int) 3 + 1 = ((1 + n % 4 : Nat) : Int) ∧ (0:Int) ≤ bits .and .u8 (n : Int) 3 ∧ bits .and .u8 (n : Int) 3 ≤ 3) := by decide +kernel
theorem t128' : ∀ n : Nat, n < 256 → (bits .and .u8 (n : Int) 128 != 0) = decide (128 ≤ n) := by decide +kernel
set_option maxHeartbeats 1000000 in
theorem wideOf_any (n : Nat) (w : World) (hn : n < 256) :
    Calls Tryz.prog 129 #[.int .u8 n] w fun e w' => e = .returned (.int .i64 (1 + n % 4 : Nat)) ∧ w' = w := by
  have h := t3 n hn
  have h1 := h.2.1
  have h2 := h.2.2
  have HE := Lib.hid h.1
  clear h
  go_enter Tryz.func129, Tryz.ntmps129
  go_wp2
  go_ret
  exact ⟨by rw [← HE.out]; rfl, rfl⟩
set_option maxHeartbeats 1000000 in
theorem unused_any (n : Nat) (w : World) (hn : n < 256) :
    Calls Tryz.prog 156 #[.int .u8 n] w fun e w' => e = .returned (.int .u8 (if 128 ≤ n then 12 else 24)) ∧ w' = w := by
  by_cases h : 128 ≤ n
  · have g : (bits .and .u8 (n : Int) 128 != 0) = true := by rw [t128' n hn]; exact decide_eq_true h
    rw [if_pos h]
    clear h
    go_enter Tryz.func156, Tryz.ntmps156
    go_wp2
    go_ret
    exact ⟨rfl, rfl⟩
  · have g : (bits .and .u8 (n : Int) 128 != 0) = false := by rw [t128' n hn]; exact decide_eq_false h
    rw [if_neg h]
    clear h
    go_enter Tryz.func156, Tryz.ntmps156
    go_wp2
    go_ret
    exact ⟨rfl, rfl⟩
set_option maxHeartbeats 1000000 in
theorem hidden_any (n : Nat) (w : World) (hn : n < 256) :
    Calls Tryz.prog 155 #[.int .u8 n] w fun e w' => e = .returned (.int .u8 (if 128 ≤ n then 15 else 31)) ∧ w' = w := by
  by_cases h : 128 ≤ n
  · have g : (bits .and .u8 (n : Int) 128 != 0) = true := by rw [t128' n hn]; exact decide_eq_true h
    rw [if_pos h]
    clear h
    go_enter Tryz.func155, Tryz.ntmps155
    go_wp2
    go_ret
    exact ⟨rfl, rfl⟩
  · have g : (bits .and .u8 (n : Int) 128 != 0) = false := by rw [t128' n hn]; exact decide_eq_false h
    rw [if_neg h]
    clear h
    go_enter Tryz.func155, Tryz.ntmps155
    go_wp2
    go_ret
    exact ⟨rfl, rfl⟩
end Go.Proofs.YtagbkmoahflfdaaGreatDoor.Hd
