/- The walks of layer 4: readAhead in one word -/
import Derived.Test.YtojoalmldapboaaGreatDoorJa27
namespace Go.Proofs.YtojoalmldapboaaGreatDoor.Hd
set_option maxRecDepth 20000
open Go.RowKit Vm
set_option linter.unusedVariables false
/-- What readAhead tells of bytes. -/
structure Rd where
  st : St
  lg : Bool
  sp : Bool
  ty : Nat
  ve : Nat
  dc : List UInt8
  sc : List UInt8
  tk : List UInt8
  le : Nat
  n : Nat
def raN (l : List UInt8) : Nat := bk (St.take ⟨l, false⟩ 1)
def raS1 (l : List UInt8) : St := St.skip ⟨l, false⟩ 1
def raS2 (l : List UInt8) : St := ⟨(raS1 l).s, (raS1 l).w || decide (raN l / 64 % 2 = 0)⟩
def ra (l : List UInt8) : Rd :=
  if 128 ≤ raN l then ⟨(lgSt (raN l) (raS2 l)).vs, true, false, lgTy (raN l), bk ((raS2 l).take 4), rdId ((raS2 l).skip 4), rdId (rdIdS ((raS2 l).skip 4)), lgTok (raN l) (raS2 l), (lgSt (raN l) (raS2 l)).vn, raN l⟩
  else ⟨(raS2 l).skip 8, false, decide (raN l / 32 % 2 = 1), 0, 0, (raS2 l).take 8, [], [], 0, raN l⟩
set_option maxHeartbeats 1000000 in
theorem readAhead_any (l : List UInt8) (w : World) (ht : Tab w) (hl : l.length ≤ 9223372036854775807) :
    Calls Tryz.prog 127 #[.string ⟨l.toArray⟩] w fun e w' => e = .returned (.agg #[.string ⟨(ra l).st.s.toArray⟩, .bool (ra l).st.w, .bool (ra l).lg, .bool (ra l).sp, .bool false, .int .i64 (ra l).ty, .int .u32 (ra l).ve, .string ⟨(ra l).dc.toArray⟩, .string ⟨(ra l).sc.toArray⟩, .string ⟨(ra l).tk.toArray⟩, .int .u64 (ra l).le, .int .i64 0, .int .u64 0, .int .u8 (ra l).n]) ∧ Below w.heap.size w w' := by
  have hn : raN l < 256 := bk1 _ (St.take_len _ _)
  have hl1 : (raS1 l).s.length ≤ 9223372036854775807 := Nat.le_trans (St.skip_len _ _) hl
  have hn1 : ((raN l : Nat) : Int) ≤ 255 := by omega
  by_cases h : 128 ≤ raN l
  · have e : ra l = ⟨(lgSt (raN l) (raS2 l)).vs, true, false, lgTy (raN l), bk ((raS2 l).take 4), rdId ((raS2 l).skip 4), rdId (rdIdS ((raS2 l).skip 4)), lgTok (raN l) (raS2 l), (lgSt (raN l) (raS2 l)).vn, raN l⟩ := if_pos h
    rw [e]
    dsimp only
    have g : (bits .and .u8 ((raN l : Nat) : Int) 128 != 0) = true := by rw [t128 _ hn]; exact decide_eq_true h
    cases hw : (raS1 l).w with
    | false =>
      have e2 : raS2 l = ⟨(raS1 l).s, decide (raN l / 64 % 2 = 0)⟩ := by unfold raS2; rw [hw]; rfl
      exact ahead_ls l (raN l) (raS1 l).s (lgSt (raN l) (raS2 l)).vs (decide (raN l / 64 % 2 = 0)) (lgTy (raN l) : Nat) (bk ((raS2 l).take 4) : Nat) ((lgSt (raN l) (raS2 l)).vn : Nat) (rdId ((raS2 l).skip 4)) (rdId (rdIdS ((raS2 l).skip 4))) (lgTok (raN l) (raS2 l)) (Lib.hid fun b w ht hB h => readLong_any b (raN l) (raS2 l) (.bool true) (.bool false) (.bool false) (.int .i64 0) (.int .u32 0) (.string ⟨#[]⟩) (.string ⟨#[]⟩) (.int .u64 0) (.int .i64 0) (.int .u64 0) w ht (by rw [e2]; exact h) hl1 hn hB) w ht (Lib.hid ⟨rfl, by show raS1 l = _; rw [← hw]⟩) (t64 _ hn) g hl hl1 (by omega) hn1
    | true =>
      have e2 : raS2 l = ⟨(raS1 l).s, true⟩ := by unfold raS2; rw [hw]; rfl
      exact ahead_lw l (raN l) (raS1 l).s (lgSt (raN l) (raS2 l)).vs (decide (raN l / 64 % 2 = 0)) (lgTy (raN l) : Nat) (bk ((raS2 l).take 4) : Nat) ((lgSt (raN l) (raS2 l)).vn : Nat) (rdId ((raS2 l).skip 4)) (rdId (rdIdS ((raS2 l).skip 4))) (lgTok (raN l) (raS2 l)) (Lib.hid fun b w ht hB h => readLong_any b (raN l) (raS2 l) (.bool true) (.bool false) (.bool false) (.int .i64 0) (.int .u32 0) (.string ⟨#[]⟩) (.string ⟨#[]⟩) (.int .u64 0) (.int .i64 0) (.int .u64 0) w ht (by rw [e2]; exact h) hl1 hn hB) w ht (Lib.hid ⟨rfl, by show raS1 l = _; rw [← hw]⟩) (t64 _ hn) g hl hl1 (by omega) hn1
  · have e : ra l = ⟨(raS2 l).skip 8, false, decide (raN l / 32 % 2 = 1), 0, 0, (raS2 l).take 8, [], [], 0, raN l⟩ := if_neg h
    rw [e]
    dsimp only
    have g : (bits .and .u8 ((raN l : Nat) : Int) 128 != 0) = false := by rw [t128 _ hn]; exact decide_eq_false h
    cases hw : (raS1 l).w with
    | false =>
      have e2 : raS2 l = ⟨(raS1 l).s, decide (raN l / 64 % 2 = 0)⟩ := by unfold raS2; rw [hw]; rfl
      exact ahead_ss l (raN l) (raS1 l).s ((raS2 l).skip 8) (decide (raN l / 64 % 2 = 0)) ((raS2 l).take 8) (decide (raN l / 32 % 2 = 1)) (t32 _ hn) (Lib.hid (by rw [e2]; exact ⟨rfl, rfl⟩)) w ht (Lib.hid ⟨rfl, by show raS1 l = _; rw [← hw]⟩) (t64 _ hn) g hl hl1 (by omega) hn1
    | true =>
      have e2 : raS2 l = ⟨(raS1 l).s, true⟩ := by unfold raS2; rw [hw]; rfl
      exact ahead_sw l (raN l) (raS1 l).s ((raS2 l).skip 8) (decide (raN l / 64 % 2 = 0)) ((raS2 l).take 8) (decide (raN l / 32 % 2 = 1)) (t32 _ hn) (Lib.hid (by rw [e2]; exact ⟨rfl, rfl⟩)) w ht (Lib.hid ⟨rfl, by show raS1 l = _; rw [← hw]⟩) (t64 _ hn) g hl hl1 (by omega) hn1
end Go.Proofs.YtojoalmldapboaaGreatDoor.Hd
