/- Plain mathematics of headers: what the program's reader reads is what stands ahead of a number. -/
import Derived.Test.YtabikljimndliaaDoorHdC2
import Derived.Test.YtabikljimndliaaDoorHdG
namespace Go.Proofs.YtabikljimndliaaDoor.Hd
open Go.RowKit Vm
set_option linter.unusedVariables false

theorem St.take_len' (st : St) (n : Nat) : (st.take n).length ≤ st.s.length := by
  unfold St.take
  split
  · rw [List.length_take]; omega
  · exact Nat.zero_le _
theorem St.take_ok {s : List UInt8} {w : Bool} {n : Nat} (h : n ≤ s.length) : St.take ⟨s, w⟩ n = s.take n := if_pos h
theorem St.skip_ok {s : List UInt8} {w : Bool} {n : Nat} (h : n ≤ s.length) : St.skip ⟨s, w⟩ n = ⟨s.drop n, w⟩ := if_pos h
theorem St.skip_no {s : List UInt8} {w : Bool} {n : Nat} (h : s.length < n) : St.skip ⟨s, w⟩ n = ⟨s, true⟩ := if_neg (Nat.not_le.2 h)
theorem St.skip_w {st : St} {n : Nat} (h : (st.skip n).w = false) : st.w = false ∧ n ≤ st.s.length := by
  unfold St.skip at h
  split at h
  · rename_i h1; exact ⟨h, h1⟩
  · cases h
theorem St.vs_w {st : St} (h : st.vs.w = false) : st.w = false ∧ gk st.s ≤ st.s.length := by
  have : (st.w || decide (st.s.length < gk st.s)) = false := h
  simp only [Bool.or_eq_false_iff, decide_eq_false_iff_not] at this
  exact ⟨this.1, by omega⟩
theorem gN_lt (l : List UInt8) : gN l < 4611686018427387904 := by
  unfold gN
  split
  · have hg := gk_pos l
    unfold gn
    exact Nat.lt_of_lt_of_le (Nat.mod_lt _ (Nat.pow_pos (by decide))) (Nat.le_trans (Nat.pow_le_pow_right (by decide) (show 8 * gk l - 2 ≤ 62 by omega)) (by decide))
  · decide
theorem rdId_len (st : St) : (rdId st).length ≤ st.s.length := Nat.le_trans (St.take_len' _ _) (St.skip_len _ _)
theorem rdTok_len (st : St) : (rdTok st).length ≤ st.s.length := Nat.le_trans (St.take_len' _ _) (St.vs_len _)
/-- What readAhead tells is bounded. -/
structure Bnd (r : Rd) (m : Nat) : Prop where
  ty : r.ty ≤ 3
  ve : r.ve ≤ 4294967295
  dc : r.dc.length ≤ m
  sc : r.sc.length ≤ m
  tk : r.tk.length ≤ m
  le : r.le < 4611686018427387904
  n : r.n < 256
  st : r.st.s.length ≤ m
theorem raN_lt (l : List UInt8) : raN l < 256 := bk1 _ (St.take_len _ _)
theorem ra_bnd (l : List UInt8) : Bnd (ra l) l.length := by
  have hn := raN_lt l
  have h1 : (raS2 l).s.length ≤ l.length := St.skip_len _ _
  by_cases h : 128 ≤ raN l
  · have e : ra l = ⟨(lgSt (raN l) (raS2 l)).vs, true, false, lgTy (raN l), bk ((raS2 l).take 4), rdId ((raS2 l).skip 4), rdId (rdIdS ((raS2 l).skip 4)), lgTok (raN l) (raS2 l), (lgSt (raN l) (raS2 l)).vn, raN l⟩ := if_pos h
    rw [e]
    clear e
    have h2 := Nat.le_trans (St.skip_len (raS2 l) 4) h1
    have h3 := Nat.le_trans (rdIdS_len ((raS2 l).skip 4)) h2
    have h4 := Nat.le_trans (rdIdS_len (rdIdS ((raS2 l).skip 4))) h3
    have hv : bk ((raS2 l).take 4) ≤ 4294967295 := by have := (bk4 ((raS2 l).take 4) (St.take_len _ _)).2; omega
    have h5 : (lgSt (raN l) (raS2 l)).s.length ≤ l.length := by
      unfold lgSt
      split
      · exact Nat.le_trans (rdTokS_len _) h4
      · exact h4
    have h6 : (lgTok (raN l) (raS2 l)).length ≤ l.length := by
      unfold lgTok
      split
      · exact Nat.le_trans (rdTok_len _) h4
      · exact Nat.zero_le _
    have h7 := Nat.le_trans (rdId_len ((raS2 l).skip 4)) h2
    have h8 := Nat.le_trans (rdId_len (rdIdS ((raS2 l).skip 4))) h3
    have h9 : (lgSt (raN l) (raS2 l)).vn < 4611686018427387904 := gN_lt _
    have h10 := Nat.le_trans (St.vs_len (lgSt (raN l) (raS2 l))) h5
    have h11 : lgTy (raN l) ≤ 3 := by unfold lgTy; omega
    generalize lgSt (raN l) (raS2 l) = a1 at *
    generalize lgTok (raN l) (raS2 l) = a2 at *
    generalize rdId ((raS2 l).skip 4) = a3 at *
    generalize rdId (rdIdS ((raS2 l).skip 4)) = a4 at *
    generalize bk ((raS2 l).take 4) = a5 at *
    generalize lgTy (raN l) = a6 at *
    exact ⟨h11, hv, h7, h8, h6, h9, hn, h10⟩
  · have e : ra l = ⟨(raS2 l).skip 8, false, decide (raN l / 32 % 2 = 1), 0, 0, (raS2 l).take 8, [], [], 0, raN l⟩ := if_neg h
    rw [e]
    clear e
    have h7 := Nat.le_trans (St.take_len' (raS2 l) 8) h1
    have h10 := Nat.le_trans (St.skip_len (raS2 l) 8) h1
    generalize (raS2 l).skip 8 = a1 at *
    generalize (raS2 l).take 8 = a2 at *
    exact ⟨Nat.zero_le _, Nat.zero_le _, h7, Nat.zero_le _, Nat.zero_le _, (show (0:Nat) < 4611686018427387904 by omega), hn, h10⟩
end Go.Proofs.YtabikljimndliaaDoor.Hd
