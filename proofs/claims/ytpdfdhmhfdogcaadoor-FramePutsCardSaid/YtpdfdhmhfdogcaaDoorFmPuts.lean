/- Layer 6: the law FramePuts, walked. By tools/gen-frame-34.py. -/
import Derived.Test.YtpdfdhmhfdogcaaDoorFpD
import Derived.Test.YtpdfdhmhfdogcaaDoorFpE
import Derived.Test.YtpdfdhmhfdogcaaDoorFmArg
import Derived.Deep.RegionHeld3
namespace Go.Proofs.YtpdfdhmhfdogcaaDoor.Fm
set_option maxRecDepth 20000
open Go.RowKit Vm
set_option linter.unusedVariables false
set_option linter.unusedSimpArgs false

set_option maxHeartbeats 8000000 in
theorem rput_yes (k : Nat) (f : Frm) (rs : List (Nat × Nat)) (w : World) (hk : f.kind = (k : Nat)) (hp : ∀ j, 0 ≤ nm f j) (hrd : Rd w (.slice f.set.a f.set.n f.set.c) (ints rs)) (hl : rs.length ≤ 1000) (hm : mayF k f (ints rs) = true) :
    Calls Tryd.prog 10 #[.agg #[.int .u64 f.kind, .int .u64 f.id, .int .u64 f.off, .int .u64 f.max, .int .u64 f.code, .int .u64 f.seq, .int .u64 f.prior, .int .u64 f.delay, .bool f.fin, .string ⟨f.data.toArray⟩, .string ⟨f.cid.toArray⟩, .string ⟨f.token.toArray⟩, .slice f.set.a f.set.n f.set.c]] w fun e w' => e = .returned (.tuple #[.string ⟨(putL f rs).toArray⟩, .int .i64 0]) ∧ Below w.heap.size w w' := by
  have hks := (may_kind hm).1
  have hlt := kind_lt hks
  by_cases h0 : k = 0
  · subst h0
    have hk2 : f.kind = 0 := hk
    exact rput_0 f rs w hk2 hp hrd hl hm
  by_cases h1 : k = 1
  · subst h1
    have hk2 : f.kind = 1 := hk
    exact rput_1 f rs w hk2 hp hrd hl hm
  by_cases h2 : k = 2
  · subst h2
    have hk2 : f.kind = 2 := hk
    exact rput_2 f rs w hk2 hp hrd hl hm
  by_cases h4 : k = 4
  · subst h4
    have hk2 : f.kind = 4 := hk
    exact rput_4 f rs w hk2 hp hrd hl hm
  by_cases h5 : k = 5
  · subst h5
    have hk2 : f.kind = 5 := hk
    exact rput_5 f rs w hk2 hp hrd hl hm
  by_cases h6 : k = 6
  · subst h6
    have hk2 : f.kind = 6 := hk
    exact rput_6 f rs w hk2 hp hrd hl hm
  by_cases h8 : k = 8
  · subst h8
    have hk2 : f.kind = 8 := hk
    by_cases hf : f.fin = true
    · by_cases ho : f.off = 0
      · exact rput_8_11 f rs w hk2 hp hrd hl hm hf ho
      · exact rput_8_15 f rs w hk2 hp hrd hl hm hf ho
    · have hf : f.fin = false := by simpa using hf
      by_cases ho : f.off = 0
      · exact rput_8_10 f rs w hk2 hp hrd hl hm hf ho
      · exact rput_8_14 f rs w hk2 hp hrd hl hm hf ho
  by_cases h16 : k = 16
  · subst h16
    have hk2 : f.kind = 16 := hk
    exact rput_16 f rs w hk2 hp hrd hl hm
  by_cases h17 : k = 17
  · subst h17
    have hk2 : f.kind = 17 := hk
    exact rput_17 f rs w hk2 hp hrd hl hm
  by_cases h18 : k = 18
  · subst h18
    have hk2 : f.kind = 18 := hk
    exact rput_18 f rs w hk2 hp hrd hl hm
  by_cases h19 : k = 19
  · subst h19
    have hk2 : f.kind = 19 := hk
    exact rput_19 f rs w hk2 hp hrd hl hm
  by_cases h20 : k = 20
  · subst h20
    have hk2 : f.kind = 20 := hk
    exact rput_20 f rs w hk2 hp hrd hl hm
  by_cases h21 : k = 21
  · subst h21
    have hk2 : f.kind = 21 := hk
    exact rput_21 f rs w hk2 hp hrd hl hm
  by_cases h22 : k = 22
  · subst h22
    have hk2 : f.kind = 22 := hk
    exact rput_22 f rs w hk2 hp hrd hl hm
  by_cases h23 : k = 23
  · subst h23
    have hk2 : f.kind = 23 := hk
    exact rput_23 f rs w hk2 hp hrd hl hm
  by_cases h24 : k = 24
  · subst h24
    have hk2 : f.kind = 24 := hk
    exact rput_24 f rs w hk2 hp hrd hl hm
  by_cases h25 : k = 25
  · subst h25
    have hk2 : f.kind = 25 := hk
    exact rput_25 f rs w hk2 hp hrd hl hm
  by_cases h26 : k = 26
  · subst h26
    have hk2 : f.kind = 26 := hk
    exact rput_26 f rs w hk2 hp hrd hl hm
  by_cases h27 : k = 27
  · subst h27
    have hk2 : f.kind = 27 := hk
    exact rput_27 f rs w hk2 hp hrd hl hm
  by_cases h28 : k = 28
  · subst h28
    have hk2 : f.kind = 28 := hk
    exact rput_28 f rs w hk2 hp hrd hl hm
  by_cases h29 : k = 29
  · subst h29
    have hk2 : f.kind = 29 := hk
    exact rput_29 f rs w hk2 hp hrd hl hm
  by_cases h30 : k = 30
  · subst h30
    have hk2 : f.kind = 30 := hk
    exact rput_30 f rs w hk2 hp hrd hl hm
  have hc : k = 3 ∨ k = 7 ∨ k = 9 ∨ k = 10 ∨ k = 11 ∨ k = 12 ∨ k = 13 ∨ k = 14 ∨ k = 15 := by omega
  rcases hc with h | h | h | h | h | h | h | h | h <;> (rw [h] at hks; exact absurd hks (by decide))
set_option maxHeartbeats 4000000 in
theorem rput_none (k : Nat) (f : Frm) (rs : List (Nat × Nat)) (w : World) (hk : f.kind = (k : Nat)) (hp : ∀ j, 0 ≤ nm f j) (hrd : Rd w (.slice f.set.a f.set.n f.set.c) (ints rs)) (hl : rs.length ≤ 1000) (hd : f.data.length ≤ 1000000) (hc : f.cid.length ≤ 1000000) (ht : f.token.length ≤ 1000000) (hm : mayF k f (ints rs) = false) :
    Calls Tryd.prog 10 #[.agg #[.int .u64 f.kind, .int .u64 f.id, .int .u64 f.off, .int .u64 f.max, .int .u64 f.code, .int .u64 f.seq, .int .u64 f.prior, .int .u64 f.delay, .bool f.fin, .string ⟨f.data.toArray⟩, .string ⟨f.cid.toArray⟩, .string ⟨f.token.toArray⟩, .slice f.set.a f.set.n f.set.c]] w fun e w' => e = .returned (.tuple #[.string ⟨#[]⟩, .int .i64 1]) ∧ Below w.heap.size w w' := by
  have CM := Lib.hid (fun W (h : Rd W (.slice f.set.a f.set.n f.set.c) (ints rs)) => rmayf k f (ints rs) W hk hp h (ints_pos rs) (by rw [ints_len]; exact hl) hd hc ht)
  rw [hm] at CM
  have HB0 : Hid (Below w.heap.size w (w.alloc (.cells #[.int .u64 f.kind, .int .u64 f.id, .int .u64 f.off, .int .u64 f.max, .int .u64 f.code, .int .u64 f.seq, .int .u64 f.prior, .int .u64 f.delay, .bool f.fin, .string ⟨f.data.toArray⟩, .string ⟨f.cid.toArray⟩, .string ⟨f.token.toArray⟩, .slice f.set.a f.set.n f.set.c] 36 (0, 0)))) := Lib.hid ((Below.refl w.heap.size w).alloc (Nat.le_refl _) _)
  have HRD := Lib.hid (hrd.below HB0.out)
  clear hk hp hrd hl hd hc ht hm
  go_enter Tryd.func10, Tryd.ntmps10
  go_wp2_with fail
  refine (CM.out _ HRD.out).mono ?_
  rintro e w1 ⟨rfl, hb⟩
  have HB1 := Lib.hid (HB0.out.trans (hb.mono HB0.out.size))
  clear hb
  go_wp2
  go_ret2
  exact ⟨rfl, HB1.out⟩
set_option maxHeartbeats 4000000 in
theorem relicits (f : Frm) (w : World) : Calls Tryd.prog 15 #[.agg #[.int .u64 f.kind, .int .u64 f.id, .int .u64 f.off, .int .u64 f.max, .int .u64 f.code, .int .u64 f.seq, .int .u64 f.prior, .int .u64 f.delay, .bool f.fin, .string ⟨f.data.toArray⟩, .string ⟨f.cid.toArray⟩, .string ⟨f.token.toArray⟩, .slice f.set.a f.set.n f.set.c]] w fun e w' => e = .returned (.bool (elB f.kind)) ∧ Below w.heap.size w w' := by
  have HB0 : Hid (Below w.heap.size w (w.alloc (.cells #[.int .u64 f.kind, .int .u64 f.id, .int .u64 f.off, .int .u64 f.max, .int .u64 f.code, .int .u64 f.seq, .int .u64 f.prior, .int .u64 f.delay, .bool f.fin, .string ⟨f.data.toArray⟩, .string ⟨f.cid.toArray⟩, .string ⟨f.token.toArray⟩, .slice f.set.a f.set.n f.set.c] 36 (0, 0)))) := Lib.hid ((Below.refl w.heap.size w).alloc (Nat.le_refl _) _)
  cases b0 : (f.kind == 0) with
  | true =>
    have e : Hid (elB f.kind = false) := Lib.hid (by unfold elB; rw [b0]; simp)
    have d0 : (f.kind != 0) = false := by rw [bne, b0]; rfl
    generalize elB f.kind = R at *
    clear b0
    go_enter Tryd.func15, Tryd.ntmps15
    go_wp2
    go_ret
    exact ⟨by rw [e.out]; rfl, HB0.out⟩
  | false =>
    cases b2 : (f.kind == 2) with
    | true =>
      have e : Hid (elB f.kind = false) := Lib.hid (by unfold elB; rw [b2]; simp)
      have d0 : (f.kind != 0) = true := by rw [bne, b0]; rfl
      have d2 : (f.kind != 2) = false := by rw [bne, b2]; rfl
      generalize elB f.kind = R at *
      clear b0 b2
      go_enter Tryd.func15, Tryd.ntmps15
      go_wp2
      go_ret
      exact ⟨by rw [e.out]; rfl, HB0.out⟩
    | false =>
      cases b28 : (f.kind == 28) with
      | true =>
        have e : Hid (elB f.kind = false) := Lib.hid (by unfold elB; rw [b28]; simp)
        have d0 : (f.kind != 0) = true := by rw [bne, b0]; rfl
        have d2 : (f.kind != 2) = true := by rw [bne, b2]; rfl
        have d28 : (f.kind != 28) = false := by rw [bne, b28]; rfl
        generalize elB f.kind = R at *
        clear b0 b2 b28
        go_enter Tryd.func15, Tryd.ntmps15
        go_wp2
        go_ret
        exact ⟨by rw [e.out]; rfl, HB0.out⟩
      | false =>
        cases b29 : (f.kind == 29) with
        | true =>
          have e : Hid (elB f.kind = false) := Lib.hid (by unfold elB; rw [b29]; simp)
          have d0 : (f.kind != 0) = true := by rw [bne, b0]; rfl
          have d2 : (f.kind != 2) = true := by rw [bne, b2]; rfl
          have d28 : (f.kind != 28) = true := by rw [bne, b28]; rfl
          have d29 : (f.kind != 29) = false := by rw [bne, b29]; rfl
          generalize elB f.kind = R at *
          clear b0 b2 b28 b29
          go_enter Tryd.func15, Tryd.ntmps15
          go_wp2
          go_ret
          exact ⟨by rw [e.out]; rfl, HB0.out⟩
        | false =>
          have e : Hid (elB f.kind = true) := Lib.hid (by unfold elB; rw [b0, b2, b28, b29]; rfl)
          have d0 : (f.kind != 0) = true := by rw [bne, b0]; rfl
          have d2 : (f.kind != 2) = true := by rw [bne, b2]; rfl
          have d28 : (f.kind != 28) = true := by rw [bne, b28]; rfl
          have d29 : (f.kind != 29) = true := by rw [bne, b29]; rfl
          generalize elB f.kind = R at *
          clear b0 b2 b28 b29
          go_enter Tryd.func15, Tryd.ntmps15
          go_wp2
          go_ret
          exact ⟨by rw [e.out]; rfl, HB0.out⟩
/-- A frame that is handed to a law is one that fits. -/
theorem fit_arg (k id off max code seq prior delay : Int) (fin : Bool) (data cid token : List UInt8) (a : Option Addr) (n cap : Nat) (l : List Ran) (w : World) (w0 : (Lit.int .u64 k).wf = true) (w1 : (Lit.int .u64 id).wf = true) (w2 : (Lit.int .u64 off).wf = true) (w3 : (Lit.int .u64 max).wf = true) (w4 : (Lit.int .u64 code).wf = true) (w5 : (Lit.int .u64 seq).wf = true) (w6 : (Lit.int .u64 prior).wf = true) (w7 : (Lit.int .u64 delay).wf = true) (w9 : (⟨data.toArray⟩ : ByteArray).size ≤ maxLen) (w10 : (⟨cid.toArray⟩ : ByteArray).size ≤ maxLen) (w11 : (⟨token.toArray⟩ : ByteArray).size ≤ maxLen) (hn : l.length = n) (hm : n ≤ maxLen) (hrd : Rd w (.slice a n cap) l) (hu : Nums l) : Fit w k.toNat ⟨k, id, off, max, code, seq, prior, delay, fin, data, cid, token, ⟨a, n, cap⟩⟩ (rsOf l) := by
  refine ⟨?_, ?_, ?_⟩
  · have := (bounds_u64 w0).1
    show k = ((k.toNat : Nat) : Int)
    omega
  · rw [ints_rsOf (fun x hx => ⟨(hu x hx).1.1, (hu x hx).2.1⟩)]
    exact hrd
  · intro j hj
    have a1 := (bounds_u64 w1).1
    have a2 := (bounds_u64 w2).1
    have a3 := (bounds_u64 w3).1
    have a4 := (bounds_u64 w4).1
    have a5 := (bounds_u64 w5).1
    have a6 := (bounds_u64 w6).1
    have a7 := (bounds_u64 w7).1
    unfold nm
    split <;> first | assumption | exact Int.le_refl 0
/-- What Put answers. -/
def ptS (k : Nat) (f : Frm) (rs : List (Nat × Nat)) : List UInt8 := if mayF k f (ints rs) = true then putL f rs else []
def ptE (k : Nat) (f : Frm) (rs : List (Nat × Nat)) : Int := if mayF k f (ints rs) = true then 0 else 1
theorem put_any (k : Nat) (f : Frm) (rs : List (Nat × Nat)) (w : World) (ht : Tab w) (hF : Fit w k f rs) :
    Calls Tryd.prog 9 #[.agg #[.int .u64 f.kind, .int .u64 f.id, .int .u64 f.off, .int .u64 f.max, .int .u64 f.code, .int .u64 f.seq, .int .u64 f.prior, .int .u64 f.delay, .bool f.fin, .string ⟨f.data.toArray⟩, .string ⟨f.cid.toArray⟩, .string ⟨f.token.toArray⟩, .slice f.set.a f.set.n f.set.c]] w fun e w' => e = .returned (.tuple #[.string ⟨(ptS k f rs).toArray⟩, .int .i64 (ptE k f rs)]) ∧ Below w.heap.size w w' := by
  unfold ptS ptE
  by_cases h : mayF k f (ints rs) = true
  · rw [if_pos h, if_pos h]; exact put_yes k f rs w ht hF h
  · rw [if_neg h, if_neg h]; exact put_no k f rs w hF (by simpa using h)
theorem nm_pos {f : Frm} (h : ∀ j, j < 7 → 0 ≤ nm f j) (j : Nat) : 0 ≤ nm f j := by
  by_cases hj : j < 7
  · exact h j hj
  · have e : nm f j = nm f 6 := by
      match j, hj with
      | j + 7, _ => rfl
    rw [e]; exact h 6 (by decide)
theorem rput_any (k : Nat) (f : Frm) (rs : List (Nat × Nat)) (w : World) (hk : f.kind = (k : Nat)) (hp : ∀ j, j < 7 → 0 ≤ nm f j) (hn : f.set.n = rs.length) (hlb : lbB f = true) (sa : Option Addr) (sc : Nat) (hrd : Rd w (.slice sa rs.length sc) (ints rs)) :
    Calls Tryd.prog 10 #[.agg #[.int .u64 f.kind, .int .u64 f.id, .int .u64 f.off, .int .u64 f.max, .int .u64 f.code, .int .u64 f.seq, .int .u64 f.prior, .int .u64 f.delay, .bool f.fin, .string ⟨f.data.toArray⟩, .string ⟨f.cid.toArray⟩, .string ⟨f.token.toArray⟩, .slice sa rs.length sc]] w fun e w' => e = .returned (.tuple #[.string ⟨(ptS k f rs).toArray⟩, .int .i64 (ptE k f rs)]) ∧ Below w.heap.size w w' := by
  obtain ⟨b1, b2, b3, b4⟩ := lbB_yes hlb
  have hm : mayF k { f with set := ⟨sa, rs.length, sc⟩ } (ints rs) = mayF k f (ints rs) := may_cn k f (ints rs) ⟨sa, rs.length, sc⟩ hn.symm
  unfold ptS ptE
  by_cases h : mayF k f (ints rs) = true
  · rw [if_pos h, if_pos h]
    exact rput_yes k { f with set := ⟨sa, rs.length, sc⟩ } rs w hk (nm_pos hp) hrd (by omega) (hm.trans h)
  · rw [if_neg h, if_neg h]
    exact rput_none k { f with set := ⟨sa, rs.length, sc⟩ } rs w hk (nm_pos hp) hrd (by omega) (by show f.data.length ≤ _; omega) (by show f.cid.length ≤ _; omega) (by show f.token.length ≤ _; omega) (hm.trans (by simpa using h))
theorem rmay_set (k : Nat) (f : Frm) (rs : List (Nat × Nat)) (w : World) (hk : f.kind = (k : Nat)) (hp : ∀ j, j < 7 → 0 ≤ nm f j) (hn : f.set.n = rs.length) (hlb : lbB f = true) (sa : Option Addr) (sc : Nat) (hrd : Rd w (.slice sa rs.length sc) (ints rs)) :
    Calls Tryd.prog 13 #[.agg #[.int .u64 f.kind, .int .u64 f.id, .int .u64 f.off, .int .u64 f.max, .int .u64 f.code, .int .u64 f.seq, .int .u64 f.prior, .int .u64 f.delay, .bool f.fin, .string ⟨f.data.toArray⟩, .string ⟨f.cid.toArray⟩, .string ⟨f.token.toArray⟩, .slice sa rs.length sc]] w fun e w' => e = .returned (.bool (mayF k f (ints rs))) ∧ Below w.heap.size w w' := by
  obtain ⟨b1, b2, b3, b4⟩ := lbB_yes hlb
  have hm : mayF k { f with set := ⟨sa, rs.length, sc⟩ } (ints rs) = mayF k f (ints rs) := may_cn k f (ints rs) ⟨sa, rs.length, sc⟩ hn.symm
  rw [← hm]
  exact rmayf k { f with set := ⟨sa, rs.length, sc⟩ } (ints rs) w hk (nm_pos hp) hrd (ints_pos rs) (by rw [ints_len]; omega) (by show f.data.length ≤ _; omega) (by show f.cid.length ≤ _; omega) (by show f.token.length ≤ _; omega)
set_option maxHeartbeats 16000000 in
theorem puts_in (f : Frm) (k : Nat) (rs : List (Nat × Nat)) (w : World) (ht : Tab w) (hF : Fit w k f rs) (hlb : lbB f = true) :
    Calls Tryd.prog 3 #[.agg #[.int .u64 f.kind, .int .u64 f.id, .int .u64 f.off, .int .u64 f.max, .int .u64 f.code, .int .u64 f.seq, .int .u64 f.prior, .int .u64 f.delay, .bool f.fin, .string ⟨f.data.toArray⟩, .string ⟨f.cid.toArray⟩, .string ⟨f.token.toArray⟩, .slice f.set.a f.set.n f.set.c]] w fun e w' => e = .returned (.bool true) ∧ Below w.heap.size w w' := by
  have hn := hF.n
  have hlen := (lbB_yes hlb).2.2.2
  have CB := Lib.hid (fun w => bounded_law f w)
  rw [hlb] at CB
  have CS := Lib.hid (fun w ht => shown_any w ht)
  have CP := Lib.hid (fun (W : World) (h : Tab W) (hb : Below w.heap.size w W) => put_any k f rs W h (hF.below hb))
  have CI : Hid (∀ (W : World), Below w.heap.size w W → Calls Tryd.prog 11 #[.agg #[.int .u64 f.kind, .int .u64 f.id, .int .u64 f.off, .int .u64 f.max, .int .u64 f.code, .int .u64 f.seq, .int .u64 f.prior, .int .u64 f.delay, .bool f.fin, .string ⟨f.data.toArray⟩, .string ⟨f.cid.toArray⟩, .string ⟨f.token.toArray⟩, .slice f.set.a f.set.n f.set.c]] W fun e w' => ∃ (sa : Option Addr) (sc : Nat), e = .returned (.agg #[.int .u64 f.kind, .int .u64 f.id, .int .u64 f.off, .int .u64 f.max, .int .u64 f.code, .int .u64 f.seq, .int .u64 f.prior, .int .u64 f.delay, .bool f.fin, .string ⟨f.data.toArray⟩, .string ⟨f.cid.toArray⟩, .string ⟨f.token.toArray⟩, .slice sa rs.length sc]) ∧ Rd w' (.slice sa rs.length sc) (ints rs) ∧ Below W.heap.size W w') := Lib.hid (fun W hb => by
    have h := its_any f (ints rs) W (hF.rd.below hb) (by rw [ints_len]; omega)
    rw [ints_len] at h
    exact h)
  have CRP := Lib.hid (fun (W : World) sa sc (h : Rd W (.slice sa rs.length sc) (ints rs)) => rput_any k f rs W hF.kind hF.pos hn hlb sa sc h)
  have CRM := Lib.hid (fun (W : World) sa sc (h : Rd W (.slice sa rs.length sc) (ints rs)) => rmay_set k f rs W hF.kind hF.pos hn hlb sa sc h)
  have CM := Lib.hid (fun (W : World) (hb : Below w.heap.size w W) => fit_may (hF.below hb))
  have CE := Lib.hid (fun w => elicits_any f w)
  have CRE : Hid (∀ (W : World) sa sc, Calls Tryd.prog 15 #[.agg #[.int .u64 f.kind, .int .u64 f.id, .int .u64 f.off, .int .u64 f.max, .int .u64 f.code, .int .u64 f.seq, .int .u64 f.prior, .int .u64 f.delay, .bool f.fin, .string ⟨f.data.toArray⟩, .string ⟨f.cid.toArray⟩, .string ⟨f.token.toArray⟩, .slice sa rs.length sc]] W fun e w' => e = .returned (.bool (elB f.kind)) ∧ Below W.heap.size W w') := Lib.hid (fun W sa sc => relicits { f with set := ⟨sa, rs.length, sc⟩ } W)
  generalize mayF k f (ints rs) = MB at *
  generalize elB f.kind = EB at *
  generalize ptS k f rs = PS at *
  generalize ptE k f rs = PE at *
  have HT := Lib.hid ht
  have HF0 : Hid (FrB w.heap.size f (w.alloc (.cells #[.int .u64 f.kind, .int .u64 f.id, .int .u64 f.off, .int .u64 f.max, .int .u64 f.code, .int .u64 f.seq, .int .u64 f.prior, .int .u64 f.delay, .bool f.fin, .string ⟨f.data.toArray⟩, .string ⟨f.cid.toArray⟩, .string ⟨f.token.toArray⟩, .slice f.set.a f.set.n f.set.c] 26 (0, 0)))) := Lib.hid (World.alloc_heap_new w _)
  have HB0 : Hid (Below w.heap.size w (w.alloc (.cells #[.int .u64 f.kind, .int .u64 f.id, .int .u64 f.off, .int .u64 f.max, .int .u64 f.code, .int .u64 f.seq, .int .u64 f.prior, .int .u64 f.delay, .bool f.fin, .string ⟨f.data.toArray⟩, .string ⟨f.cid.toArray⟩, .string ⟨f.token.toArray⟩, .slice f.set.a f.set.n f.set.c] 26 (0, 0)))) := Lib.hid ((Below.refl w.heap.size w).alloc (Nat.le_refl _) _)
  clear ht hF hlb hn hlen
  go_enter Tryd.func3, Tryd.ntmps3
  go_wp2_with fail
  refine (CB.out _).mono ?_
  rintro e w1 ⟨rfl, hb⟩
  have HF1 := Lib.hid (HF0.out.keep hb)
  have HB1 := Lib.hid (HB0.out.trans (hb.mono HB0.out.size))
  clear hb
  go_wp2_with fail
  refine (CS.out _ (HT.out.below HB1.out HT.out.lt)).mono ?_
  rintro e w2 ⟨rfl, hb⟩
  have HF2 := Lib.hid (HF1.out.keep hb)
  have HB2 := Lib.hid (HB1.out.trans (hb.mono HB1.out.size))
  clear hb
  have c0 := HF2.out.cell0
  have c1 := HF2.out.cell1
  have c2 := HF2.out.cell2
  have c3 := HF2.out.cell3
  have c4 := HF2.out.cell4
  have c5 := HF2.out.cell5
  have c6 := HF2.out.cell6
  have c7 := HF2.out.cell7
  have c8 := HF2.out.cell8
  have c9 := HF2.out.cell9
  have c10 := HF2.out.cell10
  have c11 := HF2.out.cell11
  have c12 := HF2.out.cell12
  go_wp2_with fail
  with_reducible refine (CP.out _ (HT.out.below HB2.out HT.out.lt) HB2.out).mono ?_
  rintro e w3 ⟨rfl, hb⟩
  have HF3 := Lib.hid (HF2.out.keep hb)
  have HB3 := Lib.hid (HB2.out.trans (hb.mono HB2.out.size))
  clear hb c0 c1 c2 c3 c4 c5 c6 c7 c8 c9 c10 c11 c12
  have c0 := HF3.out.cell0
  have c1 := HF3.out.cell1
  have c2 := HF3.out.cell2
  have c3 := HF3.out.cell3
  have c4 := HF3.out.cell4
  have c5 := HF3.out.cell5
  have c6 := HF3.out.cell6
  have c7 := HF3.out.cell7
  have c8 := HF3.out.cell8
  have c9 := HF3.out.cell9
  have c10 := HF3.out.cell10
  have c11 := HF3.out.cell11
  have c12 := HF3.out.cell12
  go_wp2_with fail
  with_reducible refine (CI.out _ HB3.out).mono ?_
  rintro e w4 ⟨sa1, sc1, rfl, hr, hb⟩
  have HRa1 := Lib.hid hr
  have HF4 := Lib.hid (HF3.out.keep hb)
  have HB4 := Lib.hid (HB3.out.trans (hb.mono HB3.out.size))
  clear hb hr c0 c1 c2 c3 c4 c5 c6 c7 c8 c9 c10 c11 c12
  go_wp2_with fail
  with_reducible refine (CRP.out _ sa1 sc1 HRa1.out).mono ?_
  rintro e w5 ⟨rfl, hb⟩
  have HF9 := Lib.hid (HF4.out.keep hb)
  have HB9 := Lib.hid (HB4.out.trans (hb.mono HB4.out.size))
  clear hb HRa1
  go_wp2_with fail
  refine wp_region_noPanic ?_
  refine wp_region_held_drew (S := fun W' : World => FrB w.heap.size f W' ∧ Below w.heap.size w W') (by kernel_rfl) ?_ (fun hHeld => ?_)
  · exact ⟨HF9.out, Below.drew HB9.out⟩
  refine wpAnyH_take (i := 0) (v := ?_) rfl (by kernel_rfl) (by kernel_rfl) (by kernel_rfl) (fun _ _ _ h => h) (Or.inl ⟨by rfl, ?_⟩) (by assumption) ?_
  rotate_left
  · (intro w hSw; (obtain ⟨hSf, hSb⟩ := hSw; have p0 := hSf.cell0; have p1 := hSf.cell1; have p2 := hSf.cell2; have p3 := hSf.cell3; have p4 := hSf.cell4; have p5 := hSf.cell5; have p6 := hSf.cell6; have p7 := hSf.cell7; have p8 := hSf.cell8; have p9 := hSf.cell9; have p10 := hSf.cell10; have p11 := hSf.cell11; have p12 := hSf.cell12; clear hSf hSb); go_simp; (try with_reducible rfl))
  try simp only [Act.put, List.getElem_toArray, List.getElem_cons_zero, List.getElem_cons_succ, List.setIfInBounds_toArray, List.set_cons_zero, List.set_cons_succ]
  refine wpAnyH_take (i := 1) (v := ?_) rfl (by kernel_rfl) (by kernel_rfl) (by kernel_rfl) (fun _ _ _ h => h) (Or.inl ⟨by rfl, ?_⟩) (by assumption) ?_
  rotate_left
  · (intro w hSw; (obtain ⟨hSf, hSb⟩ := hSw; have p0 := hSf.cell0; have p1 := hSf.cell1; have p2 := hSf.cell2; have p3 := hSf.cell3; have p4 := hSf.cell4; have p5 := hSf.cell5; have p6 := hSf.cell6; have p7 := hSf.cell7; have p8 := hSf.cell8; have p9 := hSf.cell9; have p10 := hSf.cell10; have p11 := hSf.cell11; have p12 := hSf.cell12; clear hSf hSb); go_simp; (try with_reducible rfl))
  try simp only [Act.put, List.getElem_toArray, List.getElem_cons_zero, List.getElem_cons_succ, List.setIfInBounds_toArray, List.set_cons_zero, List.set_cons_succ]
  refine wpAnyH_take (i := 2) (v := ?_) rfl (by kernel_rfl) (by kernel_rfl) (by kernel_rfl) (fun _ _ _ h => h) (Or.inl ⟨by rfl, ?_⟩) (by assumption) ?_
  rotate_left
  · (intro w hSw; (obtain ⟨hSf, hSb⟩ := hSw; have p0 := hSf.cell0; have p1 := hSf.cell1; have p2 := hSf.cell2; have p3 := hSf.cell3; have p4 := hSf.cell4; have p5 := hSf.cell5; have p6 := hSf.cell6; have p7 := hSf.cell7; have p8 := hSf.cell8; have p9 := hSf.cell9; have p10 := hSf.cell10; have p11 := hSf.cell11; have p12 := hSf.cell12; clear hSf hSb); go_simp; (try with_reducible rfl))
  try simp only [Act.put, List.getElem_toArray, List.getElem_cons_zero, List.getElem_cons_succ, List.setIfInBounds_toArray, List.set_cons_zero, List.set_cons_succ]
  refine wpAnyH_take (i := 3) (v := ?_) rfl (by kernel_rfl) (by kernel_rfl) (by kernel_rfl) (fun _ _ _ h => h) (Or.inl ⟨by rfl, ?_⟩) (by assumption) ?_
  rotate_left
  · (intro w hSw; (obtain ⟨hSf, hSb⟩ := hSw; have p0 := hSf.cell0; have p1 := hSf.cell1; have p2 := hSf.cell2; have p3 := hSf.cell3; have p4 := hSf.cell4; have p5 := hSf.cell5; have p6 := hSf.cell6; have p7 := hSf.cell7; have p8 := hSf.cell8; have p9 := hSf.cell9; have p10 := hSf.cell10; have p11 := hSf.cell11; have p12 := hSf.cell12; clear hSf hSb); go_simp; (try with_reducible rfl))
  try simp only [Act.put, List.getElem_toArray, List.getElem_cons_zero, List.getElem_cons_succ, List.setIfInBounds_toArray, List.set_cons_zero, List.set_cons_succ]
  refine wpAnyH_take (i := 4) (v := ?_) rfl (by kernel_rfl) (by kernel_rfl) (by kernel_rfl) (fun _ _ _ h => h) (Or.inl ⟨by rfl, ?_⟩) (by assumption) ?_
  rotate_left
  · (intro w hSw; (obtain ⟨hSf, hSb⟩ := hSw; have p0 := hSf.cell0; have p1 := hSf.cell1; have p2 := hSf.cell2; have p3 := hSf.cell3; have p4 := hSf.cell4; have p5 := hSf.cell5; have p6 := hSf.cell6; have p7 := hSf.cell7; have p8 := hSf.cell8; have p9 := hSf.cell9; have p10 := hSf.cell10; have p11 := hSf.cell11; have p12 := hSf.cell12; clear hSf hSb); go_simp; (try with_reducible rfl))
  try simp only [Act.put, List.getElem_toArray, List.getElem_cons_zero, List.getElem_cons_succ, List.setIfInBounds_toArray, List.set_cons_zero, List.set_cons_succ]
  refine wpAnyH_take (i := 5) (v := ?_) rfl (by kernel_rfl) (by kernel_rfl) (by kernel_rfl) (fun _ _ _ h => h) (Or.inl ⟨by rfl, ?_⟩) (by assumption) ?_
  rotate_left
  · (intro w hSw; (obtain ⟨hSf, hSb⟩ := hSw; have p0 := hSf.cell0; have p1 := hSf.cell1; have p2 := hSf.cell2; have p3 := hSf.cell3; have p4 := hSf.cell4; have p5 := hSf.cell5; have p6 := hSf.cell6; have p7 := hSf.cell7; have p8 := hSf.cell8; have p9 := hSf.cell9; have p10 := hSf.cell10; have p11 := hSf.cell11; have p12 := hSf.cell12; clear hSf hSb); go_simp; (try with_reducible rfl))
  try simp only [Act.put, List.getElem_toArray, List.getElem_cons_zero, List.getElem_cons_succ, List.setIfInBounds_toArray, List.set_cons_zero, List.set_cons_succ]
  refine wpAnyH_take (i := 6) (v := ?_) rfl (by kernel_rfl) (by kernel_rfl) (by kernel_rfl) (fun _ _ _ h => h) (Or.inl ⟨by rfl, ?_⟩) (by assumption) ?_
  rotate_left
  · (intro w hSw; (obtain ⟨hSf, hSb⟩ := hSw; have p0 := hSf.cell0; have p1 := hSf.cell1; have p2 := hSf.cell2; have p3 := hSf.cell3; have p4 := hSf.cell4; have p5 := hSf.cell5; have p6 := hSf.cell6; have p7 := hSf.cell7; have p8 := hSf.cell8; have p9 := hSf.cell9; have p10 := hSf.cell10; have p11 := hSf.cell11; have p12 := hSf.cell12; clear hSf hSb); go_simp; (try with_reducible rfl))
  try simp only [Act.put, List.getElem_toArray, List.getElem_cons_zero, List.getElem_cons_succ, List.setIfInBounds_toArray, List.set_cons_zero, List.set_cons_succ]
  refine wpAnyH_take (i := 7) (v := ?_) rfl (by kernel_rfl) (by kernel_rfl) (by kernel_rfl) (fun _ _ _ h => h) (Or.inl ⟨by rfl, ?_⟩) (by assumption) ?_
  rotate_left
  · (intro w hSw; (obtain ⟨hSf, hSb⟩ := hSw; have p0 := hSf.cell0; have p1 := hSf.cell1; have p2 := hSf.cell2; have p3 := hSf.cell3; have p4 := hSf.cell4; have p5 := hSf.cell5; have p6 := hSf.cell6; have p7 := hSf.cell7; have p8 := hSf.cell8; have p9 := hSf.cell9; have p10 := hSf.cell10; have p11 := hSf.cell11; have p12 := hSf.cell12; clear hSf hSb); go_simp; (try with_reducible rfl))
  try simp only [Act.put, List.getElem_toArray, List.getElem_cons_zero, List.getElem_cons_succ, List.setIfInBounds_toArray, List.set_cons_zero, List.set_cons_succ]
  refine wpAnyH_take (i := 8) (v := ?_) rfl (by kernel_rfl) (by kernel_rfl) (by kernel_rfl) (fun _ _ _ h => h) (Or.inl ⟨by rfl, ?_⟩) (by assumption) ?_
  rotate_left
  · (intro w hSw; (obtain ⟨hSf, hSb⟩ := hSw; have p0 := hSf.cell0; have p1 := hSf.cell1; have p2 := hSf.cell2; have p3 := hSf.cell3; have p4 := hSf.cell4; have p5 := hSf.cell5; have p6 := hSf.cell6; have p7 := hSf.cell7; have p8 := hSf.cell8; have p9 := hSf.cell9; have p10 := hSf.cell10; have p11 := hSf.cell11; have p12 := hSf.cell12; clear hSf hSb); go_simp; (try with_reducible rfl))
  try simp only [Act.put, List.getElem_toArray, List.getElem_cons_zero, List.getElem_cons_succ, List.setIfInBounds_toArray, List.set_cons_zero, List.set_cons_succ]
  refine wpAnyH_take (i := 9) (v := ?_) rfl (by kernel_rfl) (by kernel_rfl) (by kernel_rfl) (fun _ _ _ h => h) (Or.inl ⟨by rfl, ?_⟩) (by assumption) ?_
  rotate_left
  · (intro w hSw; (obtain ⟨hSf, hSb⟩ := hSw; have p0 := hSf.cell0; have p1 := hSf.cell1; have p2 := hSf.cell2; have p3 := hSf.cell3; have p4 := hSf.cell4; have p5 := hSf.cell5; have p6 := hSf.cell6; have p7 := hSf.cell7; have p8 := hSf.cell8; have p9 := hSf.cell9; have p10 := hSf.cell10; have p11 := hSf.cell11; have p12 := hSf.cell12; clear hSf hSb); go_simp; (try with_reducible rfl))
  try simp only [Act.put, List.getElem_toArray, List.getElem_cons_zero, List.getElem_cons_succ, List.setIfInBounds_toArray, List.set_cons_zero, List.set_cons_succ]
  refine wpAnyH_take (i := 11) (v := ?_) rfl (by kernel_rfl) (by kernel_rfl) (by kernel_rfl) (fun _ _ _ h => h) (Or.inl ⟨by rfl, ?_⟩) (by assumption) ?_
  rotate_left
  · (intro w hSw; (obtain ⟨hSf, hSb⟩ := hSw; have p0 := hSf.cell0; have p1 := hSf.cell1; have p2 := hSf.cell2; have p3 := hSf.cell3; have p4 := hSf.cell4; have p5 := hSf.cell5; have p6 := hSf.cell6; have p7 := hSf.cell7; have p8 := hSf.cell8; have p9 := hSf.cell9; have p10 := hSf.cell10; have p11 := hSf.cell11; have p12 := hSf.cell12; clear hSf hSb); go_simp; (try with_reducible rfl))
  try simp only [Act.put, List.getElem_toArray, List.getElem_cons_zero, List.getElem_cons_succ, List.setIfInBounds_toArray, List.set_cons_zero, List.set_cons_succ]
  refine wpAnyH_ready (rs := [10]) (by kernel_rfl) (by simp) ?_
  refine AllReadyH.cons rfl (fun K hK => ?_) AllReadyH.nil
  rw [if_pos (by rfl)]
  go_simp
  with_reducible refine (CM.out _ hHeld.2).mono ?_
  rintro e u1 ⟨rfl, hb⟩
  refine hK.out _ _ ?_ (fun hHeld => ?_)
  · exact ⟨hHeld.1.keep hb, hHeld.2.trans (hb.mono hHeld.2.size)⟩
  clear hK K
  try simp only [Act.put, List.getElem_toArray, List.getElem_cons_zero, List.getElem_cons_succ, List.setIfInBounds_toArray, List.set_cons_zero, List.set_cons_succ]
  refine wpAnyH_ready (rs := [12]) (by kernel_rfl) (by simp) ?_
  refine AllReadyH.cons rfl (fun K hK => ?_) AllReadyH.nil
  rw [if_pos (by rfl)]
  go_simp
  with_reducible refine (CI.out _ hHeld.2).mono ?_
  rintro e u2 ⟨sa2, sc2, rfl, hr, hb⟩
  have HRa2 := Lib.hid hr
  clear hr
  refine hK.out _ _ ?_ (fun hHeld => ?_)
  · exact ⟨hHeld.1.keep hb, hHeld.2.trans (hb.mono hHeld.2.size)⟩
  clear hK K
  try simp only [Act.put, List.getElem_toArray, List.getElem_cons_zero, List.getElem_cons_succ, List.setIfInBounds_toArray, List.set_cons_zero, List.set_cons_succ]
  refine wpAnyH_ready (rs := [13]) (by kernel_rfl) (by simp) ?_
  refine AllReadyH.cons rfl (fun K hK => ?_) AllReadyH.nil
  rw [if_pos (by rfl)]
  go_simp
  with_reducible refine (CRM.out _ sa2 sc2 HRa2.out).mono ?_
  rintro e u3 ⟨rfl, hb⟩
  refine hK.out _ _ ?_ (fun hHeld => ?_)
  · exact ⟨hHeld.1.keep hb, hHeld.2.trans (hb.mono hHeld.2.size)⟩
  clear hK K
  try simp only [Act.put, List.getElem_toArray, List.getElem_cons_zero, List.getElem_cons_succ, List.setIfInBounds_toArray, List.set_cons_zero, List.set_cons_succ]
  refine wpAnyH_take (i := 14) (v := ?_) rfl (by kernel_rfl) (by kernel_rfl) (by kernel_rfl) (fun _ _ _ h => h) (Or.inl ⟨by rfl, ?_⟩) (by assumption) ?_
  rotate_left
  · (intro w hSw; (obtain ⟨hSf, hSb⟩ := hSw; have p0 := hSf.cell0; have p1 := hSf.cell1; have p2 := hSf.cell2; have p3 := hSf.cell3; have p4 := hSf.cell4; have p5 := hSf.cell5; have p6 := hSf.cell6; have p7 := hSf.cell7; have p8 := hSf.cell8; have p9 := hSf.cell9; have p10 := hSf.cell10; have p11 := hSf.cell11; have p12 := hSf.cell12; clear hSf hSb); go_simp; (try with_reducible rfl))
  try simp only [Act.put, List.getElem_toArray, List.getElem_cons_zero, List.getElem_cons_succ, List.setIfInBounds_toArray, List.set_cons_zero, List.set_cons_succ]
  refine wpAnyH_take (i := 15) (v := ?_) rfl (by kernel_rfl) (by kernel_rfl) (by kernel_rfl) (fun _ _ _ h => h) (Or.inl ⟨by rfl, ?_⟩) (by assumption) ?_
  rotate_left
  · (intro w hSw; (obtain ⟨hSf, hSb⟩ := hSw; have p0 := hSf.cell0; have p1 := hSf.cell1; have p2 := hSf.cell2; have p3 := hSf.cell3; have p4 := hSf.cell4; have p5 := hSf.cell5; have p6 := hSf.cell6; have p7 := hSf.cell7; have p8 := hSf.cell8; have p9 := hSf.cell9; have p10 := hSf.cell10; have p11 := hSf.cell11; have p12 := hSf.cell12; clear hSf hSb); go_simp; (try with_reducible rfl))
  try simp only [Act.put, List.getElem_toArray, List.getElem_cons_zero, List.getElem_cons_succ, List.setIfInBounds_toArray, List.set_cons_zero, List.set_cons_succ]
  refine wpAnyH_take (i := 16) (v := ?_) rfl (by kernel_rfl) (by kernel_rfl) (by kernel_rfl) (fun _ _ _ h => h) (Or.inl ⟨by rfl, ?_⟩) (by assumption) ?_
  rotate_left
  · (intro w hSw; (obtain ⟨hSf, hSb⟩ := hSw; have p0 := hSf.cell0; have p1 := hSf.cell1; have p2 := hSf.cell2; have p3 := hSf.cell3; have p4 := hSf.cell4; have p5 := hSf.cell5; have p6 := hSf.cell6; have p7 := hSf.cell7; have p8 := hSf.cell8; have p9 := hSf.cell9; have p10 := hSf.cell10; have p11 := hSf.cell11; have p12 := hSf.cell12; clear hSf hSb); go_simp; (try with_reducible rfl))
  try simp only [Act.put, List.getElem_toArray, List.getElem_cons_zero, List.getElem_cons_succ, List.setIfInBounds_toArray, List.set_cons_zero, List.set_cons_succ]
  refine wpAnyH_take (i := 17) (v := ?_) rfl (by kernel_rfl) (by kernel_rfl) (by kernel_rfl) (fun _ _ _ h => h) (Or.inl ⟨by rfl, ?_⟩) (by assumption) ?_
  rotate_left
  · (intro w hSw; (obtain ⟨hSf, hSb⟩ := hSw; have p0 := hSf.cell0; have p1 := hSf.cell1; have p2 := hSf.cell2; have p3 := hSf.cell3; have p4 := hSf.cell4; have p5 := hSf.cell5; have p6 := hSf.cell6; have p7 := hSf.cell7; have p8 := hSf.cell8; have p9 := hSf.cell9; have p10 := hSf.cell10; have p11 := hSf.cell11; have p12 := hSf.cell12; clear hSf hSb); go_simp; (try with_reducible rfl))
  try simp only [Act.put, List.getElem_toArray, List.getElem_cons_zero, List.getElem_cons_succ, List.setIfInBounds_toArray, List.set_cons_zero, List.set_cons_succ]
  refine wpAnyH_take (i := 19) (v := ?_) rfl (by kernel_rfl) (by kernel_rfl) (by kernel_rfl) (fun _ _ _ h => h) (Or.inl ⟨by rfl, ?_⟩) (by assumption) ?_
  rotate_left
  · (intro w hSw; (obtain ⟨hSf, hSb⟩ := hSw; have p0 := hSf.cell0; have p1 := hSf.cell1; have p2 := hSf.cell2; have p3 := hSf.cell3; have p4 := hSf.cell4; have p5 := hSf.cell5; have p6 := hSf.cell6; have p7 := hSf.cell7; have p8 := hSf.cell8; have p9 := hSf.cell9; have p10 := hSf.cell10; have p11 := hSf.cell11; have p12 := hSf.cell12; clear hSf hSb); go_simp; (try with_reducible rfl))
  try simp only [Act.put, List.getElem_toArray, List.getElem_cons_zero, List.getElem_cons_succ, List.setIfInBounds_toArray, List.set_cons_zero, List.set_cons_succ]
  refine wpAnyH_ready (rs := [18]) (by kernel_rfl) (by simp) ?_
  refine AllReadyH.cons rfl (fun K hK => ?_) AllReadyH.nil
  rw [if_pos (by rfl)]
  go_simp
  with_reducible refine (CE.out _).mono ?_
  rintro e u4 ⟨rfl, hb⟩
  refine hK.out _ _ ?_ (fun hHeld => ?_)
  · exact ⟨hHeld.1.keep hb, hHeld.2.trans (hb.mono hHeld.2.size)⟩
  clear hK K
  try simp only [Act.put, List.getElem_toArray, List.getElem_cons_zero, List.getElem_cons_succ, List.setIfInBounds_toArray, List.set_cons_zero, List.set_cons_succ]
  refine wpAnyH_ready (rs := [20]) (by kernel_rfl) (by simp) ?_
  refine AllReadyH.cons rfl (fun K hK => ?_) AllReadyH.nil
  rw [if_pos (by rfl)]
  go_simp
  with_reducible refine (CI.out _ hHeld.2).mono ?_
  rintro e u5 ⟨sa3, sc3, rfl, hr, hb⟩
  have HRa3 := Lib.hid hr
  clear hr
  refine hK.out _ _ ?_ (fun hHeld => ?_)
  · exact ⟨hHeld.1.keep hb, hHeld.2.trans (hb.mono hHeld.2.size)⟩
  clear hK K
  try simp only [Act.put, List.getElem_toArray, List.getElem_cons_zero, List.getElem_cons_succ, List.setIfInBounds_toArray, List.set_cons_zero, List.set_cons_succ]
  refine wpAnyH_ready (rs := [21]) (by kernel_rfl) (by simp) ?_
  refine AllReadyH.cons rfl (fun K hK => ?_) AllReadyH.nil
  rw [if_pos (by rfl)]
  go_simp
  with_reducible refine (CRE.out _ sa3 sc3).mono ?_
  rintro e u6 ⟨rfl, hb⟩
  refine hK.out _ _ ?_ (fun hHeld => ?_)
  · exact ⟨hHeld.1.keep hb, hHeld.2.trans (hb.mono hHeld.2.size)⟩
  clear hK K
  try simp only [Act.put, List.getElem_toArray, List.getElem_cons_zero, List.getElem_cons_succ, List.setIfInBounds_toArray, List.set_cons_zero, List.set_cons_succ]
  refine wpAnyH_take (i := 22) (v := ?_) rfl (by kernel_rfl) (by kernel_rfl) (by kernel_rfl) (fun _ _ _ h => h) (Or.inl ⟨by rfl, ?_⟩) (by assumption) ?_
  rotate_left
  · (intro w hSw; (obtain ⟨hSf, hSb⟩ := hSw; have p0 := hSf.cell0; have p1 := hSf.cell1; have p2 := hSf.cell2; have p3 := hSf.cell3; have p4 := hSf.cell4; have p5 := hSf.cell5; have p6 := hSf.cell6; have p7 := hSf.cell7; have p8 := hSf.cell8; have p9 := hSf.cell9; have p10 := hSf.cell10; have p11 := hSf.cell11; have p12 := hSf.cell12; clear hSf hSb); go_simp; (try with_reducible rfl))
  try simp only [Act.put, List.getElem_toArray, List.getElem_cons_zero, List.getElem_cons_succ, List.setIfInBounds_toArray, List.set_cons_zero, List.set_cons_succ]
  refine wpAnyH_take (i := 23) (v := ?_) rfl (by kernel_rfl) (by kernel_rfl) (by kernel_rfl) (fun _ _ _ h => h) (Or.inl ⟨by rfl, ?_⟩) (by assumption) ?_
  rotate_left
  · (intro w hSw; (obtain ⟨hSf, hSb⟩ := hSw; have p0 := hSf.cell0; have p1 := hSf.cell1; have p2 := hSf.cell2; have p3 := hSf.cell3; have p4 := hSf.cell4; have p5 := hSf.cell5; have p6 := hSf.cell6; have p7 := hSf.cell7; have p8 := hSf.cell8; have p9 := hSf.cell9; have p10 := hSf.cell10; have p11 := hSf.cell11; have p12 := hSf.cell12; clear hSf hSb); go_simp; (try with_reducible rfl))
  try simp only [Act.put, List.getElem_toArray, List.getElem_cons_zero, List.getElem_cons_succ, List.setIfInBounds_toArray, List.set_cons_zero, List.set_cons_succ]
  refine wpAnyH_take (i := 24) (v := ?_) rfl (by kernel_rfl) (by kernel_rfl) (by kernel_rfl) (fun _ _ _ h => h) (Or.inl ⟨by rfl, ?_⟩) (by assumption) ?_
  rotate_left
  · (intro w hSw; (obtain ⟨hSf, hSb⟩ := hSw; have p0 := hSf.cell0; have p1 := hSf.cell1; have p2 := hSf.cell2; have p3 := hSf.cell3; have p4 := hSf.cell4; have p5 := hSf.cell5; have p6 := hSf.cell6; have p7 := hSf.cell7; have p8 := hSf.cell8; have p9 := hSf.cell9; have p10 := hSf.cell10; have p11 := hSf.cell11; have p12 := hSf.cell12; clear hSf hSb); go_simp; (try with_reducible rfl))
  try simp only [Act.put, List.getElem_toArray, List.getElem_cons_zero, List.getElem_cons_succ, List.setIfInBounds_toArray, List.set_cons_zero, List.set_cons_succ]
  refine wpAnyH_done (by kernel_rfl) (NoPanic.normal ?_) _
  have HB := Lib.hid hHeld.2
  clear hHeld
  go_wp2
  go_ret
  exact ⟨rfl, HB.out⟩

set_option maxHeartbeats 4000000 in
theorem puts_out (f : Frm) (w : World) (ht : Tab w) (hlb : lbB f = false) :
    Calls Tryd.prog 3 #[.agg #[.int .u64 f.kind, .int .u64 f.id, .int .u64 f.off, .int .u64 f.max, .int .u64 f.code, .int .u64 f.seq, .int .u64 f.prior, .int .u64 f.delay, .bool f.fin, .string ⟨f.data.toArray⟩, .string ⟨f.cid.toArray⟩, .string ⟨f.token.toArray⟩, .slice f.set.a f.set.n f.set.c]] w fun e w' => e = .returned (.bool true) ∧ Below w.heap.size w w' := by
  have CB := Lib.hid (fun w => bounded_law f w)
  rw [hlb] at CB
  have CS := Lib.hid (fun w ht => shown_any w ht)
  have HT := Lib.hid ht
  have HB0 : Hid (Below w.heap.size w (w.alloc (.cells #[.int .u64 f.kind, .int .u64 f.id, .int .u64 f.off, .int .u64 f.max, .int .u64 f.code, .int .u64 f.seq, .int .u64 f.prior, .int .u64 f.delay, .bool f.fin, .string ⟨f.data.toArray⟩, .string ⟨f.cid.toArray⟩, .string ⟨f.token.toArray⟩, .slice f.set.a f.set.n f.set.c] 26 (0, 0)))) := Lib.hid ((Below.refl w.heap.size w).alloc (Nat.le_refl _) _)
  clear ht hlb
  go_enter Tryd.func3, Tryd.ntmps3
  go_wp2_with fail
  refine (CB.out _).mono ?_
  rintro e w1 ⟨rfl, hb⟩
  have HB1 := Lib.hid (HB0.out.trans (hb.mono HB0.out.size))
  clear hb
  go_wp2_with fail
  refine (CS.out _ (HT.out.below HB1.out HT.out.lt)).mono ?_
  rintro e w2 ⟨rfl, hb⟩
  have HB2 := Lib.hid (HB1.out.trans (hb.mono HB1.out.size))
  clear hb
  go_wp2
  go_ret
  exact ⟨rfl, HB2.out⟩
theorem law_puts (k id off max code seq prior delay : Int) (fin : Bool) (data cid token : List UInt8) (a : Option Addr) (n cap : Nat) (l : List Ran) (w : World) (ht : Tab w) (w0 : (Lit.int .u64 k).wf = true) (w1 : (Lit.int .u64 id).wf = true) (w2 : (Lit.int .u64 off).wf = true) (w3 : (Lit.int .u64 max).wf = true) (w4 : (Lit.int .u64 code).wf = true) (w5 : (Lit.int .u64 seq).wf = true) (w6 : (Lit.int .u64 prior).wf = true) (w7 : (Lit.int .u64 delay).wf = true) (w9 : (⟨data.toArray⟩ : ByteArray).size ≤ maxLen) (w10 : (⟨cid.toArray⟩ : ByteArray).size ≤ maxLen) (w11 : (⟨token.toArray⟩ : ByteArray).size ≤ maxLen) (hn : l.length = n) (hm : n ≤ maxLen) (hrd : Rd w (.slice a n cap) l) (hu : Nums l) :
    Calls Tryd.prog 3 #[.agg #[.int .u64 k, .int .u64 id, .int .u64 off, .int .u64 max, .int .u64 code, .int .u64 seq, .int .u64 prior, .int .u64 delay, .bool fin, .string ⟨data.toArray⟩, .string ⟨cid.toArray⟩, .string ⟨token.toArray⟩, .slice a n cap]] w fun e w' => e = .returned (.bool true) ∧ Below w.heap.size w w' := by
  have hf := fit_arg k id off max code seq prior delay fin data cid token a n cap l w w0 w1 w2 w3 w4 w5 w6 w7 w9 w10 w11 hn hm hrd hu
  by_cases hlb : lbB ⟨k, id, off, max, code, seq, prior, delay, fin, data, cid, token, ⟨a, n, cap⟩⟩ = true
  · exact puts_in ⟨k, id, off, max, code, seq, prior, delay, fin, data, cid, token, ⟨a, n, cap⟩⟩ k.toNat (rsOf l) w ht hf hlb
  · exact puts_out ⟨k, id, off, max, code, seq, prior, delay, fin, data, cid, token, ⟨a, n, cap⟩⟩ w ht (by simpa using hlb)
end Go.Proofs.YtpdfdhmhfdogcaaDoor.Fm
