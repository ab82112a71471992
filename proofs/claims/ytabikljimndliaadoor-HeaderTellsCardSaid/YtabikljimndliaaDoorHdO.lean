/- The walks of layer 4: Get and Place, the program's, in one word. -/
import Derived.Test.YtabikljimndliaaDoorHdN
namespace Go.Proofs.YtabikljimndliaaDoor.Hd
open Go.RowKit Vm
set_option linter.unusedVariables false

/-- What Get tells: a header, what is behind, an error's number. -/
def gHd (l : List UInt8) : Hdr := match getO l with
  | some x => x.1
  | none => ⟨false, false, false, 0, 0, [], [], [], 0, 0, 0⟩
def gRs (l : List UInt8) : List UInt8 := match getO l with
  | some x => x.2
  | none => []
def gEr (l : List UInt8) : Int := match getO l with
  | some x => 0
  | none => 40
def plN (l : List UInt8) : Int := match ahO l with
  | some p => (l.length : Int) - (p.re.length : Int)
  | none => 0
def plE (l : List UInt8) : Int := match ahO l with
  | some p => 0
  | none => 40
theorem skip_w {st : St} {n : Nat} (h1 : st.w = false) (h2 : n ≤ st.s.length) : (st.skip n).w = false ∧ (st.skip n).s = st.s.drop n := by
  unfold St.skip; rw [if_pos h2]; exact ⟨h1, rfl⟩
theorem num_ok (b : UInt8) (l : List UInt8) : numB ((1 + b.toNat % 4 : Nat) : Int) ((bk (l.take (1 + b.toNat % 4)) : Nat) : Int) = true := by
  have h1 := bk_lt (l.take (1 + b.toNat % 4))
  have h2 : (l.take (1 + b.toNat % 4)).length ≤ 1 + b.toNat % 4 := by rw [List.length_take]; omega
  have h3 := Nat.lt_of_lt_of_le h1 (Nat.pow_le_pow_right (show 0 < 256 by decide) h2)
  unfold numB
  apply decide_eq_true
  refine ⟨by omega, by omega, ?_⟩
  rw [Int.toNat_natCast]
  have : ((256 ^ (1 + b.toNat % 4) : Nat) : Int) = (256 : Int) ^ (1 + b.toNat % 4) := by rw [Int.natCast_pow]; rfl
  rw [← this]
  exact Int.ofNat_lt.2 h3
theorem bnd_ok {b : UInt8} {r : List UInt8} {p : Pre} {pre : List UInt8} (h : Fits b r p pre) : bndB p.lg (p.ty : Nat) p.dc p.sc p.tk (p.le : Nat) = true := by
  have h1 := h.dc
  have h2 := h.sc
  have h3 := h.tk
  have h4 := h.ty
  have h5 := h.le
  unfold bndB
  cases hl : p.lg with
  | false => rw [hl] at h1; simpa using h1
  | true =>
    rw [hl] at h1
    simp at h1 ⊢
    omega
theorem kept_ok {b : UInt8} {r : List UInt8} {p : Pre} {pre : List UInt8} (h : Fits b r p pre) (ph : Bool) (hph : p.lg = true → ph = false) : keptB p.lg p.sp ph (p.ty : Nat) (p.ve : Nat) p.sc p.tk (p.le : Nat) = true := by
  have h1 := h.short
  have h2 := h.long
  have h3 := h.tt
  unfold keptB
  cases hl : p.lg with
  | false =>
    obtain ⟨e1, e2, e3, e4, e5⟩ := h1 hl
    rw [e1, e2, e3, e4, e5]; simp
  | true =>
    rw [h2 hl, hph hl]
    simp
    by_cases h : p.ty = 0
    · exact .inl h
    · exact .inr (h3 h)
theorem bad_lg {b : UInt8} (h : badN b.toNat = false) (h1 : 128 ≤ b.toNat) : decide (b.toNat / 4 % 2 = 1) = false := by
  unfold badN at h
  rw [if_neg (by omega)] at h
  have := of_decide_eq_false h
  exact decide_eq_false (by omega)
/-- Whether the program's reader finds a header. -/
def gFlag (r : Rd) : Bool := !(rnS r.n r.st).w && mayB r.lg r.sp (decide (r.n / 4 % 2 = 1)) (r.ty : Nat) (r.ve : Nat) r.dc r.sc r.tk (r.le : Nat) (1 + r.n % 4 : Nat) (rnV r.n r.st : Nat)
theorem get_rel (l : List UInt8) : (gFlag (ra l) = true ∧ getO l = some (⟨(ra l).lg, (ra l).sp, decide ((ra l).n / 4 % 2 = 1), (ra l).ty, (ra l).ve, (ra l).dc, (ra l).sc, (ra l).tk, (ra l).le, (1 + (ra l).n % 4 : Nat), (rnV (ra l).n (ra l).st : Nat)⟩, (rnS (ra l).n (ra l).st).s)) ∨ (gFlag (ra l) = false ∧ getO l = none) := by
  rcases rel l with ⟨p, h1, h2⟩ | ⟨h1, h2⟩
  · cases l with
    | nil => simp [ahO] at h1
    | cons b r =>
      obtain ⟨pre, hf⟩ := ahO_local h1
      rw [h2, raN_cons]
      have e1 : rn1 b.toNat ⟨p.re, false⟩ = ⟨p.re, badN b.toNat⟩ := rfl
      have eg : getO (b :: r) = if p.re.length < wideB b ∨ badB b = true then none else some (hdr b p, p.re.drop (wideB b)) := by
        simp only [getO, h1]
      have ew : wideB b = 1 + b.toNat % 4 := rfl
      have eb : badB b = badN b.toNat := rfl
      unfold gFlag
      simp only
      have eS : rnS b.toNat ⟨p.re, false⟩ = St.skip ⟨p.re, badN b.toNat⟩ (1 + b.toNat % 4) := rfl
      have eV : rnV b.toNat ⟨p.re, false⟩ = bk (St.take ⟨p.re, badN b.toNat⟩ (1 + b.toNat % 4)) := rfl
      rw [eS, eV, eg, ew, eb]
      by_cases hb : badN b.toNat = true
      · right
        refine ⟨?_, if_pos (.inr hb)⟩
        rw [skip_true (st := ⟨p.re, badN b.toNat⟩) hb]; rfl
      · have hb' : badN b.toNat = false := by simpa using hb
        rw [hb']
        by_cases hl : p.re.length < 1 + b.toNat % 4
        · right
          refine ⟨?_, if_pos (.inl hl)⟩
          rw [St.skip_no hl]; rfl
        · left
          have hk : 1 + b.toNat % 4 ≤ p.re.length := by omega
          rw [St.skip_ok hk, St.take_ok hk]
          refine ⟨?_, ?_⟩
          · have hph : p.lg = true → decide (b.toNat / 4 % 2 = 1) = false := fun h => bad_lg hb' (by have := hf.lg; rw [h] at this; simpa using this.symm)
            unfold mayB
            rw [kept_ok hf _ hph, bnd_ok hf, num_ok]; rfl
          · rw [if_neg (by simp; omega)]
            have hph : (!p.lg && decide (b.toNat / 4 % 2 = 1)) = decide (b.toNat / 4 % 2 = 1) := by
              cases h : p.lg with
              | false => rfl
              | true => rw [bad_lg hb' (by have := hf.lg; rw [h] at this; simpa using this.symm)]; rfl
            unfold hdr
            rw [hph]; rfl
  · right
    constructor
    · unfold gFlag
      rcases h2 with h2 | h2
      · have : (rnS (ra l).n (ra l).st).w = true := skip_true (show (rn1 (ra l).n (ra l).st).w = true by show ((ra l).st.w || _) = true; rw [h2]; rfl) _
        rw [this]; rfl
      · rw [mayB_2 h2]; simp
    · cases l with
      | nil => rfl
      | cons b r => simp only [getO, h1]
theorem place_rel (l : List UInt8) : ((!(ra l).st.w && mayB (ra l).lg (ra l).sp false (ra l).ty (ra l).ve (ra l).dc (ra l).sc (ra l).tk (ra l).le 1 0) = true ∧ ∃ p, ahO l = some p ∧ p.re = (ra l).st.s) ∨ ((!(ra l).st.w && mayB (ra l).lg (ra l).sp false (ra l).ty (ra l).ve (ra l).dc (ra l).sc (ra l).tk (ra l).le 1 0) = false ∧ ahO l = none) := by
  rcases rel l with ⟨p, h1, h2⟩ | ⟨h1, h2⟩
  · cases l with
    | nil => simp [ahO] at h1
    | cons b r =>
      obtain ⟨pre, hf⟩ := ahO_local h1
      left
      rw [h2]
      refine ⟨?_, p, h1, rfl⟩
      unfold mayB
      rw [kept_ok hf _ (fun _ => rfl), bnd_ok hf]; rfl
  · right
    refine ⟨?_, h1⟩
    rcases h2 with h2 | h2
    · rw [h2]; rfl
    · rw [mayB_2 h2]; simp
theorem bk_bound (r : Nat) (st : St) : ((rnV r st : Nat) : Int) < 4294967296 := by
  unfold rnV
  have h1 := bk_lt ((rn1 r st).take (1 + r % 4))
  have h2 := St.take_len (rn1 r st) (1 + r % 4)
  have h3 : 256 ^ ((rn1 r st).take (1 + r % 4)).length ≤ 256 ^ 4 := Nat.pow_le_pow_right (by decide) (by omega)
  omega
theorem Get_any (l : List UInt8) (w : World) (ht : Tab w) (hl : l.length ≤ 140737488351232) :
    Calls Tryd.prog 9 #[.string ⟨l.toArray⟩] w fun e w' => e = .returned (.tuple #[.agg #[.bool (gHd l).lg, .bool (gHd l).sp, .bool (gHd l).ph, .int .i64 (gHd l).ty, .int .u32 (gHd l).ve, .string ⟨((gHd l).dc).toArray⟩, .string ⟨((gHd l).sc).toArray⟩, .string ⟨((gHd l).tk).toArray⟩, .int .u64 (gHd l).le, .int .i64 (gHd l).wi, .int .u64 (gHd l).nu], .string ⟨(gRs l).toArray⟩, .int .i64 (gEr l)]) ∧ Below w.heap.size w w' := by
  have hB := ra_bnd l
  have hR := get_rel l
  rcases hr : ra l with ⟨⟨s0, wr⟩, lg, sp, ty, ve, dc, sc, tk, le, n⟩
  have hb := bk_bound n ⟨s0, wr⟩
  rcases hR with ⟨h1, h2⟩ | ⟨h1, h2⟩
  · rw [hr] at h1 h2
    have e1 : gHd l = ⟨lg, sp, decide (n / 4 % 2 = 1), ty, ve, dc, sc, tk, le, (1 + n % 4 : Nat), (rnV n ⟨s0, wr⟩ : Nat)⟩ := by unfold gHd; rw [h2]
    have e2 : gRs l = (rnS n ⟨s0, wr⟩).s := by unfold gRs; rw [h2]
    have e3 : gEr l = 0 := by unfold gEr; rw [h2]
    rw [e1, e2, e3]
    exact get_g l s0 wr lg sp ty ve le n dc sc tk (1 + n % 4) (rnV n ⟨s0, wr⟩) (rnS n ⟨s0, wr⟩).s (rnS n ⟨s0, wr⟩).w w ht (Lib.hid hr) (Lib.hid rfl) (Lib.hid rfl) (Lib.hid rfl) (Lib.hid hB) (by omega) (Lib.hid h1) (by omega) hb
  · rw [hr] at h1
    have e1 : gHd l = ⟨false, false, false, 0, 0, [], [], [], 0, 0, 0⟩ := by unfold gHd; rw [h2]
    have e2 : gRs l = [] := by unfold gRs; rw [h2]
    have e3 : gEr l = 40 := by unfold gEr; rw [h2]
    rw [e1, e2, e3]
    exact get_b l s0 wr lg sp ty ve le n dc sc tk (1 + n % 4) (rnV n ⟨s0, wr⟩) (rnS n ⟨s0, wr⟩).s (rnS n ⟨s0, wr⟩).w w ht (Lib.hid hr) (Lib.hid rfl) (Lib.hid rfl) (Lib.hid rfl) (Lib.hid hB) (by omega) (Lib.hid h1) (by omega) hb
theorem Place_any (l : List UInt8) (w : World) (ht : Tab w) (hl : l.length ≤ 140737488351232) :
    Calls Tryd.prog 11 #[.string ⟨l.toArray⟩] w fun e w' => e = .returned (.tuple #[.int .i64 (plN l), .int .i64 (plE l)]) ∧ Below w.heap.size w w' := by
  have hB := ra_bnd l
  have hR := place_rel l
  rcases hr : ra l with ⟨⟨s0, wr⟩, lg, sp, ty, ve, dc, sc, tk, le, n⟩
  rcases hR with ⟨h1, p, h2, h3⟩ | ⟨h1, h2⟩
  · rw [hr] at h1 h3
    have e1 : plN l = (l.length : Int) - (s0.length : Int) := by unfold plN; rw [h2]; simp only; rw [h3]
    have e2 : plE l = 0 := by unfold plE; rw [h2]
    rw [e1, e2]
    exact place_g l s0 wr lg sp ty ve le n dc sc tk w ht (Lib.hid hr) (Lib.hid hB) (by omega) (Lib.hid h1)
  · rw [hr] at h1
    have e1 : plN l = 0 := by unfold plN; rw [h2]
    have e2 : plE l = 40 := by unfold plE; rw [h2]
    rw [e1, e2]
    exact place_b l s0 wr lg sp ty ve le n dc sc tk w ht (Lib.hid hr) (Lib.hid hB) (by omega) (Lib.hid h1)
end Go.Proofs.YtabikljimndliaaDoor.Hd
