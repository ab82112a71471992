/- Plain mathematics of headers: the program's reader and the plain parse agree. · The walks of layer 4: Get and Place, the program's, in one word. · The walks of layer 4: a header's first byte, a varint that is known to be one -/
import Derived.Test.YtagbkmoahflfdaaGreatDoorJa22
import Derived.Test.YtagbkmoahflfdaaGreatDoorJa17
import Derived.Lib.Builder
import Derived.Lib.Hide
namespace Go.Proofs.YtagbkmoahflfdaaGreatDoor.Hd
set_option maxRecDepth 20000
open Go.RowKit Vm
set_option linter.unusedVariables false

theorem skip_true {st : St} (h : st.w = true) (n : Nat) : (st.skip n).w = true := by
  unfold St.skip
  split
  · exact h
  · rfl
theorem vs_true {st : St} (h : st.w = true) : st.vs.w = true := by
  show (st.w || _) = true
  rw [h]; rfl
theorem rdIdS_true {st : St} (h : st.w = true) : (rdIdS st).w = true := skip_true (skip_true h _) _
theorem rdTokS_true {st : St} (h : st.w = true) : (rdTokS st).w = true := skip_true (vs_true h) _
theorem lgSt_true {st : St} (h : st.w = true) (n : Nat) : (lgSt n st).w = true := by
  unfold lgSt
  split
  · exact rdTokS_true (rdIdS_true (rdIdS_true (skip_true h _)))
  · exact rdIdS_true (rdIdS_true (skip_true h _))
theorem bk_one (b : UInt8) : bk [b] = b.toNat := by simp [bk]
theorem id_rel (s : List UInt8) : (∃ d r, idO s = some (d, r) ∧ rdId ⟨s, false⟩ = d ∧ rdIdS ⟨s, false⟩ = ⟨r, false⟩) ∨ (idO s = none ∧ ((rdIdS ⟨s, false⟩).w = true ∨ 20 < (rdId ⟨s, false⟩).length)) := by
  cases s with
  | nil => exact .inr ⟨rfl, .inl rfl⟩
  | cons b r =>
    have e1 : St.take ⟨b :: r, false⟩ 1 = [b] := by rw [St.take_ok (by simp)]; rfl
    have e2 : St.skip ⟨b :: r, false⟩ 1 = ⟨r, false⟩ := by rw [St.skip_ok (by simp)]; rfl
    have f1 : rdId ⟨b :: r, false⟩ = St.take ⟨r, false⟩ b.toNat := by unfold rdId; rw [e1, e2, bk_one]
    have f2 : rdIdS ⟨b :: r, false⟩ = St.skip ⟨r, false⟩ b.toNat := by unfold rdIdS; rw [e1, e2, bk_one]
    rw [f1, f2]
    by_cases h1 : b.toNat ≤ r.length
    · by_cases h2 : b.toNat ≤ 20
      · exact .inl ⟨_, _, by simp only [idO]; rw [if_pos ⟨h2, h1⟩], St.take_ok h1, St.skip_ok h1⟩
      · exact .inr ⟨by simp only [idO]; rw [if_neg (fun h => h2 h.1)], .inr (by rw [St.take_ok h1, List.length_take]; omega)⟩
    · exact .inr ⟨by simp only [idO]; rw [if_neg (fun h => h1 h.2)], .inl (by rw [St.skip_no (by omega)])⟩
theorem v_rel (s : List UInt8) : (∃ n r, vO s = some (n, r) ∧ St.vn ⟨s, false⟩ = n ∧ St.vs ⟨s, false⟩ = ⟨r, false⟩) ∨ (vO s = none ∧ (St.vs ⟨s, false⟩).w = true) := by
  by_cases h : gk s ≤ s.length
  · have hg := g_ok h
    refine .inl ⟨_, _, if_pos h, hg.1, ?_⟩
    unfold St.vs
    rw [hg.2.1]
    have : decide (s.length < gk s) = false := decide_eq_false (by omega)
    simp only [this, Bool.or_self]
  · refine .inr ⟨if_neg h, ?_⟩
    show (false || decide (s.length < gk s)) = true
    rw [Bool.false_or]
    exact decide_eq_true (by omega)
theorem tok_rel (s : List UInt8) : (∃ t r, tokO 0 s = some (t, r) ∧ rdTok ⟨s, false⟩ = t ∧ rdTokS ⟨s, false⟩ = ⟨r, false⟩) ∨ (tokO 0 s = none ∧ ((rdTokS ⟨s, false⟩).w = true ∨ 1000 < (rdTok ⟨s, false⟩).length)) := by
  rcases v_rel s with ⟨n, r, h1, h2, h3⟩ | ⟨h1, h2⟩
  · have f1 : rdTok ⟨s, false⟩ = St.take ⟨r, false⟩ n := by unfold rdTok; rw [h2, h3]
    have f2 : rdTokS ⟨s, false⟩ = St.skip ⟨r, false⟩ n := by unfold rdTokS; rw [h2, h3]
    rw [f1, f2]
    have e : tokO 0 s = if n ≤ 1000 ∧ n ≤ r.length then some (r.take n, r.drop n) else none := by
      unfold tokO; rw [if_pos rfl, h1]
    rw [e]
    by_cases h4 : n ≤ r.length
    · by_cases h5 : n ≤ 1000
      · exact .inl ⟨_, _, if_pos ⟨h5, h4⟩, St.take_ok h4, St.skip_ok h4⟩
      · exact .inr ⟨if_neg (fun h => h5 h.1), .inr (by rw [St.take_ok h4, List.length_take]; omega)⟩
    · exact .inr ⟨if_neg (fun h => h4 h.2), .inl (by rw [St.skip_no (by omega)])⟩
  · exact .inr ⟨by unfold tokO; rw [if_pos rfl, h1], .inl (skip_true h2 _)⟩
/-- What the program's reader tells beside the plain parse. -/
def Rel (l : List UInt8) : Prop :=
  (∃ p, ahO l = some p ∧ ra l = ⟨⟨p.re, false⟩, p.lg, p.sp, p.ty, p.ve, p.dc, p.sc, p.tk, p.le, raN l⟩) ∨
  (ahO l = none ∧ ((ra l).st.w = true ∨ bndB (ra l).lg (ra l).ty (ra l).dc (ra l).sc (ra l).tk (ra l).le = false))
theorem raN_cons (b : UInt8) (r : List UInt8) : raN (b :: r) = b.toNat := by
  unfold raN; rw [St.take_ok (by simp)]; exact bk_one b
theorem raS2_cons (b : UInt8) (r : List UInt8) : raS2 (b :: r) = ⟨r, decide (b.toNat / 64 % 2 = 0)⟩ := by
  unfold raS2 raS1; rw [raN_cons, St.skip_ok (by simp)]; rfl
theorem bnd_no_dc {lg : Bool} {ty : Int} {dc sc tk : List UInt8} {le : Int} (h : lg = true) (h1 : 20 < dc.length) : bndB lg ty dc sc tk le = false := by
  unfold bndB; rw [if_pos h]; exact decide_eq_false (by omega)
theorem bnd_no_sc {lg : Bool} {ty : Int} {dc sc tk : List UInt8} {le : Int} (h : lg = true) (h1 : 20 < sc.length) : bndB lg ty dc sc tk le = false := by
  unfold bndB; rw [if_pos h]; exact decide_eq_false (by omega)
theorem bnd_no_tk {lg : Bool} {ty : Int} {dc sc tk : List UInt8} {le : Int} (h : lg = true) (h1 : 1000 < tk.length) : bndB lg ty dc sc tk le = false := by
  unfold bndB; rw [if_pos h]; exact decide_eq_false (by omega)
theorem bnd_no_ty {lg : Bool} {ty : Int} {dc sc tk : List UInt8} {le : Int} (h : lg = true) (h1 : 2 < ty) : bndB lg ty dc sc tk le = false := by
  unfold bndB; rw [if_pos h]; exact decide_eq_false (by omega)
theorem rel (l : List UInt8) : Rel l := by
  cases l with
  | nil => exact .inr ⟨rfl, .inl rfl⟩
  | cons b r =>
    have hb := b.toNat_lt
    have hN := raN_cons b r
    have hS := raS2_cons b r
    by_cases h1 : b.toNat / 64 % 2 = 0
    · refine .inr ⟨by simp only [ahO]; rw [if_pos h1], .inl ?_⟩
      have hw : (raS2 (b :: r)).w = true := by rw [hS]; exact decide_eq_true h1
      unfold ra
      split
      · exact vs_true (lgSt_true hw _)
      · exact skip_true hw _
    have hS2 : raS2 (b :: r) = ⟨r, false⟩ := by rw [hS]; rw [decide_eq_false h1]
    by_cases h2 : b.toNat < 128
    · have e : ra (b :: r) = ⟨St.skip ⟨r, false⟩ 8, false, decide (b.toNat / 32 % 2 = 1), 0, 0, St.take ⟨r, false⟩ 8, [], [], 0, b.toNat⟩ := by
        unfold ra; rw [if_neg (by omega), hS2, hN]
      by_cases h3 : r.length < 8
      · refine .inr ⟨by simp only [ahO]; rw [if_neg h1, if_pos h2, if_pos h3], .inl ?_⟩
        rw [e, St.skip_no h3]
      · refine .inl ⟨_, by simp only [ahO]; rw [if_neg h1, if_pos h2, if_neg h3], ?_⟩
        rw [e, St.skip_ok (by omega), St.take_ok (by omega), hN]
    · have e : ra (b :: r) = ⟨(lgSt b.toNat ⟨r, false⟩).vs, true, false, lgTy b.toNat, bk (St.take ⟨r, false⟩ 4), rdId (St.skip ⟨r, false⟩ 4), rdId (rdIdS (St.skip ⟨r, false⟩ 4)), lgTok b.toNat ⟨r, false⟩, (lgSt b.toNat ⟨r, false⟩).vn, b.toNat⟩ := by
        unfold ra; rw [if_pos (by omega), hS2, hN]
      have ea : ahO (b :: r) = ahL b r := by simp only [ahO]; rw [if_neg h1, if_neg h2]
      unfold Rel
      rw [ea, hN, e]
      clear e ea hN hS hS2
      unfold ahL
      by_cases h3 : r.length < 4
      · refine .inr ⟨by rw [if_pos (.inl h3)], .inl ?_⟩
        have hw : (St.skip ⟨r, false⟩ 4).w = true := by rw [St.skip_no h3]
        show (lgSt _ _).vs.w = true
        apply vs_true
        unfold lgSt
        split
        · exact rdTokS_true (rdIdS_true (rdIdS_true hw))
        · exact rdIdS_true (rdIdS_true hw)
      by_cases h4 : b.toNat / 16 % 4 = 3
      · refine .inr ⟨by rw [if_pos (.inr h4)], .inr (bnd_no_ty rfl ?_)⟩
        show (2:Int) < ((lgTy b.toNat : Nat) : Int)
        unfold lgTy; omega
      rw [if_neg (by omega)]
      have k4 : St.skip ⟨r, false⟩ 4 = ⟨r.drop 4, false⟩ := St.skip_ok (by omega)
      have t4 : St.take ⟨r, false⟩ 4 = r.take 4 := St.take_ok (by omega)
      have es : lgSt b.toNat ⟨r, false⟩ = if lgTy b.toNat = 0 then rdTokS (rdIdS (rdIdS ⟨r.drop 4, false⟩)) else rdIdS (rdIdS ⟨r.drop 4, false⟩) := by unfold lgSt; rw [k4]
      have et : lgTok b.toNat ⟨r, false⟩ = if lgTy b.toNat = 0 then rdTok (rdIdS (rdIdS ⟨r.drop 4, false⟩)) else [] := by unfold lgTok; rw [k4]
      rw [k4, t4, es, et]
      clear k4 t4 es et
      have ety : b.toNat / 16 % 4 = lgTy b.toNat := rfl
      rw [ety]
      generalize lgTy b.toNat = ty at *
      generalize r.drop 4 = s at *
      rcases id_rel s with ⟨d, r1, i1, i2, i3⟩ | ⟨i1, i2⟩
      · rw [i1, i2, i3]
        simp only
        rcases id_rel r1 with ⟨c, r2, j1, j2, j3⟩ | ⟨j1, j2⟩
        · rw [j1, j2, j3]
          simp only
          by_cases ht : ty = 0
          · subst ht
            rw [if_pos rfl, if_pos rfl]
            rcases tok_rel r2 with ⟨t, r3, k1, k2, k3⟩ | ⟨k1, k2⟩
            · rw [k1, k2, k3]
              simp only
              rcases v_rel r3 with ⟨n, r4, v1, v2, v3⟩ | ⟨v1, v2⟩
              · rw [v1, v2, v3]
                exact .inl ⟨_, rfl, rfl⟩
              · rw [v1]; exact .inr ⟨rfl, .inl v2⟩
            · rw [k1]
              refine .inr ⟨rfl, ?_⟩
              rcases k2 with k2 | k2
              · exact .inl (vs_true k2)
              · exact .inr (bnd_no_tk rfl k2)
          · rw [if_neg ht, if_neg ht]
            have k1 : tokO ty r2 = some ([], r2) := by unfold tokO; rw [if_neg ht]
            rw [k1]
            simp only
            rcases v_rel r2 with ⟨n, r4, v1, v2, v3⟩ | ⟨v1, v2⟩
            · rw [v1, v2, v3]
              exact .inl ⟨_, rfl, rfl⟩
            · rw [v1]; exact .inr ⟨rfl, .inl v2⟩
        · rw [j1]
          refine .inr ⟨rfl, ?_⟩
          rcases j2 with j2 | j2
          · left
            show (St.vs _).w = true
            apply vs_true
            split
            · exact rdTokS_true j2
            · exact j2
          · exact .inr (bnd_no_sc rfl j2)
      · rw [i1]
        refine .inr ⟨rfl, ?_⟩
        rcases i2 with i2 | i2
        · left
          show (St.vs _).w = true
          apply vs_true
          split
          · exact rdTokS_true (rdIdS_true i2)
          · exact rdIdS_true i2
        · exact .inr (bnd_no_dc rfl i2)
end Go.Proofs.YtagbkmoahflfdaaGreatDoor.Hd
namespace Go.Proofs.YtagbkmoahflfdaaGreatDoor.Hd
set_option maxRecDepth 20000
open Go.RowKit Vm
set_option linter.unusedVariables false

/-- What Get tells: a header, what is behind, an error's number. -/
def gHd (l : List UInt8) : Hdr := match getO l with
  | some x => x.1
  | none => ⟨false, false, false, 0, 0, [], [], [], 0, 0, 0⟩
def gRs (l : List UInt8) : List UInt8 := match getO l with
  | some x => x.2
  | none => []
def gEr (l : List UInt8) : Int := match getO l with
  | some x => 0
  | none => 40
def plN (l : List UInt8) : Int := match ahO l with
  | some p => (l.length : Int) - (p.re.length : Int)
  | none => 0
def plE (l : List UInt8) : Int := match ahO l with
  | some p => 0
  | none => 40
theorem num_ok (b : UInt8) (l : List UInt8) : numB ((1 + b.toNat % 4 : Nat) : Int) ((bk (l.take (1 + b.toNat % 4)) : Nat) : Int) = true := by
  have h1 := bk_lt (l.take (1 + b.toNat % 4))
  have h2 : (l.take (1 + b.toNat % 4)).length ≤ 1 + b.toNat % 4 := by rw [List.length_take]; omega
  have h3 := Nat.lt_of_lt_of_le h1 (Nat.pow_le_pow_right (show 0 < 256 by decide) h2)
  unfold numB
  apply decide_eq_true
  refine ⟨by omega, by omega, ?_⟩
  rw [Int.toNat_natCast]
  have : ((256 ^ (1 + b.toNat % 4) : Nat) : Int) = (256 : Int) ^ (1 + b.toNat % 4) := by rw [Int.natCast_pow]; rfl
  rw [← this]
  exact Int.ofNat_lt.2 h3
theorem bnd_ok {b : UInt8} {r : List UInt8} {p : Pre} {pre : List UInt8} (h : Fits b r p pre) : bndB p.lg (p.ty : Nat) p.dc p.sc p.tk (p.le : Nat) = true := by
  have h1 := h.dc
  have h2 := h.sc
  have h3 := h.tk
  have h4 := h.ty
  have h5 := h.le
  unfold bndB
  cases hl : p.lg with
  | false => rw [hl] at h1; simpa using h1
  | true =>
    rw [hl] at h1
    simp at h1 ⊢
    omega
theorem kept_ok {b : UInt8} {r : List UInt8} {p : Pre} {pre : List UInt8} (h : Fits b r p pre) (ph : Bool) (hph : p.lg = true → ph = false) : keptB p.lg p.sp ph (p.ty : Nat) (p.ve : Nat) p.sc p.tk (p.le : Nat) = true := by
  have h1 := h.short
  have h2 := h.long
  have h3 := h.tt
  unfold keptB
  cases hl : p.lg with
  | false =>
    obtain ⟨e1, e2, e3, e4, e5⟩ := h1 hl
    rw [e1, e2, e3, e4, e5]; simp
  | true =>
    rw [h2 hl, hph hl]
    simp
    by_cases h : p.ty = 0
    · exact .inl h
    · exact .inr (h3 h)
theorem bad_lg {b : UInt8} (h : badN b.toNat = false) (h1 : 128 ≤ b.toNat) : decide (b.toNat / 4 % 2 = 1) = false := by
  unfold badN at h
  rw [if_neg (by omega)] at h
  have := of_decide_eq_false h
  exact decide_eq_false (by omega)
/-- Whether the program's reader finds a header. -/
def gFlag (r : Rd) : Bool := !(rnS r.n r.st).w && mayB r.lg r.sp (decide (r.n / 4 % 2 = 1)) (r.ty : Nat) (r.ve : Nat) r.dc r.sc r.tk (r.le : Nat) (1 + r.n % 4 : Nat) (rnV r.n r.st : Nat)
theorem get_rel (l : List UInt8) : (gFlag (ra l) = true ∧ getO l = some (⟨(ra l).lg, (ra l).sp, decide ((ra l).n / 4 % 2 = 1), (ra l).ty, (ra l).ve, (ra l).dc, (ra l).sc, (ra l).tk, (ra l).le, (1 + (ra l).n % 4 : Nat), (rnV (ra l).n (ra l).st : Nat)⟩, (rnS (ra l).n (ra l).st).s)) ∨ (gFlag (ra l) = false ∧ getO l = none) := by
  rcases rel l with ⟨p, h1, h2⟩ | ⟨h1, h2⟩
  · cases l with
    | nil => simp [ahO] at h1
    | cons b r =>
      obtain ⟨pre, hf⟩ := ahO_local h1
      rw [h2, raN_cons]
      have e1 : rn1 b.toNat ⟨p.re, false⟩ = ⟨p.re, badN b.toNat⟩ := rfl
      have eg : getO (b :: r) = if p.re.length < wideB b ∨ badB b = true then none else some (hdr b p, p.re.drop (wideB b)) := by
        simp only [getO, h1]
      have ew : wideB b = 1 + b.toNat % 4 := rfl
      have eb : badB b = badN b.toNat := rfl
      unfold gFlag
      simp only
      have eS : rnS b.toNat ⟨p.re, false⟩ = St.skip ⟨p.re, badN b.toNat⟩ (1 + b.toNat % 4) := rfl
      have eV : rnV b.toNat ⟨p.re, false⟩ = bk (St.take ⟨p.re, badN b.toNat⟩ (1 + b.toNat % 4)) := rfl
      rw [eS, eV, eg, ew, eb]
      by_cases hb : badN b.toNat = true
      · right
        refine ⟨?_, if_pos (.inr hb)⟩
        rw [skip_true (st := ⟨p.re, badN b.toNat⟩) hb]; rfl
      · have hb' : badN b.toNat = false := by simpa using hb
        rw [hb']
        by_cases hl : p.re.length < 1 + b.toNat % 4
        · right
          refine ⟨?_, if_pos (.inl hl)⟩
          rw [St.skip_no hl]; rfl
        · left
          have hk : 1 + b.toNat % 4 ≤ p.re.length := by omega
          rw [St.skip_ok hk, St.take_ok hk]
          refine ⟨?_, ?_⟩
          · have hph : p.lg = true → decide (b.toNat / 4 % 2 = 1) = false := fun h => bad_lg hb' (by have := hf.lg; rw [h] at this; simpa using this.symm)
            unfold mayB
            rw [kept_ok hf _ hph, bnd_ok hf, num_ok]; rfl
          · rw [if_neg (by simp; omega)]
            have hph : (!p.lg && decide (b.toNat / 4 % 2 = 1)) = decide (b.toNat / 4 % 2 = 1) := by
              cases h : p.lg with
              | false => rfl
              | true => rw [bad_lg hb' (by have := hf.lg; rw [h] at this; simpa using this.symm)]; rfl
            unfold hdr
            rw [hph]; rfl
  · right
    constructor
    · unfold gFlag
      rcases h2 with h2 | h2
      · have : (rnS (ra l).n (ra l).st).w = true := skip_true (show (rn1 (ra l).n (ra l).st).w = true by show ((ra l).st.w || _) = true; rw [h2]; rfl) _
        rw [this]; rfl
      · rw [mayB_2 h2]; simp
    · cases l with
      | nil => rfl
      | cons b r => simp only [getO, h1]
theorem place_rel (l : List UInt8) : ((!(ra l).st.w && mayB (ra l).lg (ra l).sp false (ra l).ty (ra l).ve (ra l).dc (ra l).sc (ra l).tk (ra l).le 1 0) = true ∧ ∃ p, ahO l = some p ∧ p.re = (ra l).st.s) ∨ ((!(ra l).st.w && mayB (ra l).lg (ra l).sp false (ra l).ty (ra l).ve (ra l).dc (ra l).sc (ra l).tk (ra l).le 1 0) = false ∧ ahO l = none) := by
  rcases rel l with ⟨p, h1, h2⟩ | ⟨h1, h2⟩
  · cases l with
    | nil => simp [ahO] at h1
    | cons b r =>
      obtain ⟨pre, hf⟩ := ahO_local h1
      left
      rw [h2]
      refine ⟨?_, p, h1, rfl⟩
      unfold mayB
      rw [kept_ok hf _ (fun _ => rfl), bnd_ok hf]; rfl
  · right
    refine ⟨?_, h1⟩
    rcases h2 with h2 | h2
    · rw [h2]; rfl
    · rw [mayB_2 h2]; simp
theorem bk_bound (r : Nat) (st : St) : ((rnV r st : Nat) : Int) < 4294967296 := by
  unfold rnV
  have h1 := bk_lt ((rn1 r st).take (1 + r % 4))
  have h2 := St.take_len (rn1 r st) (1 + r % 4)
  have h3 : 256 ^ ((rn1 r st).take (1 + r % 4)).length ≤ 256 ^ 4 := Nat.pow_le_pow_right (by decide) (by omega)
  omega
theorem Get_any (l : List UInt8) (w : World) (ht : Tab w) (hl : l.length ≤ 140737488351232) :
    Calls Tryz.prog 100 #[.string ⟨l.toArray⟩] w fun e w' => e = .returned (.tuple #[.agg #[.bool (gHd l).lg, .bool (gHd l).sp, .bool (gHd l).ph, .int .i64 (gHd l).ty, .int .u32 (gHd l).ve, .string ⟨((gHd l).dc).toArray⟩, .string ⟨((gHd l).sc).toArray⟩, .string ⟨((gHd l).tk).toArray⟩, .int .u64 (gHd l).le, .int .i64 (gHd l).wi, .int .u64 (gHd l).nu], .string ⟨(gRs l).toArray⟩, .int .i64 (gEr l)]) ∧ Below w.heap.size w w' := by
  have hB := ra_bnd l
  have hR := get_rel l
  rcases hr : ra l with ⟨⟨s0, wr⟩, lg, sp, ty, ve, dc, sc, tk, le, n⟩
  have hb := bk_bound n ⟨s0, wr⟩
  rcases hR with ⟨h1, h2⟩ | ⟨h1, h2⟩
  · rw [hr] at h1 h2
    have e1 : gHd l = ⟨lg, sp, decide (n / 4 % 2 = 1), ty, ve, dc, sc, tk, le, (1 + n % 4 : Nat), (rnV n ⟨s0, wr⟩ : Nat)⟩ := by unfold gHd; rw [h2]
    have e2 : gRs l = (rnS n ⟨s0, wr⟩).s := by unfold gRs; rw [h2]
    have e3 : gEr l = 0 := by unfold gEr; rw [h2]
    rw [e1, e2, e3]
    exact get_g l s0 wr lg sp ty ve le n dc sc tk (1 + n % 4) (rnV n ⟨s0, wr⟩) (rnS n ⟨s0, wr⟩).s (rnS n ⟨s0, wr⟩).w w ht (Lib.hid hr) (Lib.hid rfl) (Lib.hid rfl) (Lib.hid rfl) (Lib.hid hB) (by omega) (Lib.hid h1) (by omega) hb
  · rw [hr] at h1
    have e1 : gHd l = ⟨false, false, false, 0, 0, [], [], [], 0, 0, 0⟩ := by unfold gHd; rw [h2]
    have e2 : gRs l = [] := by unfold gRs; rw [h2]
    have e3 : gEr l = 40 := by unfold gEr; rw [h2]
    rw [e1, e2, e3]
    exact get_b l s0 wr lg sp ty ve le n dc sc tk (1 + n % 4) (rnV n ⟨s0, wr⟩) (rnS n ⟨s0, wr⟩).s (rnS n ⟨s0, wr⟩).w w ht (Lib.hid hr) (Lib.hid rfl) (Lib.hid rfl) (Lib.hid rfl) (Lib.hid hB) (by omega) (Lib.hid h1) (by omega) hb
theorem Place_any (l : List UInt8) (w : World) (ht : Tab w) (hl : l.length ≤ 140737488351232) :
    Calls Tryz.prog 98 #[.string ⟨l.toArray⟩] w fun e w' => e = .returned (.tuple #[.int .i64 (plN l), .int .i64 (plE l)]) ∧ Below w.heap.size w w' := by
  have hB := ra_bnd l
  have hR := place_rel l
  rcases hr : ra l with ⟨⟨s0, wr⟩, lg, sp, ty, ve, dc, sc, tk, le, n⟩
  rcases hR with ⟨h1, p, h2, h3⟩ | ⟨h1, h2⟩
  · rw [hr] at h1 h3
    have e1 : plN l = (l.length : Int) - (s0.length : Int) := by unfold plN; rw [h2]; simp only; rw [h3]
    have e2 : plE l = 0 := by unfold plE; rw [h2]
    rw [e1, e2]
    exact place_g l s0 wr lg sp ty ve le n dc sc tk w ht (Lib.hid hr) (Lib.hid hB) (by omega) (Lib.hid h1)
  · rw [hr] at h1
    have e1 : plN l = 0 := by unfold plN; rw [h2]
    have e2 : plE l = 40 := by unfold plE; rw [h2]
    rw [e1, e2]
    exact place_b l s0 wr lg sp ty ve le n dc sc tk w ht (Lib.hid hr) (Lib.hid hB) (by omega) (Lib.hid h1)
end Go.Proofs.YtagbkmoahflfdaaGreatDoor.Hd
namespace Go.Proofs.YtagbkmoahflfdaaGreatDoor.Hd
set_option maxRecDepth 20000
open Go.RowKit Vm
set_option linter.unusedVariables false

/-- A header's first byte. -/
def fbN (lg sp ph : Bool) (ty wi : Int) : Nat := if lg then (191 + wi + 16 * ty).toNat else (63 + wi).toNat + (if sp then 32 else 0) + (if ph then 4 else 0)
theorem first_l01 (sp : Bool) (ph : Bool) (ve : Int) (dc : List UInt8) (sc : List UInt8) (tk : List UInt8) (le : Int) (nu : Int) (w : World) :
    Calls Tryz.prog 87 #[.agg #[.bool true, .bool sp, .bool ph, .int .i64 0, .int .u32 ve, .string ⟨dc.toArray⟩, .string ⟨sc.toArray⟩, .string ⟨tk.toArray⟩, .int .u64 le, .int .i64 1, .int .u64 nu]] w fun e w' => e = .returned (.int .u8 192) ∧ Below w.heap.size w w' := by
  go_enter Tryz.func87, Tryz.ntmps87
  go_wp2
  go_ret
  exact ⟨by first | rfl | (congr 1), (Below.refl _ _).alloc (Nat.le_refl _) _⟩
theorem first_l02 (sp : Bool) (ph : Bool) (ve : Int) (dc : List UInt8) (sc : List UInt8) (tk : List UInt8) (le : Int) (nu : Int) (w : World) :
    Calls Tryz.prog 87 #[.agg #[.bool true, .bool sp, .bool ph, .int .i64 0, .int .u32 ve, .string ⟨dc.toArray⟩, .string ⟨sc.toArray⟩, .string ⟨tk.toArray⟩, .int .u64 le, .int .i64 2, .int .u64 nu]] w fun e w' => e = .returned (.int .u8 193) ∧ Below w.heap.size w w' := by
  go_enter Tryz.func87, Tryz.ntmps87
  go_wp2
  go_ret
  exact ⟨by first | rfl | (congr 1), (Below.refl _ _).alloc (Nat.le_refl _) _⟩
theorem first_l03 (sp : Bool) (ph : Bool) (ve : Int) (dc : List UInt8) (sc : List UInt8) (tk : List UInt8) (le : Int) (nu : Int) (w : World) :
    Calls Tryz.prog 87 #[.agg #[.bool true, .bool sp, .bool ph, .int .i64 0, .int .u32 ve, .string ⟨dc.toArray⟩, .string ⟨sc.toArray⟩, .string ⟨tk.toArray⟩, .int .u64 le, .int .i64 3, .int .u64 nu]] w fun e w' => e = .returned (.int .u8 194) ∧ Below w.heap.size w w' := by
  go_enter Tryz.func87, Tryz.ntmps87
  go_wp2
  go_ret
  exact ⟨by first | rfl | (congr 1), (Below.refl _ _).alloc (Nat.le_refl _) _⟩
theorem first_l04 (sp : Bool) (ph : Bool) (ve : Int) (dc : List UInt8) (sc : List UInt8) (tk : List UInt8) (le : Int) (nu : Int) (w : World) :
    Calls Tryz.prog 87 #[.agg #[.bool true, .bool sp, .bool ph, .int .i64 0, .int .u32 ve, .string ⟨dc.toArray⟩, .string ⟨sc.toArray⟩, .string ⟨tk.toArray⟩, .int .u64 le, .int .i64 4, .int .u64 nu]] w fun e w' => e = .returned (.int .u8 195) ∧ Below w.heap.size w w' := by
  go_enter Tryz.func87, Tryz.ntmps87
  go_wp2
  go_ret
  exact ⟨by first | rfl | (congr 1), (Below.refl _ _).alloc (Nat.le_refl _) _⟩
theorem first_l11 (sp : Bool) (ph : Bool) (ve : Int) (dc : List UInt8) (sc : List UInt8) (tk : List UInt8) (le : Int) (nu : Int) (w : World) :
    Calls Tryz.prog 87 #[.agg #[.bool true, .bool sp, .bool ph, .int .i64 1, .int .u32 ve, .string ⟨dc.toArray⟩, .string ⟨sc.toArray⟩, .string ⟨tk.toArray⟩, .int .u64 le, .int .i64 1, .int .u64 nu]] w fun e w' => e = .returned (.int .u8 208) ∧ Below w.heap.size w w' := by
  go_enter Tryz.func87, Tryz.ntmps87
  go_wp2
  go_ret
  exact ⟨by first | rfl | (congr 1), (Below.refl _ _).alloc (Nat.le_refl _) _⟩
theorem first_l12 (sp : Bool) (ph : Bool) (ve : Int) (dc : List UInt8) (sc : List UInt8) (tk : List UInt8) (le : Int) (nu : Int) (w : World) :
    Calls Tryz.prog 87 #[.agg #[.bool true, .bool sp, .bool ph, .int .i64 1, .int .u32 ve, .string ⟨dc.toArray⟩, .string ⟨sc.toArray⟩, .string ⟨tk.toArray⟩, .int .u64 le, .int .i64 2, .int .u64 nu]] w fun e w' => e = .returned (.int .u8 209) ∧ Below w.heap.size w w' := by
  go_enter Tryz.func87, Tryz.ntmps87
  go_wp2
  go_ret
  exact ⟨by first | rfl | (congr 1), (Below.refl _ _).alloc (Nat.le_refl _) _⟩
theorem first_l13 (sp : Bool) (ph : Bool) (ve : Int) (dc : List UInt8) (sc : List UInt8) (tk : List UInt8) (le : Int) (nu : Int) (w : World) :
    Calls Tryz.prog 87 #[.agg #[.bool true, .bool sp, .bool ph, .int .i64 1, .int .u32 ve, .string ⟨dc.toArray⟩, .string ⟨sc.toArray⟩, .string ⟨tk.toArray⟩, .int .u64 le, .int .i64 3, .int .u64 nu]] w fun e w' => e = .returned (.int .u8 210) ∧ Below w.heap.size w w' := by
  go_enter Tryz.func87, Tryz.ntmps87
  go_wp2
  go_ret
  exact ⟨by first | rfl | (congr 1), (Below.refl _ _).alloc (Nat.le_refl _) _⟩
theorem first_l14 (sp : Bool) (ph : Bool) (ve : Int) (dc : List UInt8) (sc : List UInt8) (tk : List UInt8) (le : Int) (nu : Int) (w : World) :
    Calls Tryz.prog 87 #[.agg #[.bool true, .bool sp, .bool ph, .int .i64 1, .int .u32 ve, .string ⟨dc.toArray⟩, .string ⟨sc.toArray⟩, .string ⟨tk.toArray⟩, .int .u64 le, .int .i64 4, .int .u64 nu]] w fun e w' => e = .returned (.int .u8 211) ∧ Below w.heap.size w w' := by
  go_enter Tryz.func87, Tryz.ntmps87
  go_wp2
  go_ret
  exact ⟨by first | rfl | (congr 1), (Below.refl _ _).alloc (Nat.le_refl _) _⟩
theorem first_l21 (sp : Bool) (ph : Bool) (ve : Int) (dc : List UInt8) (sc : List UInt8) (tk : List UInt8) (le : Int) (nu : Int) (w : World) :
    Calls Tryz.prog 87 #[.agg #[.bool true, .bool sp, .bool ph, .int .i64 2, .int .u32 ve, .string ⟨dc.toArray⟩, .string ⟨sc.toArray⟩, .string ⟨tk.toArray⟩, .int .u64 le, .int .i64 1, .int .u64 nu]] w fun e w' => e = .returned (.int .u8 224) ∧ Below w.heap.size w w' := by
  go_enter Tryz.func87, Tryz.ntmps87
  go_wp2
  go_ret
  exact ⟨by first | rfl | (congr 1), (Below.refl _ _).alloc (Nat.le_refl _) _⟩
theorem first_l22 (sp : Bool) (ph : Bool) (ve : Int) (dc : List UInt8) (sc : List UInt8) (tk : List UInt8) (le : Int) (nu : Int) (w : World) :
    Calls Tryz.prog 87 #[.agg #[.bool true, .bool sp, .bool ph, .int .i64 2, .int .u32 ve, .string ⟨dc.toArray⟩, .string ⟨sc.toArray⟩, .string ⟨tk.toArray⟩, .int .u64 le, .int .i64 2, .int .u64 nu]] w fun e w' => e = .returned (.int .u8 225) ∧ Below w.heap.size w w' := by
  go_enter Tryz.func87, Tryz.ntmps87
  go_wp2
  go_ret
  exact ⟨by first | rfl | (congr 1), (Below.refl _ _).alloc (Nat.le_refl _) _⟩
theorem first_l23 (sp : Bool) (ph : Bool) (ve : Int) (dc : List UInt8) (sc : List UInt8) (tk : List UInt8) (le : Int) (nu : Int) (w : World) :
    Calls Tryz.prog 87 #[.agg #[.bool true, .bool sp, .bool ph, .int .i64 2, .int .u32 ve, .string ⟨dc.toArray⟩, .string ⟨sc.toArray⟩, .string ⟨tk.toArray⟩, .int .u64 le, .int .i64 3, .int .u64 nu]] w fun e w' => e = .returned (.int .u8 226) ∧ Below w.heap.size w w' := by
  go_enter Tryz.func87, Tryz.ntmps87
  go_wp2
  go_ret
  exact ⟨by first | rfl | (congr 1), (Below.refl _ _).alloc (Nat.le_refl _) _⟩
theorem first_l24 (sp : Bool) (ph : Bool) (ve : Int) (dc : List UInt8) (sc : List UInt8) (tk : List UInt8) (le : Int) (nu : Int) (w : World) :
    Calls Tryz.prog 87 #[.agg #[.bool true, .bool sp, .bool ph, .int .i64 2, .int .u32 ve, .string ⟨dc.toArray⟩, .string ⟨sc.toArray⟩, .string ⟨tk.toArray⟩, .int .u64 le, .int .i64 4, .int .u64 nu]] w fun e w' => e = .returned (.int .u8 227) ∧ Below w.heap.size w w' := by
  go_enter Tryz.func87, Tryz.ntmps87
  go_wp2
  go_ret
  exact ⟨by first | rfl | (congr 1), (Below.refl _ _).alloc (Nat.le_refl _) _⟩
theorem first_sff1 (ty : Int) (ve : Int) (dc : List UInt8) (sc : List UInt8) (tk : List UInt8) (le : Int) (nu : Int) (w : World) :
    Calls Tryz.prog 87 #[.agg #[.bool false, .bool false, .bool false, .int .i64 ty, .int .u32 ve, .string ⟨dc.toArray⟩, .string ⟨sc.toArray⟩, .string ⟨tk.toArray⟩, .int .u64 le, .int .i64 1, .int .u64 nu]] w fun e w' => e = .returned (.int .u8 64) ∧ Below w.heap.size w w' := by
  go_enter Tryz.func87, Tryz.ntmps87
  go_wp2
  go_ret
  exact ⟨by first | rfl | (congr 1), (Below.refl _ _).alloc (Nat.le_refl _) _⟩
theorem first_sff2 (ty : Int) (ve : Int) (dc : List UInt8) (sc : List UInt8) (tk : List UInt8) (le : Int) (nu : Int) (w : World) :
    Calls Tryz.prog 87 #[.agg #[.bool false, .bool false, .bool false, .int .i64 ty, .int .u32 ve, .string ⟨dc.toArray⟩, .string ⟨sc.toArray⟩, .string ⟨tk.toArray⟩, .int .u64 le, .int .i64 2, .int .u64 nu]] w fun e w' => e = .returned (.int .u8 65) ∧ Below w.heap.size w w' := by
  go_enter Tryz.func87, Tryz.ntmps87
  go_wp2
  go_ret
  exact ⟨by first | rfl | (congr 1), (Below.refl _ _).alloc (Nat.le_refl _) _⟩
theorem first_sff3 (ty : Int) (ve : Int) (dc : List UInt8) (sc : List UInt8) (tk : List UInt8) (le : Int) (nu : Int) (w : World) :
    Calls Tryz.prog 87 #[.agg #[.bool false, .bool false, .bool false, .int .i64 ty, .int .u32 ve, .string ⟨dc.toArray⟩, .string ⟨sc.toArray⟩, .string ⟨tk.toArray⟩, .int .u64 le, .int .i64 3, .int .u64 nu]] w fun e w' => e = .returned (.int .u8 66) ∧ Below w.heap.size w w' := by
  go_enter Tryz.func87, Tryz.ntmps87
  go_wp2
  go_ret
  exact ⟨by first | rfl | (congr 1), (Below.refl _ _).alloc (Nat.le_refl _) _⟩
theorem first_sff4 (ty : Int) (ve : Int) (dc : List UInt8) (sc : List UInt8) (tk : List UInt8) (le : Int) (nu : Int) (w : World) :
    Calls Tryz.prog 87 #[.agg #[.bool false, .bool false, .bool false, .int .i64 ty, .int .u32 ve, .string ⟨dc.toArray⟩, .string ⟨sc.toArray⟩, .string ⟨tk.toArray⟩, .int .u64 le, .int .i64 4, .int .u64 nu]] w fun e w' => e = .returned (.int .u8 67) ∧ Below w.heap.size w w' := by
  go_enter Tryz.func87, Tryz.ntmps87
  go_wp2
  go_ret
  exact ⟨by first | rfl | (congr 1), (Below.refl _ _).alloc (Nat.le_refl _) _⟩
theorem first_sft1 (ty : Int) (ve : Int) (dc : List UInt8) (sc : List UInt8) (tk : List UInt8) (le : Int) (nu : Int) (w : World) :
    Calls Tryz.prog 87 #[.agg #[.bool false, .bool false, .bool true, .int .i64 ty, .int .u32 ve, .string ⟨dc.toArray⟩, .string ⟨sc.toArray⟩, .string ⟨tk.toArray⟩, .int .u64 le, .int .i64 1, .int .u64 nu]] w fun e w' => e = .returned (.int .u8 68) ∧ Below w.heap.size w w' := by
  go_enter Tryz.func87, Tryz.ntmps87
  go_wp2
  go_ret
  exact ⟨by first | rfl | (congr 1), (Below.refl _ _).alloc (Nat.le_refl _) _⟩
theorem first_sft2 (ty : Int) (ve : Int) (dc : List UInt8) (sc : List UInt8) (tk : List UInt8) (le : Int) (nu : Int) (w : World) :
    Calls Tryz.prog 87 #[.agg #[.bool false, .bool false, .bool true, .int .i64 ty, .int .u32 ve, .string ⟨dc.toArray⟩, .string ⟨sc.toArray⟩, .string ⟨tk.toArray⟩, .int .u64 le, .int .i64 2, .int .u64 nu]] w fun e w' => e = .returned (.int .u8 69) ∧ Below w.heap.size w w' := by
  go_enter Tryz.func87, Tryz.ntmps87
  go_wp2
  go_ret
  exact ⟨by first | rfl | (congr 1), (Below.refl _ _).alloc (Nat.le_refl _) _⟩
theorem first_sft3 (ty : Int) (ve : Int) (dc : List UInt8) (sc : List UInt8) (tk : List UInt8) (le : Int) (nu : Int) (w : World) :
    Calls Tryz.prog 87 #[.agg #[.bool false, .bool false, .bool true, .int .i64 ty, .int .u32 ve, .string ⟨dc.toArray⟩, .string ⟨sc.toArray⟩, .string ⟨tk.toArray⟩, .int .u64 le, .int .i64 3, .int .u64 nu]] w fun e w' => e = .returned (.int .u8 70) ∧ Below w.heap.size w w' := by
  go_enter Tryz.func87, Tryz.ntmps87
  go_wp2
  go_ret
  exact ⟨by first | rfl | (congr 1), (Below.refl _ _).alloc (Nat.le_refl _) _⟩
theorem first_sft4 (ty : Int) (ve : Int) (dc : List UInt8) (sc : List UInt8) (tk : List UInt8) (le : Int) (nu : Int) (w : World) :
    Calls Tryz.prog 87 #[.agg #[.bool false, .bool false, .bool true, .int .i64 ty, .int .u32 ve, .string ⟨dc.toArray⟩, .string ⟨sc.toArray⟩, .string ⟨tk.toArray⟩, .int .u64 le, .int .i64 4, .int .u64 nu]] w fun e w' => e = .returned (.int .u8 71) ∧ Below w.heap.size w w' := by
  go_enter Tryz.func87, Tryz.ntmps87
  go_wp2
  go_ret
  exact ⟨by first | rfl | (congr 1), (Below.refl _ _).alloc (Nat.le_refl _) _⟩
theorem first_stf1 (ty : Int) (ve : Int) (dc : List UInt8) (sc : List UInt8) (tk : List UInt8) (le : Int) (nu : Int) (w : World) :
    Calls Tryz.prog 87 #[.agg #[.bool false, .bool true, .bool false, .int .i64 ty, .int .u32 ve, .string ⟨dc.toArray⟩, .string ⟨sc.toArray⟩, .string ⟨tk.toArray⟩, .int .u64 le, .int .i64 1, .int .u64 nu]] w fun e w' => e = .returned (.int .u8 96) ∧ Below w.heap.size w w' := by
  go_enter Tryz.func87, Tryz.ntmps87
  go_wp2
  go_ret
  exact ⟨by first | rfl | (congr 1), (Below.refl _ _).alloc (Nat.le_refl _) _⟩
theorem first_stf2 (ty : Int) (ve : Int) (dc : List UInt8) (sc : List UInt8) (tk : List UInt8) (le : Int) (nu : Int) (w : World) :
    Calls Tryz.prog 87 #[.agg #[.bool false, .bool true, .bool false, .int .i64 ty, .int .u32 ve, .string ⟨dc.toArray⟩, .string ⟨sc.toArray⟩, .string ⟨tk.toArray⟩, .int .u64 le, .int .i64 2, .int .u64 nu]] w fun e w' => e = .returned (.int .u8 97) ∧ Below w.heap.size w w' := by
  go_enter Tryz.func87, Tryz.ntmps87
  go_wp2
  go_ret
  exact ⟨by first | rfl | (congr 1), (Below.refl _ _).alloc (Nat.le_refl _) _⟩
theorem first_stf3 (ty : Int) (ve : Int) (dc : List UInt8) (sc : List UInt8) (tk : List UInt8) (le : Int) (nu : Int) (w : World) :
    Calls Tryz.prog 87 #[.agg #[.bool false, .bool true, .bool false, .int .i64 ty, .int .u32 ve, .string ⟨dc.toArray⟩, .string ⟨sc.toArray⟩, .string ⟨tk.toArray⟩, .int .u64 le, .int .i64 3, .int .u64 nu]] w fun e w' => e = .returned (.int .u8 98) ∧ Below w.heap.size w w' := by
  go_enter Tryz.func87, Tryz.ntmps87
  go_wp2
  go_ret
  exact ⟨by first | rfl | (congr 1), (Below.refl _ _).alloc (Nat.le_refl _) _⟩
theorem first_stf4 (ty : Int) (ve : Int) (dc : List UInt8) (sc : List UInt8) (tk : List UInt8) (le : Int) (nu : Int) (w : World) :
    Calls Tryz.prog 87 #[.agg #[.bool false, .bool true, .bool false, .int .i64 ty, .int .u32 ve, .string ⟨dc.toArray⟩, .string ⟨sc.toArray⟩, .string ⟨tk.toArray⟩, .int .u64 le, .int .i64 4, .int .u64 nu]] w fun e w' => e = .returned (.int .u8 99) ∧ Below w.heap.size w w' := by
  go_enter Tryz.func87, Tryz.ntmps87
  go_wp2
  go_ret
  exact ⟨by first | rfl | (congr 1), (Below.refl _ _).alloc (Nat.le_refl _) _⟩
theorem first_stt1 (ty : Int) (ve : Int) (dc : List UInt8) (sc : List UInt8) (tk : List UInt8) (le : Int) (nu : Int) (w : World) :
    Calls Tryz.prog 87 #[.agg #[.bool false, .bool true, .bool true, .int .i64 ty, .int .u32 ve, .string ⟨dc.toArray⟩, .string ⟨sc.toArray⟩, .string ⟨tk.toArray⟩, .int .u64 le, .int .i64 1, .int .u64 nu]] w fun e w' => e = .returned (.int .u8 100) ∧ Below w.heap.size w w' := by
  go_enter Tryz.func87, Tryz.ntmps87
  go_wp2
  go_ret
  exact ⟨by first | rfl | (congr 1), (Below.refl _ _).alloc (Nat.le_refl _) _⟩
theorem first_stt2 (ty : Int) (ve : Int) (dc : List UInt8) (sc : List UInt8) (tk : List UInt8) (le : Int) (nu : Int) (w : World) :
    Calls Tryz.prog 87 #[.agg #[.bool false, .bool true, .bool true, .int .i64 ty, .int .u32 ve, .string ⟨dc.toArray⟩, .string ⟨sc.toArray⟩, .string ⟨tk.toArray⟩, .int .u64 le, .int .i64 2, .int .u64 nu]] w fun e w' => e = .returned (.int .u8 101) ∧ Below w.heap.size w w' := by
  go_enter Tryz.func87, Tryz.ntmps87
  go_wp2
  go_ret
  exact ⟨by first | rfl | (congr 1), (Below.refl _ _).alloc (Nat.le_refl _) _⟩
theorem first_stt3 (ty : Int) (ve : Int) (dc : List UInt8) (sc : List UInt8) (tk : List UInt8) (le : Int) (nu : Int) (w : World) :
    Calls Tryz.prog 87 #[.agg #[.bool false, .bool true, .bool true, .int .i64 ty, .int .u32 ve, .string ⟨dc.toArray⟩, .string ⟨sc.toArray⟩, .string ⟨tk.toArray⟩, .int .u64 le, .int .i64 3, .int .u64 nu]] w fun e w' => e = .returned (.int .u8 102) ∧ Below w.heap.size w w' := by
  go_enter Tryz.func87, Tryz.ntmps87
  go_wp2
  go_ret
  exact ⟨by first | rfl | (congr 1), (Below.refl _ _).alloc (Nat.le_refl _) _⟩
theorem first_stt4 (ty : Int) (ve : Int) (dc : List UInt8) (sc : List UInt8) (tk : List UInt8) (le : Int) (nu : Int) (w : World) :
    Calls Tryz.prog 87 #[.agg #[.bool false, .bool true, .bool true, .int .i64 ty, .int .u32 ve, .string ⟨dc.toArray⟩, .string ⟨sc.toArray⟩, .string ⟨tk.toArray⟩, .int .u64 le, .int .i64 4, .int .u64 nu]] w fun e w' => e = .returned (.int .u8 103) ∧ Below w.heap.size w w' := by
  go_enter Tryz.func87, Tryz.ntmps87
  go_wp2
  go_ret
  exact ⟨by first | rfl | (congr 1), (Below.refl _ _).alloc (Nat.le_refl _) _⟩
theorem first_any (lg sp ph : Bool) (ty ve : Int) (dc sc tk : List UInt8) (le wi nu : Int) (w : World) (h1 : 1 ≤ wi) (h2 : wi ≤ 4) (h3 : lg = true → 0 ≤ ty ∧ ty ≤ 2) :
    Calls Tryz.prog 87 #[.agg #[.bool lg, .bool sp, .bool ph, .int .i64 ty, .int .u32 ve, .string ⟨dc.toArray⟩, .string ⟨sc.toArray⟩, .string ⟨tk.toArray⟩, .int .u64 le, .int .i64 wi, .int .u64 nu]] w fun e w' => e = .returned (.int .u8 (fbN lg sp ph ty wi : Nat)) ∧ Below w.heap.size w w' := by
  have hw : wi = 1 ∨ wi = 2 ∨ wi = 3 ∨ wi = 4 := by omega
  cases lg with
  | true =>
    have ht := h3 rfl
    have ht : ty = 0 ∨ ty = 1 ∨ ty = 2 := by omega
    rcases ht with rfl | rfl | rfl
    · rcases hw with rfl | rfl | rfl | rfl
      · exact first_l01 sp ph ve dc sc tk le nu w
      · exact first_l02 sp ph ve dc sc tk le nu w
      · exact first_l03 sp ph ve dc sc tk le nu w
      · exact first_l04 sp ph ve dc sc tk le nu w
    · rcases hw with rfl | rfl | rfl | rfl
      · exact first_l11 sp ph ve dc sc tk le nu w
      · exact first_l12 sp ph ve dc sc tk le nu w
      · exact first_l13 sp ph ve dc sc tk le nu w
      · exact first_l14 sp ph ve dc sc tk le nu w
    · rcases hw with rfl | rfl | rfl | rfl
      · exact first_l21 sp ph ve dc sc tk le nu w
      · exact first_l22 sp ph ve dc sc tk le nu w
      · exact first_l23 sp ph ve dc sc tk le nu w
      · exact first_l24 sp ph ve dc sc tk le nu w
  | false =>
    cases sp <;> cases ph
    · rcases hw with rfl | rfl | rfl | rfl
      · exact first_sff1 ty ve dc sc tk le nu w
      · exact first_sff2 ty ve dc sc tk le nu w
      · exact first_sff3 ty ve dc sc tk le nu w
      · exact first_sff4 ty ve dc sc tk le nu w
    · rcases hw with rfl | rfl | rfl | rfl
      · exact first_sft1 ty ve dc sc tk le nu w
      · exact first_sft2 ty ve dc sc tk le nu w
      · exact first_sft3 ty ve dc sc tk le nu w
      · exact first_sft4 ty ve dc sc tk le nu w
    · rcases hw with rfl | rfl | rfl | rfl
      · exact first_stf1 ty ve dc sc tk le nu w
      · exact first_stf2 ty ve dc sc tk le nu w
      · exact first_stf3 ty ve dc sc tk le nu w
      · exact first_stf4 ty ve dc sc tk le nu w
    · rcases hw with rfl | rfl | rfl | rfl
      · exact first_stt1 ty ve dc sc tk le nu w
      · exact first_stt2 ty ve dc sc tk le nu w
      · exact first_stt3 ty ve dc sc tk le nu w
      · exact first_stt4 ty ve dc sc tk le nu w
set_option maxHeartbeats 1000000 in
theorem sized_any (n : Int) (w : World) (ht : Tab w) (h0 : 0 ≤ n) :
    Calls Tryz.prog 122 #[.int .u64 n] w fun e w' => e = .returned (.string ⟨(ps n.toNat).toArray⟩) ∧ Below w.heap.size w w' := by
  have HT := Lib.hid ht
  clear ht
  go_enter Tryz.func122, Tryz.ntmps122
  go_wp2_with fail
  refine (vput _ _ HT.out h0).mono ?_
  rintro e w1 ⟨rfl, hb⟩
  go_wp2
  go_ret
  exact ⟨rfl, hb⟩
end Go.Proofs.YtagbkmoahflfdaaGreatDoor.Hd
