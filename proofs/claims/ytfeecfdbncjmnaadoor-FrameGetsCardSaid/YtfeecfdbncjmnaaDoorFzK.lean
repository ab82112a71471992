/- Layer 6: FgL, FgR, FaE, FgS, FmGets, joined by tools/pack.py. -/
import Derived.Test.YtfeecfdbncjmnaaDoorFzF
import Derived.Test.YtfeecfdbncjmnaaDoorFzD
import Derived.Test.YtfeecfdbncjmnaaDoorFzE
import Derived.Test.YtfeecfdbncjmnaaDoorFzG
import Derived.Test.YtfeecfdbncjmnaaDoorFzH
import Derived.Test.YtfeecfdbncjmnaaDoorFzJ
import Derived.Test.YtfeecfdbncjmnaaDoorFzB
import Derived.Deep.RegionHeld3
namespace Go.Proofs.YtfeecfdbncjmnaaDoor.Fm
set_option maxRecDepth 20000
open Go.RowKit Vm
set_option linter.unusedVariables false
set_option linter.unusedSimpArgs false
section
theorem prt_5 (t : List UInt8) : (match gst t 2 with | some (acc, r) => some (({ frZ with kind := 5, id := ((acc.getD 0 0 : Nat) : Int), code := ((acc.getD 1 0 : Nat) : Int) } : Frm), ([] : List (Nat × Nat)), r) | none => none) = frmN (5 :: t) := by
  rw [frm_5, gst_2]
  by_cases h0 : gk t ≤ t.length
  · rw [if_pos h0, if_pos h0]
    by_cases h1 : gk (gR t) ≤ (gR t).length
    · rw [if_pos h1, if_pos h1]
      rfl
    · rw [if_neg h1, if_neg h1]
  · rw [if_neg h0, if_neg h0]
theorem prt_17 (t : List UInt8) : (match gst t 2 with | some (acc, r) => some (({ frZ with kind := 17, id := ((acc.getD 0 0 : Nat) : Int), max := ((acc.getD 1 0 : Nat) : Int) } : Frm), ([] : List (Nat × Nat)), r) | none => none) = frmN (17 :: t) := by
  rw [frm_17, gst_2]
  by_cases h0 : gk t ≤ t.length
  · rw [if_pos h0, if_pos h0]
    by_cases h1 : gk (gR t) ≤ (gR t).length
    · rw [if_pos h1, if_pos h1]
      rfl
    · rw [if_neg h1, if_neg h1]
  · rw [if_neg h0, if_neg h0]
theorem prt_21 (t : List UInt8) : (match gst t 2 with | some (acc, r) => some (({ frZ with kind := 21, id := ((acc.getD 0 0 : Nat) : Int), max := ((acc.getD 1 0 : Nat) : Int) } : Frm), ([] : List (Nat × Nat)), r) | none => none) = frmN (21 :: t) := by
  rw [frm_21, gst_2]
  by_cases h0 : gk t ≤ t.length
  · rw [if_pos h0, if_pos h0]
    by_cases h1 : gk (gR t) ≤ (gR t).length
    · rw [if_pos h1, if_pos h1]
      rfl
    · rw [if_neg h1, if_neg h1]
  · rw [if_neg h0, if_neg h0]
theorem prt_4 (t : List UInt8) : (match gst t 3 with | some (acc, r) => some (({ frZ with kind := 4, id := ((acc.getD 0 0 : Nat) : Int), code := ((acc.getD 1 0 : Nat) : Int), max := ((acc.getD 2 0 : Nat) : Int) } : Frm), ([] : List (Nat × Nat)), r) | none => none) = frmN (4 :: t) := by
  rw [frm_4, gst_3]
  by_cases h0 : gk t ≤ t.length
  · rw [if_pos h0, if_pos h0]
    by_cases h1 : gk (gR t) ≤ (gR t).length
    · rw [if_pos h1, if_pos h1]
      by_cases h2 : gk (gR (gR t)) ≤ (gR (gR t)).length
      · rw [if_pos h2, if_pos h2]
        rfl
      · rw [if_neg h2, if_neg h2]
    · rw [if_neg h1, if_neg h1]
  · rw [if_neg h0, if_neg h0]
theorem prt_28 (t : List UInt8) : (match gst t 2 with | some (acc, r) => (match lngN r with | some (d, q) => some (({ frZ with kind := 28, code := ((acc.getD 0 0 : Nat) : Int), delay := ((acc.getD 1 0 : Nat) : Int), data := d } : Frm), ([] : List (Nat × Nat)), q) | none => none) | none => none) = frmN (28 :: t) := by
  rw [frm_28, gst_2]
  by_cases h0 : gk t ≤ t.length
  · rw [if_pos h0, if_pos h0]
    by_cases h1 : gk (gR t) ≤ (gR t).length
    · rw [if_pos h1, if_pos h1]
      rfl
    · rw [if_neg h1, if_neg h1]
  · rw [if_neg h0, if_neg h0]
theorem frm_not (c : UInt8) (t : List UInt8) (h : toldB c.toNat = false) : frmN (c :: t) = none := by
  rw [frmN_cons, if_neg (by rw [h]; decide)]
set_option maxHeartbeats 8000000 in
theorem rparts_any (k : Nat) (hk : k < 64) (h2 : k ≠ 2) (h24 : k ≠ 24) (t : List UInt8) (w : World) (hl : t.length ≤ 4000) : Calls Tryd.prog 22 #[.int .u64 (k : Nat), .string ⟨t.toArray⟩] w (PtTo (frmN (UInt8.ofNat k :: t)) w) := by
  by_cases k0 : k = 0
  · subst k0
    rw [show frmN (UInt8.ofNat 0 :: t) = frmN (0 :: t) from rfl, frm_0 t]
    exact rparts_0 t w
  by_cases k1 : k = 1
  · subst k1
    rw [show frmN (UInt8.ofNat 1 :: t) = frmN (1 :: t) from rfl, frm_1 t]
    exact rparts_1 t w
  by_cases k3 : k = 3
  · subst k3
    rw [frm_not _ t (show toldB (UInt8.ofNat 3).toNat = false from rfl)]
    exact rparts_3 t w
  by_cases k4 : k = 4
  · subst k4
    rw [show frmN (UInt8.ofNat 4 :: t) = frmN (4 :: t) from rfl, ← prt_4 t]
    exact rparts_4 t w hl
  by_cases k5 : k = 5
  · subst k5
    rw [show frmN (UInt8.ofNat 5 :: t) = frmN (5 :: t) from rfl, ← prt_5 t]
    exact rparts_5 t w hl
  by_cases k6 : k = 6
  · subst k6
    rw [show frmN (UInt8.ofNat 6 :: t) = frmN (6 :: t) from rfl, frm_6 t]
    exact rparts_6 t w hl
  by_cases k7 : k = 7
  · subst k7
    rw [frm_not _ t (show toldB (UInt8.ofNat 7).toNat = false from rfl)]
    exact rparts_7 t w
  by_cases k8 : k = 8
  · subst k8
    rw [show frmN (UInt8.ofNat 8 :: t) = frmN (8 :: t) from rfl, frm_8 t]
    exact rparts_8 t w hl
  by_cases k9 : k = 9
  · subst k9
    rw [show frmN (UInt8.ofNat 9 :: t) = frmN (9 :: t) from rfl, frm_9 t]
    exact rparts_9 t w hl
  by_cases k10 : k = 10
  · subst k10
    rw [show frmN (UInt8.ofNat 10 :: t) = frmN (10 :: t) from rfl, frm_10 t]
    exact rparts_10 t w hl
  by_cases k11 : k = 11
  · subst k11
    rw [show frmN (UInt8.ofNat 11 :: t) = frmN (11 :: t) from rfl, frm_11 t]
    exact rparts_11 t w hl
  by_cases k12 : k = 12
  · subst k12
    rw [show frmN (UInt8.ofNat 12 :: t) = frmN (12 :: t) from rfl, frm_12 t]
    exact rparts_12 t w hl
  by_cases k13 : k = 13
  · subst k13
    rw [show frmN (UInt8.ofNat 13 :: t) = frmN (13 :: t) from rfl, frm_13 t]
    exact rparts_13 t w hl
  by_cases k14 : k = 14
  · subst k14
    rw [show frmN (UInt8.ofNat 14 :: t) = frmN (14 :: t) from rfl, frm_14 t]
    exact rparts_14 t w hl
  by_cases k15 : k = 15
  · subst k15
    rw [show frmN (UInt8.ofNat 15 :: t) = frmN (15 :: t) from rfl, frm_15 t]
    exact rparts_15 t w hl
  by_cases k16 : k = 16
  · subst k16
    rw [show frmN (UInt8.ofNat 16 :: t) = frmN (16 :: t) from rfl, frm_16 t]
    exact rparts_16 t w hl
  by_cases k17 : k = 17
  · subst k17
    rw [show frmN (UInt8.ofNat 17 :: t) = frmN (17 :: t) from rfl, ← prt_17 t]
    exact rparts_17 t w hl
  by_cases k18 : k = 18
  · subst k18
    rw [show frmN (UInt8.ofNat 18 :: t) = frmN (18 :: t) from rfl, frm_18 t]
    exact rparts_18 t w hl
  by_cases k19 : k = 19
  · subst k19
    rw [show frmN (UInt8.ofNat 19 :: t) = frmN (19 :: t) from rfl, frm_19 t]
    exact rparts_19 t w hl
  by_cases k20 : k = 20
  · subst k20
    rw [show frmN (UInt8.ofNat 20 :: t) = frmN (20 :: t) from rfl, frm_20 t]
    exact rparts_20 t w hl
  by_cases k21 : k = 21
  · subst k21
    rw [show frmN (UInt8.ofNat 21 :: t) = frmN (21 :: t) from rfl, ← prt_21 t]
    exact rparts_21 t w hl
  by_cases k22 : k = 22
  · subst k22
    rw [show frmN (UInt8.ofNat 22 :: t) = frmN (22 :: t) from rfl, frm_22 t]
    exact rparts_22 t w hl
  by_cases k23 : k = 23
  · subst k23
    rw [show frmN (UInt8.ofNat 23 :: t) = frmN (23 :: t) from rfl, frm_23 t]
    exact rparts_23 t w hl
  by_cases k25 : k = 25
  · subst k25
    rw [show frmN (UInt8.ofNat 25 :: t) = frmN (25 :: t) from rfl, frm_25 t]
    exact rparts_25 t w hl
  by_cases k26 : k = 26
  · subst k26
    rw [show frmN (UInt8.ofNat 26 :: t) = frmN (26 :: t) from rfl, frm_26 t]
    exact rparts_26 t w hl
  by_cases k27 : k = 27
  · subst k27
    rw [show frmN (UInt8.ofNat 27 :: t) = frmN (27 :: t) from rfl, frm_27 t]
    exact rparts_27 t w hl
  by_cases k28 : k = 28
  · subst k28
    rw [show frmN (UInt8.ofNat 28 :: t) = frmN (28 :: t) from rfl, ← prt_28 t]
    exact rparts_28 t w hl
  by_cases k29 : k = 29
  · subst k29
    rw [show frmN (UInt8.ofNat 29 :: t) = frmN (29 :: t) from rfl, frm_29 t]
    exact rparts_29 t w hl
  by_cases k30 : k = 30
  · subst k30
    rw [show frmN (UInt8.ofNat 30 :: t) = frmN (30 :: t) from rfl, frm_30 t]
    exact rparts_30 t w
  have hb : toldB (UInt8.ofNat k).toNat = false := by
    have e : (UInt8.ofNat k).toNat = k := by rw [UInt8.toNat_ofNat']; omega
    rw [e]
    unfold toldB
    rw [decide_eq_false (by omega), parts_big (by omega)]
    rfl
  rw [frm_not _ t hb]
  exact rparts_big (k : Nat) (by omega) t w
end
section
/-- What a frame that was read keeps to. -/
structure FOK (f : Frm) (rs : List (Nat × Nat)) : Prop where
  kind : ∃ k : Nat, f.kind = (k : Nat)
  pos : Pos f
  set : f.set = ⟨none, rs.length, 0⟩
  len : rs.length ≤ 1000
  data : f.data.length ≤ 1000000
  cid : f.cid.length ≤ 1000000
  token : f.token.length ≤ 1000000
theorem setN_texts (f : Frm) (i : Nat) (v : Int) : (setN f i v).cid = f.cid ∧ (setN f i v).token = f.token := by
  unfold setN
  split <;> exact ⟨rfl, rfl⟩
theorem numsN_texts {p : Nat} {l : List UInt8} {f : Frm} : ∀ {i : Nat} {l2 : List UInt8} {f2 : Frm}, numsN p l f i = some (l2, f2) → f2.cid = f.cid ∧ f2.token = f.token
  | 0, l2, f2, h => by
    simp only [numsN, Option.some.injEq, Prod.mk.injEq] at h
    rw [← h.2]; exact ⟨rfl, rfl⟩
  | i + 1, l2, f2, h => by
    rw [numsN] at h
    match hn : numsN p l f i with
    | none => rw [hn] at h; cases h
    | some (l1, f1) =>
      have ih := numsN_texts hn
      rw [hn, stepN_some] at h
      split at h
      · split at h
        · cases h
          exact ⟨(setN_texts _ _ _).1.trans ih.1, (setN_texts _ _ _).2.trans ih.2⟩
        · cases h
      · cases h; exact ih
theorem textsN_texts {p : Nat} {l : List UInt8} {f : Frm} {l2 : List UInt8} {f2 : Frm} (h : textsN p l f = some (l2, f2)) : f2.cid.length ≤ f.cid.length + l.length ∧ f2.token.length ≤ f.token.length + l.length := by
  unfold textsN at h
  split at h
  · split at h
    · cases h
      exact ⟨by simp only; omega, by simp only; omega⟩
    · cases h
  · split at h
    · cases h
      exact ⟨by simp only; omega, by simp only; omega⟩
    · split at h
      · match l, h with
        | [], h => cases h
        | c :: t, h =>
          simp only at h
          split at h
          · rename_i hg
            cases h
            exact ⟨by simp only [List.length_take, List.length_cons]; omega, by simp only [List.length_take, List.length_drop, List.length_cons]; omega⟩
          · cases h
      · split at h
        · split at h
          · cases h
            exact ⟨by simp only; omega, by simp only [List.length_take]; omega⟩
          · cases h
        · cases h
          exact ⟨by omega, by omega⟩
theorem frm_ok {l : List UInt8} {f : Frm} {rs : List (Nat × Nat)} {r : List UInt8} (hl : l.length ≤ 5000) (h : frmN l = some (f, rs, r)) : FOK f rs := by
  have hr := frmN_read h
  have ht : f.cid.length ≤ l.length ∧ f.token.length ≤ l.length := by
    match l, h with
    | [], h => cases h
    | c :: t, h =>
      rw [frmN_cons] at h
      split at h
      · split at h
        · match ha : ackN t with
          | none => rw [ha] at h; cases h
          | some (d, rs', r') =>
            rw [ha] at h
            simp only [Option.some.injEq, Prod.mk.injEq] at h
            obtain ⟨h1, h2, h3⟩ := h
            subst h1
            exact ⟨by simp [frZ], by simp [frZ]⟩
        · unfold plainN at h
          match hn : numsN (toldP c.toNat) t { frZ with kind := (toldK c.toNat : Nat) } 7 with
          | none => rw [hn] at h; cases h
          | some (l2, f2) =>
            rw [hn] at h
            simp only at h
            obtain ⟨e1, e2⟩ := numsN_texts hn
            have hl2 := numsN_len hn
            match hx : textsN (toldP c.toNat) l2 { f2 with fin := (toldP c.toNat).testBit 10 } with
            | none => rw [hx] at h; cases h
            | some (r', f') =>
              rw [hx] at h
              simp only [Option.some.injEq, Prod.mk.injEq] at h
              obtain ⟨h1, h2, h3⟩ := h
              subst h1
              obtain ⟨k1, k2⟩ := textsN_texts hx
              simp only [e1, e2] at k1 k2
              simp [frZ] at k1 k2
              rw [List.length_cons]
              exact ⟨by omega, by omega⟩
      · cases h
  exact ⟨hr.kind, hr.pos, hr.set, by have := hr.len; omega, by have := hr.data; omega, by omega, by omega⟩
theorem rmay_ok (f : Frm) (rs : List (Nat × Nat)) (hf : FOK f rs) (sl : Sl) (W : World) (hn : sl.n = rs.length) (hrd : Rd W (.slice sl.a sl.n sl.c) (ints rs)) :
    Calls Tryd.prog 23 #[.agg #[.int .u64 f.kind, .int .u64 f.id, .int .u64 f.off, .int .u64 f.max, .int .u64 f.code, .int .u64 f.seq, .int .u64 f.prior, .int .u64 f.delay, .bool f.fin, .string ⟨f.data.toArray⟩, .string ⟨f.cid.toArray⟩, .string ⟨f.token.toArray⟩, .slice sl.a sl.n sl.c]] W fun e w' => e = .returned (.bool (mayF f.kind.toNat f (ints rs))) ∧ Below W.heap.size W w' := by
  obtain ⟨k, hk⟩ := hf.kind
  have h1 := rmayf k { f with set := sl } (ints rs) W hk (fun j => hf.pos j) hrd (ints_pos rs) (by rw [ints_len]; exact hf.len) hf.data hf.cid hf.token
  have e0 : f.kind.toNat = k := by rw [hk]; exact Int.toNat_natCast k
  rw [e0]
  rw [may_cn k f (ints rs) sl (by rw [hn, hf.set])] at h1
  exact h1
theorem rGet_of (l : List UInt8) (o : Option (Frm × List (Nat × Nat) × List UInt8)) (w : World) (hl : l.length ≤ 4000) (hg : gk l ≤ l.length) (hs : sz (gN l) = gk l) (CP : ∀ W, Calls Tryd.prog 22 #[.int .u64 (gN l : Nat), .string ⟨(gR l).toArray⟩] W (PtTo o W)) (HF : ∀ f rs q, o = some (f, rs, q) → FOK f rs) :
    Calls Tryd.prog 7 #[.string ⟨l.toArray⟩] w (GetD (mayO o) w) := by
  match o, CP, HF with
  | none, CP, HF => exact rGet_none l w hl hg hs CP
  | some (f, rs, q), CP, HF =>
    have hf := HF f rs q rfl
    unfold mayO
    simp only
    by_cases hm : mayF f.kind.toNat f (ints rs) = true
    · rw [if_pos hm]
      refine rGet_yes l f rs q w hl hg hs CP (fun sl W hn hrd => ?_)
      have h := rmay_ok f rs hf sl W hn hrd
      rw [hm] at h
      exact h
    · rw [if_neg hm]
      refine rGet_not l f rs q w hl hg hs CP (fun sl W hn hrd => ?_)
      have h := rmay_ok f rs hf sl W hn hrd
      rw [show mayF f.kind.toNat f (ints rs) = false by simpa using hm] at h
      exact h
theorem told_64 : ∀ c : Fin 256, 64 ≤ c.val → toldB c.val = false := by decide
theorem get_64 (c : UInt8) (t : List UInt8) (h : 64 ≤ c.toNat) : getN (c :: t) = none := by
  rw [getN_mayO, frm_not c t (told_64 ⟨c.toNat, c.toNat_lt⟩ h)]
  rfl
theorem sz_one {n : Nat} (h : n < 64) : sz n = 1 := by
  unfold sz pl
  simp [h, wd]
/-- What the document's Get tells of any bytes. -/
theorem rGet_any (l : List UInt8) (w : World) (hl : l.length ≤ 4000) : Calls Tryd.prog 7 #[.string ⟨l.toArray⟩] w (GetD (getN l) w) := by
  by_cases hg : gk l ≤ l.length
  case neg =>
    have e : getN l = none := by
      match l, hg with
      | [], _ => rfl
      | c :: t, hg =>
        refine get_64 c t ?_
        by_cases hc : 64 ≤ c.toNat
        · exact hc
        · refine absurd ?_ hg
          show wd (c.toNat / 64) ≤ _
          rw [show c.toNat / 64 = 0 by omega]
          simp [wd]
    rw [e]
    exact rGet_short l w hl hg
  match l, hl, hg with
  | [], hl, hg => exact absurd hg (by decide)
  | c :: t, hl, hg =>
    by_cases hc : 64 ≤ c.toNat
    · rw [get_64 c t hc]
      by_cases hs : sz (gN (c :: t)) = gk (c :: t)
      · refine rGet_none _ w hl hg hs (fun W => rparts_big _ ?_ _ W)
        have h1 : gk (c :: t) ≠ 1 := by
          show wd (c.toNat / 64) ≠ 1
          have := c.toNat_lt
          have h3 : c.toNat / 64 = 1 ∨ c.toNat / 64 = 2 ∨ c.toNat / 64 = 3 := by omega
          rcases h3 with h | h | h <;> rw [h] <;> decide
        rw [← hs] at h1
        by_cases h4 : gN (c :: t) < 64
        · exact absurd (sz_one h4) h1
        · omega
      · exact rGet_wide _ w hl hg hs
    · have hk : gk (c :: t) = 1 := by
        show wd (c.toNat / 64) = 1
        rw [show c.toNat / 64 = 0 by omega]
        rfl
      have hN : gN (c :: t) = c.toNat := by
        unfold gN
        rw [if_pos hg, hk]
        unfold gn
        simp [bk]
        omega
      have hR : gR (c :: t) = t := by
        unfold gR
        rw [if_pos hg, hk]
        rfl
      have hlt : t.length ≤ 4000 := by rw [List.length_cons] at hl; omega
      have hs : sz (gN (c :: t)) = gk (c :: t) := by rw [hN, hk]; exact sz_one (by omega)
      have hcc : UInt8.ofNat c.toNat = c := UInt8.ofNat_toNat
      by_cases h24 : c.toNat = 24
      · have e24 : c = 24 := by rw [← hcc, h24]; rfl
        subst e24
        rw [get_24]
        refine rGet_of _ _ w hl hg hs (fun W => ?_) (fun f rs q ho => ?_)
        · rw [hN, hR]
          exact rparts_24 t W hlt
        · match hx : gst t 2 with
          | none => rw [hx] at ho; cases ho
          | some (acc, r) =>
            rw [hx] at ho
            simp only at ho
            split at ho
            · simp only [Option.some.injEq, Prod.mk.injEq] at ho
              obtain ⟨h1, h2, h3⟩ := ho
              subst h1; subst h2
              exact ⟨⟨24, rfl⟩, fun j => by unfold nm frZ; split <;> simp, rfl, by simp, by simp [frZ], by simp only [List.length_take]; omega, by simp only [List.length_take]; omega⟩
            · cases ho
      · rw [getN_mayO]
        refine rGet_of _ _ w hl hg hs (fun W => ?_) (fun f rs q ho => frm_ok (by omega) ho)
        rw [hN, hR]
        by_cases h2 : c.toNat = 2
        · have e2 : c = 2 := by rw [← hcc, h2]; rfl
          subst e2
          exact rparts_2 t W hlt
        · have h := rparts_any c.toNat (by omega) h2 h24 t W hlt
          rw [hcc] at h
          exact h
end
section
def AllTd (o : Option (List (Frm × List (Nat × Nat)))) (w : World) (e : Ending) (w' : World) : Prop :=
  Below w.heap.size w w' ∧ match o with
  | none => e = .returned (.tuple #[.slice none 0 0, .int .i64 60])
  | some acc => ∃ v G Ls, AllI 34 w v G Ls w' ∧ Is G Ls acc ∧ e = .returned (.tuple #[v, .int .i64 0])
set_option maxRecDepth 100000 in
set_option maxHeartbeats 16000000 in
theorem rall_any (l : List UInt8) (w : World) (hl : l.length ≤ 4000) : Calls Tryd.prog 9 #[.string ⟨l.toArray⟩] w fun e w' => AllTd (allN l.length l []) w e w' := by
  have CG := Lib.hid (fun (s : List UInt8) (W : World) (hs : s.length ≤ 4000) => rGet_any s W hs)
  by_cases hl0 : l = []
  · subst hl0
    clear CG
    have HB := Lib.hid ((Below.refl w.heap.size w).alloc (Nat.le_refl _) (.cells #[] 34))
    go_enter Tryd.func9, Tryd.ntmps9
    go_wp2_with fail
    go_ret2
    exact ⟨HB.out, rfl⟩
  obtain ⟨T, hT⟩ : ∃ T, allN l.length l [] = T := ⟨_, rfl⟩
  have HT := Lib.hid hT
  rw [hT]
  have HL := Lib.hid hl
  have hle := isE_not hl0
  have HL0 := Lib.hid hl0
  clear hT hl hl0
  go_enter Tryd.func9, Tryd.ntmps9
  go_wp2_with fail
  go_loopw [0, 4] (fun sv lv wr => ∃ (k : Nat) (s : List UInt8) (acc : List (Frm × List (Nat × Nat))) (a : Option Addr) (c : Nat) (G : List Frm) (Ls : List (List Ran)), sv = .string ⟨s.toArray⟩ ∧ lv = .slice a acc.length c ∧ s.length ≤ k ∧ s.length ≤ 4000 ∧ acc.length ≤ 40 ∧ ((s = [] → T = some acc) ∧ (s ≠ [] → allN k s acc = T)) ∧ Is G Ls acc ∧ AllI 34 w (.slice a acc.length c) G Ls wr) (fun sv _ _ => (match sv with | .string b => b.size | _ => 0))
  case atStart => exact ⟨l.length, l, [], _, _, [], [], rfl, rfl, Nat.le_refl _, HL.out, by decide, ⟨fun h => absurd h HL0.out, fun _ => HT.out⟩, ⟨rfl, rfl⟩, AllI.empty _ w w (Below.refl _ _)⟩
  case round =>
    clear hle HL0
    obtain ⟨k, s, acc, a, c, G, Ls, rfl, rfl, hk, hs, hacc, hN, hI, hA⟩ := hrel
    have HA := Lib.hid hA
    have HI := Lib.hid hI
    have CGs := Lib.hid (CG.out s wr hs)
    clear CG HT HL hA hI
    by_cases hs0 : s = []
    · have HV : Hid (T = some acc) := Lib.hid (hN.1 hs0)
      have hse := isE_nil hs0
      clear hN hs0 CGs hk hs hacc
      go_wp2_with fail
      go_ret2
      rw [HV.out]
      exact ⟨HA.out.bel, _, G, Ls, HA.out, HI.out, rfl⟩
    have hse := isE_not hs0
    replace hN := hN.2 hs0
    clear hs0
    match hg : getN s with
    | none =>
      have HV : Hid (T = none) := Lib.hid (by
        rw [← hN]
        match k with
        | 0 => rfl
        | k + 1 => rw [allN, hg])
      rw [hg] at CGs
      clear hN hg hk hs hacc
      go_wp2_with fail
      refine CGs.out.mono ?_
      rintro e w1 ⟨hb, rfl⟩
      have HB := Lib.hid ((HA.out.bel.trans (hb.mono HA.out.bel.size)).alloc (Nat.le_trans HA.out.bel.size hb.size) (.cells #[.int .u64 frZ.kind, .int .u64 frZ.id, .int .u64 frZ.off, .int .u64 frZ.max, .int .u64 frZ.code, .int .u64 frZ.seq, .int .u64 frZ.prior, .int .u64 frZ.delay, .bool frZ.fin, .string ⟨frZ.data.toArray⟩, .string ⟨frZ.cid.toArray⟩, .string ⟨frZ.token.toArray⟩, .slice frZ.set.a frZ.set.n frZ.set.c] 34))
      clear hb
      go_wp2_with fail
      go_ret2
      rw [HV.out]
      exact ⟨HB.out, rfl⟩
    | some (f, rs, r) =>
      obtain ⟨_, _, pre, hpre, hpn⟩ := getN_is hg
      have hrl : r.length + 1 ≤ s.length := by
        rw [hpre, List.length_append]
        have : 0 < pre.length := List.length_pos_iff.2 hpn
        omega
      obtain ⟨j, rfl⟩ : ∃ j, k = j + 1 := ⟨k - 1, by omega⟩
      rw [allN, hg] at hN
      have HN := Lib.hid hN
      simp only at HN
      rw [hg] at CGs
      have HRL := Lib.hid hrl
      have HKK := Lib.hid hk
      have HSS := Lib.hid hs
      have HAC := Lib.hid hacc
      clear hN hg hpre hpn hrl hk hs hacc
      go_wp2_with fail
      refine CGs.out.mono ?_
      rintro e w1 ⟨hb, sl, h1, h2, h3, he⟩
      obtain ⟨F, hF⟩ : ∃ F : Frm, ({ f with set := sl } : Frm) = F := ⟨_, rfl⟩
      have hFk : F.kind = f.kind := by rw [← hF]
      have hFs : F.set = sl := by rw [← hF]
      have he2 : e = .returned (.tuple #[.agg #[.int .u64 F.kind, .int .u64 F.id, .int .u64 F.off, .int .u64 F.max, .int .u64 F.code, .int .u64 F.seq, .int .u64 F.prior, .int .u64 F.delay, .bool F.fin, .string ⟨F.data.toArray⟩, .string ⟨F.cid.toArray⟩, .string ⟨F.token.toArray⟩, .slice F.set.a F.set.n F.set.c], .string ⟨r.toArray⟩, .int .i64 0]) := by rw [← hF]; exact he
      clear he
      subst he2
      have HA1 := Lib.hid (HA.out.go hb)
      have HB0 : Hid (Below w1.heap.size w1 (w1.alloc (.cells #[.int .u64 F.kind, .int .u64 F.id, .int .u64 F.off, .int .u64 F.max, .int .u64 F.code, .int .u64 F.seq, .int .u64 F.prior, .int .u64 F.delay, .bool F.fin, .string ⟨F.data.toArray⟩, .string ⟨F.cid.toArray⟩, .string ⟨F.token.toArray⟩, .slice F.set.a F.set.n F.set.c] 34))) := Lib.hid ((Below.refl _ _).alloc (Nat.le_refl _) _)
      have HFB : Hid (FrD w1.heap.size F (w1.alloc (.cells #[.int .u64 F.kind, .int .u64 F.id, .int .u64 F.off, .int .u64 F.max, .int .u64 F.code, .int .u64 F.seq, .int .u64 F.prior, .int .u64 F.delay, .bool F.fin, .string ⟨F.data.toArray⟩, .string ⟨F.cid.toArray⟩, .string ⟨F.token.toArray⟩, .slice F.set.a F.set.n F.set.c] 34))) := Lib.hid (World.alloc_heap_new w1 _)
      have HA2 := Lib.hid (HA1.out.go HB0.out)
      have HRD : Hid (Rd (w1.alloc (.cells #[.int .u64 F.kind, .int .u64 F.id, .int .u64 F.off, .int .u64 F.max, .int .u64 F.code, .int .u64 F.seq, .int .u64 F.prior, .int .u64 F.delay, .bool F.fin, .string ⟨F.data.toArray⟩, .string ⟨F.cid.toArray⟩, .string ⟨F.token.toArray⟩, .slice F.set.a F.set.n F.set.c] 34)) (.slice F.set.a F.set.n F.set.c) (ints rs)) := Lib.hid (Rd.below (show Rd w1 (.slice F.set.a F.set.n F.set.c) (ints rs) by rw [hFs]; exact h2) HB0.out)
      have HFAR : Hid (∀ x, F.set.a = some x → (Value.slice a acc.length c).ownBlock ≠ some x.block) := Lib.hid (fun x hx => own_not HA.out x.block (h3 x (by rw [← hFs]; exact hx)))
      have HSL := Lib.hid hF
      have HIS : Hid (Is (G ++ [F]) (Ls ++ [ints rs]) (acc ++ [(f, rs)])) := Lib.hid (hF ▸ HI.out.push f rs sl)
      by_cases hk0 : f.kind = 0
      · have e0 : (F.kind != 0) = false := by rw [hFk, hk0]; rfl
        rw [if_pos hk0] at HN
        have HN2 : Hid ((if r = [] then some acc else allN j r acc) = T) := Lib.hid (by have := HN.out; rwa [if_neg (by have := HAC.out; omega)] at this)
        have hm : ¬ (40 : Int) < (acc.length : Int) := by have := HAC.out; omega
        have c0 := HFB.out.at0
        clear hb h1 h2 h3 hFk hFs hF hk0 HN HRD HFAR HIS
        go_wp2_with fail
        go_roundw
        case rel => exact ⟨j, r, acc, a, c, G, Ls, rfl, rfl, by have := HRL.out; have := HKK.out; omega, by have := HRL.out; have := HSS.out; omega, HAC.out, ⟨fun hr => by have := HN2.out; rw [if_pos hr] at this; exact this.symm, fun hr => by have := HN2.out; rwa [if_neg hr] at this⟩, HI.out, HA2.out⟩
        case measure =>
          have := HRL.out
          show (⟨r.toArray⟩ : ByteArray).size < (⟨s.toArray⟩ : ByteArray).size
          show r.length < s.length
          omega
      · have e0 : (F.kind != 0) = true := by rw [hFk, bne_iff_ne]; exact hk0
        rw [if_neg hk0] at HN
        have hlen : G.length = acc.length := HI.out.len
        obtain ⟨va, vc, w4, HR, HP⟩ := HA2.out.push tyD (by have := HAC.out; omega) F (ints rs) HRD.out (fun _ => HFAR.out) 40
        rw [hlen] at HR HP
        rw [World.size_alloc] at HR
        have HRU := Lib.hid HR
        have HPU := Lib.hid HP
        have hal : (acc ++ [(f, rs)]).length = acc.length + 1 := by simp
        obtain ⟨c0, c1, c2, c3, c4, c5, c6, c7, c8, c9, c10, c11, c12⟩ := HFB.out.ats
        by_cases hm : 40 < acc.length + 1
        · have hmi : (40 : Int) < (acc.length : Int) + 1 := by omega
          have HV : Hid (T = none) := Lib.hid (by have := HN.out; rw [if_pos (by rw [hal]; exact hm)] at this; exact this.symm)
          clear hb h1 h2 h3 hFk hFs hF hk0 HN HR HP hm hal
          go_wp2_with (at_builtin; refine Lib.wpList_append_run _ rfl _ _ _ _ rfl _ _ rfl rfl _ _ HRU.out ?_)
          go_ret2
          rw [HV.out]
          exact ⟨HPU.out.bel, rfl⟩
        · have hmi : ¬ (40 : Int) < (acc.length : Int) + 1 := by omega
          have HN2 : Hid ((if r = [] then some (acc ++ [(f, rs)]) else allN j r (acc ++ [(f, rs)])) = T) := Lib.hid (by have := HN.out; rwa [if_neg (by rw [hal]; exact hm)] at this)
          have HM : Hid (acc.length + 1 ≤ 40) := Lib.hid (by omega)
          clear hb h1 h2 h3 hFk hFs hF hk0 HN HR HP hm
          have HAL := Lib.hid hal
          clear hal
          go_wp2_with (at_builtin; refine Lib.wpList_append_run _ rfl _ _ _ _ rfl _ _ rfl rfl _ _ HRU.out ?_)
          go_roundw
          case rel => exact ⟨j, r, acc ++ [(f, rs)], va, vc, _, _, rfl, by rw [HAL.out], by have := HRL.out; have := HKK.out; omega, by have := HRL.out; have := HSS.out; omega, by rw [HAL.out]; exact HM.out, ⟨fun hr => by have := HN2.out; rw [if_pos hr] at this; exact this.symm, fun hr => by have := HN2.out; rwa [if_neg hr] at this⟩, HIS.out, by rw [HAL.out]; exact HPU.out⟩
          case measure =>
            have := HRL.out
            show (⟨r.toArray⟩ : ByteArray).size < (⟨s.toArray⟩ : ByteArray).size
            show r.length < s.length
            omega
end
section
def gX (o : Option (Frm × List (Nat × Nat) × List UInt8)) : Frm := match o with | none => bl frZ | some (f, _, _) => bl f
def gL (o : Option (Frm × List (Nat × Nat) × List UInt8)) : List Ran := match o with | none => [] | some (_, rs, _) => ints rs
def gT (o : Option (Frm × List (Nat × Nat) × List UInt8)) : List UInt8 := match o with | none => [] | some (_, _, r) => r
def gC (o : Option (Frm × List (Nat × Nat) × List UInt8)) : Int := match o with | none => 60 | some _ => 0
def aG (o : Option (List (Frm × List (Nat × Nat)))) : List Frm := match o with | none => [] | some acc => acc.map (fun p => bl p.1)
def aL (o : Option (List (Frm × List (Nat × Nat)))) : List (List Ran) := match o with | none => [] | some acc => acc.map (fun p => ints p.2)
def aC (o : Option (List (Frm × List (Nat × Nat)))) : Int := match o with | none => 60 | some _ => 0
theorem gL_len (l : List UInt8) : (gL (getN l)).length ≤ 1000 := by
  match h : getN l with
  | none => exact Nat.zero_le _
  | some (f, rs, r) =>
    obtain ⟨h1, _⟩ := getN_is h
    have h2 := (frmN_read h1).len
    show (ints rs).length ≤ 1000
    rw [ints_len]
    omega
theorem allN_ok : ∀ (k : Nat) (s : List UInt8) (acc acc2 : List (Frm × List (Nat × Nat))), (∀ p ∈ acc, p.2.length ≤ 32) → allN k s acc = some acc2 → acc2.length ≤ 40 ∧ ∀ p ∈ acc2, p.2.length ≤ 32
  | 0, _, _, _, _, h => by cases h
  | k + 1, s, acc, acc2, ha, h => by
    rw [allN] at h
    match hg : getN s with
    | none => rw [hg] at h; cases h
    | some (f, rs, r) =>
      rw [hg] at h
      simp only at h
      obtain ⟨h1, _⟩ := getN_is hg
      have h2 := (frmN_read h1).len
      have ha2 : ∀ p ∈ (if f.kind = 0 then acc else acc ++ [(f, rs)]), p.2.length ≤ 32 := by
        split
        · exact ha
        · intro p hp
          rcases List.mem_append.1 hp with hp | hp
          · exact ha p hp
          · rw [List.mem_singleton.1 hp]; exact h2
      generalize (if f.kind = 0 then acc else acc ++ [(f, rs)]) = X at h ha2
      split at h
      · cases h
      · rename_i h40
        split at h
        · injection h with h
          subst h
          exact ⟨by omega, ha2⟩
        · exact allN_ok k r _ acc2 ha2 h
theorem aL_len (l : List UInt8) (i : Nat) : ((aL (allN l.length l [])).getD i []).length ≤ 1000 := by
  match h : allN l.length l [] with
  | none => simp [aL]
  | some acc =>
    have h1 := (allN_ok _ _ _ _ (by simp) h).2
    show ((acc.map (fun p => ints p.2)).getD i []).length ≤ 1000
    by_cases hi : i < acc.length
    · have e : (acc.map (fun p => ints p.2)).getD i [] = ints (acc[i]).2 := by simp [List.getD, hi]
      rw [e, ints_len]
      have := h1 _ (List.getElem_mem hi)
      omega
    · simp [List.getD, hi]
theorem aG_len (l : List UInt8) : (aG (allN l.length l [])).length ≤ 1000 := by
  match h : allN l.length l [] with
  | none => exact Nat.zero_le _
  | some acc =>
    have h1 := (allN_ok _ _ _ _ (by simp) h).1
    show (acc.map (fun p => bl p.1)).length ≤ 1000
    rw [List.length_map]
    omega
theorem pget_u (l : List UInt8) (w : World) (ht : Tab w) (hl : l.length ≤ 4000) : Calls Tryd.prog 6 #[.string ⟨l.toArray⟩] w fun e w' => Below w.heap.size w w' ∧ ∃ F : Frm, bl F = gX (getN l) ∧ Rd w' (.slice F.set.a F.set.n F.set.c) (gL (getN l)) ∧ e = .returned (.tuple #[.agg #[.int .u64 F.kind, .int .u64 F.id, .int .u64 F.off, .int .u64 F.max, .int .u64 F.code, .int .u64 F.seq, .int .u64 F.prior, .int .u64 F.delay, .bool F.fin, .string ⟨F.data.toArray⟩, .string ⟨F.cid.toArray⟩, .string ⟨F.token.toArray⟩, .slice F.set.a F.set.n F.set.c], .string ⟨(gT (getN l)).toArray⟩, .int .i64 (gC (getN l))]) := by
  refine (get_any l w ht (by omega)).mono ?_
  rintro e w' ⟨hb, h⟩
  refine ⟨hb, ?_⟩
  match hg : getN l with
  | none =>
    rw [hg] at h
    exact ⟨frZ, rfl, rd_none _, h⟩
  | some (f, rs, r) =>
    rw [hg] at h
    obtain ⟨sl, h1, h2, h3, h4⟩ := h
    exact ⟨{ f with set := sl }, rfl, h2, h4⟩
theorem dget_u (l : List UInt8) (w : World) (hl : l.length ≤ 4000) : Calls Tryd.prog 7 #[.string ⟨l.toArray⟩] w fun e w' => Below w.heap.size w w' ∧ ∃ F : Frm, bl F = gX (getN l) ∧ Rd w' (.slice F.set.a F.set.n F.set.c) (gL (getN l)) ∧ e = .returned (.tuple #[.agg #[.int .u64 F.kind, .int .u64 F.id, .int .u64 F.off, .int .u64 F.max, .int .u64 F.code, .int .u64 F.seq, .int .u64 F.prior, .int .u64 F.delay, .bool F.fin, .string ⟨F.data.toArray⟩, .string ⟨F.cid.toArray⟩, .string ⟨F.token.toArray⟩, .slice F.set.a F.set.n F.set.c], .string ⟨(gT (getN l)).toArray⟩, .int .i64 (gC (getN l))]) := by
  refine (rGet_any l w hl).mono ?_
  rintro e w' ⟨hb, h⟩
  refine ⟨hb, ?_⟩
  match hg : getN l with
  | none =>
    rw [hg] at h
    exact ⟨frZ, rfl, rd_none _, h⟩
  | some (f, rs, r) =>
    rw [hg] at h
    obtain ⟨sl, h1, h2, h3, h4⟩ := h
    exact ⟨{ f with set := sl }, rfl, h2, h4⟩
theorem pall_u (l : List UInt8) (w : World) (ht : Tab w) (hl : l.length ≤ 4000) : Calls Tryd.prog 8 #[.string ⟨l.toArray⟩] w fun e w' => Below w.heap.size w w' ∧ ∃ (v : Value) (G : List Frm) (w0 : World), AllI 27 w0 v G (aL (allN l.length l [])) w' ∧ G.map bl = aG (allN l.length l []) ∧ e = .returned (.tuple #[v, .int .i64 (aC (allN l.length l []))]) := by
  refine (pall_any l w ht (by omega)).mono ?_
  rintro e w' ⟨hb, h⟩
  refine ⟨hb, ?_⟩
  match hg : allN l.length l [] with
  | none =>
    rw [hg] at h
    exact ⟨_, [], w', AllI.start _ w' w' (Below.refl _ _), rfl, h⟩
  | some acc =>
    rw [hg] at h
    obtain ⟨v, G, Ls, h1, h2, h3⟩ := h
    have e2 := h2.l
    subst e2
    exact ⟨v, G, w, h1, h2.g, h3⟩
theorem dall_u (l : List UInt8) (w : World) (hl : l.length ≤ 4000) : Calls Tryd.prog 9 #[.string ⟨l.toArray⟩] w fun e w' => Below w.heap.size w w' ∧ ∃ (v : Value) (G : List Frm) (w0 : World), AllI 34 w0 v G (aL (allN l.length l [])) w' ∧ G.map bl = aG (allN l.length l []) ∧ e = .returned (.tuple #[v, .int .i64 (aC (allN l.length l []))]) := by
  refine (rall_any l w hl).mono ?_
  rintro e w' ⟨hb, h⟩
  refine ⟨hb, ?_⟩
  match hg : allN l.length l [] with
  | none =>
    rw [hg] at h
    exact ⟨_, [], w', AllI.start _ w' w' (Below.refl _ _), rfl, h⟩
  | some acc =>
    rw [hg] at h
    obtain ⟨v, G, Ls, h1, h2, h3⟩ := h
    have e2 := h2.l
    subst e2
    exact ⟨v, G, w, h1, h2.g, h3⟩
/-- its and Same, all and SameAll, of what is alike. -/
theorem its_u (F : Frm) (L : List Ran) (w : World) (hrd : Rd w (.slice F.set.a F.set.n F.set.c) L) (hl : L.length ≤ 1000) :
    Calls Tryd.prog 11 #[.agg #[.int .u64 F.kind, .int .u64 F.id, .int .u64 F.off, .int .u64 F.max, .int .u64 F.code, .int .u64 F.seq, .int .u64 F.prior, .int .u64 F.delay, .bool F.fin, .string ⟨F.data.toArray⟩, .string ⟨F.cid.toArray⟩, .string ⟨F.token.toArray⟩, .slice F.set.a F.set.n F.set.c]] w fun e w' => ∃ (sa : Option Addr) (sc : Nat), e = .returned (.agg #[.int .u64 F.kind, .int .u64 F.id, .int .u64 F.off, .int .u64 F.max, .int .u64 F.code, .int .u64 F.seq, .int .u64 F.prior, .int .u64 F.delay, .bool F.fin, .string ⟨F.data.toArray⟩, .string ⟨F.cid.toArray⟩, .string ⟨F.token.toArray⟩, .slice sa L.length sc]) ∧ Rd w' (.slice sa L.length sc) L ∧ Below w.heap.size w w' :=
  (its_new F L w hrd hl).mono (by rintro e w' ⟨sa, sc, h1, h2, h3, _⟩; exact ⟨sa, sc, h1, h2, h3⟩)
theorem same_u (F G : Frm) (L : List Ran) (sa : Option Addr) (sc : Nat) (w : World) (h : bl F = bl G) (h1 : Rd w (.slice sa L.length sc) L) (h2 : Rd w (.slice G.set.a G.set.n G.set.c) L) (hl : L.length ≤ 1000) :
    Calls Tryd.prog 10 #[.agg #[.int .u64 F.kind, .int .u64 F.id, .int .u64 F.off, .int .u64 F.max, .int .u64 F.code, .int .u64 F.seq, .int .u64 F.prior, .int .u64 F.delay, .bool F.fin, .string ⟨F.data.toArray⟩, .string ⟨F.cid.toArray⟩, .string ⟨F.token.toArray⟩, .slice sa L.length sc], .agg #[.int .u64 G.kind, .int .u64 G.id, .int .u64 G.off, .int .u64 G.max, .int .u64 G.code, .int .u64 G.seq, .int .u64 G.prior, .int .u64 G.delay, .bool G.fin, .string ⟨G.data.toArray⟩, .string ⟨G.cid.toArray⟩, .string ⟨G.token.toArray⟩, .slice G.set.a G.set.n G.set.c]] w fun e w' => e = .returned (.bool true) ∧ Below w.heap.size w w' := by
  have h3 := dsame_any { F with set := ⟨sa, L.length, sc⟩ } G L L w hl hl h1 h2
  rw [bl_same (f := { F with set := ⟨sa, L.length, sc⟩ }) (show bl { F with set := ⟨sa, L.length, sc⟩ } = bl G from h) L] at h3
  exact h3
theorem all_u {T : TypeId} (v : Value) (G : List Frm) (Ls : List (List Ran)) (w0 w : World) (h : AllI T w0 v G Ls w) (hs : ∀ i, (Ls.getD i []).length ≤ 1000) (hn : G.length ≤ 1000) :
    Calls Tryd.prog 13 #[v] w fun e w' => ∃ v' G', e = .returned v' ∧ AllI 34 w v' G' Ls w' ∧ G'.map bl = G.map bl :=
  all_any v G Ls w h.row h.len h.rd (fun i _ => hs i) hn
theorem sall_u {T1 T2 : TypeId} (v1 v2 : Value) (G H : List Frm) (Ls : List (List Ran)) (a1 a2 w : World) (h1 : AllI T1 a1 v1 G Ls w) (h2 : AllI T2 a2 v2 H Ls w) (hm : G.map bl = H.map bl) (hs : ∀ i, (Ls.getD i []).length ≤ 1000) (hn : G.length ≤ 1000) :
    Calls Tryd.prog 12 #[v1, v2] w fun e w' => e = .returned (.bool true) ∧ Below w.heap.size w w' :=
  sameall_any v1 v2 G H Ls w h1.row h2.row hm hn h1.rd h2.rd (fun i _ => hs i)
end
section
set_option maxHeartbeats 4000000 in
theorem gets_long (l : List UInt8) (w : World) (ht : Tab w) (hl : 1500 < l.length) (hm : l.length ≤ 9223372036854775807) :
    Calls Tryd.prog 3 #[.string ⟨l.toArray⟩] w fun e w' => e = .returned (.bool true) ∧ Below w.heap.size w w' := by
  have CS := Lib.hid (fun w ht => shown_any w ht)
  have HT := Lib.hid ht
  have hd : (1500 : Int) < (l.length : Int) := by omega
  have hd2 : decide ((1500 : Int) < (l.length : Int)) = true := decide_eq_true hd
  clear ht hl
  go_enter Tryd.func3, Tryd.ntmps3
  go_wp2_with fail
  refine (CS.out _ HT.out).mono ?_
  rintro e w2 ⟨rfl, hb⟩
  have HB2 := Lib.hid hb
  clear hb
  go_wp2
  go_ret
  exact ⟨rfl, HB2.out⟩
set_option maxRecDepth 100000 in
set_option maxHeartbeats 16000000 in
theorem gets_in (l : List UInt8) (w : World) (ht : Tab w) (hl : l.length ≤ 1500) :
    Calls Tryd.prog 3 #[.string ⟨l.toArray⟩] w fun e w' => e = .returned (.bool true) ∧ Below w.heap.size w w' := by
  have CS0 := Lib.hid (fun w ht => shown_any w ht)
  have HT := Lib.hid ht
  have hd : ¬ (1500 : Int) < (l.length : Int) := by omega
  have hd2 : decide ((1500 : Int) < (l.length : Int)) = false := decide_eq_false hd
  have CG1 := Lib.hid (fun w ht => pget_u l w ht (by omega))
  have CG2 := Lib.hid (fun w => dget_u l w (by omega))
  have CA1 := Lib.hid (fun w ht => pall_u l w ht (by omega))
  have CA2 := Lib.hid (fun w => dall_u l w (by omega))
  have HLL := Lib.hid (gL_len l)
  have HAL := Lib.hid (aL_len l)
  have HGL := Lib.hid (aG_len l)
  generalize gX (getN l) = X at CG1 CG2
  generalize gL (getN l) = L at CG1 CG2 HLL
  generalize gT (getN l) = T at CG1 CG2
  generalize gC (getN l) = C at CG1 CG2
  generalize aL (allN l.length l []) = Ls at CA1 CA2 HAL
  generalize aG (allN l.length l []) = A at CA1 CA2 HGL
  generalize aC (allN l.length l []) = C2 at CA1 CA2
  clear ht hl
  go_enter Tryd.func3, Tryd.ntmps3
  go_wp2_with fail
  refine (CS0.out _ HT.out).mono ?_
  rintro e w1 ⟨rfl, hb⟩
  have HB1 := Lib.hid hb
  have HT1 := Lib.hid (HT.out.below HB1.out HT.out.lt)
  clear hb
  go_wp2_with fail
  refine (CG1.out _ HT1.out).mono ?_
  rintro e w2 ⟨hb, F, hX, hrd, rfl⟩
  have HD : Hid (Below w2.heap.size w2 (w2.alloc (.cells #[.int .u64 F.kind, .int .u64 F.id, .int .u64 F.off, .int .u64 F.max, .int .u64 F.code, .int .u64 F.seq, .int .u64 F.prior, .int .u64 F.delay, .bool F.fin, .string ⟨F.data.toArray⟩, .string ⟨F.cid.toArray⟩, .string ⟨F.token.toArray⟩, .slice F.set.a F.set.n F.set.c] 27 (0, 0)))) := Lib.hid ((Below.refl _ _).alloc (Nat.le_refl _) _)
  have HFf : Hid (FrB w2.heap.size F (w2.alloc (.cells #[.int .u64 F.kind, .int .u64 F.id, .int .u64 F.off, .int .u64 F.max, .int .u64 F.code, .int .u64 F.seq, .int .u64 F.prior, .int .u64 F.delay, .bool F.fin, .string ⟨F.data.toArray⟩, .string ⟨F.cid.toArray⟩, .string ⟨F.token.toArray⟩, .slice F.set.a F.set.n F.set.c] 27 (0, 0)))) := Lib.hid (World.alloc_heap_new w2 _)
  have HFX := Lib.hid hX
  have HRf := Lib.hid (hrd.below HD.out)
  have HB2 := Lib.hid ((HB1.out.trans (hb.mono HB1.out.size)).trans (HD.out.mono (HB1.out.trans (hb.mono HB1.out.size)).size))
  clear hb hX hrd HB1 HD
  go_wp2_with fail
  refine (CG2.out _).mono ?_
  rintro e w3 ⟨hb, G, hX, hrd, rfl⟩
  have HD : Hid (Below w3.heap.size w3 (w3.alloc (.cells #[.int .u64 G.kind, .int .u64 G.id, .int .u64 G.off, .int .u64 G.max, .int .u64 G.code, .int .u64 G.seq, .int .u64 G.prior, .int .u64 G.delay, .bool G.fin, .string ⟨G.data.toArray⟩, .string ⟨G.cid.toArray⟩, .string ⟨G.token.toArray⟩, .slice G.set.a G.set.n G.set.c] 34 (0, 0)))) := Lib.hid ((Below.refl _ _).alloc (Nat.le_refl _) _)
  have HGg : Hid (FrD w3.heap.size G (w3.alloc (.cells #[.int .u64 G.kind, .int .u64 G.id, .int .u64 G.off, .int .u64 G.max, .int .u64 G.code, .int .u64 G.seq, .int .u64 G.prior, .int .u64 G.delay, .bool G.fin, .string ⟨G.data.toArray⟩, .string ⟨G.cid.toArray⟩, .string ⟨G.token.toArray⟩, .slice G.set.a G.set.n G.set.c] 34 (0, 0)))) := Lib.hid (World.alloc_heap_new w3 _)
  replace HFf := Lib.hid ((HFf.out.keep hb).keep HD.out)
  have HGX := Lib.hid hX
  have HRg := Lib.hid (hrd.below HD.out)
  replace HRf := Lib.hid ((HRf.out.below hb).below HD.out)
  have HB3 := Lib.hid ((HB2.out.trans (hb.mono HB2.out.size)).trans (HD.out.mono (HB2.out.trans (hb.mono HB2.out.size)).size))
  have HT3 := Lib.hid (HT.out.below HB3.out HT.out.lt)
  clear hb hX hrd HB2 HD
  go_wp2_with fail
  refine (CA1.out _ HT3.out).mono ?_
  rintro e w4 ⟨hb, v1, G1, a1, hA1, hm1, rfl⟩
  replace HFf := Lib.hid (HFf.out.keep hb)
  replace HGg := Lib.hid (HGg.out.keep hb)
  replace HRf := Lib.hid (HRf.out.below hb)
  replace HRg := Lib.hid (HRg.out.below hb)
  have HA1 := Lib.hid hA1
  have HM1 := Lib.hid hm1
  have HB4 := Lib.hid (HB3.out.trans (hb.mono HB3.out.size))
  clear hb hA1 hm1 HB3 HT3
  go_wp2_with fail
  refine (CA2.out _).mono ?_
  rintro e w5 ⟨hb, v2, G2, a2, hA2, hm2, rfl⟩
  replace HFf := Lib.hid (HFf.out.keep hb)
  replace HGg := Lib.hid (HGg.out.keep hb)
  replace HRf := Lib.hid (HRf.out.below hb)
  replace HRg := Lib.hid (HRg.out.below hb)
  replace HA1 := Lib.hid (HA1.out.go hb)
  have HA2 := Lib.hid hA2
  have HM2 := Lib.hid hm2
  have HB5 := Lib.hid (HB4.out.trans (hb.mono HB4.out.size))
  clear hb hA2 hm2 HB4 CG1 CG2 CA1 CA2 CS0
  have CI := Lib.hid (fun V (hV : Below w5.heap.size w5 V) => its_u F L V (HRf.out.below hV) HLL.out)
  have CS := Lib.hid (fun sa sc V (hV : Below w5.heap.size w5 V) h1 => same_u F G L sa sc V (HFX.out.trans HGX.out.symm) h1 (HRg.out.below hV) HLL.out)
  have CL := Lib.hid (fun V (hV : Below w5.heap.size w5 V) => all_u v1 G1 Ls _ V (HA1.out.go hV) HAL.out (by have := congrArg List.length HM1.out; rw [List.length_map] at this; rw [this]; exact HGL.out))
  have CQ := Lib.hid (fun (V0 V : World) (v3 : Value) (G3 : List Frm) (hV : Below w5.heap.size w5 V) (h3 : AllI 34 V0 v3 G3 Ls V) (hm3 : G3.map bl = G1.map bl) => sall_u v3 v2 G3 G2 Ls _ _ V h3 (HA2.out.go hV) (hm3.trans (HM1.out.trans HM2.out.symm)) HAL.out (by have := congrArg List.length (hm3.trans HM1.out); rw [List.length_map] at this; rw [this]; exact HGL.out))
  go_wp2_with fail
  refine wp_region_noPanic ?_
  refine wp_region_held_drew (S := fun V : World => Below w5.heap.size w5 V) (by kernel_rfl) ?_ (fun hHeld => ?_)
  · exact (Below.refl _ _).drew
  refine wpAnyH_take (i := 0) (v := ?_) rfl (by kernel_rfl) (by kernel_rfl) (by kernel_rfl) (fun _ _ _ h => h) (Or.inl ⟨by rfl, ?_⟩) (by assumption) ?_
  rotate_left
  · (intro w hSw; (have hFf := HFf.out.keep hSw; have hGg := HGg.out.keep hSw; obtain ⟨p0, p1, p2, p3, p4, p5, p6, p7, p8, p9, p10, p11, p12⟩ := hFf.ats; obtain ⟨q0, q1, q2, q3, q4, q5, q6, q7, q8, q9, q10, q11, q12⟩ := hGg.ats; clear hFf hGg hSw); go_simp; (try with_reducible rfl))
  try simp only [Act.put, List.getElem_toArray, List.getElem_cons_zero, List.getElem_cons_succ, List.setIfInBounds_toArray, List.set_cons_zero, List.set_cons_succ]
  refine wpAnyH_take (i := 2) (v := ?_) rfl (by kernel_rfl) (by kernel_rfl) (by kernel_rfl) (fun _ _ _ h => h) (Or.inl ⟨by rfl, ?_⟩) (by assumption) ?_
  rotate_left
  · (intro w hSw; (have hFf := HFf.out.keep hSw; have hGg := HGg.out.keep hSw; obtain ⟨p0, p1, p2, p3, p4, p5, p6, p7, p8, p9, p10, p11, p12⟩ := hFf.ats; obtain ⟨q0, q1, q2, q3, q4, q5, q6, q7, q8, q9, q10, q11, q12⟩ := hGg.ats; clear hFf hGg hSw); go_simp; (try with_reducible rfl))
  try simp only [Act.put, List.getElem_toArray, List.getElem_cons_zero, List.getElem_cons_succ, List.setIfInBounds_toArray, List.set_cons_zero, List.set_cons_succ]
  refine wpAnyH_ready (rs := [1]) (by kernel_rfl) (by simp) ?_
  refine AllReadyH.cons rfl (fun K hK => ?_) AllReadyH.nil
  rw [if_pos (by rfl)]
  go_simp
  with_reducible refine (CI.out _ hHeld).mono ?_
  rintro e u1 ⟨sa, sc, rfl, hr, hb⟩
  have HRa := Lib.hid hr
  clear hr
  refine hK.out _ _ ?_ (fun hHeld => ?_)
  · exact hHeld.trans (hb.mono hHeld.size)
  clear hK K
  try simp only [Act.put, List.getElem_toArray, List.getElem_cons_zero, List.getElem_cons_succ, List.setIfInBounds_toArray, List.set_cons_zero, List.set_cons_succ]
  refine wpAnyH_ready (rs := [3]) (by kernel_rfl) (by simp) ?_
  refine AllReadyH.cons rfl (fun K hK => ?_) AllReadyH.nil
  rw [if_pos (by rfl)]
  go_simp
  with_reducible refine (CS.out sa sc _ hHeld HRa.out).mono ?_
  rintro e u2 ⟨rfl, hb⟩
  refine hK.out _ _ ?_ (fun hHeld => ?_)
  · exact hHeld.trans (hb.mono hHeld.size)
  clear hK K
  try simp only [Act.put, List.getElem_toArray, List.getElem_cons_zero, List.getElem_cons_succ, List.setIfInBounds_toArray, List.set_cons_zero, List.set_cons_succ]
  refine wpAnyH_take (i := 4) (v := ?_) rfl (by kernel_rfl) (by kernel_rfl) (by kernel_rfl) (fun _ _ _ h => h) (Or.inl ⟨by rfl, ?_⟩) (by assumption) ?_
  rotate_left
  · (intro w hSw; (have hFf := HFf.out.keep hSw; have hGg := HGg.out.keep hSw; obtain ⟨p0, p1, p2, p3, p4, p5, p6, p7, p8, p9, p10, p11, p12⟩ := hFf.ats; obtain ⟨q0, q1, q2, q3, q4, q5, q6, q7, q8, q9, q10, q11, q12⟩ := hGg.ats; clear hFf hGg hSw); go_simp; (try with_reducible rfl))
  try simp only [Act.put, List.getElem_toArray, List.getElem_cons_zero, List.getElem_cons_succ, List.setIfInBounds_toArray, List.set_cons_zero, List.set_cons_succ]
  refine wpAnyH_take (i := 5) (v := ?_) rfl (by kernel_rfl) (by kernel_rfl) (by kernel_rfl) (fun _ _ _ h => h) (Or.inl ⟨by rfl, ?_⟩) (by assumption) ?_
  rotate_left
  · (intro w hSw; (have hFf := HFf.out.keep hSw; have hGg := HGg.out.keep hSw; obtain ⟨p0, p1, p2, p3, p4, p5, p6, p7, p8, p9, p10, p11, p12⟩ := hFf.ats; obtain ⟨q0, q1, q2, q3, q4, q5, q6, q7, q8, q9, q10, q11, q12⟩ := hGg.ats; clear hFf hGg hSw); go_simp; (try with_reducible rfl))
  try simp only [Act.put, List.getElem_toArray, List.getElem_cons_zero, List.getElem_cons_succ, List.setIfInBounds_toArray, List.set_cons_zero, List.set_cons_succ]
  refine wpAnyH_take (i := 6) (v := ?_) rfl (by kernel_rfl) (by kernel_rfl) (by kernel_rfl) (fun _ _ _ h => h) (Or.inl ⟨by rfl, ?_⟩) (by assumption) ?_
  rotate_left
  · (intro w hSw; (have hFf := HFf.out.keep hSw; have hGg := HGg.out.keep hSw; obtain ⟨p0, p1, p2, p3, p4, p5, p6, p7, p8, p9, p10, p11, p12⟩ := hFf.ats; obtain ⟨q0, q1, q2, q3, q4, q5, q6, q7, q8, q9, q10, q11, q12⟩ := hGg.ats; clear hFf hGg hSw); go_simp; (try with_reducible rfl))
  try simp only [Act.put, List.getElem_toArray, List.getElem_cons_zero, List.getElem_cons_succ, List.setIfInBounds_toArray, List.set_cons_zero, List.set_cons_succ]
  refine wpAnyH_take (i := 7) (v := ?_) rfl (by kernel_rfl) (by kernel_rfl) (by kernel_rfl) (fun _ _ _ h => h) (Or.inl ⟨by rfl, ?_⟩) (by assumption) ?_
  rotate_left
  · (intro w hSw; (have hFf := HFf.out.keep hSw; have hGg := HGg.out.keep hSw; obtain ⟨p0, p1, p2, p3, p4, p5, p6, p7, p8, p9, p10, p11, p12⟩ := hFf.ats; obtain ⟨q0, q1, q2, q3, q4, q5, q6, q7, q8, q9, q10, q11, q12⟩ := hGg.ats; clear hFf hGg hSw); go_simp; (try with_reducible rfl))
  try simp only [Act.put, List.getElem_toArray, List.getElem_cons_zero, List.getElem_cons_succ, List.setIfInBounds_toArray, List.set_cons_zero, List.set_cons_succ]
  refine wpAnyH_take (i := 8) (v := ?_) rfl (by kernel_rfl) (by kernel_rfl) (by kernel_rfl) (fun _ _ _ h => h) (Or.inl ⟨by rfl, ?_⟩) (by assumption) ?_
  rotate_left
  · (intro w hSw; (have hFf := HFf.out.keep hSw; have hGg := HGg.out.keep hSw; obtain ⟨p0, p1, p2, p3, p4, p5, p6, p7, p8, p9, p10, p11, p12⟩ := hFf.ats; obtain ⟨q0, q1, q2, q3, q4, q5, q6, q7, q8, q9, q10, q11, q12⟩ := hGg.ats; clear hFf hGg hSw); go_simp; (try with_reducible rfl))
  try simp only [Act.put, List.getElem_toArray, List.getElem_cons_zero, List.getElem_cons_succ, List.setIfInBounds_toArray, List.set_cons_zero, List.set_cons_succ]
  refine wpAnyH_take (i := 9) (v := ?_) rfl (by kernel_rfl) (by kernel_rfl) (by kernel_rfl) (fun _ _ _ h => h) (Or.inl ⟨by rfl, ?_⟩) (by assumption) ?_
  rotate_left
  · (intro w hSw; (have hFf := HFf.out.keep hSw; have hGg := HGg.out.keep hSw; obtain ⟨p0, p1, p2, p3, p4, p5, p6, p7, p8, p9, p10, p11, p12⟩ := hFf.ats; obtain ⟨q0, q1, q2, q3, q4, q5, q6, q7, q8, q9, q10, q11, q12⟩ := hGg.ats; clear hFf hGg hSw); go_simp; (try with_reducible rfl))
  try simp only [Act.put, List.getElem_toArray, List.getElem_cons_zero, List.getElem_cons_succ, List.setIfInBounds_toArray, List.set_cons_zero, List.set_cons_succ]
  refine wpAnyH_take (i := 10) (v := ?_) rfl (by kernel_rfl) (by kernel_rfl) (by kernel_rfl) (fun _ _ _ h => h) (Or.inl ⟨by rfl, ?_⟩) (by assumption) ?_
  rotate_left
  · (intro w hSw; (have hFf := HFf.out.keep hSw; have hGg := HGg.out.keep hSw; obtain ⟨p0, p1, p2, p3, p4, p5, p6, p7, p8, p9, p10, p11, p12⟩ := hFf.ats; obtain ⟨q0, q1, q2, q3, q4, q5, q6, q7, q8, q9, q10, q11, q12⟩ := hGg.ats; clear hFf hGg hSw); go_simp; (try with_reducible rfl))
  try simp only [Act.put, List.getElem_toArray, List.getElem_cons_zero, List.getElem_cons_succ, List.setIfInBounds_toArray, List.set_cons_zero, List.set_cons_succ]
  refine wpAnyH_take (i := 11) (v := ?_) rfl (by kernel_rfl) (by kernel_rfl) (by kernel_rfl) (fun _ _ _ h => h) (Or.inl ⟨by rfl, ?_⟩) (by assumption) ?_
  rotate_left
  · (intro w hSw; (have hFf := HFf.out.keep hSw; have hGg := HGg.out.keep hSw; obtain ⟨p0, p1, p2, p3, p4, p5, p6, p7, p8, p9, p10, p11, p12⟩ := hFf.ats; obtain ⟨q0, q1, q2, q3, q4, q5, q6, q7, q8, q9, q10, q11, q12⟩ := hGg.ats; clear hFf hGg hSw); go_simp; (try with_reducible rfl))
  try simp only [Act.put, List.getElem_toArray, List.getElem_cons_zero, List.getElem_cons_succ, List.setIfInBounds_toArray, List.set_cons_zero, List.set_cons_succ]
  refine wpAnyH_take (i := 12) (v := ?_) rfl (by kernel_rfl) (by kernel_rfl) (by kernel_rfl) (fun _ _ _ h => h) (Or.inl ⟨by rfl, ?_⟩) (by assumption) ?_
  rotate_left
  · (intro w hSw; (have hFf := HFf.out.keep hSw; have hGg := HGg.out.keep hSw; obtain ⟨p0, p1, p2, p3, p4, p5, p6, p7, p8, p9, p10, p11, p12⟩ := hFf.ats; obtain ⟨q0, q1, q2, q3, q4, q5, q6, q7, q8, q9, q10, q11, q12⟩ := hGg.ats; clear hFf hGg hSw); go_simp; (try with_reducible rfl))
  try simp only [Act.put, List.getElem_toArray, List.getElem_cons_zero, List.getElem_cons_succ, List.setIfInBounds_toArray, List.set_cons_zero, List.set_cons_succ]
  refine wpAnyH_take (i := 13) (v := ?_) rfl (by kernel_rfl) (by kernel_rfl) (by kernel_rfl) (fun _ _ _ h => h) (Or.inl ⟨by rfl, ?_⟩) (by assumption) ?_
  rotate_left
  · (intro w hSw; (have hFf := HFf.out.keep hSw; have hGg := HGg.out.keep hSw; obtain ⟨p0, p1, p2, p3, p4, p5, p6, p7, p8, p9, p10, p11, p12⟩ := hFf.ats; obtain ⟨q0, q1, q2, q3, q4, q5, q6, q7, q8, q9, q10, q11, q12⟩ := hGg.ats; clear hFf hGg hSw); go_simp; (try with_reducible rfl))
  try simp only [Act.put, List.getElem_toArray, List.getElem_cons_zero, List.getElem_cons_succ, List.setIfInBounds_toArray, List.set_cons_zero, List.set_cons_succ]
  refine wpAnyH_take (i := 14) (v := ?_) rfl (by kernel_rfl) (by kernel_rfl) (by kernel_rfl) (fun _ _ _ h => h) (Or.inl ⟨by rfl, ?_⟩) (by assumption) ?_
  rotate_left
  · (intro w hSw; (have hFf := HFf.out.keep hSw; have hGg := HGg.out.keep hSw; obtain ⟨p0, p1, p2, p3, p4, p5, p6, p7, p8, p9, p10, p11, p12⟩ := hFf.ats; obtain ⟨q0, q1, q2, q3, q4, q5, q6, q7, q8, q9, q10, q11, q12⟩ := hGg.ats; clear hFf hGg hSw); go_simp; (try with_reducible rfl))
  try simp only [Act.put, List.getElem_toArray, List.getElem_cons_zero, List.getElem_cons_succ, List.setIfInBounds_toArray, List.set_cons_zero, List.set_cons_succ]
  refine wpAnyH_take (i := 15) (v := ?_) rfl (by kernel_rfl) (by kernel_rfl) (by kernel_rfl) (fun _ _ _ h => h) (Or.inl ⟨by rfl, ?_⟩) (by assumption) ?_
  rotate_left
  · (intro w hSw; (have hFf := HFf.out.keep hSw; have hGg := HGg.out.keep hSw; obtain ⟨p0, p1, p2, p3, p4, p5, p6, p7, p8, p9, p10, p11, p12⟩ := hFf.ats; obtain ⟨q0, q1, q2, q3, q4, q5, q6, q7, q8, q9, q10, q11, q12⟩ := hGg.ats; clear hFf hGg hSw); go_simp; (try with_reducible rfl))
  try simp only [Act.put, List.getElem_toArray, List.getElem_cons_zero, List.getElem_cons_succ, List.setIfInBounds_toArray, List.set_cons_zero, List.set_cons_succ]
  refine wpAnyH_take (i := 17) (v := ?_) rfl (by kernel_rfl) (by kernel_rfl) (by kernel_rfl) (fun _ _ _ h => h) (Or.inl ⟨by rfl, ?_⟩) (by assumption) ?_
  rotate_left
  · (intro w hSw; (have hFf := HFf.out.keep hSw; have hGg := HGg.out.keep hSw; obtain ⟨p0, p1, p2, p3, p4, p5, p6, p7, p8, p9, p10, p11, p12⟩ := hFf.ats; obtain ⟨q0, q1, q2, q3, q4, q5, q6, q7, q8, q9, q10, q11, q12⟩ := hGg.ats; clear hFf hGg hSw); go_simp; (try with_reducible rfl))
  try simp only [Act.put, List.getElem_toArray, List.getElem_cons_zero, List.getElem_cons_succ, List.setIfInBounds_toArray, List.set_cons_zero, List.set_cons_succ]
  refine wpAnyH_ready (rs := [16]) (by kernel_rfl) (by simp) ?_
  refine AllReadyH.cons rfl (fun K hK => ?_) AllReadyH.nil
  rw [if_pos (by rfl)]
  go_simp
  with_reducible refine (CL.out _ hHeld).mono ?_
  rintro e u3 ⟨v3, G3, rfl, hA3, hm3⟩
  have HA3 := Lib.hid hA3
  have HM3 := Lib.hid hm3
  have hb := hA3.bel
  clear hA3 hm3
  refine hK.out _ _ ?_ (fun hHeld => ?_)
  · exact hHeld.trans (hb.mono hHeld.size)
  clear hK K
  try simp only [Act.put, List.getElem_toArray, List.getElem_cons_zero, List.getElem_cons_succ, List.setIfInBounds_toArray, List.set_cons_zero, List.set_cons_succ]
  refine wpAnyH_ready (rs := [18]) (by kernel_rfl) (by simp) ?_
  refine AllReadyH.cons rfl (fun K hK => ?_) AllReadyH.nil
  rw [if_pos (by rfl)]
  go_simp
  with_reducible refine (CQ.out _ _ _ _ hHeld HA3.out HM3.out).mono ?_
  rintro e u4 ⟨rfl, hb⟩
  refine hK.out _ _ ?_ (fun hHeld => ?_)
  · exact hHeld.trans (hb.mono hHeld.size)
  clear hK K
  try simp only [Act.put, List.getElem_toArray, List.getElem_cons_zero, List.getElem_cons_succ, List.setIfInBounds_toArray, List.set_cons_zero, List.set_cons_succ]
  refine wpAnyH_take (i := 19) (v := ?_) rfl (by kernel_rfl) (by kernel_rfl) (by kernel_rfl) (fun _ _ _ h => h) (Or.inl ⟨by rfl, ?_⟩) (by assumption) ?_
  rotate_left
  · (intro w hSw; (have hFf := HFf.out.keep hSw; have hGg := HGg.out.keep hSw; obtain ⟨p0, p1, p2, p3, p4, p5, p6, p7, p8, p9, p10, p11, p12⟩ := hFf.ats; obtain ⟨q0, q1, q2, q3, q4, q5, q6, q7, q8, q9, q10, q11, q12⟩ := hGg.ats; clear hFf hGg hSw); go_simp; (try with_reducible rfl))
  try simp only [Act.put, List.getElem_toArray, List.getElem_cons_zero, List.getElem_cons_succ, List.setIfInBounds_toArray, List.set_cons_zero, List.set_cons_succ]
  refine wpAnyH_take (i := 20) (v := ?_) rfl (by kernel_rfl) (by kernel_rfl) (by kernel_rfl) (fun _ _ _ h => h) (Or.inl ⟨by rfl, ?_⟩) (by assumption) ?_
  rotate_left
  · (intro w hSw; (have hFf := HFf.out.keep hSw; have hGg := HGg.out.keep hSw; obtain ⟨p0, p1, p2, p3, p4, p5, p6, p7, p8, p9, p10, p11, p12⟩ := hFf.ats; obtain ⟨q0, q1, q2, q3, q4, q5, q6, q7, q8, q9, q10, q11, q12⟩ := hGg.ats; clear hFf hGg hSw); go_simp; (try with_reducible rfl))
  try simp only [Act.put, List.getElem_toArray, List.getElem_cons_zero, List.getElem_cons_succ, List.setIfInBounds_toArray, List.set_cons_zero, List.set_cons_succ]
  refine wpAnyH_take (i := 21) (v := ?_) rfl (by kernel_rfl) (by kernel_rfl) (by kernel_rfl) (fun _ _ _ h => h) (Or.inl ⟨by rfl, ?_⟩) (by assumption) ?_
  rotate_left
  · (intro w hSw; (have hFf := HFf.out.keep hSw; have hGg := HGg.out.keep hSw; obtain ⟨p0, p1, p2, p3, p4, p5, p6, p7, p8, p9, p10, p11, p12⟩ := hFf.ats; obtain ⟨q0, q1, q2, q3, q4, q5, q6, q7, q8, q9, q10, q11, q12⟩ := hGg.ats; clear hFf hGg hSw); go_simp; (try with_reducible rfl))
  try simp only [Act.put, List.getElem_toArray, List.getElem_cons_zero, List.getElem_cons_succ, List.setIfInBounds_toArray, List.set_cons_zero, List.set_cons_succ]
  refine wpAnyH_take (i := 22) (v := ?_) rfl (by kernel_rfl) (by kernel_rfl) (by kernel_rfl) (fun _ _ _ h => h) (Or.inl ⟨by rfl, ?_⟩) (by assumption) ?_
  rotate_left
  · (intro w hSw; (have hFf := HFf.out.keep hSw; have hGg := HGg.out.keep hSw; obtain ⟨p0, p1, p2, p3, p4, p5, p6, p7, p8, p9, p10, p11, p12⟩ := hFf.ats; obtain ⟨q0, q1, q2, q3, q4, q5, q6, q7, q8, q9, q10, q11, q12⟩ := hGg.ats; clear hFf hGg hSw); go_simp; (try with_reducible rfl))
  try simp only [Act.put, List.getElem_toArray, List.getElem_cons_zero, List.getElem_cons_succ, List.setIfInBounds_toArray, List.set_cons_zero, List.set_cons_succ]
  refine wpAnyH_take (i := 23) (v := ?_) rfl (by kernel_rfl) (by kernel_rfl) (by kernel_rfl) (fun _ _ _ h => h) (Or.inl ⟨by rfl, ?_⟩) (by assumption) ?_
  rotate_left
  · (intro w hSw; (have hFf := HFf.out.keep hSw; have hGg := HGg.out.keep hSw; obtain ⟨p0, p1, p2, p3, p4, p5, p6, p7, p8, p9, p10, p11, p12⟩ := hFf.ats; obtain ⟨q0, q1, q2, q3, q4, q5, q6, q7, q8, q9, q10, q11, q12⟩ := hGg.ats; clear hFf hGg hSw); go_simp; (try with_reducible rfl))
  try simp only [Act.put, List.getElem_toArray, List.getElem_cons_zero, List.getElem_cons_succ, List.setIfInBounds_toArray, List.set_cons_zero, List.set_cons_succ]
  refine wpAnyH_take (i := 24) (v := ?_) rfl (by kernel_rfl) (by kernel_rfl) (by kernel_rfl) (fun _ _ _ h => h) (Or.inl ⟨by rfl, ?_⟩) (by assumption) ?_
  rotate_left
  · (intro w hSw; (have hFf := HFf.out.keep hSw; have hGg := HGg.out.keep hSw; obtain ⟨p0, p1, p2, p3, p4, p5, p6, p7, p8, p9, p10, p11, p12⟩ := hFf.ats; obtain ⟨q0, q1, q2, q3, q4, q5, q6, q7, q8, q9, q10, q11, q12⟩ := hGg.ats; clear hFf hGg hSw); go_simp; (try with_reducible rfl))
  try simp only [Act.put, List.getElem_toArray, List.getElem_cons_zero, List.getElem_cons_succ, List.setIfInBounds_toArray, List.set_cons_zero, List.set_cons_succ]
  refine wpAnyH_take (i := 25) (v := ?_) rfl (by kernel_rfl) (by kernel_rfl) (by kernel_rfl) (fun _ _ _ h => h) (Or.inl ⟨by rfl, ?_⟩) (by assumption) ?_
  rotate_left
  · (intro w hSw; (have hFf := HFf.out.keep hSw; have hGg := HGg.out.keep hSw; obtain ⟨p0, p1, p2, p3, p4, p5, p6, p7, p8, p9, p10, p11, p12⟩ := hFf.ats; obtain ⟨q0, q1, q2, q3, q4, q5, q6, q7, q8, q9, q10, q11, q12⟩ := hGg.ats; clear hFf hGg hSw); go_simp; (try with_reducible rfl))
  try simp only [Act.put, List.getElem_toArray, List.getElem_cons_zero, List.getElem_cons_succ, List.setIfInBounds_toArray, List.set_cons_zero, List.set_cons_succ]
  refine wpAnyH_done (by kernel_rfl) (NoPanic.normal ?_) _
  have HB9 := Lib.hid (HB5.out.trans (hHeld.mono HB5.out.size))
  clear hHeld
  go_wp2
  go_ret
  exact ⟨rfl, HB9.out⟩

theorem law_gets (s : ByteArray) (w : World) (ht : Tab w) (w1 : s.size ≤ maxLen) :
    Calls Tryd.prog 3 #[.string s] w fun e w' => e = .returned (.bool true) ∧ Below w.heap.size w w' := by
  unfold maxLen at w1
  obtain ⟨⟨l⟩⟩ := s
  have hz : (⟨⟨l⟩⟩ : ByteArray).size = l.length := rfl
  rw [hz] at w1
  by_cases h : 1500 < l.length
  · exact gets_long l w ht h w1
  · exact gets_in l w ht (by omega)
end
end Go.Proofs.YtfeecfdbncjmnaaDoor.Fm
