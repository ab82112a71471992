/- Mathematics of transport parameters: their bytes, the parameters of bytes, and that what is put is got back. By tools/gen-params-5.py. -/
import Derived.Test.YthhcpedaldlccaaDoorPmD
import Derived.Test.YthhcpedaldlccaaDoorPmF
import Derived.Test.YthhcpedaldlccaaDoorVmBack
namespace Go.Proofs.YthhcpedaldlccaaDoor.Pm
open Vm
set_option linter.unusedVariables false
set_option linter.unusedSimpArgs false

/-- The bytes of those of the first k parameters that are not as usual. -/
def putN (p : Prm) : Nat → List UInt8
  | 0 => []
  | k + 1 => putN p k ++ (if valL p k = valL usual k then [] else pairL (k : Nat) (valL p k))
def putL (p : Prm) : List UInt8 := putN p 15
/-- The pairs that are handed on, one by one: none is one that is not whole. -/
def prs : Nat → List UInt8 → List (Option (Nat × List UInt8))
  | 0, _ => []
  | k + 1, l => if l = [] then [] else match cutO l with
    | some (n, v, r) => some (n, v) :: prs k r
    | none => [none]
/-- One of them, taken. -/
def stepG : Option (Prm × List Nat) → Option (Nat × List UInt8) → Option (Prm × List Nat)
  | some (p, cs), some (n, v) => if n ∈ cs then none else if tkB p n v = true then some (tkP p n v, n :: cs) else none
  | _, _ => none
theorem step_some (p : Prm) (cs : List Nat) (n : Nat) (v : List UInt8) : stepG (some (p, cs)) (some (n, v)) = if n ∈ cs then none else if tkB p n v = true then some (tkP p n v, n :: cs) else none := rfl
def goG (xs : List (Option (Nat × List UInt8))) : Option (Prm × List Nat) := xs.foldl stepG (some (usual, []))
/-- The parameters of bytes. -/
def getO (l : List UInt8) : Option Prm := match goG (prs l.length l) with
  | some (p, _) => if chkB p = true then some p else none
  | none => none

theorem gk_pos (l : List UInt8) : 1 ≤ gk l := by
  cases l with
  | nil => exact Nat.le_refl _
  | cons b t => exact Nat.pow_pos (by decide)
theorem cutO_len {l : List UInt8} {n : Nat} {v r : List UInt8} (h : cutO l = some (n, v, r)) : v.length + r.length + 2 ≤ l.length ∧ n < 4611686018427387904 := by
  unfold cutO at h
  rcases gst_two l with h1 | ⟨n1, k1, r1, h1, h2, h3, h4⟩
  · rw [h1] at h; cases h
  · rw [h1] at h
    simp only at h
    split at h
    · rename_i hk
      simp only [Option.some.injEq, Prod.mk.injEq] at h
      obtain ⟨rfl, rfl, rfl⟩ := h
      have e1 := gk_pos l
      simp only [gst] at h1
      split at h1
      · cases h1
      · rename_i acc r0 e0
        split at e0
        · rename_i e5
          simp only [Option.some.injEq, Prod.mk.injEq] at e0
          obtain ⟨rfl, rfl⟩ := e0
          split at h1
          · rename_i e6
            simp only [Option.some.injEq, Prod.mk.injEq] at h1
            obtain ⟨_, rfl⟩ := h1
            have e2 := gk_pos (l.drop (gk l))
            simp only [List.length_drop, List.length_take] at *
            omega
          · cases h1
        · cases e0
    · cases h
theorem prs_fuel : ∀ (k : Nat) (l : List UInt8), l.length ≤ k → prs k l = prs l.length l
  | 0, l, h => by
    have : l = [] := List.length_eq_zero_iff.1 (by omega)
    subst this; rfl
  | k + 1, l, h => by
    by_cases hl : l = []
    · subst hl; simp [prs]
    · obtain ⟨m, hm⟩ : ∃ m, l.length = m + 1 := ⟨l.length - 1, by have := List.length_pos_iff.2 hl; omega⟩
      rw [hm]
      simp only [prs, if_neg hl]
      split
      · rename_i n v r hc
        have := cutO_len hc
        rw [prs_fuel k r (by omega), prs_fuel m r (by omega)]
      · rfl
  termination_by k => k
/-- One step of the iterator. -/
theorem prs_some {l : List UInt8} {n : Nat} {v r : List UInt8} (hl : l ≠ []) (h : cutO l = some (n, v, r)) : prs l.length l = some (n, v) :: prs r.length r := by
  obtain ⟨m, hm⟩ : ∃ m, l.length = m + 1 := ⟨l.length - 1, by have := List.length_pos_iff.2 hl; omega⟩
  have := cutO_len h
  rw [hm]
  simp only [prs, if_neg hl, h]
  rw [prs_fuel m r (by omega)]
theorem prs_none {l : List UInt8} (hl : l ≠ []) (h : cutO l = none) : prs l.length l = [none] := by
  obtain ⟨m, hm⟩ : ∃ m, l.length = m + 1 := ⟨l.length - 1, by have := List.length_pos_iff.2 hl; omega⟩
  rw [hm]
  simp only [prs, if_neg hl, h]
theorem prs_nil : prs ([] : List UInt8).length [] = [] := rfl

/-- What was put is got back, number by number. -/
theorem gst_pcat (zs : List Int) (s : List UInt8) (hz : ∀ z ∈ zs, pl z.toNat < 4) : ∀ k, k ≤ zs.length → gst (pcat zs ++ s) k = some ((zs.take k).map Int.toNat, pcat (zs.drop k) ++ s) := by
  intro k
  induction k with
  | zero => intro _; simp [gst]
  | succ k ih =>
    intro hk
    have h := ih (by omega)
    have hd : zs.drop k = zs[k] :: zs.drop (k + 1) := List.drop_eq_getElem_cons (by omega)
    have hp : pl (zs[k]).toNat < 4 := hz _ (List.getElem_mem _)
    rw [hd, pcat_cons, List.append_assoc] at h
    have hg := back_get (zs[k]).toNat hp (pcat (zs.drop (k + 1)) ++ s)
    obtain ⟨b, t, e, h1, h2⟩ := pt_head (zs[k]).toNat hp
    have hgk : gk (pt (zs[k]).toNat ++ (pcat (zs.drop (k + 1)) ++ s)) = wd (pl (zs[k]).toNat) := by rw [e]; exact h1
    have hle : gk (pt (zs[k]).toNat ++ (pcat (zs.drop (k + 1)) ++ s)) ≤ (pt (zs[k]).toNat ++ (pcat (zs.drop (k + 1)) ++ s)).length := by
      rw [hgk, List.length_append, pt_length]; omega
    rw [gst_ok h hle]
    have hok := g_ok hle
    rw [← hok.1, ← hok.2.1, hg.1, hg.2.1]
    congr 2
    rw [List.take_succ_eq_append_getElem (by omega), List.map_append]
    rfl
/-- A pair that is put is cut again. -/
theorem cut_pair (n : Nat) (v r : List UInt8) (hn : n < 4611686018427387904) (hv : v.length < 4611686018427387904) : cutO (pairL (n : Nat) v ++ r) = some (n, v, r) := by
  have e : pairL (n : Nat) v ++ r = pcat [((n : Nat) : Int), ((v.length : Nat) : Int)] ++ (v ++ r) := by
    rw [pcat_pair _ _ (by omega) hv]; unfold pairL; simp
  have g := gst_pcat [((n : Nat) : Int), ((v.length : Nat) : Int)] (v ++ r) (fit_pair _ _ (by omega) hv) 2 (by simp)
  unfold cutO
  rw [e, g]
  simp [pcat]
theorem pair_ne (n : Nat) (v r : List UInt8) (hn : n < 4611686018427387904) : pairL (n : Nat) v ++ r ≠ [] := by
  intro h
  have h1 : (pairL (n : Nat) v ++ r).length = 0 := by rw [h]; rfl
  have h2 := (ps_ok (n := n) (pl_fit hn)).1
  have h3 := (pt_le n (pl_fit hn)).1
  unfold pairL at h1
  simp only [List.length_append, Int.toNat_natCast] at h1
  rw [h2] at h1
  omega
theorem prs_pair (n : Nat) (v r : List UInt8) (hn : n < 4611686018427387904) (hv : v.length < 4611686018427387904) : prs (pairL (n : Nat) v ++ r).length (pairL (n : Nat) v ++ r) = some (n, v) :: prs r.length r :=
  prs_some (pair_ne n v r hn) (cut_pair n v r hn hv)
theorem prs_cat : ∀ (P : List (Nat × List UInt8)) (r : List UInt8), (∀ x ∈ P, x.1 < 4611686018427387904 ∧ x.2.length < 4611686018427387904) →
    prs ((P.map fun x => pairL (x.1 : Nat) x.2).flatten ++ r).length ((P.map fun x => pairL (x.1 : Nat) x.2).flatten ++ r) = P.map some ++ prs r.length r
  | [], r, _ => rfl
  | x :: P, r, h => by
    have h1 := h x (List.mem_cons_self ..)
    simp only [List.map_cons, List.flatten_cons, List.append_assoc, List.cons_append]
    rw [prs_pair _ _ _ h1.1 h1.2, prs_cat P r (fun y hy => h y (List.mem_cons_of_mem _ hy))]
/-- The pairs of those of the first k numbers that are not as usual. -/
def pairsN (p : Prm) : Nat → List (Nat × List UInt8)
  | 0 => []
  | k + 1 => pairsN p k ++ (if valL p k = valL usual k then [] else [(k, valL p k)])
theorem putN_pairs (p : Prm) : ∀ k, putN p k = ((pairsN p k).map fun x => pairL (x.1 : Nat) x.2).flatten
  | 0 => rfl
  | k + 1 => by
    simp only [putN, pairsN, List.map_append, List.flatten_append, ← putN_pairs p k]
    split <;> simp
theorem valL_len (p : Prm) (n : Nat) (h : p.tok.length ≤ 140737488351232) : (valL p n).length ≤ 140737488351232 := by
  unfold valL
  split
  · exact h
  · split
    · exact Nat.le_trans (ps_len _) (by decide)
    · exact Nat.zero_le _
theorem pairsN_bound (p : Prm) (h : p.tok.length ≤ 140737488351232) : ∀ k, k ≤ 15 → ∀ x ∈ pairsN p k, x.1 < 4611686018427387904 ∧ x.2.length < 4611686018427387904
  | 0, _, x, hx => by cases hx
  | k + 1, hk, x, hx => by
    rw [pairsN, List.mem_append] at hx
    rcases hx with hx | hx
    · exact pairsN_bound p h k (by omega) x hx
    · split at hx
      · cases hx
      · simp only [List.mem_singleton] at hx
        subst hx
        exact ⟨by simp only; omega, by have := valL_len p k h; simp only; omega⟩
/-- Of the first k numbers p's values, of the others the usual ones. -/
def mixN (p : Prm) (k : Nat) : Prm :=
  ⟨if 1 < k then p.idle else 0, if 3 < k then p.size else 65527, if 4 < k then p.data else 0, if 5 < k then p.bl else 0, if 6 < k then p.br else 0, if 7 < k then p.uni else 0, if 8 < k then p.bidis else 0, if 9 < k then p.unis else 0, if 10 < k then p.expo else 3, if 11 < k then p.delay else 25, if 14 < k then p.ids else 2, if 2 < k then p.tok else []⟩
theorem mix_all (p : Prm) : mixN p 15 = p := by cases p; simp [mixN]
theorem mix_0 (p : Prm) : mixN p 0 = usual := by simp [mixN, usual]
theorem ok_of {p : Prm} (h : chkB p = true) {n : Nat} (hn : n < 15) : okAt p n = true := by
  unfold chkB at h
  rw [Bool.and_eq_true, List.all_eq_true] at h
  exact h.1 n (by simpa using hn)
theorem ps_inj {a b : Nat} (ha : a < 4611686018427387904) (hb : b < 4611686018427387904) (h : ps a = ps b) : a = b := by
  rw [(ps_ok (pl_fit ha)).1, (ps_ok (pl_fit hb)).1] at h
  have h1 := (back_get a (pl_fit ha) []).1
  have h2 := (back_get b (pl_fit hb) []).1
  rw [h] at h1
  omega
theorem back_ps {a : Nat} (ha : a < 4611686018427387904) : gN (ps a) = a ∧ (decide (gk (ps a) ≤ (ps a).length) && (gR (ps a)).isEmpty) = true := by
  have h := back_get a (pl_fit ha) []
  rw [List.append_nil] at h
  rw [(ps_ok (pl_fit ha)).1]
  refine ⟨h.1, ?_⟩
  rw [h.2.1]
  have : gk (pt a) ≤ (pt a).length := by
    rcases Nat.lt_or_ge (pt a).length (gk (pt a)) with h1 | h1
    · have := (g_no h1).2.2
      rw [h.2.2] at this; cases this
    · exact h1
  rw [decide_eq_true this]; rfl
theorem le62 {v : Int} {n : Nat} {p : Prm} (hf : fld p n = some v) (hn : n < 15) (hc : chkB p = true) : 0 ≤ v ∧ v < 4611686018427387904 := by
  have h := ok_of hc hn
  unfold okAt at h
  rw [hf] at h
  have h1 := of_decide_eq_true h
  have h2 : 0 ≤ loN n := by
    match n, hn with
    | 0, _ | 1, _ | 2, _ | 3, _ | 4, _ | 5, _ | 6, _ | 7, _ | 8, _ | 9, _ | 10, _ | 11, _ | 12, _ | 13, _ | 14, _ => decide
  have h3 : hiN n < 4611686018427387904 := by
    match n, hn with
    | 0, _ | 1, _ | 2, _ | 3, _ | 4, _ | 5, _ | 6, _ | 7, _ | 8, _ | 9, _ | 10, _ | 11, _ | 12, _ | 13, _ | 14, _ => decide
  omega
/-- One number's step. -/
theorem mix_step (p : Prm) (hc : chkB p = true) : ∀ k, k < 15 → (valL p k = valL usual k → mixN p (k + 1) = mixN p k) ∧ (valL p k ≠ valL usual k → tkB (mixN p k) k (valL p k) = true ∧ tkP (mixN p k) k (valL p k) = mixN p (k + 1)) := by
  intro k hk
  match k, hk with
  | 0, _ => exact ⟨fun _ => by simp [mixN], fun h => absurd rfl h⟩
  | 1, _ =>
    have hb := le62 (n := 1) rfl (by decide) hc
    refine ⟨fun h => ?_, fun h => ?_⟩
    · have h1 : p.idle = 0 := by
        have := ps_inj (a := p.idle.toNat) (b := 0) (by omega) (by decide) h
        omega
      simp [mixN, h1]
    · have h2 := back_ps (a := p.idle.toNat) (by omega)
      refine ⟨h2.2, ?_⟩
      show setF (mixN p 1) 1 ((gN (ps p.idle.toNat) : Nat) : Int) = mixN p 2
      rw [h2.1, Int.toNat_of_nonneg hb.1]
      simp [setF, mixN]
  | 2, _ =>
    refine ⟨fun h => ?_, fun h => ?_⟩
    · have h1 : p.tok = [] := h
      simp [mixN, h1]
    · have h1 : ¬ p.tok = [] := h
      refine ⟨?_, by simp [tkP, valL, mixN]⟩
      unfold chkB tokB at hc
      rw [Bool.and_eq_true, Bool.or_eq_true] at hc
      rcases hc.2 with h3 | h3
      · exact absurd (List.isEmpty_iff.1 h3) h1
      · exact h3
  | 3, _ =>
    have hb := le62 (n := 3) rfl (by decide) hc
    refine ⟨fun h => ?_, fun h => ?_⟩
    · have h1 : p.size = 65527 := by
        have := ps_inj (a := p.size.toNat) (b := 65527) (by omega) (by decide) h
        omega
      simp [mixN, h1]
    · have h2 := back_ps (a := p.size.toNat) (by omega)
      refine ⟨h2.2, ?_⟩
      show setF (mixN p 3) 3 ((gN (ps p.size.toNat) : Nat) : Int) = mixN p 4
      rw [h2.1, Int.toNat_of_nonneg hb.1]
      simp [setF, mixN]
  | 4, _ =>
    have hb := le62 (n := 4) rfl (by decide) hc
    refine ⟨fun h => ?_, fun h => ?_⟩
    · have h1 : p.data = 0 := by
        have := ps_inj (a := p.data.toNat) (b := 0) (by omega) (by decide) h
        omega
      simp [mixN, h1]
    · have h2 := back_ps (a := p.data.toNat) (by omega)
      refine ⟨h2.2, ?_⟩
      show setF (mixN p 4) 4 ((gN (ps p.data.toNat) : Nat) : Int) = mixN p 5
      rw [h2.1, Int.toNat_of_nonneg hb.1]
      simp [setF, mixN]
  | 5, _ =>
    have hb := le62 (n := 5) rfl (by decide) hc
    refine ⟨fun h => ?_, fun h => ?_⟩
    · have h1 : p.bl = 0 := by
        have := ps_inj (a := p.bl.toNat) (b := 0) (by omega) (by decide) h
        omega
      simp [mixN, h1]
    · have h2 := back_ps (a := p.bl.toNat) (by omega)
      refine ⟨h2.2, ?_⟩
      show setF (mixN p 5) 5 ((gN (ps p.bl.toNat) : Nat) : Int) = mixN p 6
      rw [h2.1, Int.toNat_of_nonneg hb.1]
      simp [setF, mixN]
  | 6, _ =>
    have hb := le62 (n := 6) rfl (by decide) hc
    refine ⟨fun h => ?_, fun h => ?_⟩
    · have h1 : p.br = 0 := by
        have := ps_inj (a := p.br.toNat) (b := 0) (by omega) (by decide) h
        omega
      simp [mixN, h1]
    · have h2 := back_ps (a := p.br.toNat) (by omega)
      refine ⟨h2.2, ?_⟩
      show setF (mixN p 6) 6 ((gN (ps p.br.toNat) : Nat) : Int) = mixN p 7
      rw [h2.1, Int.toNat_of_nonneg hb.1]
      simp [setF, mixN]
  | 7, _ =>
    have hb := le62 (n := 7) rfl (by decide) hc
    refine ⟨fun h => ?_, fun h => ?_⟩
    · have h1 : p.uni = 0 := by
        have := ps_inj (a := p.uni.toNat) (b := 0) (by omega) (by decide) h
        omega
      simp [mixN, h1]
    · have h2 := back_ps (a := p.uni.toNat) (by omega)
      refine ⟨h2.2, ?_⟩
      show setF (mixN p 7) 7 ((gN (ps p.uni.toNat) : Nat) : Int) = mixN p 8
      rw [h2.1, Int.toNat_of_nonneg hb.1]
      simp [setF, mixN]
  | 8, _ =>
    have hb := le62 (n := 8) rfl (by decide) hc
    refine ⟨fun h => ?_, fun h => ?_⟩
    · have h1 : p.bidis = 0 := by
        have := ps_inj (a := p.bidis.toNat) (b := 0) (by omega) (by decide) h
        omega
      simp [mixN, h1]
    · have h2 := back_ps (a := p.bidis.toNat) (by omega)
      refine ⟨h2.2, ?_⟩
      show setF (mixN p 8) 8 ((gN (ps p.bidis.toNat) : Nat) : Int) = mixN p 9
      rw [h2.1, Int.toNat_of_nonneg hb.1]
      simp [setF, mixN]
  | 9, _ =>
    have hb := le62 (n := 9) rfl (by decide) hc
    refine ⟨fun h => ?_, fun h => ?_⟩
    · have h1 : p.unis = 0 := by
        have := ps_inj (a := p.unis.toNat) (b := 0) (by omega) (by decide) h
        omega
      simp [mixN, h1]
    · have h2 := back_ps (a := p.unis.toNat) (by omega)
      refine ⟨h2.2, ?_⟩
      show setF (mixN p 9) 9 ((gN (ps p.unis.toNat) : Nat) : Int) = mixN p 10
      rw [h2.1, Int.toNat_of_nonneg hb.1]
      simp [setF, mixN]
  | 10, _ =>
    have hb := le62 (n := 10) rfl (by decide) hc
    refine ⟨fun h => ?_, fun h => ?_⟩
    · have h1 : p.expo = 3 := by
        have := ps_inj (a := p.expo.toNat) (b := 3) (by omega) (by decide) h
        omega
      simp [mixN, h1]
    · have h2 := back_ps (a := p.expo.toNat) (by omega)
      refine ⟨h2.2, ?_⟩
      show setF (mixN p 10) 10 ((gN (ps p.expo.toNat) : Nat) : Int) = mixN p 11
      rw [h2.1, Int.toNat_of_nonneg hb.1]
      simp [setF, mixN]
  | 11, _ =>
    have hb := le62 (n := 11) rfl (by decide) hc
    refine ⟨fun h => ?_, fun h => ?_⟩
    · have h1 : p.delay = 25 := by
        have := ps_inj (a := p.delay.toNat) (b := 25) (by omega) (by decide) h
        omega
      simp [mixN, h1]
    · have h2 := back_ps (a := p.delay.toNat) (by omega)
      refine ⟨h2.2, ?_⟩
      show setF (mixN p 11) 11 ((gN (ps p.delay.toNat) : Nat) : Int) = mixN p 12
      rw [h2.1, Int.toNat_of_nonneg hb.1]
      simp [setF, mixN]
  | 12, _ => exact ⟨fun _ => by simp [mixN], fun h => absurd rfl h⟩
  | 13, _ => exact ⟨fun _ => by simp [mixN], fun h => absurd rfl h⟩
  | 14, _ =>
    have hb := le62 (n := 14) rfl (by decide) hc
    refine ⟨fun h => ?_, fun h => ?_⟩
    · have h1 : p.ids = 2 := by
        have := ps_inj (a := p.ids.toNat) (b := 2) (by omega) (by decide) h
        omega
      simp [mixN, h1]
    · have h2 := back_ps (a := p.ids.toNat) (by omega)
      refine ⟨h2.2, ?_⟩
      show setF (mixN p 14) 14 ((gN (ps p.ids.toNat) : Nat) : Int) = mixN p 15
      rw [h2.1, Int.toNat_of_nonneg hb.1]
      simp [setF, mixN]
/-- All the pairs, taken. -/
theorem go_pairs (p : Prm) (hc : chkB p = true) : ∀ k, k ≤ 15 → ∃ cs, goG ((pairsN p k).map some) = some (mixN p k, cs) ∧ ∀ n ∈ cs, n < k
  | 0, _ => ⟨[], by rw [mix_0]; rfl, fun n h => by cases h⟩
  | k + 1, hk => by
    obtain ⟨cs, h1, h2⟩ := go_pairs p hc k (by omega)
    have hs := mix_step p hc k (by omega)
    by_cases h : valL p k = valL usual k
    · refine ⟨cs, ?_, fun n hn => by have := h2 n hn; omega⟩
      rw [pairsN, if_pos h, List.append_nil, h1, hs.1 h]
    · refine ⟨k :: cs, ?_, fun n hn => ?_⟩
      · rw [pairsN, if_neg h, List.map_append]
        unfold goG at h1 ⊢
        rw [List.foldl_append, h1]
        show stepG (some (mixN p k, cs)) (some (k, valL p k)) = _
        rw [step_some, if_neg (fun h' => by have := h2 k h'; omega), if_pos (hs.2 h).1, (hs.2 h).2]
      · rcases List.mem_cons.1 hn with rfl | hn
        · omega
        · have := h2 n hn; omega
/-- WHAT IS PUT IS GOT BACK. -/
theorem get_put (p : Prm) (hc : chkB p = true) (ht : p.tok.length ≤ 140737488351232) : getO (putL p) = some p := by
  obtain ⟨cs, h1, _⟩ := go_pairs p hc 15 (Nat.le_refl _)
  have h2 := prs_cat (pairsN p 15) [] (pairsN_bound p ht 15 (Nat.le_refl _))
  rw [List.append_nil, prs_nil, List.append_nil, ← putN_pairs] at h2
  unfold getO putL
  rw [h2, h1, mix_all]
  simp [hc]
theorem setF_wf {p : Prm} (h : Wf p) (n : Nat) (v : Int) (hv : 0 ≤ v ∧ v ≤ 18446744073709551615) : Wf (setF p n v) := by
  match n with
  | 1 => exact ⟨hv, h.size, h.data, h.bl, h.br, h.uni, h.bidis, h.unis, h.expo, h.delay, h.ids, h.tok⟩
  | 3 => exact ⟨h.idle, hv, h.data, h.bl, h.br, h.uni, h.bidis, h.unis, h.expo, h.delay, h.ids, h.tok⟩
  | 4 => exact ⟨h.idle, h.size, hv, h.bl, h.br, h.uni, h.bidis, h.unis, h.expo, h.delay, h.ids, h.tok⟩
  | 5 => exact ⟨h.idle, h.size, h.data, hv, h.br, h.uni, h.bidis, h.unis, h.expo, h.delay, h.ids, h.tok⟩
  | 6 => exact ⟨h.idle, h.size, h.data, h.bl, hv, h.uni, h.bidis, h.unis, h.expo, h.delay, h.ids, h.tok⟩
  | 7 => exact ⟨h.idle, h.size, h.data, h.bl, h.br, hv, h.bidis, h.unis, h.expo, h.delay, h.ids, h.tok⟩
  | 8 => exact ⟨h.idle, h.size, h.data, h.bl, h.br, h.uni, hv, h.unis, h.expo, h.delay, h.ids, h.tok⟩
  | 9 => exact ⟨h.idle, h.size, h.data, h.bl, h.br, h.uni, h.bidis, hv, h.expo, h.delay, h.ids, h.tok⟩
  | 10 => exact ⟨h.idle, h.size, h.data, h.bl, h.br, h.uni, h.bidis, h.unis, hv, h.delay, h.ids, h.tok⟩
  | 11 => exact ⟨h.idle, h.size, h.data, h.bl, h.br, h.uni, h.bidis, h.unis, h.expo, hv, h.ids, h.tok⟩
  | 14 => exact ⟨h.idle, h.size, h.data, h.bl, h.br, h.uni, h.bidis, h.unis, h.expo, h.delay, hv, h.tok⟩
  | 0 | 2 | 12 | 13 => exact h
  | k + 15 => exact h
theorem gN_lt (l : List UInt8) : gN l < 4611686018427387904 := by
  unfold gN
  split
  · exact gn_lt62 l _ (gk_le8 l)
  · decide
theorem tkP_wf {p : Prm} (h : Wf p) (n : Nat) (l : List UInt8) (hl : l.length ≤ 140737488351232) : Wf (tkP p n l) := by
  unfold tkP
  split
  · exact ⟨h.idle, h.size, h.data, h.bl, h.br, h.uni, h.bidis, h.unis, h.expo, h.delay, h.ids, hl⟩
  · split
    · have := gN_lt l
      exact setF_wf h _ _ (by omega)
    · exact h
theorem usual_wf : Wf usual := ⟨by decide, by decide, by decide, by decide, by decide, by decide, by decide, by decide, by decide, by decide, by decide, by decide⟩
/-- The values of all pairs are not longer than the text. -/
theorem prs_bound : ∀ (k : Nat) (l : List UInt8), ∀ n v, some (n, v) ∈ prs k l → v.length ≤ l.length ∧ n < 4611686018427387904
  | 0, l, n, v, h => by cases h
  | k + 1, l, n, v, h => by
    simp only [prs] at h
    split at h
    · cases h
    · split at h
      · rename_i n1 v1 r1 hc
        have h1 := cutO_len hc
        rcases List.mem_cons.1 h with h2 | h2
        · cases h2; exact ⟨by omega, by omega⟩
        · have := prs_bound k r1 n v h2
          exact ⟨by omega, this.2⟩
      · simp at h
theorem goG_snoc (xs : List (Option (Nat × List UInt8))) (x : Option (Nat × List UInt8)) : goG (xs ++ [x]) = stepG (goG xs) x := by
  unfold goG; rw [List.foldl_append]; rfl
theorem stepG_none (x : Option (Nat × List UInt8)) : stepG none x = none := by cases x <;> rfl
theorem foldG_none : ∀ (xs : List (Option (Nat × List UInt8))), xs.foldl stepG none = none
  | [] => rfl
  | x :: xs => by rw [List.foldl_cons, stepG_none, foldG_none xs]
theorem goG_prefix {xs ys : List (Option (Nat × List UInt8))} (h : xs <+: ys) (hn : goG xs = none) : goG ys = none := by
  obtain ⟨t, rfl⟩ := h
  unfold goG at hn ⊢
  rw [List.foldl_append, hn, foldG_none]
theorem goG_wf (L : Nat) (hL : L ≤ 140737488351232) : ∀ (xs : List (Option (Nat × List UInt8))) (q : Prm) (ds : List Nat), Wf q → (∀ n v, some (n, v) ∈ xs → v.length ≤ L) → ∀ p cs, xs.foldl stepG (some (q, ds)) = some (p, cs) → Wf p
  | [], q, ds, hq, _, p, cs, h => by
    simp only [List.foldl_nil, Option.some.injEq, Prod.mk.injEq] at h
    rw [← h.1]; exact hq
  | x :: xs, q, ds, hq, hx, p, cs, h => by
    rw [List.foldl_cons] at h
    match x, h with
    | none, h => rw [show stepG (some (q, ds)) none = none from rfl, foldG_none] at h; cases h
    | some (n, v), h =>
      have hv := hx n v (List.mem_cons_self ..)
      rw [step_some] at h
      split at h
      · rw [foldG_none] at h; cases h
      · split at h
        · exact goG_wf L hL xs _ _ (tkP_wf hq n v (by omega)) (fun n' v' h' => hx n' v' (List.mem_cons_of_mem _ h')) p cs h
        · rw [foldG_none] at h; cases h
theorem getO_wf {l : List UInt8} {p : Prm} (hl : l.length ≤ 140737488351232) (h : getO l = some p) : Wf p ∧ chkB p = true := by
  unfold getO at h
  split at h
  · rename_i q cs hq
    split at h
    · rename_i hc
      cases h
      exact ⟨goG_wf l.length hl _ _ _ usual_wf (fun n v hv => (prs_bound _ _ n v hv).1) _ _ hq, hc⟩
    · cases h
  · cases h
/-- What Put and Get answer. -/
def putE (p : Prm) : Int := if chkB p = true then 0 else 50
def putS (p : Prm) : List UInt8 := if chkB p = true then putL p else []
theorem put_yes {p : Prm} (h : chkB p = true) : putS p = putL p ∧ putE p = 0 := by unfold putS putE; rw [if_pos h, if_pos h]; exact ⟨rfl, rfl⟩
theorem put_no {p : Prm} (h : chkB p = false) : putS p = [] ∧ putE p = 50 := by unfold putS putE; rw [h]; exact ⟨rfl, rfl⟩
def zeroP : Prm := ⟨0, 0, 0, 0, 0, 0, 0, 0, 0, 0, 0, []⟩
def getP (l : List UInt8) : Prm := (getO l).getD zeroP
def getE (l : List UInt8) : Int := match getO l with | some _ => 0 | none => 50
end Go.Proofs.YthhcpedaldlccaaDoor.Pm
