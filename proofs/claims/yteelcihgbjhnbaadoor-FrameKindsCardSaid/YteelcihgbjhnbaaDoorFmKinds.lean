/- Layer 6: the law FrameKinds, walked. By tools/gen-frame-23.py. -/
import Derived.Test.YteelcihgbjhnbaaDoorFmLw
import Derived.Test.YteelcihgbjhnbaaDoorFmTail
namespace Go.Proofs.YteelcihgbjhnbaaDoor.Fm
set_option maxRecDepth 20000
open Go.RowKit Vm
set_option linter.unusedVariables false
set_option linter.unusedSimpArgs false

theorem textsN_fin {p : Nat} {l : List UInt8} {f : Frm} {l2 : List UInt8} {f2 : Frm} (h : textsN p l f = some (l2, f2)) : f2.fin = f.fin := by
  unfold textsN at h
  split at h
  · split at h
    · cases h; rfl
    · cases h
  · split at h
    · cases h; rfl
    · split at h
      · match l, h with
        | [], h => cases h
        | c :: t, h =>
          simp only at h
          split at h
          · cases h; rfl
          · cases h
      · split at h
        · split at h
          · cases h; rfl
          · cases h
        · cases h; rfl
theorem set_none : ∀ q : Fin 256, q.val / 8 = 1 → (toldP q.val).testBit 11 = false := by decide
/-- What is got has the kind that its first byte tells. -/
theorem frmN_kind {c : UInt8} {t : List UInt8} {f : Frm} {rs : List (Nat × Nat)} {r : List UInt8} (h : frmN (c :: t) = some (f, rs, r)) :
    toldB c.toNat = true ∧ f.kind = (toldK c.toNat : Nat) ∧ (c.toNat / 8 = 1 → f.fin = (toldP c.toNat).testBit 10) ∧ ∃ pre, t = pre ++ r := by
  rw [frmN_cons] at h
  by_cases hb : toldB c.toNat = true
  · rw [if_pos hb] at h
    refine ⟨hb, ?_⟩
    by_cases h11 : (toldP c.toNat).testBit 11 = true
    · rw [if_pos h11] at h
      match ha : ackN t with
      | none => rw [ha] at h; cases h
      | some (d, rs', r') =>
        rw [ha] at h
        simp only [Option.some.injEq, Prod.mk.injEq] at h
        obtain ⟨h1, h2, h3⟩ := h
        subst h1; subst h2; subst h3
        refine ⟨rfl, fun h8 => ?_, (ackN_suf ha).1⟩
        have := set_none ⟨c.toNat, c.toNat_lt⟩ h8
        simp only at this
        rw [this] at h11
        cases h11
    · rw [if_neg h11] at h
      unfold plainN at h
      match hn : numsN (toldP c.toNat) t { frZ with kind := (toldK c.toNat : Nat) } 7 with
      | none => rw [hn] at h; cases h
      | some (l2, f2) =>
        rw [hn] at h
        simp only at h
        match hx : textsN (toldP c.toNat) l2 { f2 with fin := (toldP c.toNat).testBit 10 } with
        | none => rw [hx] at h; cases h
        | some (r', f') =>
          rw [hx] at h
          simp only [Option.some.injEq, Prod.mk.injEq] at h
          obtain ⟨h1, h2, h3⟩ := h
          subst h1; subst h2; subst h3
          have hk2 := numsN_kind hn
          obtain ⟨p1, e1⟩ := numsN_suf hn
          obtain ⟨⟨p2, e2⟩, _, _, hkd, _⟩ := textsN_suf hx
          exact ⟨by rw [hkd]; exact hk2, fun _ => textsN_fin hx, ⟨p1 ++ p2, by rw [e1, e2]; simp⟩⟩
  · rw [if_neg hb] at h
    cases h
/-- Whether there is such a kind. -/
def knK (k : Nat) : Bool := decide (k ≤ 2) || (decide (4 ≤ k) && decide (k ≤ 6)) || (decide (8 ≤ k) && decide (k ≤ 30))
theorem knK_told : ∀ k : Fin 64, toldB k.val = knK k.val := by decide
theorem kinds_fin : ∀ k : Fin 64, k.val / 8 = 1 → (toldP k.val).testBit 10 = (decide (k.val % 2 = 1)) := by decide
theorem conv_1 (W : World) (k : Nat) (hk : k < 256) : (convert 55 9 (.slice (some ⟨W.heap.size, 0, none⟩) 1 1)).run Tryd.prog (W.alloc (.cells #[.int .u8 (k : Nat)] 5)) = .ok (.string ⟨#[UInt8.ofNat k]⟩) (W.alloc (.cells #[.int .u8 (k : Nat)] 5)) := by
  refine conv_row _ [UInt8.ofNat k] 1 W.heap.size (fun j hj => ?_)
  have h := World.alloc_heap_new W (.cells #[.int .u8 (k : Nat)] 5)
  have e2 : (UInt8.ofNat k).toNat = k := by rw [UInt8.toNat_ofNat']; omega
  have hj2 : j = 0 := by simp at hj; omega
  subst hj2
  rw [Lib.cell_of_heap h 0]; simp [e2]
set_option maxHeartbeats 8000000 in
theorem kinds_none0 (kd k : Nat) (t : List UInt8) (w : World) (ht : Tab w) (hs : (t.length : Int) ≤ 200) (hkd : kd < 256) (hkm2 : kd % 64 = k) (h1 : 0 ≤ k) (h2 : k ≤ 2) (hg : getN (UInt8.ofNat k :: t) = none) :
    Calls Tryd.prog 11 #[.int .u8 (kd : Nat), .string ⟨t.toArray⟩] w fun e w' => e = .returned (.bool true) ∧ Below w.heap.size w w' := by
  have CS := Lib.hid (shown_any w ht)
  have hlen : (t.length : Int) ≤ 200 := hs
  have HTF := Lib.hid ht
  have hcat : (⟨#[UInt8.ofNat k]⟩ : ByteArray) ++ ⟨t.toArray⟩ = ⟨(UInt8.ofNat k :: t).toArray⟩ := by apply ByteArray.ext; simp
  have hkm : (kd : Int).tmod 64 = (k : Int) := by rw [Int.tmod_eq_emod_of_nonneg (by omega)]; omega
  have hk0 : (0 : Int) ≤ (k : Int) := by omega
  have hkw : IntKind.u8.wrap (k : Int) = (k : Int) := by rw [IntKind.wrap_u8]; omega
  have hkw2 : IntKind.u64.wrap (k : Int) = (k : Int) := wrap_u _ (by omega) (by omega)
  have k1 : (0 : Int) ≤ (k : Int) := by omega
  have k2 : (k : Int) ≤ 2 := by omega
  have l2 : (k : Int) ≤ 2 := by omega
  have l6 : (k : Int) ≤ 6 := by omega
  have l30 : (k : Int) ≤ 30 := by omega
  have l15 : (k : Int) ≤ 15 := by omega
  have g4 : ¬ (4 : Int) ≤ (k : Int) := by omega
  have g8 : ¬ (8 : Int) ≤ (k : Int) := by omega
  have s8 : (k : Int) < 8 := by omega
  have s15 : ¬ (15 : Int) < (k : Int) := by omega
  have CG : Hid (∀ W, Tab W → Calls Tryd.prog 21 #[.string ⟨(UInt8.ofNat k :: t).toArray⟩] W fun e w' => Below W.heap.size W w' ∧ e = .returned (.tuple #[.agg #[.int .u64 0, .int .u64 0, .int .u64 0, .int .u64 0, .int .u64 0, .int .u64 0, .int .u64 0, .int .u64 0, .bool false, .string ⟨#[]⟩, .string ⟨#[]⟩, .string ⟨#[]⟩, .slice none 0 0], .string ⟨#[]⟩, .int .i64 60])) := Lib.hid (fun W ht => by
    have h := get_any (UInt8.ofNat k :: t) W ht (by simp; omega)
    rw [hg] at h
    exact h)
  clear hg
  go_enter Tryd.func11, Tryd.ntmps11
  go_wp2_with fail
  refine CS.out.mono ?_
  rintro e w1 ⟨rfl, hb⟩
  have HB1 := Lib.hid hb
  have HT1 := Lib.hid (HTF.out.below hb HTF.out.lt)
  have HCV := conv_1 w1 k (by omega)
  have HBA : Hid (Below w1.heap.size w1 (w1.alloc (.cells #[.int .u8 (k : Nat)] 5))) := Lib.hid ((Below.refl _ _).alloc (Nat.le_refl _) _)
  have HT2 := Lib.hid (HT1.out.below HBA.out HT1.out.lt)
  have HB2 := Lib.hid (HB1.out.trans (HBA.out.mono HB1.out.size))
  clear hb ht hkm2
  go_wp2_with fail
  with_reducible refine (CG.out _ HT2.out).mono ?_
  rintro e w2 ⟨hb, rfl⟩
  have HB3 := Lib.hid (HB2.out.trans (hb.mono HB2.out.size))
  have HB4 := Lib.hid (HB3.out.alloc HB3.out.size (.cells #[.int .u64 0, .int .u64 0, .int .u64 0, .int .u64 0, .int .u64 0, .int .u64 0, .int .u64 0, .int .u64 0, .bool false, .string ⟨#[]⟩, .string ⟨#[]⟩, .string ⟨#[]⟩, .slice none 0 0] 26))
  clear hb
  go_wp2
  all_goals
    go_ret
    first | exact ⟨rfl, HB4.out⟩ | exact ⟨by simp [hFin2], HB4.out⟩
set_option maxHeartbeats 8000000 in
theorem kinds_some0 (kd k : Nat) (t : List UInt8) (w : World) (ht : Tab w) (hs : (t.length : Int) ≤ 200) (hkd : kd < 256) (hkm2 : kd % 64 = k) (h1 : 0 ≤ k) (h2 : k ≤ 2) (g : Frm) (qs : List (Nat × Nat)) (r : List UInt8) (hg : getN (UInt8.ofNat k :: t) = some (g, qs, r)) :
    Calls Tryd.prog 11 #[.int .u8 (kd : Nat), .string ⟨t.toArray⟩] w fun e w' => e = .returned (.bool true) ∧ Below w.heap.size w w' := by
  have CS := Lib.hid (shown_any w ht)
  have hlen : (t.length : Int) ≤ 200 := hs
  have HTF := Lib.hid ht
  have hcat : (⟨#[UInt8.ofNat k]⟩ : ByteArray) ++ ⟨t.toArray⟩ = ⟨(UInt8.ofNat k :: t).toArray⟩ := by apply ByteArray.ext; simp
  have hkm : (kd : Int).tmod 64 = (k : Int) := by rw [Int.tmod_eq_emod_of_nonneg (by omega)]; omega
  have hk0 : (0 : Int) ≤ (k : Int) := by omega
  have hkw : IntKind.u8.wrap (k : Int) = (k : Int) := by rw [IntKind.wrap_u8]; omega
  have hkw2 : IntKind.u64.wrap (k : Int) = (k : Int) := wrap_u _ (by omega) (by omega)
  have k1 : (0 : Int) ≤ (k : Int) := by omega
  have k2 : (k : Int) ≤ 2 := by omega
  have l2 : (k : Int) ≤ 2 := by omega
  have l6 : (k : Int) ≤ 6 := by omega
  have l30 : (k : Int) ≤ 30 := by omega
  have l15 : (k : Int) ≤ 15 := by omega
  have g4 : ¬ (4 : Int) ≤ (k : Int) := by omega
  have g8 : ¬ (8 : Int) ≤ (k : Int) := by omega
  have s8 : (k : Int) < 8 := by omega
  have s15 : ¬ (15 : Int) < (k : Int) := by omega
  obtain ⟨hg1, _, _⟩ := getN_is hg
  have hkt : (UInt8.ofNat k).toNat = k := by rw [UInt8.toNat_ofNat']; omega
  obtain ⟨_, hgk, hgf, pre, hpre⟩ := frmN_kind hg1
  rw [hkt] at hgk hgf
  have hK : g.kind = (k : Int) := by rw [hgk]; unfold toldK; rw [if_neg (by omega)]
  have CG : Hid (∀ W, Tab W → Calls Tryd.prog 21 #[.string ⟨(UInt8.ofNat k :: t).toArray⟩] W fun e w' => Below W.heap.size W w' ∧ ∃ (sl : Sl), e = .returned (.tuple #[.agg #[.int .u64 g.kind, .int .u64 g.id, .int .u64 g.off, .int .u64 g.max, .int .u64 g.code, .int .u64 g.seq, .int .u64 g.prior, .int .u64 g.delay, .bool g.fin, .string ⟨g.data.toArray⟩, .string ⟨g.cid.toArray⟩, .string ⟨g.token.toArray⟩, .slice sl.a sl.n sl.c], .string ⟨r.toArray⟩, .int .i64 0])) := Lib.hid (fun W ht => by
    have h := get_any (UInt8.ofNat k :: t) W ht (by simp; omega)
    rw [hg] at h
    refine h.mono ?_
    rintro e w' ⟨h1, sl, h2, h3, h4, h5⟩
    exact ⟨h1, sl, h5⟩)
  have hext := ext_suf pre r
  have hsl : t.length = pre.length + r.length := by rw [hpre, List.length_append]
  rw [← hpre] at hext
  have hi1 : (t.length : Int) - (r.length : Int) = (pre.length : Int) := by omega
  have hi2 : (r.length : Int) ≤ (t.length : Int) := by omega
  have hi3 : (pre.length : Int) ≤ (t.length : Int) := by omega
  have hi4 : (0 : Int) ≤ (pre.length : Int) := by omega
  rw [← hsl] at hext
  clear hg hg1 hgk hgf hkt hpre hsl
  go_enter Tryd.func11, Tryd.ntmps11
  go_wp2_with fail
  refine CS.out.mono ?_
  rintro e w1 ⟨rfl, hb⟩
  have HB1 := Lib.hid hb
  have HT1 := Lib.hid (HTF.out.below hb HTF.out.lt)
  have HCV := conv_1 w1 k (by omega)
  have HBA : Hid (Below w1.heap.size w1 (w1.alloc (.cells #[.int .u8 (k : Nat)] 5))) := Lib.hid ((Below.refl _ _).alloc (Nat.le_refl _) _)
  have HT2 := Lib.hid (HT1.out.below HBA.out HT1.out.lt)
  have HB2 := Lib.hid (HB1.out.trans (HBA.out.mono HB1.out.size))
  clear hb ht hkm2
  go_wp2_with fail
  with_reducible refine (CG.out _ HT2.out).mono ?_
  rintro e w2 ⟨hb, sl, rfl⟩
  have HB3 := Lib.hid (HB2.out.trans (hb.mono HB2.out.size))
  have HB4 := Lib.hid (HB3.out.alloc HB3.out.size (.cells #[.int .u64 g.kind, .int .u64 g.id, .int .u64 g.off, .int .u64 g.max, .int .u64 g.code, .int .u64 g.seq, .int .u64 g.prior, .int .u64 g.delay, .bool g.fin, .string ⟨g.data.toArray⟩, .string ⟨g.cid.toArray⟩, .string ⟨g.token.toArray⟩, .slice sl.a sl.n sl.c] 26))
  rw [hK] at HB4 ⊢
  clear hb
  go_wp2
  all_goals
    go_ret
    first | exact ⟨rfl, HB4.out⟩ | exact ⟨by simp [hFin2], HB4.out⟩
set_option maxHeartbeats 8000000 in
theorem kinds_none1 (kd k : Nat) (t : List UInt8) (w : World) (ht : Tab w) (hs : (t.length : Int) ≤ 200) (hkd : kd < 256) (hkm2 : kd % 64 = k) (h1 : 3 ≤ k) (h2 : k ≤ 3) (hg : getN (UInt8.ofNat k :: t) = none) :
    Calls Tryd.prog 11 #[.int .u8 (kd : Nat), .string ⟨t.toArray⟩] w fun e w' => e = .returned (.bool true) ∧ Below w.heap.size w w' := by
  have CS := Lib.hid (shown_any w ht)
  have hlen : (t.length : Int) ≤ 200 := hs
  have HTF := Lib.hid ht
  have hcat : (⟨#[UInt8.ofNat k]⟩ : ByteArray) ++ ⟨t.toArray⟩ = ⟨(UInt8.ofNat k :: t).toArray⟩ := by apply ByteArray.ext; simp
  have hkm : (kd : Int).tmod 64 = (k : Int) := by rw [Int.tmod_eq_emod_of_nonneg (by omega)]; omega
  have hk0 : (0 : Int) ≤ (k : Int) := by omega
  have hkw : IntKind.u8.wrap (k : Int) = (k : Int) := by rw [IntKind.wrap_u8]; omega
  have hkw2 : IntKind.u64.wrap (k : Int) = (k : Int) := wrap_u _ (by omega) (by omega)
  have k1 : (3 : Int) ≤ (k : Int) := by omega
  have k2 : (k : Int) ≤ 3 := by omega
  have l2 : ¬ (k : Int) ≤ 2 := by omega
  have l6 : (k : Int) ≤ 6 := by omega
  have l30 : (k : Int) ≤ 30 := by omega
  have l15 : (k : Int) ≤ 15 := by omega
  have g4 : ¬ (4 : Int) ≤ (k : Int) := by omega
  have g8 : ¬ (8 : Int) ≤ (k : Int) := by omega
  have s8 : (k : Int) < 8 := by omega
  have s15 : ¬ (15 : Int) < (k : Int) := by omega
  have CG : Hid (∀ W, Tab W → Calls Tryd.prog 21 #[.string ⟨(UInt8.ofNat k :: t).toArray⟩] W fun e w' => Below W.heap.size W w' ∧ e = .returned (.tuple #[.agg #[.int .u64 0, .int .u64 0, .int .u64 0, .int .u64 0, .int .u64 0, .int .u64 0, .int .u64 0, .int .u64 0, .bool false, .string ⟨#[]⟩, .string ⟨#[]⟩, .string ⟨#[]⟩, .slice none 0 0], .string ⟨#[]⟩, .int .i64 60])) := Lib.hid (fun W ht => by
    have h := get_any (UInt8.ofNat k :: t) W ht (by simp; omega)
    rw [hg] at h
    exact h)
  clear hg
  go_enter Tryd.func11, Tryd.ntmps11
  go_wp2_with fail
  refine CS.out.mono ?_
  rintro e w1 ⟨rfl, hb⟩
  have HB1 := Lib.hid hb
  have HT1 := Lib.hid (HTF.out.below hb HTF.out.lt)
  have HCV := conv_1 w1 k (by omega)
  have HBA : Hid (Below w1.heap.size w1 (w1.alloc (.cells #[.int .u8 (k : Nat)] 5))) := Lib.hid ((Below.refl _ _).alloc (Nat.le_refl _) _)
  have HT2 := Lib.hid (HT1.out.below HBA.out HT1.out.lt)
  have HB2 := Lib.hid (HB1.out.trans (HBA.out.mono HB1.out.size))
  clear hb ht hkm2
  go_wp2_with fail
  with_reducible refine (CG.out _ HT2.out).mono ?_
  rintro e w2 ⟨hb, rfl⟩
  have HB3 := Lib.hid (HB2.out.trans (hb.mono HB2.out.size))
  have HB4 := Lib.hid (HB3.out.alloc HB3.out.size (.cells #[.int .u64 0, .int .u64 0, .int .u64 0, .int .u64 0, .int .u64 0, .int .u64 0, .int .u64 0, .int .u64 0, .bool false, .string ⟨#[]⟩, .string ⟨#[]⟩, .string ⟨#[]⟩, .slice none 0 0] 26))
  clear hb
  go_wp2
  all_goals
    go_ret
    first | exact ⟨rfl, HB4.out⟩ | exact ⟨by simp [hFin2], HB4.out⟩
set_option maxHeartbeats 8000000 in
theorem kinds_none2 (kd k : Nat) (t : List UInt8) (w : World) (ht : Tab w) (hs : (t.length : Int) ≤ 200) (hkd : kd < 256) (hkm2 : kd % 64 = k) (h1 : 4 ≤ k) (h2 : k ≤ 6) (hg : getN (UInt8.ofNat k :: t) = none) :
    Calls Tryd.prog 11 #[.int .u8 (kd : Nat), .string ⟨t.toArray⟩] w fun e w' => e = .returned (.bool true) ∧ Below w.heap.size w w' := by
  have CS := Lib.hid (shown_any w ht)
  have hlen : (t.length : Int) ≤ 200 := hs
  have HTF := Lib.hid ht
  have hcat : (⟨#[UInt8.ofNat k]⟩ : ByteArray) ++ ⟨t.toArray⟩ = ⟨(UInt8.ofNat k :: t).toArray⟩ := by apply ByteArray.ext; simp
  have hkm : (kd : Int).tmod 64 = (k : Int) := by rw [Int.tmod_eq_emod_of_nonneg (by omega)]; omega
  have hk0 : (0 : Int) ≤ (k : Int) := by omega
  have hkw : IntKind.u8.wrap (k : Int) = (k : Int) := by rw [IntKind.wrap_u8]; omega
  have hkw2 : IntKind.u64.wrap (k : Int) = (k : Int) := wrap_u _ (by omega) (by omega)
  have k1 : (4 : Int) ≤ (k : Int) := by omega
  have k2 : (k : Int) ≤ 6 := by omega
  have l2 : ¬ (k : Int) ≤ 2 := by omega
  have l6 : (k : Int) ≤ 6 := by omega
  have l30 : (k : Int) ≤ 30 := by omega
  have l15 : (k : Int) ≤ 15 := by omega
  have g4 : (4 : Int) ≤ (k : Int) := by omega
  have g8 : ¬ (8 : Int) ≤ (k : Int) := by omega
  have s8 : (k : Int) < 8 := by omega
  have s15 : ¬ (15 : Int) < (k : Int) := by omega
  have CG : Hid (∀ W, Tab W → Calls Tryd.prog 21 #[.string ⟨(UInt8.ofNat k :: t).toArray⟩] W fun e w' => Below W.heap.size W w' ∧ e = .returned (.tuple #[.agg #[.int .u64 0, .int .u64 0, .int .u64 0, .int .u64 0, .int .u64 0, .int .u64 0, .int .u64 0, .int .u64 0, .bool false, .string ⟨#[]⟩, .string ⟨#[]⟩, .string ⟨#[]⟩, .slice none 0 0], .string ⟨#[]⟩, .int .i64 60])) := Lib.hid (fun W ht => by
    have h := get_any (UInt8.ofNat k :: t) W ht (by simp; omega)
    rw [hg] at h
    exact h)
  clear hg
  go_enter Tryd.func11, Tryd.ntmps11
  go_wp2_with fail
  refine CS.out.mono ?_
  rintro e w1 ⟨rfl, hb⟩
  have HB1 := Lib.hid hb
  have HT1 := Lib.hid (HTF.out.below hb HTF.out.lt)
  have HCV := conv_1 w1 k (by omega)
  have HBA : Hid (Below w1.heap.size w1 (w1.alloc (.cells #[.int .u8 (k : Nat)] 5))) := Lib.hid ((Below.refl _ _).alloc (Nat.le_refl _) _)
  have HT2 := Lib.hid (HT1.out.below HBA.out HT1.out.lt)
  have HB2 := Lib.hid (HB1.out.trans (HBA.out.mono HB1.out.size))
  clear hb ht hkm2
  go_wp2_with fail
  with_reducible refine (CG.out _ HT2.out).mono ?_
  rintro e w2 ⟨hb, rfl⟩
  have HB3 := Lib.hid (HB2.out.trans (hb.mono HB2.out.size))
  have HB4 := Lib.hid (HB3.out.alloc HB3.out.size (.cells #[.int .u64 0, .int .u64 0, .int .u64 0, .int .u64 0, .int .u64 0, .int .u64 0, .int .u64 0, .int .u64 0, .bool false, .string ⟨#[]⟩, .string ⟨#[]⟩, .string ⟨#[]⟩, .slice none 0 0] 26))
  clear hb
  go_wp2
  all_goals
    go_ret
    first | exact ⟨rfl, HB4.out⟩ | exact ⟨by simp [hFin2], HB4.out⟩
set_option maxHeartbeats 8000000 in
theorem kinds_some2 (kd k : Nat) (t : List UInt8) (w : World) (ht : Tab w) (hs : (t.length : Int) ≤ 200) (hkd : kd < 256) (hkm2 : kd % 64 = k) (h1 : 4 ≤ k) (h2 : k ≤ 6) (g : Frm) (qs : List (Nat × Nat)) (r : List UInt8) (hg : getN (UInt8.ofNat k :: t) = some (g, qs, r)) :
    Calls Tryd.prog 11 #[.int .u8 (kd : Nat), .string ⟨t.toArray⟩] w fun e w' => e = .returned (.bool true) ∧ Below w.heap.size w w' := by
  have CS := Lib.hid (shown_any w ht)
  have hlen : (t.length : Int) ≤ 200 := hs
  have HTF := Lib.hid ht
  have hcat : (⟨#[UInt8.ofNat k]⟩ : ByteArray) ++ ⟨t.toArray⟩ = ⟨(UInt8.ofNat k :: t).toArray⟩ := by apply ByteArray.ext; simp
  have hkm : (kd : Int).tmod 64 = (k : Int) := by rw [Int.tmod_eq_emod_of_nonneg (by omega)]; omega
  have hk0 : (0 : Int) ≤ (k : Int) := by omega
  have hkw : IntKind.u8.wrap (k : Int) = (k : Int) := by rw [IntKind.wrap_u8]; omega
  have hkw2 : IntKind.u64.wrap (k : Int) = (k : Int) := wrap_u _ (by omega) (by omega)
  have k1 : (4 : Int) ≤ (k : Int) := by omega
  have k2 : (k : Int) ≤ 6 := by omega
  have l2 : ¬ (k : Int) ≤ 2 := by omega
  have l6 : (k : Int) ≤ 6 := by omega
  have l30 : (k : Int) ≤ 30 := by omega
  have l15 : (k : Int) ≤ 15 := by omega
  have g4 : (4 : Int) ≤ (k : Int) := by omega
  have g8 : ¬ (8 : Int) ≤ (k : Int) := by omega
  have s8 : (k : Int) < 8 := by omega
  have s15 : ¬ (15 : Int) < (k : Int) := by omega
  obtain ⟨hg1, _, _⟩ := getN_is hg
  have hkt : (UInt8.ofNat k).toNat = k := by rw [UInt8.toNat_ofNat']; omega
  obtain ⟨_, hgk, hgf, pre, hpre⟩ := frmN_kind hg1
  rw [hkt] at hgk hgf
  have hK : g.kind = (k : Int) := by rw [hgk]; unfold toldK; rw [if_neg (by omega)]
  have CG : Hid (∀ W, Tab W → Calls Tryd.prog 21 #[.string ⟨(UInt8.ofNat k :: t).toArray⟩] W fun e w' => Below W.heap.size W w' ∧ ∃ (sl : Sl), e = .returned (.tuple #[.agg #[.int .u64 g.kind, .int .u64 g.id, .int .u64 g.off, .int .u64 g.max, .int .u64 g.code, .int .u64 g.seq, .int .u64 g.prior, .int .u64 g.delay, .bool g.fin, .string ⟨g.data.toArray⟩, .string ⟨g.cid.toArray⟩, .string ⟨g.token.toArray⟩, .slice sl.a sl.n sl.c], .string ⟨r.toArray⟩, .int .i64 0])) := Lib.hid (fun W ht => by
    have h := get_any (UInt8.ofNat k :: t) W ht (by simp; omega)
    rw [hg] at h
    refine h.mono ?_
    rintro e w' ⟨h1, sl, h2, h3, h4, h5⟩
    exact ⟨h1, sl, h5⟩)
  have hext := ext_suf pre r
  have hsl : t.length = pre.length + r.length := by rw [hpre, List.length_append]
  rw [← hpre] at hext
  have hi1 : (t.length : Int) - (r.length : Int) = (pre.length : Int) := by omega
  have hi2 : (r.length : Int) ≤ (t.length : Int) := by omega
  have hi3 : (pre.length : Int) ≤ (t.length : Int) := by omega
  have hi4 : (0 : Int) ≤ (pre.length : Int) := by omega
  rw [← hsl] at hext
  clear hg hg1 hgk hgf hkt hpre hsl
  go_enter Tryd.func11, Tryd.ntmps11
  go_wp2_with fail
  refine CS.out.mono ?_
  rintro e w1 ⟨rfl, hb⟩
  have HB1 := Lib.hid hb
  have HT1 := Lib.hid (HTF.out.below hb HTF.out.lt)
  have HCV := conv_1 w1 k (by omega)
  have HBA : Hid (Below w1.heap.size w1 (w1.alloc (.cells #[.int .u8 (k : Nat)] 5))) := Lib.hid ((Below.refl _ _).alloc (Nat.le_refl _) _)
  have HT2 := Lib.hid (HT1.out.below HBA.out HT1.out.lt)
  have HB2 := Lib.hid (HB1.out.trans (HBA.out.mono HB1.out.size))
  clear hb ht hkm2
  go_wp2_with fail
  with_reducible refine (CG.out _ HT2.out).mono ?_
  rintro e w2 ⟨hb, sl, rfl⟩
  have HB3 := Lib.hid (HB2.out.trans (hb.mono HB2.out.size))
  have HB4 := Lib.hid (HB3.out.alloc HB3.out.size (.cells #[.int .u64 g.kind, .int .u64 g.id, .int .u64 g.off, .int .u64 g.max, .int .u64 g.code, .int .u64 g.seq, .int .u64 g.prior, .int .u64 g.delay, .bool g.fin, .string ⟨g.data.toArray⟩, .string ⟨g.cid.toArray⟩, .string ⟨g.token.toArray⟩, .slice sl.a sl.n sl.c] 26))
  rw [hK] at HB4 ⊢
  clear hb
  go_wp2
  all_goals
    go_ret
    first | exact ⟨rfl, HB4.out⟩ | exact ⟨by simp [hFin2], HB4.out⟩
set_option maxHeartbeats 8000000 in
theorem kinds_none3 (kd k : Nat) (t : List UInt8) (w : World) (ht : Tab w) (hs : (t.length : Int) ≤ 200) (hkd : kd < 256) (hkm2 : kd % 64 = k) (h1 : 7 ≤ k) (h2 : k ≤ 7) (hg : getN (UInt8.ofNat k :: t) = none) :
    Calls Tryd.prog 11 #[.int .u8 (kd : Nat), .string ⟨t.toArray⟩] w fun e w' => e = .returned (.bool true) ∧ Below w.heap.size w w' := by
  have CS := Lib.hid (shown_any w ht)
  have hlen : (t.length : Int) ≤ 200 := hs
  have HTF := Lib.hid ht
  have hcat : (⟨#[UInt8.ofNat k]⟩ : ByteArray) ++ ⟨t.toArray⟩ = ⟨(UInt8.ofNat k :: t).toArray⟩ := by apply ByteArray.ext; simp
  have hkm : (kd : Int).tmod 64 = (k : Int) := by rw [Int.tmod_eq_emod_of_nonneg (by omega)]; omega
  have hk0 : (0 : Int) ≤ (k : Int) := by omega
  have hkw : IntKind.u8.wrap (k : Int) = (k : Int) := by rw [IntKind.wrap_u8]; omega
  have hkw2 : IntKind.u64.wrap (k : Int) = (k : Int) := wrap_u _ (by omega) (by omega)
  have k1 : (7 : Int) ≤ (k : Int) := by omega
  have k2 : (k : Int) ≤ 7 := by omega
  have l2 : ¬ (k : Int) ≤ 2 := by omega
  have l6 : ¬ (k : Int) ≤ 6 := by omega
  have l30 : (k : Int) ≤ 30 := by omega
  have l15 : (k : Int) ≤ 15 := by omega
  have g4 : (4 : Int) ≤ (k : Int) := by omega
  have g8 : ¬ (8 : Int) ≤ (k : Int) := by omega
  have s8 : (k : Int) < 8 := by omega
  have s15 : ¬ (15 : Int) < (k : Int) := by omega
  have CG : Hid (∀ W, Tab W → Calls Tryd.prog 21 #[.string ⟨(UInt8.ofNat k :: t).toArray⟩] W fun e w' => Below W.heap.size W w' ∧ e = .returned (.tuple #[.agg #[.int .u64 0, .int .u64 0, .int .u64 0, .int .u64 0, .int .u64 0, .int .u64 0, .int .u64 0, .int .u64 0, .bool false, .string ⟨#[]⟩, .string ⟨#[]⟩, .string ⟨#[]⟩, .slice none 0 0], .string ⟨#[]⟩, .int .i64 60])) := Lib.hid (fun W ht => by
    have h := get_any (UInt8.ofNat k :: t) W ht (by simp; omega)
    rw [hg] at h
    exact h)
  clear hg
  go_enter Tryd.func11, Tryd.ntmps11
  go_wp2_with fail
  refine CS.out.mono ?_
  rintro e w1 ⟨rfl, hb⟩
  have HB1 := Lib.hid hb
  have HT1 := Lib.hid (HTF.out.below hb HTF.out.lt)
  have HCV := conv_1 w1 k (by omega)
  have HBA : Hid (Below w1.heap.size w1 (w1.alloc (.cells #[.int .u8 (k : Nat)] 5))) := Lib.hid ((Below.refl _ _).alloc (Nat.le_refl _) _)
  have HT2 := Lib.hid (HT1.out.below HBA.out HT1.out.lt)
  have HB2 := Lib.hid (HB1.out.trans (HBA.out.mono HB1.out.size))
  clear hb ht hkm2
  go_wp2_with fail
  with_reducible refine (CG.out _ HT2.out).mono ?_
  rintro e w2 ⟨hb, rfl⟩
  have HB3 := Lib.hid (HB2.out.trans (hb.mono HB2.out.size))
  have HB4 := Lib.hid (HB3.out.alloc HB3.out.size (.cells #[.int .u64 0, .int .u64 0, .int .u64 0, .int .u64 0, .int .u64 0, .int .u64 0, .int .u64 0, .int .u64 0, .bool false, .string ⟨#[]⟩, .string ⟨#[]⟩, .string ⟨#[]⟩, .slice none 0 0] 26))
  clear hb
  go_wp2
  all_goals
    go_ret
    first | exact ⟨rfl, HB4.out⟩ | exact ⟨by simp [hFin2], HB4.out⟩
set_option maxHeartbeats 8000000 in
theorem kinds_none4 (kd k : Nat) (t : List UInt8) (w : World) (ht : Tab w) (hs : (t.length : Int) ≤ 200) (hkd : kd < 256) (hkm2 : kd % 64 = k) (h1 : 8 ≤ k) (h2 : k ≤ 15) (hg : getN (UInt8.ofNat k :: t) = none) :
    Calls Tryd.prog 11 #[.int .u8 (kd : Nat), .string ⟨t.toArray⟩] w fun e w' => e = .returned (.bool true) ∧ Below w.heap.size w w' := by
  have CS := Lib.hid (shown_any w ht)
  have hlen : (t.length : Int) ≤ 200 := hs
  have HTF := Lib.hid ht
  have hcat : (⟨#[UInt8.ofNat k]⟩ : ByteArray) ++ ⟨t.toArray⟩ = ⟨(UInt8.ofNat k :: t).toArray⟩ := by apply ByteArray.ext; simp
  have hkm : (kd : Int).tmod 64 = (k : Int) := by rw [Int.tmod_eq_emod_of_nonneg (by omega)]; omega
  have hk0 : (0 : Int) ≤ (k : Int) := by omega
  have hkw : IntKind.u8.wrap (k : Int) = (k : Int) := by rw [IntKind.wrap_u8]; omega
  have hkw2 : IntKind.u64.wrap (k : Int) = (k : Int) := wrap_u _ (by omega) (by omega)
  have k1 : (8 : Int) ≤ (k : Int) := by omega
  have k2 : (k : Int) ≤ 15 := by omega
  have l2 : ¬ (k : Int) ≤ 2 := by omega
  have l6 : ¬ (k : Int) ≤ 6 := by omega
  have l30 : (k : Int) ≤ 30 := by omega
  have l15 : (k : Int) ≤ 15 := by omega
  have g4 : (4 : Int) ≤ (k : Int) := by omega
  have g8 : (8 : Int) ≤ (k : Int) := by omega
  have s8 : ¬ (k : Int) < 8 := by omega
  have s15 : ¬ (15 : Int) < (k : Int) := by omega
  have CG : Hid (∀ W, Tab W → Calls Tryd.prog 21 #[.string ⟨(UInt8.ofNat k :: t).toArray⟩] W fun e w' => Below W.heap.size W w' ∧ e = .returned (.tuple #[.agg #[.int .u64 0, .int .u64 0, .int .u64 0, .int .u64 0, .int .u64 0, .int .u64 0, .int .u64 0, .int .u64 0, .bool false, .string ⟨#[]⟩, .string ⟨#[]⟩, .string ⟨#[]⟩, .slice none 0 0], .string ⟨#[]⟩, .int .i64 60])) := Lib.hid (fun W ht => by
    have h := get_any (UInt8.ofNat k :: t) W ht (by simp; omega)
    rw [hg] at h
    exact h)
  clear hg
  go_enter Tryd.func11, Tryd.ntmps11
  go_wp2_with fail
  refine CS.out.mono ?_
  rintro e w1 ⟨rfl, hb⟩
  have HB1 := Lib.hid hb
  have HT1 := Lib.hid (HTF.out.below hb HTF.out.lt)
  have HCV := conv_1 w1 k (by omega)
  have HBA : Hid (Below w1.heap.size w1 (w1.alloc (.cells #[.int .u8 (k : Nat)] 5))) := Lib.hid ((Below.refl _ _).alloc (Nat.le_refl _) _)
  have HT2 := Lib.hid (HT1.out.below HBA.out HT1.out.lt)
  have HB2 := Lib.hid (HB1.out.trans (HBA.out.mono HB1.out.size))
  clear hb ht hkm2
  go_wp2_with fail
  with_reducible refine (CG.out _ HT2.out).mono ?_
  rintro e w2 ⟨hb, rfl⟩
  have HB3 := Lib.hid (HB2.out.trans (hb.mono HB2.out.size))
  have HB4 := Lib.hid (HB3.out.alloc HB3.out.size (.cells #[.int .u64 0, .int .u64 0, .int .u64 0, .int .u64 0, .int .u64 0, .int .u64 0, .int .u64 0, .int .u64 0, .bool false, .string ⟨#[]⟩, .string ⟨#[]⟩, .string ⟨#[]⟩, .slice none 0 0] 26))
  clear hb
  go_wp2
  all_goals
    go_ret
    first | exact ⟨rfl, HB4.out⟩ | exact ⟨by simp [hFin2], HB4.out⟩
set_option maxHeartbeats 8000000 in
theorem kinds_some4 (kd k : Nat) (t : List UInt8) (w : World) (ht : Tab w) (hs : (t.length : Int) ≤ 200) (hkd : kd < 256) (hkm2 : kd % 64 = k) (h1 : 8 ≤ k) (h2 : k ≤ 15) (g : Frm) (qs : List (Nat × Nat)) (r : List UInt8) (hg : getN (UInt8.ofNat k :: t) = some (g, qs, r)) :
    Calls Tryd.prog 11 #[.int .u8 (kd : Nat), .string ⟨t.toArray⟩] w fun e w' => e = .returned (.bool true) ∧ Below w.heap.size w w' := by
  have CS := Lib.hid (shown_any w ht)
  have hlen : (t.length : Int) ≤ 200 := hs
  have HTF := Lib.hid ht
  have hcat : (⟨#[UInt8.ofNat k]⟩ : ByteArray) ++ ⟨t.toArray⟩ = ⟨(UInt8.ofNat k :: t).toArray⟩ := by apply ByteArray.ext; simp
  have hkm : (kd : Int).tmod 64 = (k : Int) := by rw [Int.tmod_eq_emod_of_nonneg (by omega)]; omega
  have hk0 : (0 : Int) ≤ (k : Int) := by omega
  have hkw : IntKind.u8.wrap (k : Int) = (k : Int) := by rw [IntKind.wrap_u8]; omega
  have hkw2 : IntKind.u64.wrap (k : Int) = (k : Int) := wrap_u _ (by omega) (by omega)
  have k1 : (8 : Int) ≤ (k : Int) := by omega
  have k2 : (k : Int) ≤ 15 := by omega
  have l2 : ¬ (k : Int) ≤ 2 := by omega
  have l6 : ¬ (k : Int) ≤ 6 := by omega
  have l30 : (k : Int) ≤ 30 := by omega
  have l15 : (k : Int) ≤ 15 := by omega
  have g4 : (4 : Int) ≤ (k : Int) := by omega
  have g8 : (8 : Int) ≤ (k : Int) := by omega
  have s8 : ¬ (k : Int) < 8 := by omega
  have s15 : ¬ (15 : Int) < (k : Int) := by omega
  obtain ⟨hg1, _, _⟩ := getN_is hg
  have hkt : (UInt8.ofNat k).toNat = k := by rw [UInt8.toNat_ofNat']; omega
  obtain ⟨_, hgk, hgf, pre, hpre⟩ := frmN_kind hg1
  rw [hkt] at hgk hgf
  have hK : g.kind = (8 : Int) := by rw [hgk]; unfold toldK; rw [if_pos (by omega)]; rfl
  have hFin : g.fin = decide (k % 2 = 1) := by rw [hgf (by omega)]; exact kinds_fin ⟨k, by omega⟩ (by simp only; omega)
  have hk2 : (k : Int).tmod 2 = ((k % 2 : Nat) : Int) := by rw [Int.tmod_eq_emod_of_nonneg (by omega)]; omega
  have hFin2 : (g.fin == ((k : Int) % 2 == 1)) = true := by
    rw [hFin]
    have h2 : (k : Int) % 2 = ((k % 2 : Nat) : Int) := (Int.natCast_emod k 2).symm
    rw [h2]
    have : k % 2 = 0 ∨ k % 2 = 1 := by omega
    rcases this with h | h <;> rw [h] <;> rfl
  clear hFin
  have CG : Hid (∀ W, Tab W → Calls Tryd.prog 21 #[.string ⟨(UInt8.ofNat k :: t).toArray⟩] W fun e w' => Below W.heap.size W w' ∧ ∃ (sl : Sl), e = .returned (.tuple #[.agg #[.int .u64 g.kind, .int .u64 g.id, .int .u64 g.off, .int .u64 g.max, .int .u64 g.code, .int .u64 g.seq, .int .u64 g.prior, .int .u64 g.delay, .bool g.fin, .string ⟨g.data.toArray⟩, .string ⟨g.cid.toArray⟩, .string ⟨g.token.toArray⟩, .slice sl.a sl.n sl.c], .string ⟨r.toArray⟩, .int .i64 0])) := Lib.hid (fun W ht => by
    have h := get_any (UInt8.ofNat k :: t) W ht (by simp; omega)
    rw [hg] at h
    refine h.mono ?_
    rintro e w' ⟨h1, sl, h2, h3, h4, h5⟩
    exact ⟨h1, sl, h5⟩)
  have hext := ext_suf pre r
  have hsl : t.length = pre.length + r.length := by rw [hpre, List.length_append]
  rw [← hpre] at hext
  have hi1 : (t.length : Int) - (r.length : Int) = (pre.length : Int) := by omega
  have hi2 : (r.length : Int) ≤ (t.length : Int) := by omega
  have hi3 : (pre.length : Int) ≤ (t.length : Int) := by omega
  have hi4 : (0 : Int) ≤ (pre.length : Int) := by omega
  rw [← hsl] at hext
  clear hg hg1 hgk hgf hkt hpre hsl
  go_enter Tryd.func11, Tryd.ntmps11
  go_wp2_with fail
  refine CS.out.mono ?_
  rintro e w1 ⟨rfl, hb⟩
  have HB1 := Lib.hid hb
  have HT1 := Lib.hid (HTF.out.below hb HTF.out.lt)
  have HCV := conv_1 w1 k (by omega)
  have HBA : Hid (Below w1.heap.size w1 (w1.alloc (.cells #[.int .u8 (k : Nat)] 5))) := Lib.hid ((Below.refl _ _).alloc (Nat.le_refl _) _)
  have HT2 := Lib.hid (HT1.out.below HBA.out HT1.out.lt)
  have HB2 := Lib.hid (HB1.out.trans (HBA.out.mono HB1.out.size))
  clear hb ht hkm2
  go_wp2_with fail
  with_reducible refine (CG.out _ HT2.out).mono ?_
  rintro e w2 ⟨hb, sl, rfl⟩
  have HB3 := Lib.hid (HB2.out.trans (hb.mono HB2.out.size))
  have HB4 := Lib.hid (HB3.out.alloc HB3.out.size (.cells #[.int .u64 g.kind, .int .u64 g.id, .int .u64 g.off, .int .u64 g.max, .int .u64 g.code, .int .u64 g.seq, .int .u64 g.prior, .int .u64 g.delay, .bool g.fin, .string ⟨g.data.toArray⟩, .string ⟨g.cid.toArray⟩, .string ⟨g.token.toArray⟩, .slice sl.a sl.n sl.c] 26))
  rw [hK] at HB4 ⊢
  clear hb
  go_wp2
  all_goals
    go_ret
    first | exact ⟨rfl, HB4.out⟩ | exact ⟨by simp [hFin2], HB4.out⟩
set_option maxHeartbeats 8000000 in
theorem kinds_none5 (kd k : Nat) (t : List UInt8) (w : World) (ht : Tab w) (hs : (t.length : Int) ≤ 200) (hkd : kd < 256) (hkm2 : kd % 64 = k) (h1 : 16 ≤ k) (h2 : k ≤ 30) (hg : getN (UInt8.ofNat k :: t) = none) :
    Calls Tryd.prog 11 #[.int .u8 (kd : Nat), .string ⟨t.toArray⟩] w fun e w' => e = .returned (.bool true) ∧ Below w.heap.size w w' := by
  have CS := Lib.hid (shown_any w ht)
  have hlen : (t.length : Int) ≤ 200 := hs
  have HTF := Lib.hid ht
  have hcat : (⟨#[UInt8.ofNat k]⟩ : ByteArray) ++ ⟨t.toArray⟩ = ⟨(UInt8.ofNat k :: t).toArray⟩ := by apply ByteArray.ext; simp
  have hkm : (kd : Int).tmod 64 = (k : Int) := by rw [Int.tmod_eq_emod_of_nonneg (by omega)]; omega
  have hk0 : (0 : Int) ≤ (k : Int) := by omega
  have hkw : IntKind.u8.wrap (k : Int) = (k : Int) := by rw [IntKind.wrap_u8]; omega
  have hkw2 : IntKind.u64.wrap (k : Int) = (k : Int) := wrap_u _ (by omega) (by omega)
  have k1 : (16 : Int) ≤ (k : Int) := by omega
  have k2 : (k : Int) ≤ 30 := by omega
  have l2 : ¬ (k : Int) ≤ 2 := by omega
  have l6 : ¬ (k : Int) ≤ 6 := by omega
  have l30 : (k : Int) ≤ 30 := by omega
  have l15 : ¬ (k : Int) ≤ 15 := by omega
  have g4 : (4 : Int) ≤ (k : Int) := by omega
  have g8 : (8 : Int) ≤ (k : Int) := by omega
  have s8 : ¬ (k : Int) < 8 := by omega
  have s15 : (15 : Int) < (k : Int) := by omega
  have CG : Hid (∀ W, Tab W → Calls Tryd.prog 21 #[.string ⟨(UInt8.ofNat k :: t).toArray⟩] W fun e w' => Below W.heap.size W w' ∧ e = .returned (.tuple #[.agg #[.int .u64 0, .int .u64 0, .int .u64 0, .int .u64 0, .int .u64 0, .int .u64 0, .int .u64 0, .int .u64 0, .bool false, .string ⟨#[]⟩, .string ⟨#[]⟩, .string ⟨#[]⟩, .slice none 0 0], .string ⟨#[]⟩, .int .i64 60])) := Lib.hid (fun W ht => by
    have h := get_any (UInt8.ofNat k :: t) W ht (by simp; omega)
    rw [hg] at h
    exact h)
  clear hg
  go_enter Tryd.func11, Tryd.ntmps11
  go_wp2_with fail
  refine CS.out.mono ?_
  rintro e w1 ⟨rfl, hb⟩
  have HB1 := Lib.hid hb
  have HT1 := Lib.hid (HTF.out.below hb HTF.out.lt)
  have HCV := conv_1 w1 k (by omega)
  have HBA : Hid (Below w1.heap.size w1 (w1.alloc (.cells #[.int .u8 (k : Nat)] 5))) := Lib.hid ((Below.refl _ _).alloc (Nat.le_refl _) _)
  have HT2 := Lib.hid (HT1.out.below HBA.out HT1.out.lt)
  have HB2 := Lib.hid (HB1.out.trans (HBA.out.mono HB1.out.size))
  clear hb ht hkm2
  go_wp2_with fail
  with_reducible refine (CG.out _ HT2.out).mono ?_
  rintro e w2 ⟨hb, rfl⟩
  have HB3 := Lib.hid (HB2.out.trans (hb.mono HB2.out.size))
  have HB4 := Lib.hid (HB3.out.alloc HB3.out.size (.cells #[.int .u64 0, .int .u64 0, .int .u64 0, .int .u64 0, .int .u64 0, .int .u64 0, .int .u64 0, .int .u64 0, .bool false, .string ⟨#[]⟩, .string ⟨#[]⟩, .string ⟨#[]⟩, .slice none 0 0] 26))
  clear hb
  go_wp2
  all_goals
    go_ret
    first | exact ⟨rfl, HB4.out⟩ | exact ⟨by simp [hFin2], HB4.out⟩
set_option maxHeartbeats 8000000 in
theorem kinds_some5 (kd k : Nat) (t : List UInt8) (w : World) (ht : Tab w) (hs : (t.length : Int) ≤ 200) (hkd : kd < 256) (hkm2 : kd % 64 = k) (h1 : 16 ≤ k) (h2 : k ≤ 30) (g : Frm) (qs : List (Nat × Nat)) (r : List UInt8) (hg : getN (UInt8.ofNat k :: t) = some (g, qs, r)) :
    Calls Tryd.prog 11 #[.int .u8 (kd : Nat), .string ⟨t.toArray⟩] w fun e w' => e = .returned (.bool true) ∧ Below w.heap.size w w' := by
  have CS := Lib.hid (shown_any w ht)
  have hlen : (t.length : Int) ≤ 200 := hs
  have HTF := Lib.hid ht
  have hcat : (⟨#[UInt8.ofNat k]⟩ : ByteArray) ++ ⟨t.toArray⟩ = ⟨(UInt8.ofNat k :: t).toArray⟩ := by apply ByteArray.ext; simp
  have hkm : (kd : Int).tmod 64 = (k : Int) := by rw [Int.tmod_eq_emod_of_nonneg (by omega)]; omega
  have hk0 : (0 : Int) ≤ (k : Int) := by omega
  have hkw : IntKind.u8.wrap (k : Int) = (k : Int) := by rw [IntKind.wrap_u8]; omega
  have hkw2 : IntKind.u64.wrap (k : Int) = (k : Int) := wrap_u _ (by omega) (by omega)
  have k1 : (16 : Int) ≤ (k : Int) := by omega
  have k2 : (k : Int) ≤ 30 := by omega
  have l2 : ¬ (k : Int) ≤ 2 := by omega
  have l6 : ¬ (k : Int) ≤ 6 := by omega
  have l30 : (k : Int) ≤ 30 := by omega
  have l15 : ¬ (k : Int) ≤ 15 := by omega
  have g4 : (4 : Int) ≤ (k : Int) := by omega
  have g8 : (8 : Int) ≤ (k : Int) := by omega
  have s8 : ¬ (k : Int) < 8 := by omega
  have s15 : (15 : Int) < (k : Int) := by omega
  obtain ⟨hg1, _, _⟩ := getN_is hg
  have hkt : (UInt8.ofNat k).toNat = k := by rw [UInt8.toNat_ofNat']; omega
  obtain ⟨_, hgk, hgf, pre, hpre⟩ := frmN_kind hg1
  rw [hkt] at hgk hgf
  have hK : g.kind = (k : Int) := by rw [hgk]; unfold toldK; rw [if_neg (by omega)]
  have CG : Hid (∀ W, Tab W → Calls Tryd.prog 21 #[.string ⟨(UInt8.ofNat k :: t).toArray⟩] W fun e w' => Below W.heap.size W w' ∧ ∃ (sl : Sl), e = .returned (.tuple #[.agg #[.int .u64 g.kind, .int .u64 g.id, .int .u64 g.off, .int .u64 g.max, .int .u64 g.code, .int .u64 g.seq, .int .u64 g.prior, .int .u64 g.delay, .bool g.fin, .string ⟨g.data.toArray⟩, .string ⟨g.cid.toArray⟩, .string ⟨g.token.toArray⟩, .slice sl.a sl.n sl.c], .string ⟨r.toArray⟩, .int .i64 0])) := Lib.hid (fun W ht => by
    have h := get_any (UInt8.ofNat k :: t) W ht (by simp; omega)
    rw [hg] at h
    refine h.mono ?_
    rintro e w' ⟨h1, sl, h2, h3, h4, h5⟩
    exact ⟨h1, sl, h5⟩)
  have hext := ext_suf pre r
  have hsl : t.length = pre.length + r.length := by rw [hpre, List.length_append]
  rw [← hpre] at hext
  have hi1 : (t.length : Int) - (r.length : Int) = (pre.length : Int) := by omega
  have hi2 : (r.length : Int) ≤ (t.length : Int) := by omega
  have hi3 : (pre.length : Int) ≤ (t.length : Int) := by omega
  have hi4 : (0 : Int) ≤ (pre.length : Int) := by omega
  rw [← hsl] at hext
  clear hg hg1 hgk hgf hkt hpre hsl
  go_enter Tryd.func11, Tryd.ntmps11
  go_wp2_with fail
  refine CS.out.mono ?_
  rintro e w1 ⟨rfl, hb⟩
  have HB1 := Lib.hid hb
  have HT1 := Lib.hid (HTF.out.below hb HTF.out.lt)
  have HCV := conv_1 w1 k (by omega)
  have HBA : Hid (Below w1.heap.size w1 (w1.alloc (.cells #[.int .u8 (k : Nat)] 5))) := Lib.hid ((Below.refl _ _).alloc (Nat.le_refl _) _)
  have HT2 := Lib.hid (HT1.out.below HBA.out HT1.out.lt)
  have HB2 := Lib.hid (HB1.out.trans (HBA.out.mono HB1.out.size))
  clear hb ht hkm2
  go_wp2_with fail
  with_reducible refine (CG.out _ HT2.out).mono ?_
  rintro e w2 ⟨hb, sl, rfl⟩
  have HB3 := Lib.hid (HB2.out.trans (hb.mono HB2.out.size))
  have HB4 := Lib.hid (HB3.out.alloc HB3.out.size (.cells #[.int .u64 g.kind, .int .u64 g.id, .int .u64 g.off, .int .u64 g.max, .int .u64 g.code, .int .u64 g.seq, .int .u64 g.prior, .int .u64 g.delay, .bool g.fin, .string ⟨g.data.toArray⟩, .string ⟨g.cid.toArray⟩, .string ⟨g.token.toArray⟩, .slice sl.a sl.n sl.c] 26))
  rw [hK] at HB4 ⊢
  clear hb
  go_wp2
  all_goals
    go_ret
    first | exact ⟨rfl, HB4.out⟩ | exact ⟨by simp [hFin2], HB4.out⟩
set_option maxHeartbeats 8000000 in
theorem kinds_none6 (kd k : Nat) (t : List UInt8) (w : World) (ht : Tab w) (hs : (t.length : Int) ≤ 200) (hkd : kd < 256) (hkm2 : kd % 64 = k) (h1 : 31 ≤ k) (h2 : k ≤ 63) (hg : getN (UInt8.ofNat k :: t) = none) :
    Calls Tryd.prog 11 #[.int .u8 (kd : Nat), .string ⟨t.toArray⟩] w fun e w' => e = .returned (.bool true) ∧ Below w.heap.size w w' := by
  have CS := Lib.hid (shown_any w ht)
  have hlen : (t.length : Int) ≤ 200 := hs
  have HTF := Lib.hid ht
  have hcat : (⟨#[UInt8.ofNat k]⟩ : ByteArray) ++ ⟨t.toArray⟩ = ⟨(UInt8.ofNat k :: t).toArray⟩ := by apply ByteArray.ext; simp
  have hkm : (kd : Int).tmod 64 = (k : Int) := by rw [Int.tmod_eq_emod_of_nonneg (by omega)]; omega
  have hk0 : (0 : Int) ≤ (k : Int) := by omega
  have hkw : IntKind.u8.wrap (k : Int) = (k : Int) := by rw [IntKind.wrap_u8]; omega
  have hkw2 : IntKind.u64.wrap (k : Int) = (k : Int) := wrap_u _ (by omega) (by omega)
  have k1 : (31 : Int) ≤ (k : Int) := by omega
  have k2 : (k : Int) ≤ 63 := by omega
  have l2 : ¬ (k : Int) ≤ 2 := by omega
  have l6 : ¬ (k : Int) ≤ 6 := by omega
  have l30 : ¬ (k : Int) ≤ 30 := by omega
  have l15 : ¬ (k : Int) ≤ 15 := by omega
  have g4 : (4 : Int) ≤ (k : Int) := by omega
  have g8 : (8 : Int) ≤ (k : Int) := by omega
  have s8 : ¬ (k : Int) < 8 := by omega
  have s15 : (15 : Int) < (k : Int) := by omega
  have CG : Hid (∀ W, Tab W → Calls Tryd.prog 21 #[.string ⟨(UInt8.ofNat k :: t).toArray⟩] W fun e w' => Below W.heap.size W w' ∧ e = .returned (.tuple #[.agg #[.int .u64 0, .int .u64 0, .int .u64 0, .int .u64 0, .int .u64 0, .int .u64 0, .int .u64 0, .int .u64 0, .bool false, .string ⟨#[]⟩, .string ⟨#[]⟩, .string ⟨#[]⟩, .slice none 0 0], .string ⟨#[]⟩, .int .i64 60])) := Lib.hid (fun W ht => by
    have h := get_any (UInt8.ofNat k :: t) W ht (by simp; omega)
    rw [hg] at h
    exact h)
  clear hg
  go_enter Tryd.func11, Tryd.ntmps11
  go_wp2_with fail
  refine CS.out.mono ?_
  rintro e w1 ⟨rfl, hb⟩
  have HB1 := Lib.hid hb
  have HT1 := Lib.hid (HTF.out.below hb HTF.out.lt)
  have HCV := conv_1 w1 k (by omega)
  have HBA : Hid (Below w1.heap.size w1 (w1.alloc (.cells #[.int .u8 (k : Nat)] 5))) := Lib.hid ((Below.refl _ _).alloc (Nat.le_refl _) _)
  have HT2 := Lib.hid (HT1.out.below HBA.out HT1.out.lt)
  have HB2 := Lib.hid (HB1.out.trans (HBA.out.mono HB1.out.size))
  clear hb ht hkm2
  go_wp2_with fail
  with_reducible refine (CG.out _ HT2.out).mono ?_
  rintro e w2 ⟨hb, rfl⟩
  have HB3 := Lib.hid (HB2.out.trans (hb.mono HB2.out.size))
  have HB4 := Lib.hid (HB3.out.alloc HB3.out.size (.cells #[.int .u64 0, .int .u64 0, .int .u64 0, .int .u64 0, .int .u64 0, .int .u64 0, .int .u64 0, .int .u64 0, .bool false, .string ⟨#[]⟩, .string ⟨#[]⟩, .string ⟨#[]⟩, .slice none 0 0] 26))
  clear hb
  go_wp2
  all_goals
    go_ret
    first | exact ⟨rfl, HB4.out⟩ | exact ⟨by simp [hFin2], HB4.out⟩
theorem kinds_out (kd : Int) (t : List UInt8) (w : World) (ht : Tab w) (hs : ¬ (t.length : Int) ≤ 200) :
    Calls Tryd.prog 11 #[.int .u8 kd, .string ⟨t.toArray⟩] w fun e w' => e = .returned (.bool true) ∧ Below w.heap.size w w' := by
  have CS := Lib.hid (shown_any w ht)
  clear ht
  go_enter Tryd.func11, Tryd.ntmps11
  go_wp2_with fail
  refine CS.out.mono ?_
  rintro e w1 ⟨rfl, hb⟩
  go_wp2
  go_ret
  exact ⟨rfl, hb⟩
theorem law_kinds (kind : Int) (t : List UInt8) (w : World) (ht : Tab w) (w0 : (Lit.int .u8 kind).wf = true) (w1 : (⟨t.toArray⟩ : ByteArray).size ≤ maxLen) :
    Calls Tryd.prog 11 #[.int .u8 kind, .string ⟨t.toArray⟩] w fun e w' => e = .returned (.bool true) ∧ Below w.heap.size w w' := by
  obtain ⟨hc0, hc1⟩ := bounds_u8 w0
  obtain ⟨c, rfl⟩ : ∃ c : Nat, kind = (c : Int) := ⟨kind.toNat, by omega⟩
  by_cases hs : (t.length : Int) ≤ 200
  · obtain ⟨k, hk⟩ : ∃ k, c % 64 = k := ⟨_, rfl⟩
    have hkr : (0 ≤ k ∧ k ≤ 2) ∨ (3 ≤ k ∧ k ≤ 3) ∨ (4 ≤ k ∧ k ≤ 6) ∨ (7 ≤ k ∧ k ≤ 7) ∨ (8 ≤ k ∧ k ≤ 15) ∨ (16 ≤ k ∧ k ≤ 30) ∨ (31 ≤ k ∧ k ≤ 63) := by omega
    match hg : getN (UInt8.ofNat k :: t) with
    | none =>
      rcases hkr with h | h | h | h | h | h | h
      · exact kinds_none0 c k t w ht hs (by omega) hk h.1 h.2 hg
      · exact kinds_none1 c k t w ht hs (by omega) hk h.1 h.2 hg
      · exact kinds_none2 c k t w ht hs (by omega) hk h.1 h.2 hg
      · exact kinds_none3 c k t w ht hs (by omega) hk h.1 h.2 hg
      · exact kinds_none4 c k t w ht hs (by omega) hk h.1 h.2 hg
      · exact kinds_none5 c k t w ht hs (by omega) hk h.1 h.2 hg
      · exact kinds_none6 c k t w ht hs (by omega) hk h.1 h.2 hg
    | some (g, qs, r) =>
      have hb := (frmN_kind (getN_is hg).1).1
      have hkt : (UInt8.ofNat k).toNat = k := by rw [UInt8.toNat_ofNat']; omega
      rw [hkt, knK_told ⟨k, by omega⟩] at hb
      unfold knK at hb
      simp only [Bool.or_eq_true, Bool.and_eq_true, decide_eq_true_eq] at hb
      rcases hkr with h | h | h | h | h | h | h
      · exact kinds_some0 c k t w ht hs (by omega) hk h.1 h.2 g qs r hg
      · omega
      · exact kinds_some2 c k t w ht hs (by omega) hk h.1 h.2 g qs r hg
      · omega
      · exact kinds_some4 c k t w ht hs (by omega) hk h.1 h.2 g qs r hg
      · exact kinds_some5 c k t w ht hs (by omega) hk h.1 h.2 g qs r hg
      · omega
  · exact kinds_out c t w ht hs
end Go.Proofs.YteelcihgbjhnbaaDoor.Fm
