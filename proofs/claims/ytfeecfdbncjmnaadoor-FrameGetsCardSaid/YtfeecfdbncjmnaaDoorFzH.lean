/- Layer 6: FpB, joined by tools/pack.py. -/
import Derived.Test.YtfeecfdbncjmnaaDoorFzC
import Derived.Test.YtfeecfdbncjmnaaDoorFzB
import Derived.Deep.QuietTactic
import Derived.Deep.CutRange
import Derived.BigQuiet
namespace Go.Proofs.YtfeecfdbncjmnaaDoor.Fm
set_option maxRecDepth 20000
open Go.RowKit Vm
set_option linter.unusedVariables false
set_option linter.unusedSimpArgs false

/-- The numbers in the document's order, and their letters. -/
def nq (f : Frm) : Nat → Int
  | 0 => f.id
  | 1 => f.off
  | 2 => f.max
  | 3 => f.code
  | 4 => f.seq
  | 5 => f.prior
  | _ => f.delay
def cq : Nat → UInt8
  | 0 => 105
  | 1 => 111
  | 2 => 109
  | 3 => 99
  | 4 => 113
  | 5 => 112
  | _ => 101
theorem nq_nm (f : Frm) (i : Nat) (hi : i < 7) : ∃ j, j < 7 ∧ nq f i = nm f j ∧ cq i = chrN j := by
  match i, hi with
  | 0, _ => exact ⟨0, by decide, rfl, rfl⟩
  | 1, _ => exact ⟨1, by decide, rfl, rfl⟩
  | 2, _ => exact ⟨3, by decide, rfl, rfl⟩
  | 3, _ => exact ⟨2, by decide, rfl, rfl⟩
  | 4, _ => exact ⟨4, by decide, rfl, rfl⟩
  | 5, _ => exact ⟨5, by decide, rfl, rfl⟩
  | 6, _ => exact ⟨6, by decide, rfl, rfl⟩
theorem nm_nq (f : Frm) (j : Nat) (hj : j < 7) : ∃ i, i < 7 ∧ nm f j = nq f i ∧ chrN j = cq i := by
  match j, hj with
  | 0, _ => exact ⟨0, by decide, rfl, rfl⟩
  | 1, _ => exact ⟨1, by decide, rfl, rfl⟩
  | 2, _ => exact ⟨3, by decide, rfl, rfl⟩
  | 3, _ => exact ⟨2, by decide, rfl, rfl⟩
  | 4, _ => exact ⟨4, by decide, rfl, rfl⟩
  | 5, _ => exact ⟨5, by decide, rfl, rfl⟩
  | 6, _ => exact ⟨6, by decide, rfl, rfl⟩
theorem cq_get (k : Nat) (hk : k < 7) : (⟨#[105, 111, 109, 99, 113, 112, 101]⟩ : ByteArray)[k]'hk = cq k := by
  match k, hk with
  | 0, _ | 1, _ | 2, _ | 3, _ | 4, _ | 5, _ | 6, _ => rfl
theorem FrD.keep {b : Nat} {f : Frm} {w w' : World} (h : FrD b f w) (hb : Below w.heap.size w w') : FrD b f w' := (hb.block b (Array.getElem?_eq_some_iff.1 h).1).trans h
theorem FrD.cell0 {b : Nat} {f : Frm} {w : World} (h : FrD b f w) : w.cell? ⟨b, 0, none⟩ = some (.int .u64 f.kind) := Lib.cell_of_heap h 0
theorem FrD.cell1 {b : Nat} {f : Frm} {w : World} (h : FrD b f w) : w.cell? ⟨b, 1, none⟩ = some (.int .u64 f.id) := Lib.cell_of_heap h 1
theorem FrD.cell2 {b : Nat} {f : Frm} {w : World} (h : FrD b f w) : w.cell? ⟨b, 2, none⟩ = some (.int .u64 f.off) := Lib.cell_of_heap h 2
theorem FrD.cell3 {b : Nat} {f : Frm} {w : World} (h : FrD b f w) : w.cell? ⟨b, 3, none⟩ = some (.int .u64 f.max) := Lib.cell_of_heap h 3
theorem FrD.cell4 {b : Nat} {f : Frm} {w : World} (h : FrD b f w) : w.cell? ⟨b, 4, none⟩ = some (.int .u64 f.code) := Lib.cell_of_heap h 4
theorem FrD.cell5 {b : Nat} {f : Frm} {w : World} (h : FrD b f w) : w.cell? ⟨b, 5, none⟩ = some (.int .u64 f.seq) := Lib.cell_of_heap h 5
theorem FrD.cell6 {b : Nat} {f : Frm} {w : World} (h : FrD b f w) : w.cell? ⟨b, 6, none⟩ = some (.int .u64 f.prior) := Lib.cell_of_heap h 6
theorem FrD.cell7 {b : Nat} {f : Frm} {w : World} (h : FrD b f w) : w.cell? ⟨b, 7, none⟩ = some (.int .u64 f.delay) := Lib.cell_of_heap h 7
theorem FrD.cell8 {b : Nat} {f : Frm} {w : World} (h : FrD b f w) : w.cell? ⟨b, 8, none⟩ = some (.bool f.fin) := Lib.cell_of_heap h 8
theorem FrD.cell9 {b : Nat} {f : Frm} {w : World} (h : FrD b f w) : w.cell? ⟨b, 9, none⟩ = some (.string ⟨f.data.toArray⟩) := Lib.cell_of_heap h 9
theorem FrD.cell10 {b : Nat} {f : Frm} {w : World} (h : FrD b f w) : w.cell? ⟨b, 10, none⟩ = some (.string ⟨f.cid.toArray⟩) := Lib.cell_of_heap h 10
theorem FrD.cell11 {b : Nat} {f : Frm} {w : World} (h : FrD b f w) : w.cell? ⟨b, 11, none⟩ = some (.string ⟨f.token.toArray⟩) := Lib.cell_of_heap h 11
theorem FrD.cell12 {b : Nat} {f : Frm} {w : World} (h : FrD b f w) : w.cell? ⟨b, 12, none⟩ = some (.slice f.set.a f.set.n f.set.c) := Lib.cell_of_heap h 12
/-- The seven numbers' block. -/
def NuB (b : Nat) (f : Frm) (w : World) : Prop := ∀ k, k < 7 → w.cell? ⟨b, k, none⟩ = some (.int .u64 (nq f k))
theorem nub_made (b : Nat) (f : Frm) (w : World) (ty : TypeId) (h : w.heap[b]? = some (.cells #[.int .u64 f.id, .int .u64 f.off, .int .u64 f.max, .int .u64 f.code, .int .u64 f.seq, .int .u64 f.prior, .int .u64 f.delay] ty)) : NuB b f w := by
  intro k hk
  rw [Lib.cell_of_heap h k]
  match k, hk with
  | 0, _ | 1, _ | 2, _ | 3, _ | 4, _ | 5, _ | 6, _ => rfl
/-- Whether a part is there that the kind has not. -/
def badN (s : List UInt8) (f : Frm) : Bool := s.isEmpty || ((f.fin && !s.contains 102) || ((!f.data.isEmpty && !s.contains 100) || ((!f.cid.isEmpty && !s.contains 110) || ((!f.token.isEmpty && !s.contains 116) || (decide (0 < f.set.n) && !s.contains 115)))))
theorem shp_len (k : Nat) : (shpN k).length ≤ 4 := by
  unfold shpN
  split <;> decide
theorem bad_may (k : Nat) (f : Frm) (l : List Ran) (h : badN (shpN k) f = true) : mayF k f l = false := by
  unfold badN at h
  simp only [Bool.or_eq_true, Bool.and_eq_true, Bool.not_eq_true', List.isEmpty_eq_false_iff, decide_eq_true_eq] at h
  rcases h with h | ⟨h1, h2⟩ | ⟨h1, h2⟩ | ⟨h1, h2⟩ | ⟨h1, h2⟩ | ⟨h1, h2⟩
  · exact may_none k f l h
  · exact may_fin k f l h1 h2
  · exact may_data k f l h1 h2
  · exact may_cid k f l h1 h2
  · exact may_token k f l h1 h2
  · exact may_set k f l (by omega) h2
theorem left_may (k : Nat) (f : Frm) (l : List Ran) (h1 : ∀ i, i < 7 → nq f i ≤ 4611686018427387903) (h2 : ∀ i, i < 7 → nq f i = 0 ∨ (shpN k).contains (cq i) = true) (h : badN (shpN k) f = false) : mayF k f l = kndB f l := by
  unfold badN at h
  simp only [Bool.or_eq_false_iff, Bool.and_eq_false_imp, Bool.not_eq_true', Bool.not_eq_false', decide_eq_true_eq] at h
  obtain ⟨g0, g1, g2, g3, g4, g5⟩ := h
  refine may_left k f l (fun j hj => ?_) (fun j hj => ?_) g0 ?_ ?_ ?_ ?_ ?_
  · obtain ⟨i, hi, e1, e2⟩ := nm_nq f j hj
    rw [e1]; exact h1 i hi
  · obtain ⟨i, hi, e1, e2⟩ := nm_nq f j hj
    rw [e1, e2]; exact h2 i hi
  · cases hf : f.fin with
    | false => exact Or.inl rfl
    | true => exact Or.inr (g1 hf)
  · by_cases hd : f.data = []
    · exact Or.inl hd
    · exact Or.inr (g2 (List.isEmpty_eq_false_iff.2 hd))
  · by_cases hd : f.cid = []
    · exact Or.inl hd
    · exact Or.inr (g3 (List.isEmpty_eq_false_iff.2 hd))
  · by_cases hd : f.token = []
    · exact Or.inl hd
    · exact Or.inr (g4 (List.isEmpty_eq_false_iff.2 hd))
  · by_cases hd : f.set.n = 0
    · exact Or.inl hd
    · exact Or.inr (g5 (by omega))
set_option maxHeartbeats 16000000 in
theorem rmayf (k : Nat) (f : Frm) (l : List Ran) (w : World) (hf : f.kind = (k : Nat)) (hp : ∀ j, 0 ≤ nm f j) (hrd : Rd w (.slice f.set.a f.set.n f.set.c) l) (hu : ∀ x ∈ l, 0 ≤ x.1 ∧ 0 ≤ x.2) (hl : l.length ≤ 1000) (hd : f.data.length ≤ 1000000) (hci : f.cid.length ≤ 1000000) (hto : f.token.length ≤ 1000000) :
    Calls Tryd.prog 23 #[.agg #[.int .u64 f.kind, .int .u64 f.id, .int .u64 f.off, .int .u64 f.max, .int .u64 f.code, .int .u64 f.seq, .int .u64 f.prior, .int .u64 f.delay, .bool f.fin, .string ⟨f.data.toArray⟩, .string ⟨f.cid.toArray⟩, .string ⟨f.token.toArray⟩, .slice f.set.a f.set.n f.set.c]] w fun e w' => e = .returned (.bool (mayF k f l)) ∧ Below w.heap.size w w' := by
  have CS := Lib.hid (fun w => shape_any k w)
  rw [← hf] at CS
  have HBIG : Hid (∀ i, i < 7 → 4611686018427387903 < nq f i → mayF k f l = false) := Lib.hid (fun i hi h => by
    obtain ⟨j, hj, e1, e2⟩ := nq_nm f i hi
    exact may_great k f l j hj (e1 ▸ h))
  have HNOT : Hid (∀ i, i < 7 → nq f i ≠ 0 → (shpN k).contains (cq i) = false → mayF k f l = false) := Lib.hid (fun i hi h hc => by
    obtain ⟨j, hj, e1, e2⟩ := nq_nm f i hi
    exact may_num k f l j hj (e1 ▸ h) (e2 ▸ hc))
  have HBADN : Hid (badN (shpN k) f = true → mayF k f l = false) := Lib.hid (bad_may k f l)
  have HLEFT : Hid ((∀ i, i < 7 → nq f i ≤ 4611686018427387903) → (∀ i, i < 7 → nq f i = 0 ∨ (shpN k).contains (cq i) = true) → badN (shpN k) f = false → mayF k f l = kndB f l) := Lib.hid (left_may k f l)
  have CI : Hid (∀ (c : UInt8) W, Calls Tryd.prog 42 #[.string ⟨(shpN k).toArray⟩, .int .u8 c.toNat] W fun e w' => e = .returned (.bool ((shpN k).contains c)) ∧ w' = W) := Lib.hid (fun c W => in_any _ c W (Nat.le_trans (shp_len k) (by decide)))
  have HFR : Hid (FrD w.heap.size f (w.alloc (.cells #[.int .u64 f.kind, .int .u64 f.id, .int .u64 f.off, .int .u64 f.max, .int .u64 f.code, .int .u64 f.seq, .int .u64 f.prior, .int .u64 f.delay, .bool f.fin, .string ⟨f.data.toArray⟩, .string ⟨f.cid.toArray⟩, .string ⟨f.token.toArray⟩, .slice f.set.a f.set.n f.set.c] 34 (0, 0)))) := Lib.hid (World.alloc_heap_new w _)
  have HB0 : Hid (Below w.heap.size w (w.alloc (.cells #[.int .u64 f.kind, .int .u64 f.id, .int .u64 f.off, .int .u64 f.max, .int .u64 f.code, .int .u64 f.seq, .int .u64 f.prior, .int .u64 f.delay, .bool f.fin, .string ⟨f.data.toArray⟩, .string ⟨f.cid.toArray⟩, .string ⟨f.token.toArray⟩, .slice f.set.a f.set.n f.set.c] 34 (0, 0)))) := Lib.hid ((Below.refl w.heap.size w).alloc (Nat.le_refl _) _)
  have HFK := Lib.hid hf
  clear hf
  have CM3 := Lib.hid (fun W (hb : Below w.heap.size w W) => rmay_any _ l W hl (hrd.below hb) hu)
  have HRD := Lib.hid hrd
  have HOFF : Hid (0 ≤ f.off) := Lib.hid (hp 1)
  have HDL := Lib.hid hd
  go_enter Tryd.func23, Tryd.ntmps23
  go_wp2_with fail
  refine (CS.out _).mono ?_
  rintro e w1 ⟨rfl, rfl⟩
  generalize w.alloc (.cells #[.int .u64 f.kind, .int .u64 f.id, .int .u64 f.off, .int .u64 f.max, .int .u64 f.code, .int .u64 f.seq, .int .u64 f.prior, .int .u64 f.delay, .bool f.fin, .string ⟨f.data.toArray⟩, .string ⟨f.cid.toArray⟩, .string ⟨f.token.toArray⟩, .slice f.set.a f.set.n f.set.c] 34 (0, 0)) = W1 at HFR HB0 ⊢
  have a1 := HFR.out.cell1
  have a2 := HFR.out.cell2
  have a3 := HFR.out.cell3
  have a4 := HFR.out.cell4
  have a5 := HFR.out.cell5
  have a6 := HFR.out.cell6
  have a7 := HFR.out.cell7
  clear CS hp hrd hu hl hd hci hto
  go_upto_region 3 with (fail)
  have HNU : Hid (NuB W1.heap.size f (W1.alloc (.cells #[.int .u64 f.id, .int .u64 f.off, .int .u64 f.max, .int .u64 f.code, .int .u64 f.seq, .int .u64 f.prior, .int .u64 f.delay] 23 (0, 0)))) := Lib.hid (nub_made _ f _ _ (World.alloc_heap_new W1 _))
  have HF2 : Hid (FrD w.heap.size f (W1.alloc (.cells #[.int .u64 f.id, .int .u64 f.off, .int .u64 f.max, .int .u64 f.code, .int .u64 f.seq, .int .u64 f.prior, .int .u64 f.delay] 23 (0, 0)))) := Lib.hid (HFR.out.keep ((Below.refl _ _).alloc (Nat.le_refl _) _))
  have HB2 : Hid (Below w.heap.size w (W1.alloc (.cells #[.int .u64 f.id, .int .u64 f.off, .int .u64 f.max, .int .u64 f.code, .int .u64 f.seq, .int .u64 f.prior, .int .u64 f.delay] 23 (0, 0)))) := Lib.hid (HB0.out.alloc HB0.out.size _)
  generalize W1.alloc (.cells #[.int .u64 f.id, .int .u64 f.off, .int .u64 f.max, .int .u64 f.code, .int .u64 f.seq, .int .u64 f.prior, .int .u64 f.delay] 23 (0, 0)) = W2 at HNU HF2 HB2 ⊢
  clear a1 a2 a3 a4 a5 a6 a7 HFR HB0
  generalize W1.heap.size = B1 at *
  generalize shpN k = h at *
  go_wp2
  go_loopw [5] (fun iv wr => ∃ i : Nat, i ≤ 7 ∧ iv = .int .i64 i ∧ Hid ((∀ j, j < i → nq f j ≤ 4611686018427387903) ∧ (∀ j, j < i → nq f j = 0 ∨ h.contains (cq j) = true)) ∧ wr = W2) (fun iv _ => 7 - (intOf iv).toNat)
  case atStart => exact ⟨0, by decide, rfl, Lib.hid ⟨fun j hj => by omega, fun j hj => by omega⟩, rfl⟩
  case round =>
    obtain ⟨i, hi, rfl, HO, hwr⟩ := hrel
    have hwr := hwr.symm
    subst hwr
    by_cases hlt : i < 7
    · have hc := HNU.out i hlt
      have hidx := cq_get i hlt
      have H1 := Lib.hid (HBIG.out i hlt)
      have H2 := Lib.hid (HNOT.out i hlt)
      have CC := Lib.hid (CI.out (cq i))
      have HS : Hid (nq f i ≤ 4611686018427387903 → (nq f i = 0 ∨ h.contains (cq i) = true) → ((∀ j, j < i + 1 → nq f j ≤ 4611686018427387903) ∧ (∀ j, j < i + 1 → nq f j = 0 ∨ h.contains (cq j) = true))) := Lib.hid (fun g1 g2 => ⟨fun j hj => by
        by_cases e : j = i
        · rw [e]; exact g1
        · exact HO.out.1 j (by omega), fun j hj => by
        by_cases e : j = i
        · rw [e]; exact g2
        · exact HO.out.2 j (by omega)⟩)
      obtain ⟨x, hx⟩ : ∃ x, nq f i = x := ⟨_, rfl⟩
      obtain ⟨c, hcq⟩ : ∃ c, cq i = c := ⟨_, rfl⟩
      rw [hx] at hc H1 H2 HS
      rw [hcq] at hidx H2 CC HS
      have hct := c.toNat_lt
      have hi0 : (0 : Int) ≤ (i : Int) := by omega
      have hi1 : (i : Int) < 7 := by omega
      obtain ⟨I, hI⟩ : ∃ b, h.contains c = b := ⟨_, rfl⟩
      rw [hI] at H2 CC HS
      clear hx hcq hI HO
      by_cases hbig : 4611686018427387903 < x
      · have d1 : decide (4611686018427387903 < x) = true := decide_eq_true hbig
        have HR := Lib.hid (H1.out hbig)
        go_wp2
        go_ret
        exact ⟨by rw [HR.out]; rfl, HB2.out⟩
      · have d1 : decide (4611686018427387903 < x) = false := decide_eq_false hbig
        by_cases hz : x = 0
        · have d2 : (x != 0) = false := by rw [hz]; rfl
          have HR := Lib.hid (HS.out (by omega) (Or.inl hz))
          clear hbig hz
          go_wp2
          go_roundw
          case rel => exact ⟨i + 1, by omega, by go_num, HR, by first | rfl | trivial⟩
          case measure => simp [intOf]; omega
        · have d2 : (x != 0) = true := by rw [bne_iff_ne]; exact hz
          cases I with
          | true =>
            have HR := Lib.hid (HS.out (by omega) (Or.inr rfl))
            clear hbig hz
            go_wp2_with fail
            refine (CC.out _).mono ?_
            rintro e w3 ⟨rfl, rfl⟩
            go_wp2
            go_roundw
            case rel => exact ⟨i + 1, by omega, by go_num, HR, by first | rfl | trivial⟩
            case measure => simp [intOf]; omega
          | false =>
            have HR := Lib.hid (H2.out hz rfl)
            clear hbig hz
            go_wp2_with fail
            refine (CC.out _).mono ?_
            rintro e w3 ⟨rfl, rfl⟩
            go_wp2
            go_ret
            exact ⟨by rw [HR.out]; rfl, HB2.out⟩
    · obtain rfl : i = 7 := by omega
      have HL := Lib.hid (HLEFT.out HO.out.1 HO.out.2)
      have HO1 : Hid (f.off ≤ 4611686018427387903) := Lib.hid (HO.out.1 1 (by decide))
      clear HO HLEFT HBIG HNOT HNU
      have C1 : Hid (∀ W, Calls Tryd.prog 42 #[.string ⟨h.toArray⟩, .int .u8 102] W fun e w' => e = .returned (.bool (h.contains 102)) ∧ w' = W) := Lib.hid (fun W => CI.out 102 W)
      have C2 : Hid (∀ W, Calls Tryd.prog 42 #[.string ⟨h.toArray⟩, .int .u8 100] W fun e w' => e = .returned (.bool (h.contains 100)) ∧ w' = W) := Lib.hid (fun W => CI.out 100 W)
      have C3 : Hid (∀ W, Calls Tryd.prog 42 #[.string ⟨h.toArray⟩, .int .u8 110] W fun e w' => e = .returned (.bool (h.contains 110)) ∧ w' = W) := Lib.hid (fun W => CI.out 110 W)
      have C4 : Hid (∀ W, Calls Tryd.prog 42 #[.string ⟨h.toArray⟩, .int .u8 116] W fun e w' => e = .returned (.bool (h.contains 116)) ∧ w' = W) := Lib.hid (fun W => CI.out 116 W)
      have C5 : Hid (∀ W, Calls Tryd.prog 42 #[.string ⟨h.toArray⟩, .int .u8 115] W fun e w' => e = .returned (.bool (h.contains 115)) ∧ w' = W) := Lib.hid (fun W => CI.out 115 W)
      have HBD : Hid (badN h f = (h.isEmpty || ((f.fin && !h.contains 102) || ((!f.data.isEmpty && !h.contains 100) || ((!f.cid.isEmpty && !h.contains 110) || ((!f.token.isEmpty && !h.contains 116) || (decide (0 < f.set.n) && !h.contains 115))))))) := Lib.hid rfl
      have b8 := HF2.out.cell8
      have b9 := HF2.out.cell9
      have b10 := HF2.out.cell10
      have b11 := HF2.out.cell11
      have b12 := HF2.out.cell12
      generalize badN h f = BD at HBD HL HBADN
      clear CI
      obtain ⟨I1, hI1⟩ : ∃ b, h.contains 102 = b := ⟨_, rfl⟩
      obtain ⟨I2, hI2⟩ : ∃ b, h.contains 100 = b := ⟨_, rfl⟩
      obtain ⟨I3, hI3⟩ : ∃ b, h.contains 110 = b := ⟨_, rfl⟩
      obtain ⟨I4, hI4⟩ : ∃ b, h.contains 116 = b := ⟨_, rfl⟩
      obtain ⟨I5, hI5⟩ : ∃ b, h.contains 115 = b := ⟨_, rfl⟩
      rw [hI1] at C1 HBD
      rw [hI2] at C2 HBD
      rw [hI3] at C3 HBD
      rw [hI4] at C4 HBD
      rw [hI5] at C5 HBD
      clear hI1 hI2 hI3 hI4 hI5
      obtain ⟨E, hE⟩ : ∃ b, h.isEmpty = b := ⟨_, rfl⟩
      obtain ⟨F, hF⟩ : ∃ b, f.fin = b := ⟨_, rfl⟩
      obtain ⟨D, hD⟩ : ∃ b, (!f.data.isEmpty) = b := ⟨_, rfl⟩
      obtain ⟨C, hC⟩ : ∃ b, (!f.cid.isEmpty) = b := ⟨_, rfl⟩
      obtain ⟨T, hT⟩ : ∃ b, (!f.token.isEmpty) = b := ⟨_, rfl⟩
      obtain ⟨S, hS⟩ : ∃ b, decide (0 < f.set.n) = b := ⟨_, rfl⟩
      rw [hE, hF, hD, hC, hT, hS] at HBD
      rw [hF] at b8
      clear hF
      go_upto_region 8 with (fail)
      go_cut [101] from 50 to 101 (fun v W => v = .bool BD ∧ W = W2)
      case first =>
        cases E with
        | true =>
          go_wp2
          go_meet
          case rel => exact ⟨by rw [HBD.out]; rfl, rfl⟩
        | false =>
          cases F with
          | true =>
            cases I1 with
            | false =>
              go_wp2_with fail
              refine (C1.out _).mono ?_
              rintro e w1 ⟨rfl, rfl⟩
              go_wp2
              go_meet
              case rel => exact ⟨by rw [HBD.out]; rfl, rfl⟩
            | true =>
              cases D with
              | true =>
                cases I2 with
                | false =>
                  go_wp2_with fail
                  refine (C1.out _).mono ?_
                  rintro e w1 ⟨rfl, rfl⟩
                  go_wp2_with fail
                  refine (C2.out _).mono ?_
                  rintro e w2 ⟨rfl, rfl⟩
                  go_wp2
                  go_meet
                  case rel => exact ⟨by rw [HBD.out]; rfl, rfl⟩
                | true =>
                  cases C with
                  | true =>
                    cases I3 with
                    | false =>
                      go_wp2_with fail
                      refine (C1.out _).mono ?_
                      rintro e w1 ⟨rfl, rfl⟩
                      go_wp2_with fail
                      refine (C2.out _).mono ?_
                      rintro e w2 ⟨rfl, rfl⟩
                      go_wp2_with fail
                      refine (C3.out _).mono ?_
                      rintro e w3 ⟨rfl, rfl⟩
                      go_wp2
                      go_meet
                      case rel => exact ⟨by rw [HBD.out]; rfl, rfl⟩
                    | true =>
                      cases T with
                      | true =>
                        cases I4 with
                        | false =>
                          go_wp2_with fail
                          refine (C1.out _).mono ?_
                          rintro e w1 ⟨rfl, rfl⟩
                          go_wp2_with fail
                          refine (C2.out _).mono ?_
                          rintro e w2 ⟨rfl, rfl⟩
                          go_wp2_with fail
                          refine (C3.out _).mono ?_
                          rintro e w3 ⟨rfl, rfl⟩
                          go_wp2_with fail
                          refine (C4.out _).mono ?_
                          rintro e w4 ⟨rfl, rfl⟩
                          go_wp2
                          go_meet
                          case rel => exact ⟨by rw [HBD.out]; rfl, rfl⟩
                        | true =>
                          cases S with
                          | true =>
                            cases I5 with
                            | false =>
                              go_wp2_with fail
                              refine (C1.out _).mono ?_
                              rintro e w1 ⟨rfl, rfl⟩
                              go_wp2_with fail
                              refine (C2.out _).mono ?_
                              rintro e w2 ⟨rfl, rfl⟩
                              go_wp2_with fail
                              refine (C3.out _).mono ?_
                              rintro e w3 ⟨rfl, rfl⟩
                              go_wp2_with fail
                              refine (C4.out _).mono ?_
                              rintro e w4 ⟨rfl, rfl⟩
                              go_wp2_with fail
                              refine (C5.out _).mono ?_
                              rintro e w5 ⟨rfl, rfl⟩
                              go_wp2
                              go_meet
                              case rel => exact ⟨by rw [HBD.out]; rfl, rfl⟩
                            | true =>
                              go_wp2_with fail
                              refine (C1.out _).mono ?_
                              rintro e w1 ⟨rfl, rfl⟩
                              go_wp2_with fail
                              refine (C2.out _).mono ?_
                              rintro e w2 ⟨rfl, rfl⟩
                              go_wp2_with fail
                              refine (C3.out _).mono ?_
                              rintro e w3 ⟨rfl, rfl⟩
                              go_wp2_with fail
                              refine (C4.out _).mono ?_
                              rintro e w4 ⟨rfl, rfl⟩
                              go_wp2_with fail
                              refine (C5.out _).mono ?_
                              rintro e w5 ⟨rfl, rfl⟩
                              go_wp2
                              go_meet
                              case rel => exact ⟨by rw [HBD.out]; rfl, rfl⟩
                          | false =>
                            go_wp2_with fail
                            refine (C1.out _).mono ?_
                            rintro e w1 ⟨rfl, rfl⟩
                            go_wp2_with fail
                            refine (C2.out _).mono ?_
                            rintro e w2 ⟨rfl, rfl⟩
                            go_wp2_with fail
                            refine (C3.out _).mono ?_
                            rintro e w3 ⟨rfl, rfl⟩
                            go_wp2_with fail
                            refine (C4.out _).mono ?_
                            rintro e w4 ⟨rfl, rfl⟩
                            go_wp2
                            go_meet
                            case rel => exact ⟨by rw [HBD.out]; rfl, rfl⟩
                      | false =>
                        cases S with
                        | true =>
                          cases I5 with
                          | false =>
                            go_wp2_with fail
                            refine (C1.out _).mono ?_
                            rintro e w1 ⟨rfl, rfl⟩
                            go_wp2_with fail
                            refine (C2.out _).mono ?_
                            rintro e w2 ⟨rfl, rfl⟩
                            go_wp2_with fail
                            refine (C3.out _).mono ?_
                            rintro e w3 ⟨rfl, rfl⟩
                            go_wp2_with fail
                            refine (C5.out _).mono ?_
                            rintro e w5 ⟨rfl, rfl⟩
                            go_wp2
                            go_meet
                            case rel => exact ⟨by rw [HBD.out]; rfl, rfl⟩
                          | true =>
                            go_wp2_with fail
                            refine (C1.out _).mono ?_
                            rintro e w1 ⟨rfl, rfl⟩
                            go_wp2_with fail
                            refine (C2.out _).mono ?_
                            rintro e w2 ⟨rfl, rfl⟩
                            go_wp2_with fail
                            refine (C3.out _).mono ?_
                            rintro e w3 ⟨rfl, rfl⟩
                            go_wp2_with fail
                            refine (C5.out _).mono ?_
                            rintro e w5 ⟨rfl, rfl⟩
                            go_wp2
                            go_meet
                            case rel => exact ⟨by rw [HBD.out]; rfl, rfl⟩
                        | false =>
                          go_wp2_with fail
                          refine (C1.out _).mono ?_
                          rintro e w1 ⟨rfl, rfl⟩
                          go_wp2_with fail
                          refine (C2.out _).mono ?_
                          rintro e w2 ⟨rfl, rfl⟩
                          go_wp2_with fail
                          refine (C3.out _).mono ?_
                          rintro e w3 ⟨rfl, rfl⟩
                          go_wp2
                          go_meet
                          case rel => exact ⟨by rw [HBD.out]; rfl, rfl⟩
                  | false =>
                    cases T with
                    | true =>
                      cases I4 with
                      | false =>
                        go_wp2_with fail
                        refine (C1.out _).mono ?_
                        rintro e w1 ⟨rfl, rfl⟩
                        go_wp2_with fail
                        refine (C2.out _).mono ?_
                        rintro e w2 ⟨rfl, rfl⟩
                        go_wp2_with fail
                        refine (C4.out _).mono ?_
                        rintro e w4 ⟨rfl, rfl⟩
                        go_wp2
                        go_meet
                        case rel => exact ⟨by rw [HBD.out]; rfl, rfl⟩
                      | true =>
                        cases S with
                        | true =>
                          cases I5 with
                          | false =>
                            go_wp2_with fail
                            refine (C1.out _).mono ?_
                            rintro e w1 ⟨rfl, rfl⟩
                            go_wp2_with fail
                            refine (C2.out _).mono ?_
                            rintro e w2 ⟨rfl, rfl⟩
                            go_wp2_with fail
                            refine (C4.out _).mono ?_
                            rintro e w4 ⟨rfl, rfl⟩
                            go_wp2_with fail
                            refine (C5.out _).mono ?_
                            rintro e w5 ⟨rfl, rfl⟩
                            go_wp2
                            go_meet
                            case rel => exact ⟨by rw [HBD.out]; rfl, rfl⟩
                          | true =>
                            go_wp2_with fail
                            refine (C1.out _).mono ?_
                            rintro e w1 ⟨rfl, rfl⟩
                            go_wp2_with fail
                            refine (C2.out _).mono ?_
                            rintro e w2 ⟨rfl, rfl⟩
                            go_wp2_with fail
                            refine (C4.out _).mono ?_
                            rintro e w4 ⟨rfl, rfl⟩
                            go_wp2_with fail
                            refine (C5.out _).mono ?_
                            rintro e w5 ⟨rfl, rfl⟩
                            go_wp2
                            go_meet
                            case rel => exact ⟨by rw [HBD.out]; rfl, rfl⟩
                        | false =>
                          go_wp2_with fail
                          refine (C1.out _).mono ?_
                          rintro e w1 ⟨rfl, rfl⟩
                          go_wp2_with fail
                          refine (C2.out _).mono ?_
                          rintro e w2 ⟨rfl, rfl⟩
                          go_wp2_with fail
                          refine (C4.out _).mono ?_
                          rintro e w4 ⟨rfl, rfl⟩
                          go_wp2
                          go_meet
                          case rel => exact ⟨by rw [HBD.out]; rfl, rfl⟩
                    | false =>
                      cases S with
                      | true =>
                        cases I5 with
                        | false =>
                          go_wp2_with fail
                          refine (C1.out _).mono ?_
                          rintro e w1 ⟨rfl, rfl⟩
                          go_wp2_with fail
                          refine (C2.out _).mono ?_
                          rintro e w2 ⟨rfl, rfl⟩
                          go_wp2_with fail
                          refine (C5.out _).mono ?_
                          rintro e w5 ⟨rfl, rfl⟩
                          go_wp2
                          go_meet
                          case rel => exact ⟨by rw [HBD.out]; rfl, rfl⟩
                        | true =>
                          go_wp2_with fail
                          refine (C1.out _).mono ?_
                          rintro e w1 ⟨rfl, rfl⟩
                          go_wp2_with fail
                          refine (C2.out _).mono ?_
                          rintro e w2 ⟨rfl, rfl⟩
                          go_wp2_with fail
                          refine (C5.out _).mono ?_
                          rintro e w5 ⟨rfl, rfl⟩
                          go_wp2
                          go_meet
                          case rel => exact ⟨by rw [HBD.out]; rfl, rfl⟩
                      | false =>
                        go_wp2_with fail
                        refine (C1.out _).mono ?_
                        rintro e w1 ⟨rfl, rfl⟩
                        go_wp2_with fail
                        refine (C2.out _).mono ?_
                        rintro e w2 ⟨rfl, rfl⟩
                        go_wp2
                        go_meet
                        case rel => exact ⟨by rw [HBD.out]; rfl, rfl⟩
              | false =>
                cases C with
                | true =>
                  cases I3 with
                  | false =>
                    go_wp2_with fail
                    refine (C1.out _).mono ?_
                    rintro e w1 ⟨rfl, rfl⟩
                    go_wp2_with fail
                    refine (C3.out _).mono ?_
                    rintro e w3 ⟨rfl, rfl⟩
                    go_wp2
                    go_meet
                    case rel => exact ⟨by rw [HBD.out]; rfl, rfl⟩
                  | true =>
                    cases T with
                    | true =>
                      cases I4 with
                      | false =>
                        go_wp2_with fail
                        refine (C1.out _).mono ?_
                        rintro e w1 ⟨rfl, rfl⟩
                        go_wp2_with fail
                        refine (C3.out _).mono ?_
                        rintro e w3 ⟨rfl, rfl⟩
                        go_wp2_with fail
                        refine (C4.out _).mono ?_
                        rintro e w4 ⟨rfl, rfl⟩
                        go_wp2
                        go_meet
                        case rel => exact ⟨by rw [HBD.out]; rfl, rfl⟩
                      | true =>
                        cases S with
                        | true =>
                          cases I5 with
                          | false =>
                            go_wp2_with fail
                            refine (C1.out _).mono ?_
                            rintro e w1 ⟨rfl, rfl⟩
                            go_wp2_with fail
                            refine (C3.out _).mono ?_
                            rintro e w3 ⟨rfl, rfl⟩
                            go_wp2_with fail
                            refine (C4.out _).mono ?_
                            rintro e w4 ⟨rfl, rfl⟩
                            go_wp2_with fail
                            refine (C5.out _).mono ?_
                            rintro e w5 ⟨rfl, rfl⟩
                            go_wp2
                            go_meet
                            case rel => exact ⟨by rw [HBD.out]; rfl, rfl⟩
                          | true =>
                            go_wp2_with fail
                            refine (C1.out _).mono ?_
                            rintro e w1 ⟨rfl, rfl⟩
                            go_wp2_with fail
                            refine (C3.out _).mono ?_
                            rintro e w3 ⟨rfl, rfl⟩
                            go_wp2_with fail
                            refine (C4.out _).mono ?_
                            rintro e w4 ⟨rfl, rfl⟩
                            go_wp2_with fail
                            refine (C5.out _).mono ?_
                            rintro e w5 ⟨rfl, rfl⟩
                            go_wp2
                            go_meet
                            case rel => exact ⟨by rw [HBD.out]; rfl, rfl⟩
                        | false =>
                          go_wp2_with fail
                          refine (C1.out _).mono ?_
                          rintro e w1 ⟨rfl, rfl⟩
                          go_wp2_with fail
                          refine (C3.out _).mono ?_
                          rintro e w3 ⟨rfl, rfl⟩
                          go_wp2_with fail
                          refine (C4.out _).mono ?_
                          rintro e w4 ⟨rfl, rfl⟩
                          go_wp2
                          go_meet
                          case rel => exact ⟨by rw [HBD.out]; rfl, rfl⟩
                    | false =>
                      cases S with
                      | true =>
                        cases I5 with
                        | false =>
                          go_wp2_with fail
                          refine (C1.out _).mono ?_
                          rintro e w1 ⟨rfl, rfl⟩
                          go_wp2_with fail
                          refine (C3.out _).mono ?_
                          rintro e w3 ⟨rfl, rfl⟩
                          go_wp2_with fail
                          refine (C5.out _).mono ?_
                          rintro e w5 ⟨rfl, rfl⟩
                          go_wp2
                          go_meet
                          case rel => exact ⟨by rw [HBD.out]; rfl, rfl⟩
                        | true =>
                          go_wp2_with fail
                          refine (C1.out _).mono ?_
                          rintro e w1 ⟨rfl, rfl⟩
                          go_wp2_with fail
                          refine (C3.out _).mono ?_
                          rintro e w3 ⟨rfl, rfl⟩
                          go_wp2_with fail
                          refine (C5.out _).mono ?_
                          rintro e w5 ⟨rfl, rfl⟩
                          go_wp2
                          go_meet
                          case rel => exact ⟨by rw [HBD.out]; rfl, rfl⟩
                      | false =>
                        go_wp2_with fail
                        refine (C1.out _).mono ?_
                        rintro e w1 ⟨rfl, rfl⟩
                        go_wp2_with fail
                        refine (C3.out _).mono ?_
                        rintro e w3 ⟨rfl, rfl⟩
                        go_wp2
                        go_meet
                        case rel => exact ⟨by rw [HBD.out]; rfl, rfl⟩
                | false =>
                  cases T with
                  | true =>
                    cases I4 with
                    | false =>
                      go_wp2_with fail
                      refine (C1.out _).mono ?_
                      rintro e w1 ⟨rfl, rfl⟩
                      go_wp2_with fail
                      refine (C4.out _).mono ?_
                      rintro e w4 ⟨rfl, rfl⟩
                      go_wp2
                      go_meet
                      case rel => exact ⟨by rw [HBD.out]; rfl, rfl⟩
                    | true =>
                      cases S with
                      | true =>
                        cases I5 with
                        | false =>
                          go_wp2_with fail
                          refine (C1.out _).mono ?_
                          rintro e w1 ⟨rfl, rfl⟩
                          go_wp2_with fail
                          refine (C4.out _).mono ?_
                          rintro e w4 ⟨rfl, rfl⟩
                          go_wp2_with fail
                          refine (C5.out _).mono ?_
                          rintro e w5 ⟨rfl, rfl⟩
                          go_wp2
                          go_meet
                          case rel => exact ⟨by rw [HBD.out]; rfl, rfl⟩
                        | true =>
                          go_wp2_with fail
                          refine (C1.out _).mono ?_
                          rintro e w1 ⟨rfl, rfl⟩
                          go_wp2_with fail
                          refine (C4.out _).mono ?_
                          rintro e w4 ⟨rfl, rfl⟩
                          go_wp2_with fail
                          refine (C5.out _).mono ?_
                          rintro e w5 ⟨rfl, rfl⟩
                          go_wp2
                          go_meet
                          case rel => exact ⟨by rw [HBD.out]; rfl, rfl⟩
                      | false =>
                        go_wp2_with fail
                        refine (C1.out _).mono ?_
                        rintro e w1 ⟨rfl, rfl⟩
                        go_wp2_with fail
                        refine (C4.out _).mono ?_
                        rintro e w4 ⟨rfl, rfl⟩
                        go_wp2
                        go_meet
                        case rel => exact ⟨by rw [HBD.out]; rfl, rfl⟩
                  | false =>
                    cases S with
                    | true =>
                      cases I5 with
                      | false =>
                        go_wp2_with fail
                        refine (C1.out _).mono ?_
                        rintro e w1 ⟨rfl, rfl⟩
                        go_wp2_with fail
                        refine (C5.out _).mono ?_
                        rintro e w5 ⟨rfl, rfl⟩
                        go_wp2
                        go_meet
                        case rel => exact ⟨by rw [HBD.out]; rfl, rfl⟩
                      | true =>
                        go_wp2_with fail
                        refine (C1.out _).mono ?_
                        rintro e w1 ⟨rfl, rfl⟩
                        go_wp2_with fail
                        refine (C5.out _).mono ?_
                        rintro e w5 ⟨rfl, rfl⟩
                        go_wp2
                        go_meet
                        case rel => exact ⟨by rw [HBD.out]; rfl, rfl⟩
                    | false =>
                      go_wp2_with fail
                      refine (C1.out _).mono ?_
                      rintro e w1 ⟨rfl, rfl⟩
                      go_wp2
                      go_meet
                      case rel => exact ⟨by rw [HBD.out]; rfl, rfl⟩
          | false =>
            cases D with
            | true =>
              cases I2 with
              | false =>
                go_wp2_with fail
                refine (C2.out _).mono ?_
                rintro e w2 ⟨rfl, rfl⟩
                go_wp2
                go_meet
                case rel => exact ⟨by rw [HBD.out]; rfl, rfl⟩
              | true =>
                cases C with
                | true =>
                  cases I3 with
                  | false =>
                    go_wp2_with fail
                    refine (C2.out _).mono ?_
                    rintro e w2 ⟨rfl, rfl⟩
                    go_wp2_with fail
                    refine (C3.out _).mono ?_
                    rintro e w3 ⟨rfl, rfl⟩
                    go_wp2
                    go_meet
                    case rel => exact ⟨by rw [HBD.out]; rfl, rfl⟩
                  | true =>
                    cases T with
                    | true =>
                      cases I4 with
                      | false =>
                        go_wp2_with fail
                        refine (C2.out _).mono ?_
                        rintro e w2 ⟨rfl, rfl⟩
                        go_wp2_with fail
                        refine (C3.out _).mono ?_
                        rintro e w3 ⟨rfl, rfl⟩
                        go_wp2_with fail
                        refine (C4.out _).mono ?_
                        rintro e w4 ⟨rfl, rfl⟩
                        go_wp2
                        go_meet
                        case rel => exact ⟨by rw [HBD.out]; rfl, rfl⟩
                      | true =>
                        cases S with
                        | true =>
                          cases I5 with
                          | false =>
                            go_wp2_with fail
                            refine (C2.out _).mono ?_
                            rintro e w2 ⟨rfl, rfl⟩
                            go_wp2_with fail
                            refine (C3.out _).mono ?_
                            rintro e w3 ⟨rfl, rfl⟩
                            go_wp2_with fail
                            refine (C4.out _).mono ?_
                            rintro e w4 ⟨rfl, rfl⟩
                            go_wp2_with fail
                            refine (C5.out _).mono ?_
                            rintro e w5 ⟨rfl, rfl⟩
                            go_wp2
                            go_meet
                            case rel => exact ⟨by rw [HBD.out]; rfl, rfl⟩
                          | true =>
                            go_wp2_with fail
                            refine (C2.out _).mono ?_
                            rintro e w2 ⟨rfl, rfl⟩
                            go_wp2_with fail
                            refine (C3.out _).mono ?_
                            rintro e w3 ⟨rfl, rfl⟩
                            go_wp2_with fail
                            refine (C4.out _).mono ?_
                            rintro e w4 ⟨rfl, rfl⟩
                            go_wp2_with fail
                            refine (C5.out _).mono ?_
                            rintro e w5 ⟨rfl, rfl⟩
                            go_wp2
                            go_meet
                            case rel => exact ⟨by rw [HBD.out]; rfl, rfl⟩
                        | false =>
                          go_wp2_with fail
                          refine (C2.out _).mono ?_
                          rintro e w2 ⟨rfl, rfl⟩
                          go_wp2_with fail
                          refine (C3.out _).mono ?_
                          rintro e w3 ⟨rfl, rfl⟩
                          go_wp2_with fail
                          refine (C4.out _).mono ?_
                          rintro e w4 ⟨rfl, rfl⟩
                          go_wp2
                          go_meet
                          case rel => exact ⟨by rw [HBD.out]; rfl, rfl⟩
                    | false =>
                      cases S with
                      | true =>
                        cases I5 with
                        | false =>
                          go_wp2_with fail
                          refine (C2.out _).mono ?_
                          rintro e w2 ⟨rfl, rfl⟩
                          go_wp2_with fail
                          refine (C3.out _).mono ?_
                          rintro e w3 ⟨rfl, rfl⟩
                          go_wp2_with fail
                          refine (C5.out _).mono ?_
                          rintro e w5 ⟨rfl, rfl⟩
                          go_wp2
                          go_meet
                          case rel => exact ⟨by rw [HBD.out]; rfl, rfl⟩
                        | true =>
                          go_wp2_with fail
                          refine (C2.out _).mono ?_
                          rintro e w2 ⟨rfl, rfl⟩
                          go_wp2_with fail
                          refine (C3.out _).mono ?_
                          rintro e w3 ⟨rfl, rfl⟩
                          go_wp2_with fail
                          refine (C5.out _).mono ?_
                          rintro e w5 ⟨rfl, rfl⟩
                          go_wp2
                          go_meet
                          case rel => exact ⟨by rw [HBD.out]; rfl, rfl⟩
                      | false =>
                        go_wp2_with fail
                        refine (C2.out _).mono ?_
                        rintro e w2 ⟨rfl, rfl⟩
                        go_wp2_with fail
                        refine (C3.out _).mono ?_
                        rintro e w3 ⟨rfl, rfl⟩
                        go_wp2
                        go_meet
                        case rel => exact ⟨by rw [HBD.out]; rfl, rfl⟩
                | false =>
                  cases T with
                  | true =>
                    cases I4 with
                    | false =>
                      go_wp2_with fail
                      refine (C2.out _).mono ?_
                      rintro e w2 ⟨rfl, rfl⟩
                      go_wp2_with fail
                      refine (C4.out _).mono ?_
                      rintro e w4 ⟨rfl, rfl⟩
                      go_wp2
                      go_meet
                      case rel => exact ⟨by rw [HBD.out]; rfl, rfl⟩
                    | true =>
                      cases S with
                      | true =>
                        cases I5 with
                        | false =>
                          go_wp2_with fail
                          refine (C2.out _).mono ?_
                          rintro e w2 ⟨rfl, rfl⟩
                          go_wp2_with fail
                          refine (C4.out _).mono ?_
                          rintro e w4 ⟨rfl, rfl⟩
                          go_wp2_with fail
                          refine (C5.out _).mono ?_
                          rintro e w5 ⟨rfl, rfl⟩
                          go_wp2
                          go_meet
                          case rel => exact ⟨by rw [HBD.out]; rfl, rfl⟩
                        | true =>
                          go_wp2_with fail
                          refine (C2.out _).mono ?_
                          rintro e w2 ⟨rfl, rfl⟩
                          go_wp2_with fail
                          refine (C4.out _).mono ?_
                          rintro e w4 ⟨rfl, rfl⟩
                          go_wp2_with fail
                          refine (C5.out _).mono ?_
                          rintro e w5 ⟨rfl, rfl⟩
                          go_wp2
                          go_meet
                          case rel => exact ⟨by rw [HBD.out]; rfl, rfl⟩
                      | false =>
                        go_wp2_with fail
                        refine (C2.out _).mono ?_
                        rintro e w2 ⟨rfl, rfl⟩
                        go_wp2_with fail
                        refine (C4.out _).mono ?_
                        rintro e w4 ⟨rfl, rfl⟩
                        go_wp2
                        go_meet
                        case rel => exact ⟨by rw [HBD.out]; rfl, rfl⟩
                  | false =>
                    cases S with
                    | true =>
                      cases I5 with
                      | false =>
                        go_wp2_with fail
                        refine (C2.out _).mono ?_
                        rintro e w2 ⟨rfl, rfl⟩
                        go_wp2_with fail
                        refine (C5.out _).mono ?_
                        rintro e w5 ⟨rfl, rfl⟩
                        go_wp2
                        go_meet
                        case rel => exact ⟨by rw [HBD.out]; rfl, rfl⟩
                      | true =>
                        go_wp2_with fail
                        refine (C2.out _).mono ?_
                        rintro e w2 ⟨rfl, rfl⟩
                        go_wp2_with fail
                        refine (C5.out _).mono ?_
                        rintro e w5 ⟨rfl, rfl⟩
                        go_wp2
                        go_meet
                        case rel => exact ⟨by rw [HBD.out]; rfl, rfl⟩
                    | false =>
                      go_wp2_with fail
                      refine (C2.out _).mono ?_
                      rintro e w2 ⟨rfl, rfl⟩
                      go_wp2
                      go_meet
                      case rel => exact ⟨by rw [HBD.out]; rfl, rfl⟩
            | false =>
              cases C with
              | true =>
                cases I3 with
                | false =>
                  go_wp2_with fail
                  refine (C3.out _).mono ?_
                  rintro e w3 ⟨rfl, rfl⟩
                  go_wp2
                  go_meet
                  case rel => exact ⟨by rw [HBD.out]; rfl, rfl⟩
                | true =>
                  cases T with
                  | true =>
                    cases I4 with
                    | false =>
                      go_wp2_with fail
                      refine (C3.out _).mono ?_
                      rintro e w3 ⟨rfl, rfl⟩
                      go_wp2_with fail
                      refine (C4.out _).mono ?_
                      rintro e w4 ⟨rfl, rfl⟩
                      go_wp2
                      go_meet
                      case rel => exact ⟨by rw [HBD.out]; rfl, rfl⟩
                    | true =>
                      cases S with
                      | true =>
                        cases I5 with
                        | false =>
                          go_wp2_with fail
                          refine (C3.out _).mono ?_
                          rintro e w3 ⟨rfl, rfl⟩
                          go_wp2_with fail
                          refine (C4.out _).mono ?_
                          rintro e w4 ⟨rfl, rfl⟩
                          go_wp2_with fail
                          refine (C5.out _).mono ?_
                          rintro e w5 ⟨rfl, rfl⟩
                          go_wp2
                          go_meet
                          case rel => exact ⟨by rw [HBD.out]; rfl, rfl⟩
                        | true =>
                          go_wp2_with fail
                          refine (C3.out _).mono ?_
                          rintro e w3 ⟨rfl, rfl⟩
                          go_wp2_with fail
                          refine (C4.out _).mono ?_
                          rintro e w4 ⟨rfl, rfl⟩
                          go_wp2_with fail
                          refine (C5.out _).mono ?_
                          rintro e w5 ⟨rfl, rfl⟩
                          go_wp2
                          go_meet
                          case rel => exact ⟨by rw [HBD.out]; rfl, rfl⟩
                      | false =>
                        go_wp2_with fail
                        refine (C3.out _).mono ?_
                        rintro e w3 ⟨rfl, rfl⟩
                        go_wp2_with fail
                        refine (C4.out _).mono ?_
                        rintro e w4 ⟨rfl, rfl⟩
                        go_wp2
                        go_meet
                        case rel => exact ⟨by rw [HBD.out]; rfl, rfl⟩
                  | false =>
                    cases S with
                    | true =>
                      cases I5 with
                      | false =>
                        go_wp2_with fail
                        refine (C3.out _).mono ?_
                        rintro e w3 ⟨rfl, rfl⟩
                        go_wp2_with fail
                        refine (C5.out _).mono ?_
                        rintro e w5 ⟨rfl, rfl⟩
                        go_wp2
                        go_meet
                        case rel => exact ⟨by rw [HBD.out]; rfl, rfl⟩
                      | true =>
                        go_wp2_with fail
                        refine (C3.out _).mono ?_
                        rintro e w3 ⟨rfl, rfl⟩
                        go_wp2_with fail
                        refine (C5.out _).mono ?_
                        rintro e w5 ⟨rfl, rfl⟩
                        go_wp2
                        go_meet
                        case rel => exact ⟨by rw [HBD.out]; rfl, rfl⟩
                    | false =>
                      go_wp2_with fail
                      refine (C3.out _).mono ?_
                      rintro e w3 ⟨rfl, rfl⟩
                      go_wp2
                      go_meet
                      case rel => exact ⟨by rw [HBD.out]; rfl, rfl⟩
              | false =>
                cases T with
                | true =>
                  cases I4 with
                  | false =>
                    go_wp2_with fail
                    refine (C4.out _).mono ?_
                    rintro e w4 ⟨rfl, rfl⟩
                    go_wp2
                    go_meet
                    case rel => exact ⟨by rw [HBD.out]; rfl, rfl⟩
                  | true =>
                    cases S with
                    | true =>
                      cases I5 with
                      | false =>
                        go_wp2_with fail
                        refine (C4.out _).mono ?_
                        rintro e w4 ⟨rfl, rfl⟩
                        go_wp2_with fail
                        refine (C5.out _).mono ?_
                        rintro e w5 ⟨rfl, rfl⟩
                        go_wp2
                        go_meet
                        case rel => exact ⟨by rw [HBD.out]; rfl, rfl⟩
                      | true =>
                        go_wp2_with fail
                        refine (C4.out _).mono ?_
                        rintro e w4 ⟨rfl, rfl⟩
                        go_wp2_with fail
                        refine (C5.out _).mono ?_
                        rintro e w5 ⟨rfl, rfl⟩
                        go_wp2
                        go_meet
                        case rel => exact ⟨by rw [HBD.out]; rfl, rfl⟩
                    | false =>
                      go_wp2_with fail
                      refine (C4.out _).mono ?_
                      rintro e w4 ⟨rfl, rfl⟩
                      go_wp2
                      go_meet
                      case rel => exact ⟨by rw [HBD.out]; rfl, rfl⟩
                | false =>
                  cases S with
                  | true =>
                    cases I5 with
                    | false =>
                      go_wp2_with fail
                      refine (C5.out _).mono ?_
                      rintro e w5 ⟨rfl, rfl⟩
                      go_wp2
                      go_meet
                      case rel => exact ⟨by rw [HBD.out]; rfl, rfl⟩
                    | true =>
                      go_wp2_with fail
                      refine (C5.out _).mono ?_
                      rintro e w5 ⟨rfl, rfl⟩
                      go_wp2
                      go_meet
                      case rel => exact ⟨by rw [HBD.out]; rfl, rfl⟩
                  | false =>
                    go_wp2
                    go_meet
                    case rel => exact ⟨by rw [HBD.out]; rfl, rfl⟩
      case rest =>
        obtain ⟨rfl, hwc⟩ := hcut
        have hwc := hwc.symm
        subst hwc
        have b0 := HF2.out.cell0
        clear C1 C2 C3 C4 C5 HBD hE hD hC hT hS b8
        cases BD with
        | true =>
          have HV := Lib.hid (HBADN.out rfl)
          go_wp2
          go_ret
          exact ⟨by rw [HV.out]; rfl, HB2.out⟩
        | false =>
          have HK := Lib.hid (HL.out rfl)
          clear HL HBADN HFK
          by_cases h2 : f.kind = 2
          · rw [h2] at b0
            have HKN := Lib.hid HK.out
            unfold kndB at HKN
            rw [h2] at HKN
            have HKA : Hid (mayF k f l = ackB l) := Lib.hid HKN.out
            obtain ⟨sa, sc, he, hcap, hrow⟩ := HRD.out
            injection he with e1 e2 e3
            obtain ⟨n, hn⟩ : ∃ n, l.length = n := ⟨_, rfl⟩
            rw [hn] at e2
            rw [e1, e2, e3] at b12 CM3
            clear HKN HK
            by_cases g1 : 1 ≤ n
            · obtain ⟨b, off, rfl, hc⟩ := hrow (fun h => by rw [h] at hn; simp at hn; omega)
              obtain ⟨j, hj⟩ : ∃ j, n - 1 = j := ⟨_, rfl⟩
              have hcn := (hc (n - 1) (by omega)).2
              rw [hj] at hcn
              have hbl := World.block_lt_of_cell? _ _ hcn
              have hji : (n : Int) - 1 = (j : Int) := by omega
              have HA : Hid (ackB l = (decide (1 ≤ n ∧ n ≤ 32) && (mayB l && decide ((l.getD j (0, 0)).2 ≤ 4611686018427387903)))) := Lib.hid (by
                unfold ackB
                rw [hn, hj])
              have g1i : (1 : Int) ≤ (n : Int) := by omega
              have j0 : (0 : Int) ≤ (j : Int) := by omega
              have j1 : (j : Int) < (n : Int) := by omega
              generalize (l.getD j (0, 0)).2 = hi at *
              generalize ackB l = R at *
              generalize mayB l = mb at *
              have E1 := Lib.hid e1
              have E2 := Lib.hid e2
              have E3 := Lib.hid e3
              clear hc hrow hn hj e1 e2 e3
              cases mb with
              | false =>
                have HV : Hid (mayF k f l = false) := Lib.hid (by rw [HKA.out, HA.out, Bool.false_and, Bool.and_false])
                clear HA HKA
                go_wp2_with fail
                refine (CM3.out _ HB2.out).mono ?_
                rintro e w3 ⟨rfl, hb⟩
                have HB3 := Lib.hid (HB2.out.trans (hb.mono HB2.out.size))
                clear hb
                go_wp2
                go_ret
                exact ⟨by rw [HV.out]; rfl, HB3.out⟩
              | true =>
                by_cases g2 : (n : Int) ≤ 32
                · by_cases g3 : hi ≤ 4611686018427387903
                  · have HV : Hid (mayF k f l = true) := Lib.hid (by rw [HKA.out, HA.out, decide_eq_true ⟨g1, by omega⟩, decide_eq_true g3]; rfl)
                    clear HA HKA
                    go_wp2_with fail
                    refine (CM3.out _ HB2.out).mono ?_
                    rintro e w3 ⟨rfl, hb⟩
                    have HB3 := Lib.hid (HB2.out.trans (hb.mono HB2.out.size))
                    have d12 := (HF2.out.keep hb).cell12
                    have hcn3 := cell_below HB3.out hcn hbl
                    rw [E1.out, E2.out, E3.out] at d12
                    clear hb hcn
                    go_wp2
                    go_ret
                    exact ⟨by rw [HV.out]; rfl, HB3.out⟩
                  · have HV : Hid (mayF k f l = false) := Lib.hid (by rw [HKA.out, HA.out, decide_eq_false g3, Bool.and_false, Bool.and_false])
                    have g3b := Lib.hid (decide_eq_false g3)
                    clear HA HKA
                    go_wp2_with fail
                    refine (CM3.out _ HB2.out).mono ?_
                    rintro e w3 ⟨rfl, hb⟩
                    have HB3 := Lib.hid (HB2.out.trans (hb.mono HB2.out.size))
                    have d12 := (HF2.out.keep hb).cell12
                    have hcn3 := cell_below HB3.out hcn hbl
                    rw [E1.out, E2.out, E3.out] at d12
                    clear hb hcn
                    go_wp2
                    go_ret
                    exact ⟨by rw [HV.out]; exact congrArg (fun b => Ending.returned (Value.bool b)) g3b.out, HB3.out⟩
                · have HV : Hid (mayF k f l = false) := Lib.hid (by rw [HKA.out, HA.out, decide_eq_false (fun h => g2 (by omega)), Bool.false_and])
                  clear HA HKA
                  go_wp2_with fail
                  refine (CM3.out _ HB2.out).mono ?_
                  rintro e w3 ⟨rfl, hb⟩
                  have HB3 := Lib.hid (HB2.out.trans (hb.mono HB2.out.size))
                  clear hb
                  go_wp2
                  go_ret
                  exact ⟨by rw [HV.out]; rfl, HB3.out⟩
            · have g1i : ¬ (1 : Int) ≤ (n : Int) := by omega
              have HV : Hid (mayF k f l = false) := Lib.hid (by
                rw [HKA.out]
                unfold ackB
                rw [hn, decide_eq_false (fun h => g1 h.1), Bool.false_and])
              clear hrow hn e1 e2 e3 HKA
              cases hmb : mayB l with
              | false =>
                rw [hmb] at CM3
                go_wp2_with fail
                refine (CM3.out _ HB2.out).mono ?_
                rintro e w3 ⟨rfl, hb⟩
                have HB3 := Lib.hid (HB2.out.trans (hb.mono HB2.out.size))
                clear hb
                go_wp2
                go_ret
                exact ⟨by rw [HV.out]; rfl, HB3.out⟩
              | true =>
                rw [hmb] at CM3
                go_wp2_with fail
                refine (CM3.out _ HB2.out).mono ?_
                rintro e w3 ⟨rfl, hb⟩
                have HB3 := Lib.hid (HB2.out.trans (hb.mono HB2.out.size))
                clear hb
                go_wp2
                go_ret
                exact ⟨by rw [HV.out]; rfl, HB3.out⟩
          by_cases h6 : f.kind = 6
          · rw [h6] at b0
            have HKN := Lib.hid HK.out
            unfold kndB at HKN
            rw [h6] at HKN
            have a2 := HF2.out.cell2
            by_cases q1 : (f.data.length : Int) ≤ 1200
            · have hw1 : IntKind.u64.wrap ((f.data.length : Nat) : Int) = ((f.data.length : Nat) : Int) := by rw [IntKind.wrap_u64]; omega
              have ho0 := HOFF.out
              have ho1 := HO1.out
              have hw2 : IntKind.u64.wrap (f.off + (f.data.length : Nat)) = f.off + (f.data.length : Nat) := by rw [IntKind.wrap_u64]; omega
              by_cases q2 : f.off + (f.data.length : Int) ≤ 4611686018427387903
              · have HV : Hid (mayF k f l = true) := Lib.hid (by rw [HKN.out]; show (decide (f.data.length ≤ 1200) && decide (f.off + (f.data.length : Int) ≤ 4611686018427387903)) = true; rw [decide_eq_true (by omega), decide_eq_true q2]; rfl)
                clear ho0 ho1 HKN HK
                go_wp2
                go_ret
                exact ⟨by rw [HV.out]; rfl, HB2.out⟩
              · have HV : Hid (mayF k f l = false) := Lib.hid (by rw [HKN.out]; show (decide (f.data.length ≤ 1200) && decide (f.off + (f.data.length : Int) ≤ 4611686018427387903)) = false; rw [decide_eq_false q2, Bool.and_false])
                clear ho0 ho1 HKN HK
                go_wp2
                go_ret
                exact ⟨by rw [HV.out]; rfl, HB2.out⟩
            · have HV : Hid (mayF k f l = false) := Lib.hid (by rw [HKN.out]; show (decide (f.data.length ≤ 1200) && decide (f.off + (f.data.length : Int) ≤ 4611686018427387903)) = false; rw [decide_eq_false (by omega), Bool.false_and])
              clear HKN HK
              go_wp2
              go_ret
              exact ⟨by rw [HV.out]; rfl, HB2.out⟩
          by_cases h8 : f.kind = 8
          · rw [h8] at b0
            have HKN := Lib.hid HK.out
            unfold kndB at HKN
            rw [h8] at HKN
            have a2 := HF2.out.cell2
            by_cases q1 : (f.data.length : Int) ≤ 1200
            · have hw1 : IntKind.u64.wrap ((f.data.length : Nat) : Int) = ((f.data.length : Nat) : Int) := by rw [IntKind.wrap_u64]; omega
              have ho0 := HOFF.out
              have ho1 := HO1.out
              have hw2 : IntKind.u64.wrap (f.off + (f.data.length : Nat)) = f.off + (f.data.length : Nat) := by rw [IntKind.wrap_u64]; omega
              by_cases q2 : f.off + (f.data.length : Int) ≤ 4611686018427387903
              · have HV : Hid (mayF k f l = true) := Lib.hid (by rw [HKN.out]; show (decide (f.data.length ≤ 1200) && decide (f.off + (f.data.length : Int) ≤ 4611686018427387903)) = true; rw [decide_eq_true (by omega), decide_eq_true q2]; rfl)
                clear ho0 ho1 HKN HK
                go_wp2
                go_ret
                exact ⟨by rw [HV.out]; rfl, HB2.out⟩
              · have HV : Hid (mayF k f l = false) := Lib.hid (by rw [HKN.out]; show (decide (f.data.length ≤ 1200) && decide (f.off + (f.data.length : Int) ≤ 4611686018427387903)) = false; rw [decide_eq_false q2, Bool.and_false])
                clear ho0 ho1 HKN HK
                go_wp2
                go_ret
                exact ⟨by rw [HV.out]; rfl, HB2.out⟩
            · have HV : Hid (mayF k f l = false) := Lib.hid (by rw [HKN.out]; show (decide (f.data.length ≤ 1200) && decide (f.off + (f.data.length : Int) ≤ 4611686018427387903)) = false; rw [decide_eq_false (by omega), Bool.false_and])
              clear HKN HK
              go_wp2
              go_ret
              exact ⟨by rw [HV.out]; rfl, HB2.out⟩
          by_cases h28 : f.kind = 28
          · rw [h28] at b0
            have HKN := Lib.hid HK.out
            unfold kndB at HKN
            rw [h28] at HKN
            by_cases q1 : (f.data.length : Int) ≤ 1200
            · have HV : Hid (mayF k f l = true) := Lib.hid (by rw [HKN.out]; show decide (f.data.length ≤ 1200) = true; exact decide_eq_true (by omega))
              clear HKN HK
              go_wp2
              go_ret
              exact ⟨by rw [HV.out]; rfl, HB2.out⟩
            · have HV : Hid (mayF k f l = false) := Lib.hid (by rw [HKN.out]; show decide (f.data.length ≤ 1200) = false; exact decide_eq_false (by omega))
              clear HKN HK
              go_wp2
              go_ret
              exact ⟨by rw [HV.out]; rfl, HB2.out⟩
          by_cases h29 : f.kind = 29
          · rw [h29] at b0
            have HKN := Lib.hid HK.out
            unfold kndB at HKN
            rw [h29] at HKN
            by_cases q1 : (f.data.length : Int) ≤ 1200
            · have HV : Hid (mayF k f l = true) := Lib.hid (by rw [HKN.out]; show decide (f.data.length ≤ 1200) = true; exact decide_eq_true (by omega))
              clear HKN HK
              go_wp2
              go_ret
              exact ⟨by rw [HV.out]; rfl, HB2.out⟩
            · have HV : Hid (mayF k f l = false) := Lib.hid (by rw [HKN.out]; show decide (f.data.length ≤ 1200) = false; exact decide_eq_false (by omega))
              clear HKN HK
              go_wp2
              go_ret
              exact ⟨by rw [HV.out]; rfl, HB2.out⟩
          by_cases h24 : f.kind = 24
          · rw [h24] at b0
            have HKN := Lib.hid HK.out
            unfold kndB at HKN
            rw [h24] at HKN
            have a5 := HF2.out.cell5
            have a6 := HF2.out.cell6
            have hsh : ∀ b : Bool, (decide (f.prior ≤ f.seq) && decide (f.cid.length = 8) && decide (f.token.length = 16)) = b → mayF k f l = b := fun b h => by rw [HKN.out]; exact h
            by_cases q1 : f.prior ≤ f.seq
            · by_cases q2 : f.cid.length = 8
              · have q2b : ((f.cid.length : Int) == 8) = true := by rw [beq_iff_eq]; omega
                by_cases q3 : f.token.length = 16
                · have q3b : ((f.token.length : Int) == 16) = true := by rw [beq_iff_eq]; omega
                  have HV : Hid (mayF k f l = true) := Lib.hid (hsh _ (by rw [decide_eq_true q1, decide_eq_true q2, decide_eq_true q3]; rfl))
                  clear HKN HK q2 q3 hsh
                  go_wp2
                  go_ret
                  exact ⟨by rw [HV.out]; rfl, HB2.out⟩
                · have q3b : ((f.token.length : Int) == 16) = false := beq_eq_false_iff_ne.2 (by omega)
                  have HV : Hid (mayF k f l = false) := Lib.hid (hsh _ (by rw [decide_eq_false q3, Bool.and_false]))
                  clear HKN HK q2 q3 hsh
                  go_wp2
                  go_ret
                  exact ⟨by rw [HV.out]; rfl, HB2.out⟩
              · have q2b : ((f.cid.length : Int) == 8) = false := beq_eq_false_iff_ne.2 (by omega)
                have HV : Hid (mayF k f l = false) := Lib.hid (hsh _ (by rw [decide_eq_false q2, Bool.and_false, Bool.false_and]))
                clear HKN HK q2 hsh
                go_wp2
                go_ret
                exact ⟨by rw [HV.out]; rfl, HB2.out⟩
            · have HV : Hid (mayF k f l = false) := Lib.hid (hsh _ (by rw [decide_eq_false q1, Bool.false_and, Bool.false_and]))
              clear HKN HK hsh
              go_wp2
              go_ret
              exact ⟨by rw [HV.out]; rfl, HB2.out⟩
          by_cases h26 : f.kind = 26
          · rw [h26] at b0
            have HKN := Lib.hid HK.out
            unfold kndB at HKN
            rw [h26] at HKN
            by_cases q1 : f.token.length = 8
            · have q1b : ((f.token.length : Int) == 8) = true := by rw [beq_iff_eq]; omega
              have HV : Hid (mayF k f l = true) := Lib.hid (by rw [HKN.out]; show decide (f.token.length = 8) = true; exact decide_eq_true q1)
              clear HKN HK q1
              go_wp2
              go_ret
              exact ⟨by rw [HV.out]; rfl, HB2.out⟩
            · have q1b : ((f.token.length : Int) == 8) = false := beq_eq_false_iff_ne.2 (by omega)
              have HV : Hid (mayF k f l = false) := Lib.hid (by rw [HKN.out]; show decide (f.token.length = 8) = false; exact decide_eq_false q1)
              clear HKN HK q1
              go_wp2
              go_ret
              exact ⟨by rw [HV.out]; rfl, HB2.out⟩
          by_cases h27 : f.kind = 27
          · rw [h27] at b0
            have HKN := Lib.hid HK.out
            unfold kndB at HKN
            rw [h27] at HKN
            by_cases q1 : f.token.length = 8
            · have q1b : ((f.token.length : Int) == 8) = true := by rw [beq_iff_eq]; omega
              have HV : Hid (mayF k f l = true) := Lib.hid (by rw [HKN.out]; show decide (f.token.length = 8) = true; exact decide_eq_true q1)
              clear HKN HK q1
              go_wp2
              go_ret
              exact ⟨by rw [HV.out]; rfl, HB2.out⟩
            · have q1b : ((f.token.length : Int) == 8) = false := beq_eq_false_iff_ne.2 (by omega)
              have HV : Hid (mayF k f l = false) := Lib.hid (by rw [HKN.out]; show decide (f.token.length = 8) = false; exact decide_eq_false q1)
              clear HKN HK q1
              go_wp2
              go_ret
              exact ⟨by rw [HV.out]; rfl, HB2.out⟩
          by_cases h18 : f.kind = 18
          · rw [h18] at b0
            have HKN := Lib.hid HK.out
            unfold kndB at HKN
            rw [h18] at HKN
            have a3 := HF2.out.cell3
            by_cases q1 : f.max ≤ 1152921504606846976
            · have HV : Hid (mayF k f l = true) := Lib.hid (by rw [HKN.out]; show decide (f.max ≤ 1152921504606846976) = true; exact decide_eq_true (by omega))
              clear HKN HK
              go_wp2
              go_ret
              exact ⟨by rw [HV.out]; rfl, HB2.out⟩
            · have HV : Hid (mayF k f l = false) := Lib.hid (by rw [HKN.out]; show decide (f.max ≤ 1152921504606846976) = false; exact decide_eq_false (by omega))
              clear HKN HK
              go_wp2
              go_ret
              exact ⟨by rw [HV.out]; rfl, HB2.out⟩
          by_cases h19 : f.kind = 19
          · rw [h19] at b0
            have HKN := Lib.hid HK.out
            unfold kndB at HKN
            rw [h19] at HKN
            have a3 := HF2.out.cell3
            by_cases q1 : f.max ≤ 1152921504606846976
            · have HV : Hid (mayF k f l = true) := Lib.hid (by rw [HKN.out]; show decide (f.max ≤ 1152921504606846976) = true; exact decide_eq_true (by omega))
              clear HKN HK
              go_wp2
              go_ret
              exact ⟨by rw [HV.out]; rfl, HB2.out⟩
            · have HV : Hid (mayF k f l = false) := Lib.hid (by rw [HKN.out]; show decide (f.max ≤ 1152921504606846976) = false; exact decide_eq_false (by omega))
              clear HKN HK
              go_wp2
              go_ret
              exact ⟨by rw [HV.out]; rfl, HB2.out⟩
          by_cases h22 : f.kind = 22
          · rw [h22] at b0
            have HKN := Lib.hid HK.out
            unfold kndB at HKN
            rw [h22] at HKN
            have a3 := HF2.out.cell3
            by_cases q1 : f.max ≤ 1152921504606846976
            · have HV : Hid (mayF k f l = true) := Lib.hid (by rw [HKN.out]; show decide (f.max ≤ 1152921504606846976) = true; exact decide_eq_true (by omega))
              clear HKN HK
              go_wp2
              go_ret
              exact ⟨by rw [HV.out]; rfl, HB2.out⟩
            · have HV : Hid (mayF k f l = false) := Lib.hid (by rw [HKN.out]; show decide (f.max ≤ 1152921504606846976) = false; exact decide_eq_false (by omega))
              clear HKN HK
              go_wp2
              go_ret
              exact ⟨by rw [HV.out]; rfl, HB2.out⟩
          by_cases h23 : f.kind = 23
          · rw [h23] at b0
            have HKN := Lib.hid HK.out
            unfold kndB at HKN
            rw [h23] at HKN
            have a3 := HF2.out.cell3
            by_cases q1 : f.max ≤ 1152921504606846976
            · have HV : Hid (mayF k f l = true) := Lib.hid (by rw [HKN.out]; show decide (f.max ≤ 1152921504606846976) = true; exact decide_eq_true (by omega))
              clear HKN HK
              go_wp2
              go_ret
              exact ⟨by rw [HV.out]; rfl, HB2.out⟩
            · have HV : Hid (mayF k f l = false) := Lib.hid (by rw [HKN.out]; show decide (f.max ≤ 1152921504606846976) = false; exact decide_eq_false (by omega))
              clear HKN HK
              go_wp2
              go_ret
              exact ⟨by rw [HV.out]; rfl, HB2.out⟩
          have HV : Hid (mayF k f l = true) := Lib.hid (by
            rw [HK.out]
            unfold kndB
            rw [show (f.kind == 2) = false from beq_eq_false_iff_ne.2 h2]
            rw [show (f.kind == 6) = false from beq_eq_false_iff_ne.2 h6]
            rw [show (f.kind == 8) = false from beq_eq_false_iff_ne.2 h8]
            rw [show (f.kind == 28) = false from beq_eq_false_iff_ne.2 h28]
            rw [show (f.kind == 29) = false from beq_eq_false_iff_ne.2 h29]
            rw [show (f.kind == 18) = false from beq_eq_false_iff_ne.2 h18]
            rw [show (f.kind == 19) = false from beq_eq_false_iff_ne.2 h19]
            rw [show (f.kind == 22) = false from beq_eq_false_iff_ne.2 h22]
            rw [show (f.kind == 23) = false from beq_eq_false_iff_ne.2 h23]
            rw [show (f.kind == 24) = false from beq_eq_false_iff_ne.2 h24]
            rw [show (f.kind == 26) = false from beq_eq_false_iff_ne.2 h26]
            rw [show (f.kind == 27) = false from beq_eq_false_iff_ne.2 h27]
            rfl)
          have e2 : (f.kind == 2) = false := beq_eq_false_iff_ne.2 h2
          have e6 : (f.kind == 6) = false := beq_eq_false_iff_ne.2 h6
          have e8 : (f.kind == 8) = false := beq_eq_false_iff_ne.2 h8
          have e28 : (f.kind == 28) = false := beq_eq_false_iff_ne.2 h28
          have e29 : (f.kind == 29) = false := beq_eq_false_iff_ne.2 h29
          have e18 : (f.kind == 18) = false := beq_eq_false_iff_ne.2 h18
          have e19 : (f.kind == 19) = false := beq_eq_false_iff_ne.2 h19
          have e22 : (f.kind == 22) = false := beq_eq_false_iff_ne.2 h22
          have e23 : (f.kind == 23) = false := beq_eq_false_iff_ne.2 h23
          have e24 : (f.kind == 24) = false := beq_eq_false_iff_ne.2 h24
          have e26 : (f.kind == 26) = false := beq_eq_false_iff_ne.2 h26
          have e27 : (f.kind == 27) = false := beq_eq_false_iff_ne.2 h27
          clear HK h2 h6 h8 h28 h29 h18 h19 h22 h23 h24 h26 h27
          go_wp2
          go_ret
          exact ⟨by rw [HV.out]; rfl, HB2.out⟩
end Go.Proofs.YtfeecfdbncjmnaaDoor.Fm
