/- The walks of layer 6: an own slice of ranges; slices.Reverse. -/
import Derived.Test.YtfeecfdbncjmnaaDoorFmA
import Derived.Laws.OwnMore
namespace Go.Proofs.YtfeecfdbncjmnaaDoor.Fm
set_option maxRecDepth 20000
open Go.RowKit Vm
set_option linter.unusedVariables false

/-- The varint that bytes begin by, and what is behind it. -/
def vt (l : List UInt8) : Option (Nat × List UInt8) := if gk l ≤ l.length then some (gN l, gR l) else none
theorem vt_some {l : List UInt8} {n : Nat} {r : List UInt8} (h : vt l = some (n, r)) : gk l ≤ l.length ∧ gN l = n ∧ gR l = r := by
  unfold vt at h
  split at h
  · rename_i hg
    simp only [Option.some.injEq, Prod.mk.injEq] at h
    exact ⟨hg, h.1, h.2⟩
  · cases h
theorem vt_none {l : List UInt8} (h : vt l = none) : l.length < gk l := by
  unfold vt at h
  split at h
  · cases h
  · omega
theorem vt_len {l : List UInt8} {n : Nat} {r : List UInt8} (h : vt l = some (n, r)) : r.length ≤ l.length := by
  obtain ⟨h1, _, h3⟩ := vt_some h
  rw [← h3, (g_ok h1).2.1, List.length_drop]
  omega
/-- The ranges behind the first one: m of them, below lo; acc: those that stand, in the order of reading. -/
def ackG : Nat → Nat → List (Nat × Nat) → List UInt8 → Option (List (Nat × Nat) × List UInt8)
  | 0, _, acc, l => some (acc, l)
  | m + 1, lo, acc, l =>
    match vt l with
    | none => none
    | some (d, l1) =>
      if lo < d + 2 then none
      else match vt l1 with
        | none => none
        | some (e, l2) => if lo - (d + 2) < e then none else ackG m (lo - (d + 2) - e) (acc ++ [(lo - (d + 2) - e, lo - (d + 2))]) l2
/-- An Ack's Delay, its ranges from the first one on, and what is behind it. -/
def ackN (l : List UInt8) : Option (Nat × List (Nat × Nat) × List UInt8) :=
  match vt l with
  | none => none
  | some (hi, l1) => match vt l1 with
    | none => none
    | some (delay, l2) => match vt l2 with
      | none => none
      | some (more, l3) => if 32 ≤ more then none else match vt l3 with
        | none => none
        | some (d, l4) => if hi < d then none else match ackG more (hi - d) [(hi - d, hi)] l4 with
          | none => none
          | some (acc, l5) => some (delay, acc.reverse, l5)

def flatV (l : List (Nat × Nat)) : List Value := l.flatMap fun p => [.int .u64 p.1, .int .u64 p.2]
theorem flatV_len (l : List (Nat × Nat)) : (flatV l).length = l.length * 2 := by
  induction l with
  | nil => rfl
  | cons x l ih =>
    have : flatV (x :: l) = [.int .u64 x.1, .int .u64 x.2] ++ flatV l := by simp [flatV]
    rw [this, List.length_append, ih, List.length_cons, List.length_cons, List.length_cons, List.length_nil]; omega
theorem flatV_get (l : List (Nat × Nat)) : ∀ k, k < l.length → (flatV l)[k * 2]? = some (.int .u64 (l.getD k (0, 0)).1) ∧ (flatV l)[k * 2 + 1]? = some (.int .u64 (l.getD k (0, 0)).2) := by
  induction l with
  | nil => intro k h; simp at h
  | cons x l ih =>
    intro k h
    have e : flatV (x :: l) = .int .u64 x.1 :: .int .u64 x.2 :: flatV l := by simp [flatV]
    rw [e]
    cases k with
    | zero => exact ⟨rfl, rfl⟩
    | succ k =>
      have := ih k (by simp at h; omega)
      rw [show (k + 1) * 2 = k * 2 + 1 + 1 by omega]
      simpa using this
theorem flatV_set (l : List (Nat × Nat)) : ∀ (k : Nat) (p : Nat × Nat), flatV (l.set k p) = ((flatV l).set (k * 2) (.int .u64 p.1)).set (k * 2 + 1) (.int .u64 p.2) := by
  induction l with
  | nil => intro k p; rfl
  | cons x l ih =>
    intro k p
    have e : ∀ y : Nat × Nat, ∀ m, flatV (y :: m) = .int .u64 y.1 :: .int .u64 y.2 :: flatV m := by intro y m; simp [flatV]
    cases k with
    | zero => rw [List.set_cons_zero, e, e]; rfl
    | succ k => rw [List.set_cons_succ, e, e, ih, show (k + 1) * 2 = k * 2 + 1 + 1 by omega]; rfl
theorem flatV_app (l m : List (Nat × Nat)) : flatV (l ++ m) = flatV l ++ flatV m := by simp [flatV]
/-- A slice of ranges of the call's own. -/
def OwnP (w : World) (B g c : Nat) (l : List (Nat × Nat)) : Prop := w.ownsRow B 54 2 (.slice (some ⟨g, 0, none⟩) l.length c) l.length (flatV l)
theorem OwnP.lt {w : World} {B g c : Nat} {l : List (Nat × Nat)} (h : OwnP w B g c l) : B ≤ g ∧ g < w.heap.size := World.ownsRow.lt h g rfl
theorem OwnP.cell {w : World} {B g c : Nat} {l : List (Nat × Nat)} (h : OwnP w B g c l) (k : Nat) (hk : k < l.length) : w.cell? ⟨g, k * 2, none⟩ = some (.int .u64 (l.getD k (0, 0)).1) ∧ w.cell? ⟨g, k * 2 + 1, none⟩ = some (.int .u64 (l.getD k (0, 0)).2) := by
  obtain ⟨h1, h2⟩ := flatV_get l k hk
  exact ⟨(h.cellAt (k * 2) (by omega)).trans h1, (h.cellAt (k * 2 + 1) (by omega)).trans h2⟩
theorem OwnP.fz {w : World} {B g c : Nat} {l : List (Nat × Nat)} (h : OwnP w B g c l) (j : Nat) : w.frozen? ⟨g, j, none⟩ = false := h.frozenAt j
theorem OwnP.put {w : World} {B g c : Nat} {l : List (Nat × Nat)} (h : OwnP w B g c l) (k : Nat) (p : Nat × Nat) : OwnP ((w.setCell ⟨g, k * 2, none⟩ (.int .u64 p.1)).setCell ⟨g, k * 2 + 1, none⟩ (.int .u64 p.2)) B g c (l.set k p) := by
  have h1 := (World.ownsRow.stored h (k * 2) (.int .u64 p.1)).1
  have h2 := (World.ownsRow.stored h1 (k * 2 + 1) (.int .u64 p.2)).1
  unfold OwnP
  rw [List.length_set, flatV_set]
  exact h2
theorem OwnP.drew {w : World} {B g c : Nat} {l : List (Nat × Nat)} (h : OwnP w B g c l) : OwnP w.drew B g c l := h
/-- The list behind k swaps. -/
def sw (l : List (Nat × Nat)) (k : Nat) : List (Nat × Nat) := (List.range l.length).map fun i => if i < k ∨ l.length - k ≤ i then l.getD (l.length - 1 - i) (0, 0) else l.getD i (0, 0)
theorem sw_len (l : List (Nat × Nat)) (k : Nat) : (sw l k).length = l.length := by simp [sw]
theorem sw_get (l : List (Nat × Nat)) (k i : Nat) (hi : i < l.length) : (sw l k).getD i (0, 0) = if i < k ∨ l.length - k ≤ i then l.getD (l.length - 1 - i) (0, 0) else l.getD i (0, 0) := by
  simp [sw, List.getD, hi]
theorem sw_zero (l : List (Nat × Nat)) : sw l 0 = l := by
  apply List.ext_getElem
  · simp [sw]
  · intro i h1 h2
    simp only [sw, List.getElem_map, List.getElem_range]
    rw [if_neg (by omega)]
    simp [List.getD, h2]
theorem sw_step (l : List (Nat × Nat)) (k j : Nat) (hj : k + j + 1 = l.length) (h : k < j) : ((sw l k).set k (l.getD j (0, 0))).set j (l.getD k (0, 0)) = sw l (k + 1) := by
  apply List.ext_getElem
  · simp [sw]
  · intro i h1 h2
    have hi : i < l.length := by simpa [sw] using h1
    rw [List.getElem_set]
    simp only [sw, List.getElem_set, List.getElem_map, List.getElem_range]
    by_cases e1 : j = i
    · subst e1
      rw [if_pos rfl, if_pos (by omega)]
      congr 1; omega
    · rw [if_neg e1]
      by_cases e2 : k = i
      · subst e2
        rw [if_pos rfl, if_pos (by omega)]
        congr 1; omega
      · rw [if_neg e2]
        by_cases e3 : i < k ∨ l.length - k ≤ i
        · rw [if_pos e3, if_pos (by omega)]
        · rw [if_neg e3, if_neg (by omega)]
theorem sw_all (l : List (Nat × Nat)) (k : Nat) (h : l.length ≤ 2 * k + 1) : sw l k = l.reverse := by
  apply List.ext_getElem
  · simp [sw]
  · intro i h1 h2
    have hi : i < l.length := by simpa [sw] using h1
    simp only [sw, List.getElem_map, List.getElem_range, List.getElem_reverse]
    split
    · simp [List.getD, show l.length - 1 - i < l.length by omega]
    · have : i = l.length - 1 - i := by omega
      simp [List.getD, hi, ← this]
set_option maxHeartbeats 4000000 in
theorem reverse_own (B g c : Nat) (l : List (Nat × Nat)) (w : World) (h : OwnP w B g c l) (hl : l.length ≤ 1000) :
    Calls Tryd.prog 66 #[.slice (some ⟨g, 0, none⟩) l.length c] w fun e w' => e = .returned (.tuple #[]) ∧ OwnP w' B g c l.reverse ∧ It.Only (fun k => k = g) w w' := by
  have HO := Lib.hid h
  clear h
  go_enter Tryd.func66, Tryd.ntmps66
  go_wp2
  go_loopw [2, 3] (fun iv jv wr => ∃ k : Nat, k ≤ l.length ∧ iv = .int .i64 k ∧ jv = .int .i64 ((l.length : Int) - 1 - k) ∧ OwnP wr B g c (sw l k) ∧ It.Only (fun k => k = g) w wr) (fun iv _ _ => l.length - (intOf iv).toNat)
  case atStart => exact ⟨0, Nat.zero_le _, rfl, by simp, by rw [sw_zero]; exact HO.out, It.Only.refl _ _⟩
  case round =>
    clear HO
    obtain ⟨k, hk, rfl, rfl, hO, hI⟩ := hrel
    have HI := Lib.hid hI
    clear hI
    by_cases hlt : (k : Int) < (l.length : Int) - 1 - k
    · obtain ⟨j, hj⟩ : ∃ j, k + j + 1 = l.length := ⟨l.length - 1 - k, by omega⟩
      have hkj : k < j := by omega
      have hjj : (l.length : Int) - 1 - (k : Int) = (j : Int) := by omega
      have hst := sw_step l k j hj hkj
      have ck := hO.cell k (by rw [sw_len]; omega)
      have cj := hO.cell j (by rw [sw_len]; omega)
      rw [sw_get _ _ _ (by omega), if_neg (by omega)] at ck cj
      obtain ⟨ck0, ck1⟩ := ck
      obtain ⟨cj0, cj1⟩ := cj
      have fz := hO.fz
      have HN := Lib.hid (hO.put k (l.getD j (0, 0)))
      have HN2 := Lib.hid (HN.out.put j (l.getD k (0, 0)))
      rw [hst] at HN2
      clear hst HN
      generalize l.getD k (0, 0) = p at *
      generalize l.getD j (0, 0) = q at *
      obtain ⟨n, hn⟩ : ∃ n, l.length = n := ⟨_, rfl⟩
      have HL := Lib.hid hj
      rw [hjj]
      have HJJ := Lib.hid hjj
      have b1 : (0 : Int) ≤ (k : Int) := by omega
      have b2 : (k : Int) < (l.length : Int) := by omega
      have b3 : (0 : Int) ≤ (j : Int) := by omega
      have b4 : (j : Int) < (l.length : Int) := by omega
      have b5 : (k : Int) < (j : Int) := by omega
      clear hn hjj hlt hj hO
      go_wp2
      go_region
      go_wp2
      go_roundw
      case rel =>
        have hj := HL.out
        refine ⟨k + 1, by omega, by go_num, by go_num, HN2.out.drew, ?_⟩
        have o : ∀ (W : World) (i : Nat) (v : Value), It.Only (fun k => k = g) W (W.setCell ⟨g, i, none⟩ v) := fun W i v => It.Only.setCell (O := fun k => k = g) (p := ⟨g, i, none⟩) rfl W v
        exact ((((HI.out.trans (o _ _ _)).trans (o _ _ _)).trans (o _ _ _)).trans (o _ _ _)).trans (It.Only.drew _ _)
      case measure => simp [intOf]; omega
    · have e := sw_all l k (by omega)
      rw [e] at hO
      have HO2 := Lib.hid hO
      clear hO
      go_wp2
      go_end0
      exact ⟨rfl, HO2.out, HI.out⟩
end Go.Proofs.YtfeecfdbncjmnaaDoor.Fm
