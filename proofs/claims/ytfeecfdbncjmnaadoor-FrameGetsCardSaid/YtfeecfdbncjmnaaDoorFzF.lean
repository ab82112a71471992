/- Layer 6: FgK, FgM, FgN, joined by tools/pack.py. -/
import Derived.Test.YtfeecfdbncjmnaaDoorFzC
import Derived.Test.YtfeecfdbncjmnaaDoorFzD
namespace Go.Proofs.YtfeecfdbncjmnaaDoor.Fm
set_option maxRecDepth 20000
open Go.RowKit Vm
set_option linter.unusedVariables false
set_option linter.unusedSimpArgs false
section
theorem stepN_skip {p i : Nat} (h : p.testBit i = false) (o : Option (List UInt8 × Frm)) : stepN p i o = o := by
  match o with
  | none => rfl
  | some (l, f) => rw [stepN_some, if_neg (by rw [h]; decide)]
theorem stepN_do {p i : Nat} (h : p.testBit i = true) (l : List UInt8) (f : Frm) : stepN p i (some (l, f)) = if gk l ≤ l.length then some (gR l, setN f i (gN l : Nat)) else none := by
  rw [stepN_some, if_pos h]
theorem stepN_none (p i : Nat) : stepN p i none = none := rfl
theorem gst_1 (l : List UInt8) : gst l 1 = if gk l ≤ l.length then some ([gN l], gR l) else none := by
  by_cases h : gk l ≤ l.length
  · rw [if_pos h]
    have := gst_ok (l := l) (k := 0) (acc := []) (r := l) rfl h
    rw [this, (g_ok h).1, (g_ok h).2.1]
    rfl
  · rw [if_neg h]
    exact gst_no (l := l) (k := 0) (acc := []) (r := l) rfl (by omega)
theorem gst_next {l : List UInt8} {k : Nat} {acc : List Nat} {r : List UInt8} (h : gst l k = some (acc, r)) : gst l (k + 1) = if gk r ≤ r.length then some (acc ++ [gN r], gR r) else none := by
  by_cases hk : gk r ≤ r.length
  · rw [if_pos hk, gst_ok h hk, (g_ok hk).1, (g_ok hk).2.1]
  · rw [if_neg hk]
    exact gst_no h (by omega)
theorem gst_2 (l : List UInt8) : gst l 2 = if gk l ≤ l.length then (if gk (gR l) ≤ (gR l).length then some ([gN l, gN (gR l)], gR (gR l)) else none) else none := by
  have h1 := gst_1 l
  by_cases h : gk l ≤ l.length
  · rw [if_pos h] at h1 ⊢
    exact gst_next h1
  · rw [if_neg h] at h1 ⊢
    exact gst_none h1 2 (by decide)
theorem gst_3 (l : List UInt8) : gst l 3 = if gk l ≤ l.length then (if gk (gR l) ≤ (gR l).length then (if gk (gR (gR l)) ≤ (gR (gR l)).length then some ([gN l, gN (gR l), gN (gR (gR l))], gR (gR (gR l))) else none) else none) else none := by
  have h2 := gst_2 l
  by_cases h : gk l ≤ l.length
  · rw [if_pos h] at h2 ⊢
    by_cases h' : gk (gR l) ≤ (gR l).length
    · rw [if_pos h'] at h2 ⊢
      exact gst_next h2
    · rw [if_neg h'] at h2 ⊢
      exact gst_none h2 3 (by decide)
  · rw [if_neg h] at h2 ⊢
    exact gst_none h2 3 (by decide)
theorem frm_plain (c : UInt8) (t : List UInt8) (hB : toldB c.toNat = true) (h11 : (toldP c.toNat).testBit 11 = false) : frmN (c :: t) = (match numsN (toldP c.toNat) t { frZ with kind := (toldK c.toNat : Nat) } 7 with
    | none => none
    | some (l2, f2) => (match textsN (toldP c.toNat) l2 { f2 with fin := (toldP c.toNat).testBit 10 } with
      | none => none
      | some (r, f) => some (f, [], r))) := by
  rw [frmN_cons, if_pos hB, if_neg (by rw [h11]; decide)]
  unfold plainN
  cases numsN (toldP c.toNat) t { frZ with kind := (toldK c.toNat : Nat) } 7 with
  | none => rfl
  | some x => rfl
theorem txt_none (p : Nat) (l : List UInt8) (f : Frm) (h7 : p.testBit 7 = false) (h12 : p.testBit 12 = false) (h8 : p.testBit 8 = false) (h9 : p.testBit 9 = false) : textsN p l f = some (l, f) := by
  unfold textsN
  rw [h7, h12, h8, h9]
  rfl
theorem txt_data (p : Nat) (l : List UInt8) (f : Frm) (h7 : p.testBit 7 = true) : textsN p l f = (match lngN l with | some (t, q) => some (q, { f with data := t }) | none => none) := by
  unfold textsN lngN
  rw [if_pos h7]
  by_cases h : gk l ≤ l.length ∧ gN l ≤ (gR l).length
  · rw [if_pos h, if_pos h]
  · rw [if_neg h, if_neg h]
theorem txt_rest (p : Nat) (l : List UInt8) (f : Frm) (h7 : p.testBit 7 = false) (h12 : p.testBit 12 = true) : textsN p l f = some ([], { f with data := l }) := by
  unfold textsN
  rw [h7, h12]
  rfl
theorem txt_token (p : Nat) (l : List UInt8) (f : Frm) (h7 : p.testBit 7 = false) (h12 : p.testBit 12 = false) (h8 : p.testBit 8 = false) (h9 : p.testBit 9 = true) : textsN p l f = if 8 ≤ l.length then some (l.drop 8, { f with token := l.take 8 }) else none := by
  unfold textsN
  rw [h7, h12, h8, h9]
  rfl
theorem nums_7 (p : Nat) (l : List UInt8) (f : Frm) : numsN p l f 7 = stepN p 6 (stepN p 5 (stepN p 4 (stepN p 3 (stepN p 2 (stepN p 1 (stepN p 0 (some (l, f)))))))) := rfl
theorem frm_0 (t : List UInt8) : frmN (0 :: t) = some ({ frZ with kind := 0 }, [], t) := by
  rw [frm_plain 0 t rfl rfl, show toldP (UInt8.toNat 0) = 0 from rfl, show toldK (UInt8.toNat 0) = 0 from rfl, nums_7]
  rw [stepN_skip (show Nat.testBit 0 0 = false from rfl)]
  rw [stepN_skip (show Nat.testBit 0 1 = false from rfl)]
  rw [stepN_skip (show Nat.testBit 0 2 = false from rfl)]
  rw [stepN_skip (show Nat.testBit 0 3 = false from rfl)]
  rw [stepN_skip (show Nat.testBit 0 4 = false from rfl)]
  rw [stepN_skip (show Nat.testBit 0 5 = false from rfl)]
  rw [stepN_skip (show Nat.testBit 0 6 = false from rfl)]
  simp only
  rw [txt_none 0 _ _ rfl rfl rfl rfl]
  rfl
theorem frm_1 (t : List UInt8) : frmN (1 :: t) = some ({ frZ with kind := 1 }, [], t) := by
  rw [frm_plain 1 t rfl rfl, show toldP (UInt8.toNat 1) = 0 from rfl, show toldK (UInt8.toNat 1) = 1 from rfl, nums_7]
  rw [stepN_skip (show Nat.testBit 0 0 = false from rfl)]
  rw [stepN_skip (show Nat.testBit 0 1 = false from rfl)]
  rw [stepN_skip (show Nat.testBit 0 2 = false from rfl)]
  rw [stepN_skip (show Nat.testBit 0 3 = false from rfl)]
  rw [stepN_skip (show Nat.testBit 0 4 = false from rfl)]
  rw [stepN_skip (show Nat.testBit 0 5 = false from rfl)]
  rw [stepN_skip (show Nat.testBit 0 6 = false from rfl)]
  simp only
  rw [txt_none 0 _ _ rfl rfl rfl rfl]
  rfl
theorem frm_4 (t : List UInt8) : frmN (4 :: t) = (if gk t ≤ t.length then (if gk (gR t) ≤ (gR t).length then (if gk (gR (gR t)) ≤ (gR (gR t)).length then some ({ frZ with kind := 4, id := (gN t : Nat), code := (gN (gR t) : Nat), max := (gN (gR (gR t)) : Nat) }, [], (gR (gR (gR t)))) else none) else none) else none) := by
  rw [frm_plain 4 t rfl rfl, show toldP (UInt8.toNat 4) = 13 from rfl, show toldK (UInt8.toNat 4) = 4 from rfl, nums_7]
  rw [stepN_do (show Nat.testBit 13 0 = true from rfl)]
  by_cases h0 : gk t ≤ t.length
  case neg =>
    rw [if_neg h0, if_neg h0]
    try rfl
  rw [if_pos h0, if_pos h0]
  rw [stepN_skip (show Nat.testBit 13 1 = false from rfl)]
  rw [stepN_do (show Nat.testBit 13 2 = true from rfl)]
  by_cases h2 : gk (gR t) ≤ (gR t).length
  case neg =>
    rw [if_neg h2, if_neg h2]
    try rfl
  rw [if_pos h2, if_pos h2]
  rw [stepN_do (show Nat.testBit 13 3 = true from rfl)]
  by_cases h3 : gk (gR (gR t)) ≤ (gR (gR t)).length
  case neg =>
    rw [if_neg h3, if_neg h3]
    try rfl
  rw [if_pos h3, if_pos h3]
  rw [stepN_skip (show Nat.testBit 13 4 = false from rfl)]
  rw [stepN_skip (show Nat.testBit 13 5 = false from rfl)]
  rw [stepN_skip (show Nat.testBit 13 6 = false from rfl)]
  simp only
  rw [txt_none 13 _ _ rfl rfl rfl rfl]
  rfl
theorem frm_5 (t : List UInt8) : frmN (5 :: t) = (if gk t ≤ t.length then (if gk (gR t) ≤ (gR t).length then some ({ frZ with kind := 5, id := (gN t : Nat), code := (gN (gR t) : Nat) }, [], (gR (gR t))) else none) else none) := by
  rw [frm_plain 5 t rfl rfl, show toldP (UInt8.toNat 5) = 5 from rfl, show toldK (UInt8.toNat 5) = 5 from rfl, nums_7]
  rw [stepN_do (show Nat.testBit 5 0 = true from rfl)]
  by_cases h0 : gk t ≤ t.length
  case neg =>
    rw [if_neg h0, if_neg h0]
    try rfl
  rw [if_pos h0, if_pos h0]
  rw [stepN_skip (show Nat.testBit 5 1 = false from rfl)]
  rw [stepN_do (show Nat.testBit 5 2 = true from rfl)]
  by_cases h2 : gk (gR t) ≤ (gR t).length
  case neg =>
    rw [if_neg h2, if_neg h2]
    try rfl
  rw [if_pos h2, if_pos h2]
  rw [stepN_skip (show Nat.testBit 5 3 = false from rfl)]
  rw [stepN_skip (show Nat.testBit 5 4 = false from rfl)]
  rw [stepN_skip (show Nat.testBit 5 5 = false from rfl)]
  rw [stepN_skip (show Nat.testBit 5 6 = false from rfl)]
  simp only
  rw [txt_none 5 _ _ rfl rfl rfl rfl]
  rfl
theorem frm_6 (t : List UInt8) : frmN (6 :: t) = (if gk t ≤ t.length then (match lngN (gR t) with | some (d, q) => some ({ frZ with kind := 6, off := (gN t : Nat), data := d }, [], q) | none => none) else none) := by
  rw [frm_plain 6 t rfl rfl, show toldP (UInt8.toNat 6) = 130 from rfl, show toldK (UInt8.toNat 6) = 6 from rfl, nums_7]
  rw [stepN_skip (show Nat.testBit 130 0 = false from rfl)]
  rw [stepN_do (show Nat.testBit 130 1 = true from rfl)]
  by_cases h1 : gk t ≤ t.length
  case neg =>
    rw [if_neg h1, if_neg h1]
    try rfl
  rw [if_pos h1, if_pos h1]
  rw [stepN_skip (show Nat.testBit 130 2 = false from rfl)]
  rw [stepN_skip (show Nat.testBit 130 3 = false from rfl)]
  rw [stepN_skip (show Nat.testBit 130 4 = false from rfl)]
  rw [stepN_skip (show Nat.testBit 130 5 = false from rfl)]
  rw [stepN_skip (show Nat.testBit 130 6 = false from rfl)]
  simp only
  rw [txt_data 130 _ _ rfl]
  cases lngN (gR t) with
  | none => rfl
  | some x => rfl
theorem frm_8 (t : List UInt8) : frmN (8 :: t) = (if gk t ≤ t.length then some ({ frZ with kind := 8, fin := false, id := (gN t : Nat), data := (gR t) }, [], []) else none) := by
  rw [frm_plain 8 t rfl rfl, show toldP (UInt8.toNat 8) = 4097 from rfl, show toldK (UInt8.toNat 8) = 8 from rfl, nums_7]
  rw [stepN_do (show Nat.testBit 4097 0 = true from rfl)]
  by_cases h0 : gk t ≤ t.length
  case neg =>
    rw [if_neg h0, if_neg h0]
    try rfl
  rw [if_pos h0, if_pos h0]
  rw [stepN_skip (show Nat.testBit 4097 1 = false from rfl)]
  rw [stepN_skip (show Nat.testBit 4097 2 = false from rfl)]
  rw [stepN_skip (show Nat.testBit 4097 3 = false from rfl)]
  rw [stepN_skip (show Nat.testBit 4097 4 = false from rfl)]
  rw [stepN_skip (show Nat.testBit 4097 5 = false from rfl)]
  rw [stepN_skip (show Nat.testBit 4097 6 = false from rfl)]
  simp only
  rw [txt_rest 4097 _ _ rfl rfl]
  rfl
theorem frm_9 (t : List UInt8) : frmN (9 :: t) = (if gk t ≤ t.length then some ({ frZ with kind := 8, fin := true, id := (gN t : Nat), data := (gR t) }, [], []) else none) := by
  rw [frm_plain 9 t rfl rfl, show toldP (UInt8.toNat 9) = 5121 from rfl, show toldK (UInt8.toNat 9) = 8 from rfl, nums_7]
  rw [stepN_do (show Nat.testBit 5121 0 = true from rfl)]
  by_cases h0 : gk t ≤ t.length
  case neg =>
    rw [if_neg h0, if_neg h0]
    try rfl
  rw [if_pos h0, if_pos h0]
  rw [stepN_skip (show Nat.testBit 5121 1 = false from rfl)]
  rw [stepN_skip (show Nat.testBit 5121 2 = false from rfl)]
  rw [stepN_skip (show Nat.testBit 5121 3 = false from rfl)]
  rw [stepN_skip (show Nat.testBit 5121 4 = false from rfl)]
  rw [stepN_skip (show Nat.testBit 5121 5 = false from rfl)]
  rw [stepN_skip (show Nat.testBit 5121 6 = false from rfl)]
  simp only
  rw [txt_rest 5121 _ _ rfl rfl]
  rfl
theorem frm_10 (t : List UInt8) : frmN (10 :: t) = (if gk t ≤ t.length then (match lngN (gR t) with | some (d, q) => some ({ frZ with kind := 8, fin := false, id := (gN t : Nat), data := d }, [], q) | none => none) else none) := by
  rw [frm_plain 10 t rfl rfl, show toldP (UInt8.toNat 10) = 129 from rfl, show toldK (UInt8.toNat 10) = 8 from rfl, nums_7]
  rw [stepN_do (show Nat.testBit 129 0 = true from rfl)]
  by_cases h0 : gk t ≤ t.length
  case neg =>
    rw [if_neg h0, if_neg h0]
    try rfl
  rw [if_pos h0, if_pos h0]
  rw [stepN_skip (show Nat.testBit 129 1 = false from rfl)]
  rw [stepN_skip (show Nat.testBit 129 2 = false from rfl)]
  rw [stepN_skip (show Nat.testBit 129 3 = false from rfl)]
  rw [stepN_skip (show Nat.testBit 129 4 = false from rfl)]
  rw [stepN_skip (show Nat.testBit 129 5 = false from rfl)]
  rw [stepN_skip (show Nat.testBit 129 6 = false from rfl)]
  simp only
  rw [txt_data 129 _ _ rfl]
  cases lngN (gR t) with
  | none => rfl
  | some x => rfl
theorem frm_11 (t : List UInt8) : frmN (11 :: t) = (if gk t ≤ t.length then (match lngN (gR t) with | some (d, q) => some ({ frZ with kind := 8, fin := true, id := (gN t : Nat), data := d }, [], q) | none => none) else none) := by
  rw [frm_plain 11 t rfl rfl, show toldP (UInt8.toNat 11) = 1153 from rfl, show toldK (UInt8.toNat 11) = 8 from rfl, nums_7]
  rw [stepN_do (show Nat.testBit 1153 0 = true from rfl)]
  by_cases h0 : gk t ≤ t.length
  case neg =>
    rw [if_neg h0, if_neg h0]
    try rfl
  rw [if_pos h0, if_pos h0]
  rw [stepN_skip (show Nat.testBit 1153 1 = false from rfl)]
  rw [stepN_skip (show Nat.testBit 1153 2 = false from rfl)]
  rw [stepN_skip (show Nat.testBit 1153 3 = false from rfl)]
  rw [stepN_skip (show Nat.testBit 1153 4 = false from rfl)]
  rw [stepN_skip (show Nat.testBit 1153 5 = false from rfl)]
  rw [stepN_skip (show Nat.testBit 1153 6 = false from rfl)]
  simp only
  rw [txt_data 1153 _ _ rfl]
  cases lngN (gR t) with
  | none => rfl
  | some x => rfl
theorem frm_12 (t : List UInt8) : frmN (12 :: t) = (if gk t ≤ t.length then (if gk (gR t) ≤ (gR t).length then some ({ frZ with kind := 8, fin := false, id := (gN t : Nat), off := (gN (gR t) : Nat), data := (gR (gR t)) }, [], []) else none) else none) := by
  rw [frm_plain 12 t rfl rfl, show toldP (UInt8.toNat 12) = 4099 from rfl, show toldK (UInt8.toNat 12) = 8 from rfl, nums_7]
  rw [stepN_do (show Nat.testBit 4099 0 = true from rfl)]
  by_cases h0 : gk t ≤ t.length
  case neg =>
    rw [if_neg h0, if_neg h0]
    try rfl
  rw [if_pos h0, if_pos h0]
  rw [stepN_do (show Nat.testBit 4099 1 = true from rfl)]
  by_cases h1 : gk (gR t) ≤ (gR t).length
  case neg =>
    rw [if_neg h1, if_neg h1]
    try rfl
  rw [if_pos h1, if_pos h1]
  rw [stepN_skip (show Nat.testBit 4099 2 = false from rfl)]
  rw [stepN_skip (show Nat.testBit 4099 3 = false from rfl)]
  rw [stepN_skip (show Nat.testBit 4099 4 = false from rfl)]
  rw [stepN_skip (show Nat.testBit 4099 5 = false from rfl)]
  rw [stepN_skip (show Nat.testBit 4099 6 = false from rfl)]
  simp only
  rw [txt_rest 4099 _ _ rfl rfl]
  rfl
theorem frm_13 (t : List UInt8) : frmN (13 :: t) = (if gk t ≤ t.length then (if gk (gR t) ≤ (gR t).length then some ({ frZ with kind := 8, fin := true, id := (gN t : Nat), off := (gN (gR t) : Nat), data := (gR (gR t)) }, [], []) else none) else none) := by
  rw [frm_plain 13 t rfl rfl, show toldP (UInt8.toNat 13) = 5123 from rfl, show toldK (UInt8.toNat 13) = 8 from rfl, nums_7]
  rw [stepN_do (show Nat.testBit 5123 0 = true from rfl)]
  by_cases h0 : gk t ≤ t.length
  case neg =>
    rw [if_neg h0, if_neg h0]
    try rfl
  rw [if_pos h0, if_pos h0]
  rw [stepN_do (show Nat.testBit 5123 1 = true from rfl)]
  by_cases h1 : gk (gR t) ≤ (gR t).length
  case neg =>
    rw [if_neg h1, if_neg h1]
    try rfl
  rw [if_pos h1, if_pos h1]
  rw [stepN_skip (show Nat.testBit 5123 2 = false from rfl)]
  rw [stepN_skip (show Nat.testBit 5123 3 = false from rfl)]
  rw [stepN_skip (show Nat.testBit 5123 4 = false from rfl)]
  rw [stepN_skip (show Nat.testBit 5123 5 = false from rfl)]
  rw [stepN_skip (show Nat.testBit 5123 6 = false from rfl)]
  simp only
  rw [txt_rest 5123 _ _ rfl rfl]
  rfl
theorem frm_14 (t : List UInt8) : frmN (14 :: t) = (if gk t ≤ t.length then (if gk (gR t) ≤ (gR t).length then (match lngN (gR (gR t)) with | some (d, q) => some ({ frZ with kind := 8, fin := false, id := (gN t : Nat), off := (gN (gR t) : Nat), data := d }, [], q) | none => none) else none) else none) := by
  rw [frm_plain 14 t rfl rfl, show toldP (UInt8.toNat 14) = 131 from rfl, show toldK (UInt8.toNat 14) = 8 from rfl, nums_7]
  rw [stepN_do (show Nat.testBit 131 0 = true from rfl)]
  by_cases h0 : gk t ≤ t.length
  case neg =>
    rw [if_neg h0, if_neg h0]
    try rfl
  rw [if_pos h0, if_pos h0]
  rw [stepN_do (show Nat.testBit 131 1 = true from rfl)]
  by_cases h1 : gk (gR t) ≤ (gR t).length
  case neg =>
    rw [if_neg h1, if_neg h1]
    try rfl
  rw [if_pos h1, if_pos h1]
  rw [stepN_skip (show Nat.testBit 131 2 = false from rfl)]
  rw [stepN_skip (show Nat.testBit 131 3 = false from rfl)]
  rw [stepN_skip (show Nat.testBit 131 4 = false from rfl)]
  rw [stepN_skip (show Nat.testBit 131 5 = false from rfl)]
  rw [stepN_skip (show Nat.testBit 131 6 = false from rfl)]
  simp only
  rw [txt_data 131 _ _ rfl]
  cases lngN (gR (gR t)) with
  | none => rfl
  | some x => rfl
theorem frm_15 (t : List UInt8) : frmN (15 :: t) = (if gk t ≤ t.length then (if gk (gR t) ≤ (gR t).length then (match lngN (gR (gR t)) with | some (d, q) => some ({ frZ with kind := 8, fin := true, id := (gN t : Nat), off := (gN (gR t) : Nat), data := d }, [], q) | none => none) else none) else none) := by
  rw [frm_plain 15 t rfl rfl, show toldP (UInt8.toNat 15) = 1155 from rfl, show toldK (UInt8.toNat 15) = 8 from rfl, nums_7]
  rw [stepN_do (show Nat.testBit 1155 0 = true from rfl)]
  by_cases h0 : gk t ≤ t.length
  case neg =>
    rw [if_neg h0, if_neg h0]
    try rfl
  rw [if_pos h0, if_pos h0]
  rw [stepN_do (show Nat.testBit 1155 1 = true from rfl)]
  by_cases h1 : gk (gR t) ≤ (gR t).length
  case neg =>
    rw [if_neg h1, if_neg h1]
    try rfl
  rw [if_pos h1, if_pos h1]
  rw [stepN_skip (show Nat.testBit 1155 2 = false from rfl)]
  rw [stepN_skip (show Nat.testBit 1155 3 = false from rfl)]
  rw [stepN_skip (show Nat.testBit 1155 4 = false from rfl)]
  rw [stepN_skip (show Nat.testBit 1155 5 = false from rfl)]
  rw [stepN_skip (show Nat.testBit 1155 6 = false from rfl)]
  simp only
  rw [txt_data 1155 _ _ rfl]
  cases lngN (gR (gR t)) with
  | none => rfl
  | some x => rfl
theorem frm_16 (t : List UInt8) : frmN (16 :: t) = (if gk t ≤ t.length then some ({ frZ with kind := 16, max := (gN t : Nat) }, [], (gR t)) else none) := by
  rw [frm_plain 16 t rfl rfl, show toldP (UInt8.toNat 16) = 8 from rfl, show toldK (UInt8.toNat 16) = 16 from rfl, nums_7]
  rw [stepN_skip (show Nat.testBit 8 0 = false from rfl)]
  rw [stepN_skip (show Nat.testBit 8 1 = false from rfl)]
  rw [stepN_skip (show Nat.testBit 8 2 = false from rfl)]
  rw [stepN_do (show Nat.testBit 8 3 = true from rfl)]
  by_cases h3 : gk t ≤ t.length
  case neg =>
    rw [if_neg h3, if_neg h3]
    try rfl
  rw [if_pos h3, if_pos h3]
  rw [stepN_skip (show Nat.testBit 8 4 = false from rfl)]
  rw [stepN_skip (show Nat.testBit 8 5 = false from rfl)]
  rw [stepN_skip (show Nat.testBit 8 6 = false from rfl)]
  simp only
  rw [txt_none 8 _ _ rfl rfl rfl rfl]
  rfl
theorem frm_17 (t : List UInt8) : frmN (17 :: t) = (if gk t ≤ t.length then (if gk (gR t) ≤ (gR t).length then some ({ frZ with kind := 17, id := (gN t : Nat), max := (gN (gR t) : Nat) }, [], (gR (gR t))) else none) else none) := by
  rw [frm_plain 17 t rfl rfl, show toldP (UInt8.toNat 17) = 9 from rfl, show toldK (UInt8.toNat 17) = 17 from rfl, nums_7]
  rw [stepN_do (show Nat.testBit 9 0 = true from rfl)]
  by_cases h0 : gk t ≤ t.length
  case neg =>
    rw [if_neg h0, if_neg h0]
    try rfl
  rw [if_pos h0, if_pos h0]
  rw [stepN_skip (show Nat.testBit 9 1 = false from rfl)]
  rw [stepN_skip (show Nat.testBit 9 2 = false from rfl)]
  rw [stepN_do (show Nat.testBit 9 3 = true from rfl)]
  by_cases h3 : gk (gR t) ≤ (gR t).length
  case neg =>
    rw [if_neg h3, if_neg h3]
    try rfl
  rw [if_pos h3, if_pos h3]
  rw [stepN_skip (show Nat.testBit 9 4 = false from rfl)]
  rw [stepN_skip (show Nat.testBit 9 5 = false from rfl)]
  rw [stepN_skip (show Nat.testBit 9 6 = false from rfl)]
  simp only
  rw [txt_none 9 _ _ rfl rfl rfl rfl]
  rfl
theorem frm_18 (t : List UInt8) : frmN (18 :: t) = (if gk t ≤ t.length then some ({ frZ with kind := 18, max := (gN t : Nat) }, [], (gR t)) else none) := by
  rw [frm_plain 18 t rfl rfl, show toldP (UInt8.toNat 18) = 8 from rfl, show toldK (UInt8.toNat 18) = 18 from rfl, nums_7]
  rw [stepN_skip (show Nat.testBit 8 0 = false from rfl)]
  rw [stepN_skip (show Nat.testBit 8 1 = false from rfl)]
  rw [stepN_skip (show Nat.testBit 8 2 = false from rfl)]
  rw [stepN_do (show Nat.testBit 8 3 = true from rfl)]
  by_cases h3 : gk t ≤ t.length
  case neg =>
    rw [if_neg h3, if_neg h3]
    try rfl
  rw [if_pos h3, if_pos h3]
  rw [stepN_skip (show Nat.testBit 8 4 = false from rfl)]
  rw [stepN_skip (show Nat.testBit 8 5 = false from rfl)]
  rw [stepN_skip (show Nat.testBit 8 6 = false from rfl)]
  simp only
  rw [txt_none 8 _ _ rfl rfl rfl rfl]
  rfl
theorem frm_19 (t : List UInt8) : frmN (19 :: t) = (if gk t ≤ t.length then some ({ frZ with kind := 19, max := (gN t : Nat) }, [], (gR t)) else none) := by
  rw [frm_plain 19 t rfl rfl, show toldP (UInt8.toNat 19) = 8 from rfl, show toldK (UInt8.toNat 19) = 19 from rfl, nums_7]
  rw [stepN_skip (show Nat.testBit 8 0 = false from rfl)]
  rw [stepN_skip (show Nat.testBit 8 1 = false from rfl)]
  rw [stepN_skip (show Nat.testBit 8 2 = false from rfl)]
  rw [stepN_do (show Nat.testBit 8 3 = true from rfl)]
  by_cases h3 : gk t ≤ t.length
  case neg =>
    rw [if_neg h3, if_neg h3]
    try rfl
  rw [if_pos h3, if_pos h3]
  rw [stepN_skip (show Nat.testBit 8 4 = false from rfl)]
  rw [stepN_skip (show Nat.testBit 8 5 = false from rfl)]
  rw [stepN_skip (show Nat.testBit 8 6 = false from rfl)]
  simp only
  rw [txt_none 8 _ _ rfl rfl rfl rfl]
  rfl
theorem frm_20 (t : List UInt8) : frmN (20 :: t) = (if gk t ≤ t.length then some ({ frZ with kind := 20, max := (gN t : Nat) }, [], (gR t)) else none) := by
  rw [frm_plain 20 t rfl rfl, show toldP (UInt8.toNat 20) = 8 from rfl, show toldK (UInt8.toNat 20) = 20 from rfl, nums_7]
  rw [stepN_skip (show Nat.testBit 8 0 = false from rfl)]
  rw [stepN_skip (show Nat.testBit 8 1 = false from rfl)]
  rw [stepN_skip (show Nat.testBit 8 2 = false from rfl)]
  rw [stepN_do (show Nat.testBit 8 3 = true from rfl)]
  by_cases h3 : gk t ≤ t.length
  case neg =>
    rw [if_neg h3, if_neg h3]
    try rfl
  rw [if_pos h3, if_pos h3]
  rw [stepN_skip (show Nat.testBit 8 4 = false from rfl)]
  rw [stepN_skip (show Nat.testBit 8 5 = false from rfl)]
  rw [stepN_skip (show Nat.testBit 8 6 = false from rfl)]
  simp only
  rw [txt_none 8 _ _ rfl rfl rfl rfl]
  rfl
theorem frm_21 (t : List UInt8) : frmN (21 :: t) = (if gk t ≤ t.length then (if gk (gR t) ≤ (gR t).length then some ({ frZ with kind := 21, id := (gN t : Nat), max := (gN (gR t) : Nat) }, [], (gR (gR t))) else none) else none) := by
  rw [frm_plain 21 t rfl rfl, show toldP (UInt8.toNat 21) = 9 from rfl, show toldK (UInt8.toNat 21) = 21 from rfl, nums_7]
  rw [stepN_do (show Nat.testBit 9 0 = true from rfl)]
  by_cases h0 : gk t ≤ t.length
  case neg =>
    rw [if_neg h0, if_neg h0]
    try rfl
  rw [if_pos h0, if_pos h0]
  rw [stepN_skip (show Nat.testBit 9 1 = false from rfl)]
  rw [stepN_skip (show Nat.testBit 9 2 = false from rfl)]
  rw [stepN_do (show Nat.testBit 9 3 = true from rfl)]
  by_cases h3 : gk (gR t) ≤ (gR t).length
  case neg =>
    rw [if_neg h3, if_neg h3]
    try rfl
  rw [if_pos h3, if_pos h3]
  rw [stepN_skip (show Nat.testBit 9 4 = false from rfl)]
  rw [stepN_skip (show Nat.testBit 9 5 = false from rfl)]
  rw [stepN_skip (show Nat.testBit 9 6 = false from rfl)]
  simp only
  rw [txt_none 9 _ _ rfl rfl rfl rfl]
  rfl
theorem frm_22 (t : List UInt8) : frmN (22 :: t) = (if gk t ≤ t.length then some ({ frZ with kind := 22, max := (gN t : Nat) }, [], (gR t)) else none) := by
  rw [frm_plain 22 t rfl rfl, show toldP (UInt8.toNat 22) = 8 from rfl, show toldK (UInt8.toNat 22) = 22 from rfl, nums_7]
  rw [stepN_skip (show Nat.testBit 8 0 = false from rfl)]
  rw [stepN_skip (show Nat.testBit 8 1 = false from rfl)]
  rw [stepN_skip (show Nat.testBit 8 2 = false from rfl)]
  rw [stepN_do (show Nat.testBit 8 3 = true from rfl)]
  by_cases h3 : gk t ≤ t.length
  case neg =>
    rw [if_neg h3, if_neg h3]
    try rfl
  rw [if_pos h3, if_pos h3]
  rw [stepN_skip (show Nat.testBit 8 4 = false from rfl)]
  rw [stepN_skip (show Nat.testBit 8 5 = false from rfl)]
  rw [stepN_skip (show Nat.testBit 8 6 = false from rfl)]
  simp only
  rw [txt_none 8 _ _ rfl rfl rfl rfl]
  rfl
theorem frm_23 (t : List UInt8) : frmN (23 :: t) = (if gk t ≤ t.length then some ({ frZ with kind := 23, max := (gN t : Nat) }, [], (gR t)) else none) := by
  rw [frm_plain 23 t rfl rfl, show toldP (UInt8.toNat 23) = 8 from rfl, show toldK (UInt8.toNat 23) = 23 from rfl, nums_7]
  rw [stepN_skip (show Nat.testBit 8 0 = false from rfl)]
  rw [stepN_skip (show Nat.testBit 8 1 = false from rfl)]
  rw [stepN_skip (show Nat.testBit 8 2 = false from rfl)]
  rw [stepN_do (show Nat.testBit 8 3 = true from rfl)]
  by_cases h3 : gk t ≤ t.length
  case neg =>
    rw [if_neg h3, if_neg h3]
    try rfl
  rw [if_pos h3, if_pos h3]
  rw [stepN_skip (show Nat.testBit 8 4 = false from rfl)]
  rw [stepN_skip (show Nat.testBit 8 5 = false from rfl)]
  rw [stepN_skip (show Nat.testBit 8 6 = false from rfl)]
  simp only
  rw [txt_none 8 _ _ rfl rfl rfl rfl]
  rfl
theorem frm_25 (t : List UInt8) : frmN (25 :: t) = (if gk t ≤ t.length then some ({ frZ with kind := 25, seq := (gN t : Nat) }, [], (gR t)) else none) := by
  rw [frm_plain 25 t rfl rfl, show toldP (UInt8.toNat 25) = 16 from rfl, show toldK (UInt8.toNat 25) = 25 from rfl, nums_7]
  rw [stepN_skip (show Nat.testBit 16 0 = false from rfl)]
  rw [stepN_skip (show Nat.testBit 16 1 = false from rfl)]
  rw [stepN_skip (show Nat.testBit 16 2 = false from rfl)]
  rw [stepN_skip (show Nat.testBit 16 3 = false from rfl)]
  rw [stepN_do (show Nat.testBit 16 4 = true from rfl)]
  by_cases h4 : gk t ≤ t.length
  case neg =>
    rw [if_neg h4, if_neg h4]
    try rfl
  rw [if_pos h4, if_pos h4]
  rw [stepN_skip (show Nat.testBit 16 5 = false from rfl)]
  rw [stepN_skip (show Nat.testBit 16 6 = false from rfl)]
  simp only
  rw [txt_none 16 _ _ rfl rfl rfl rfl]
  rfl
theorem frm_26 (t : List UInt8) : frmN (26 :: t) = (if 8 ≤ t.length then some ({ frZ with kind := 26, token := t.take 8 }, [], t.drop 8) else none) := by
  rw [frm_plain 26 t rfl rfl, show toldP (UInt8.toNat 26) = 512 from rfl, show toldK (UInt8.toNat 26) = 26 from rfl, nums_7]
  rw [stepN_skip (show Nat.testBit 512 0 = false from rfl)]
  rw [stepN_skip (show Nat.testBit 512 1 = false from rfl)]
  rw [stepN_skip (show Nat.testBit 512 2 = false from rfl)]
  rw [stepN_skip (show Nat.testBit 512 3 = false from rfl)]
  rw [stepN_skip (show Nat.testBit 512 4 = false from rfl)]
  rw [stepN_skip (show Nat.testBit 512 5 = false from rfl)]
  rw [stepN_skip (show Nat.testBit 512 6 = false from rfl)]
  simp only
  rw [txt_token 512 _ _ rfl rfl rfl rfl]
  by_cases h8 : 8 ≤ t.length
  · rw [if_pos h8, if_pos h8]
    try rfl
  · rw [if_neg h8, if_neg h8]
theorem frm_27 (t : List UInt8) : frmN (27 :: t) = (if 8 ≤ t.length then some ({ frZ with kind := 27, token := t.take 8 }, [], t.drop 8) else none) := by
  rw [frm_plain 27 t rfl rfl, show toldP (UInt8.toNat 27) = 512 from rfl, show toldK (UInt8.toNat 27) = 27 from rfl, nums_7]
  rw [stepN_skip (show Nat.testBit 512 0 = false from rfl)]
  rw [stepN_skip (show Nat.testBit 512 1 = false from rfl)]
  rw [stepN_skip (show Nat.testBit 512 2 = false from rfl)]
  rw [stepN_skip (show Nat.testBit 512 3 = false from rfl)]
  rw [stepN_skip (show Nat.testBit 512 4 = false from rfl)]
  rw [stepN_skip (show Nat.testBit 512 5 = false from rfl)]
  rw [stepN_skip (show Nat.testBit 512 6 = false from rfl)]
  simp only
  rw [txt_token 512 _ _ rfl rfl rfl rfl]
  by_cases h8 : 8 ≤ t.length
  · rw [if_pos h8, if_pos h8]
    try rfl
  · rw [if_neg h8, if_neg h8]
theorem frm_28 (t : List UInt8) : frmN (28 :: t) = (if gk t ≤ t.length then (if gk (gR t) ≤ (gR t).length then (match lngN (gR (gR t)) with | some (d, q) => some ({ frZ with kind := 28, code := (gN t : Nat), delay := (gN (gR t) : Nat), data := d }, [], q) | none => none) else none) else none) := by
  rw [frm_plain 28 t rfl rfl, show toldP (UInt8.toNat 28) = 196 from rfl, show toldK (UInt8.toNat 28) = 28 from rfl, nums_7]
  rw [stepN_skip (show Nat.testBit 196 0 = false from rfl)]
  rw [stepN_skip (show Nat.testBit 196 1 = false from rfl)]
  rw [stepN_do (show Nat.testBit 196 2 = true from rfl)]
  by_cases h2 : gk t ≤ t.length
  case neg =>
    rw [if_neg h2, if_neg h2]
    try rfl
  rw [if_pos h2, if_pos h2]
  rw [stepN_skip (show Nat.testBit 196 3 = false from rfl)]
  rw [stepN_skip (show Nat.testBit 196 4 = false from rfl)]
  rw [stepN_skip (show Nat.testBit 196 5 = false from rfl)]
  rw [stepN_do (show Nat.testBit 196 6 = true from rfl)]
  by_cases h6 : gk (gR t) ≤ (gR t).length
  case neg =>
    rw [if_neg h6, if_neg h6]
    try rfl
  rw [if_pos h6, if_pos h6]
  simp only
  rw [txt_data 196 _ _ rfl]
  cases lngN (gR (gR t)) with
  | none => rfl
  | some x => rfl
theorem frm_29 (t : List UInt8) : frmN (29 :: t) = (if gk t ≤ t.length then (match lngN (gR t) with | some (d, q) => some ({ frZ with kind := 29, code := (gN t : Nat), data := d }, [], q) | none => none) else none) := by
  rw [frm_plain 29 t rfl rfl, show toldP (UInt8.toNat 29) = 132 from rfl, show toldK (UInt8.toNat 29) = 29 from rfl, nums_7]
  rw [stepN_skip (show Nat.testBit 132 0 = false from rfl)]
  rw [stepN_skip (show Nat.testBit 132 1 = false from rfl)]
  rw [stepN_do (show Nat.testBit 132 2 = true from rfl)]
  by_cases h2 : gk t ≤ t.length
  case neg =>
    rw [if_neg h2, if_neg h2]
    try rfl
  rw [if_pos h2, if_pos h2]
  rw [stepN_skip (show Nat.testBit 132 3 = false from rfl)]
  rw [stepN_skip (show Nat.testBit 132 4 = false from rfl)]
  rw [stepN_skip (show Nat.testBit 132 5 = false from rfl)]
  rw [stepN_skip (show Nat.testBit 132 6 = false from rfl)]
  simp only
  rw [txt_data 132 _ _ rfl]
  cases lngN (gR t) with
  | none => rfl
  | some x => rfl
theorem frm_30 (t : List UInt8) : frmN (30 :: t) = some ({ frZ with kind := 30 }, [], t) := by
  rw [frm_plain 30 t rfl rfl, show toldP (UInt8.toNat 30) = 0 from rfl, show toldK (UInt8.toNat 30) = 30 from rfl, nums_7]
  rw [stepN_skip (show Nat.testBit 0 0 = false from rfl)]
  rw [stepN_skip (show Nat.testBit 0 1 = false from rfl)]
  rw [stepN_skip (show Nat.testBit 0 2 = false from rfl)]
  rw [stepN_skip (show Nat.testBit 0 3 = false from rfl)]
  rw [stepN_skip (show Nat.testBit 0 4 = false from rfl)]
  rw [stepN_skip (show Nat.testBit 0 5 = false from rfl)]
  rw [stepN_skip (show Nat.testBit 0 6 = false from rfl)]
  simp only
  rw [txt_none 0 _ _ rfl rfl rfl rfl]
  rfl
end
section
/-- Of a frame that was read: the same, if it may be. -/
def mayO (o : Option (Frm × List (Nat × Nat) × List UInt8)) : Option (Frm × List (Nat × Nat) × List UInt8) :=
  match o with
  | none => none
  | some (f, rs, r) => if mayF f.kind.toNat f (ints rs) = true then some (f, rs, r) else none
theorem getN_mayO (l : List UInt8) : getN l = mayO (frmN l) := rfl
/-- Whether a NewId's texts stand there. -/
def nidC (r : List UInt8) : Bool := decide (25 ≤ r.length) && (r.getD 0 0 == 8)
theorem may_cid8 (f : Frm) (l : List Ran) (hk : f.kind = 24) (h : f.cid.length ≠ 8) : mayF 24 f l = false := by
  cases hm : mayF 24 f l with
  | false => rfl
  | true =>
    obtain ⟨_, _, _, h4⟩ := mayF_k hm
    unfold kndB at h4
    rw [hk] at h4
    have h5 : (decide (f.prior ≤ f.seq) && decide (f.cid.length = 8) && decide (f.token.length = 16)) = true := h4
    rw [Bool.and_eq_true, Bool.and_eq_true] at h5
    exact (h (of_decide_eq_true h5.1.2)).elim
theorem frm_24 (t : List UInt8) : frmN (24 :: t) = (if gk t ≤ t.length then (if gk (gR t) ≤ (gR t).length then (match textsN 816 (gR (gR t)) { frZ with kind := 24, seq := (gN t : Nat), prior := (gN (gR t) : Nat) } with | none => none | some (r, f) => some (f, [], r)) else none) else none) := by
  rw [frm_plain 24 t rfl rfl, show toldP (UInt8.toNat 24) = 816 from rfl, show toldK (UInt8.toNat 24) = 24 from rfl, nums_7]
  rw [stepN_skip (show Nat.testBit 816 0 = false from rfl), stepN_skip (show Nat.testBit 816 1 = false from rfl), stepN_skip (show Nat.testBit 816 2 = false from rfl), stepN_skip (show Nat.testBit 816 3 = false from rfl)]
  rw [stepN_do (show Nat.testBit 816 4 = true from rfl)]
  by_cases h0 : gk t ≤ t.length
  case neg =>
    rw [if_neg h0, if_neg h0]
    rfl
  rw [if_pos h0, if_pos h0, stepN_do (show Nat.testBit 816 5 = true from rfl)]
  by_cases h1 : gk (gR t) ≤ (gR t).length
  case neg =>
    rw [if_neg h1, if_neg h1]
    rfl
  rw [if_pos h1, if_pos h1, stepN_skip (show Nat.testBit 816 6 = false from rfl)]
  rfl
theorem get_24 (t : List UInt8) : getN (24 :: t) = mayO (match gst t 2 with | some (acc, r) => (if nidC r = true then some ({ frZ with kind := 24, seq := ((acc.getD 0 0 : Nat) : Int), prior := ((acc.getD 1 0 : Nat) : Int), cid := (r.drop 1).take 8, token := (r.drop 9).take 16 }, [], r.drop 25) else none) | none => none) := by
  rw [getN_mayO, frm_24, gst_2]
  by_cases h0 : gk t ≤ t.length
  case neg => rw [if_neg h0, if_neg h0]
  rw [if_pos h0, if_pos h0]
  by_cases h1 : gk (gR t) ≤ (gR t).length
  case neg => rw [if_neg h1, if_neg h1]
  rw [if_pos h1, if_pos h1]
  simp only
  generalize gR (gR t) = r
  generalize (gN t : Nat) = a
  generalize (gN (gR t) : Nat) = b
  match r with
  | [] => rfl
  | c :: q =>
    have ht : textsN 816 (c :: q) { frZ with kind := 24, seq := (a : Int), prior := (b : Int) } = if c.toNat ≤ q.length ∧ 16 ≤ (q.drop c.toNat).length then some ((q.drop c.toNat).drop 16, { frZ with kind := 24, seq := (a : Int), prior := (b : Int), cid := q.take c.toNat, token := (q.drop c.toNat).take 16 }) else none := rfl
    rw [ht]
    by_cases hc : c = 8
    · subst hc
      have e8 : (8 : UInt8).toNat = 8 := rfl
      rw [e8]
      by_cases hl : 25 ≤ (8 :: q).length
      · have hn : nidC (8 :: q) = true := by unfold nidC; rw [decide_eq_true hl]; rfl
        simp only [List.length_cons] at hl
        rw [if_pos ⟨by omega, by rw [List.length_drop]; omega⟩, if_pos hn]
        simp [List.drop_drop]
      · have hn : nidC (8 :: q) = false := by unfold nidC; rw [decide_eq_false hl]; rfl
        simp only [List.length_cons] at hl
        rw [if_neg (fun h => by have := h.2; rw [List.length_drop] at this; omega), if_neg (by rw [hn]; decide)]
    · have hn : nidC (c :: q) = false := by
        unfold nidC
        have : ((c :: q).getD 0 0 == 8) = false := beq_eq_false_iff_ne.2 hc
        rw [this, Bool.and_false]
      rw [if_neg (show ¬ nidC (c :: q) = true by rw [hn]; decide)]
      by_cases hl : c.toNat ≤ q.length ∧ 16 ≤ (q.drop c.toNat).length
      · rw [if_pos hl]
        unfold mayO
        simp only
        have hm := may_cid8 { frZ with kind := 24, seq := (a : Int), prior := (b : Int), cid := q.take c.toNat, token := (q.drop c.toNat).take 16 } (ints []) rfl (by
          show (q.take c.toNat).length ≠ 8
          rw [List.length_take, Nat.min_eq_left hl.1]
          exact fun h => hc (UInt8.toNat_inj.1 h))
        rw [if_neg (by
          show ¬ mayF 24 _ _ = true
          rw [hm]; decide)]
      · rw [if_neg hl]
end
section
/-- What the document's Get tells. -/
def GetD (o : Option (Frm × List (Nat × Nat) × List UInt8)) (w : World) (e : Ending) (w' : World) : Prop :=
  Below w.heap.size w w' ∧ match o with
  | none => e = .returned (.tuple #[.agg #[.int .u64 frZ.kind, .int .u64 frZ.id, .int .u64 frZ.off, .int .u64 frZ.max, .int .u64 frZ.code, .int .u64 frZ.seq, .int .u64 frZ.prior, .int .u64 frZ.delay, .bool frZ.fin, .string ⟨frZ.data.toArray⟩, .string ⟨frZ.cid.toArray⟩, .string ⟨frZ.token.toArray⟩, .slice frZ.set.a frZ.set.n frZ.set.c], .string ⟨#[]⟩, .int .i64 60])
  | some (f, rs, r) => ∃ sl : Sl, sl.n = rs.length ∧ Rd w' (.slice sl.a sl.n sl.c) (ints rs) ∧ (∀ x, sl.a = some x → w.heap.size ≤ x.block) ∧ e = .returned (.tuple #[.agg #[.int .u64 f.kind, .int .u64 f.id, .int .u64 f.off, .int .u64 f.max, .int .u64 f.code, .int .u64 f.seq, .int .u64 f.prior, .int .u64 f.delay, .bool f.fin, .string ⟨f.data.toArray⟩, .string ⟨f.cid.toArray⟩, .string ⟨f.token.toArray⟩, .slice sl.a sl.n sl.c], .string ⟨r.toArray⟩, .int .i64 0])
theorem gd_start (w : World) : FrD w.heap.size frZ (w.alloc (.cells #[.int .u64 0, .int .u64 0, .int .u64 0, .int .u64 0, .int .u64 0, .int .u64 0, .int .u64 0, .int .u64 0, .bool false, .string ⟨#[]⟩, .string ⟨#[]⟩, .string ⟨#[]⟩, .slice none 0 0] 34)) ∧ Below w.heap.size w (w.alloc (.cells #[.int .u64 0, .int .u64 0, .int .u64 0, .int .u64 0, .int .u64 0, .int .u64 0, .int .u64 0, .int .u64 0, .bool false, .string ⟨#[]⟩, .string ⟨#[]⟩, .string ⟨#[]⟩, .slice none 0 0] 34)) := ⟨World.alloc_heap_new w _, (Below.refl _ _).alloc (Nat.le_refl _) _⟩
theorem gd_go {w W W' : World} (h : FrD w.heap.size frZ W ∧ Below w.heap.size w W) (hb : Below W.heap.size W W') : FrD w.heap.size frZ W' ∧ Below w.heap.size w W' := ⟨h.1.stay hb, h.2.trans (hb.mono h.2.size)⟩
set_option maxHeartbeats 8000000 in
theorem rGet_short (l : List UInt8) (w : World) (hl : l.length ≤ 4000) (hg : ¬ gk l ≤ l.length) : Calls Tryd.prog 7 #[.string ⟨l.toArray⟩] w (GetD none w) := by
  have CN := Lib.hid (fun w => rnumber l w (by omega))
  rw [decide_eq_false hg] at CN
  generalize gN l = n at *
  generalize gR l = r at *
  have HQ0 := Lib.hid (gd_start w)
  clear hl hg
  go_enter Tryd.func7, Tryd.ntmps7
  go_wp2_with fail
  refine (CN.out _).mono ?_
  rintro e w1 ⟨rfl, hb⟩
  have HQ := Lib.hid (gd_go HQ0.out hb)
  clear hb
  obtain ⟨d0, d1, d2, d3, d4, d5, d6, d7, d8, d9, d10, d11, d12⟩ := HQ.out.1.ats
  have df := HQ.out.1.fz
  go_wp2
  have HE : Hid (FrD w.heap.size frZ (rstF w.heap.size frZ w1) ∧ Below w.heap.size w (rstF w.heap.size frZ w1)) := Lib.hid ⟨rstF_frd HQ.out.1 frZ, HQ.out.2.trans ((rstF_only w.heap.size frZ w1).below HQ.out.2.size (fun k hk => by omega))⟩
  refine bodyPost_ret (v := .tuple #[.agg #[.int .u64 frZ.kind, .int .u64 frZ.id, .int .u64 frZ.off, .int .u64 frZ.max, .int .u64 frZ.code, .int .u64 frZ.seq, .int .u64 frZ.prior, .int .u64 frZ.delay, .bool frZ.fin, .string ⟨frZ.data.toArray⟩, .string ⟨frZ.cid.toArray⟩, .string ⟨frZ.token.toArray⟩, .slice frZ.set.a frZ.set.n frZ.set.c], .string ⟨([] : List UInt8).toArray⟩, .int .i64 60]) (by
    change Sem.run Tryd.prog (results _ _) (rstF w.heap.size frZ w1) = Result.ok _ (rstF w.heap.size frZ w1)
    obtain ⟨y0, y1, y2, y3, y4, y5, y6, y7, y8, y9, y10, y11, y12⟩ := HE.out.1.ats
    generalize (rstF w.heap.size frZ w1) = X at y0 y1 y2 y3 y4 y5 y6 y7 y8 y9 y10 y11 y12 ⊢
    simp [results, Tryd.results7, go_sem, y0, y1, y2, y3, y4, y5, y6, y7, y8, y9, y10, y11, y12]) rfl ?_
  exact ⟨HE.out.2, rfl⟩
set_option maxHeartbeats 8000000 in
theorem rGet_wide (l : List UInt8) (w : World) (hl : l.length ≤ 4000) (hg : gk l ≤ l.length) (hs : sz (gN l) ≠ gk l) : Calls Tryd.prog 7 #[.string ⟨l.toArray⟩] w (GetD none w) := by
  have CN := Lib.hid (fun w => rnumber l w (by omega))
  rw [decide_eq_true hg] at CN
  have hgr : (gR l).length = l.length - gk l := by rw [(g_ok hg).2.1, List.length_drop]
  have CS := Lib.hid (fun w => rsize (gN l : Nat) w (by omega))
  rw [Int.toNat_natCast] at CS
  have hd : ((l.length : Int) - ((gR l).length : Int) != (sz (gN l) : Int)) = true := by rw [bne_iff_ne]; omega
  have hsz : (⟨l.toArray⟩ : ByteArray).size = l.length := rfl
  have hsr : (⟨(gR l).toArray⟩ : ByteArray).size = (gR l).length := rfl
  have hr0 : (gR l).length ≤ l.length := by omega
  have hw : IntKind.i64.wrap ((l.length : Int) - ((gR l).length : Int)) = (l.length : Int) - ((gR l).length : Int) := by rw [IntKind.wrap_i64]; omega
  generalize sz (gN l) = z at *
  generalize gN l = n at *
  generalize gR l = r at *
  have HQ0 := Lib.hid (gd_start w)
  clear hg hs hgr
  go_enter Tryd.func7, Tryd.ntmps7
  go_wp2_with fail
  refine (CN.out _).mono ?_
  rintro e w1 ⟨rfl, hb⟩
  have HQ := Lib.hid (gd_go HQ0.out hb)
  clear hb
  go_wp2_with fail
  refine (CS.out _).mono ?_
  rintro e w2 ⟨rfl, rfl⟩
  obtain ⟨d0, d1, d2, d3, d4, d5, d6, d7, d8, d9, d10, d11, d12⟩ := HQ.out.1.ats
  have df := HQ.out.1.fz
  go_wp2
  have HE : Hid (FrD w.heap.size frZ (rstF w.heap.size frZ w1) ∧ Below w.heap.size w (rstF w.heap.size frZ w1)) := Lib.hid ⟨rstF_frd HQ.out.1 frZ, HQ.out.2.trans ((rstF_only w.heap.size frZ w1).below HQ.out.2.size (fun k hk => by omega))⟩
  refine bodyPost_ret (v := .tuple #[.agg #[.int .u64 frZ.kind, .int .u64 frZ.id, .int .u64 frZ.off, .int .u64 frZ.max, .int .u64 frZ.code, .int .u64 frZ.seq, .int .u64 frZ.prior, .int .u64 frZ.delay, .bool frZ.fin, .string ⟨frZ.data.toArray⟩, .string ⟨frZ.cid.toArray⟩, .string ⟨frZ.token.toArray⟩, .slice frZ.set.a frZ.set.n frZ.set.c], .string ⟨([] : List UInt8).toArray⟩, .int .i64 60]) (by
    change Sem.run Tryd.prog (results _ _) (rstF w.heap.size frZ w1) = Result.ok _ (rstF w.heap.size frZ w1)
    obtain ⟨y0, y1, y2, y3, y4, y5, y6, y7, y8, y9, y10, y11, y12⟩ := HE.out.1.ats
    generalize (rstF w.heap.size frZ w1) = X at y0 y1 y2 y3 y4 y5 y6 y7 y8 y9 y10 y11 y12 ⊢
    simp [results, Tryd.results7, go_sem, y0, y1, y2, y3, y4, y5, y6, y7, y8, y9, y10, y11, y12]) rfl ?_
  exact ⟨HE.out.2, rfl⟩
set_option maxHeartbeats 8000000 in
theorem rGet_none (l : List UInt8) (w : World) (hl : l.length ≤ 4000) (hg : gk l ≤ l.length) (hs : sz (gN l) = gk l) (CP : ∀ W, Calls Tryd.prog 22 #[.int .u64 (gN l : Nat), .string ⟨(gR l).toArray⟩] W (PtTo none W)) : Calls Tryd.prog 7 #[.string ⟨l.toArray⟩] w (GetD none w) := by
  have CN := Lib.hid (fun w => rnumber l w (by omega))
  rw [decide_eq_true hg] at CN
  have hgr : (gR l).length = l.length - gk l := by rw [(g_ok hg).2.1, List.length_drop]
  have CS := Lib.hid (fun w => rsize (gN l : Nat) w (by omega))
  rw [Int.toNat_natCast] at CS
  have hd : ((l.length : Int) - ((gR l).length : Int) != (sz (gN l) : Int)) = false := by rw [bne_eq_false_iff_eq]; omega
  have hsz : (⟨l.toArray⟩ : ByteArray).size = l.length := rfl
  have hsr : (⟨(gR l).toArray⟩ : ByteArray).size = (gR l).length := rfl
  have hr0 : (gR l).length ≤ l.length := by omega
  have hw : IntKind.i64.wrap ((l.length : Int) - ((gR l).length : Int)) = (l.length : Int) - ((gR l).length : Int) := by rw [IntKind.wrap_i64]; omega
  have CPH := Lib.hid CP
  clear CP
  generalize sz (gN l) = z at *
  generalize gN l = n at *
  generalize gR l = r at *
  have HQ0 := Lib.hid (gd_start w)
  clear hg hs hgr
  go_enter Tryd.func7, Tryd.ntmps7
  go_wp2_with fail
  refine (CN.out _).mono ?_
  rintro e w1 ⟨rfl, hb⟩
  have HQ1 := Lib.hid (gd_go HQ0.out hb)
  clear hb
  go_wp2_with fail
  refine (CS.out _).mono ?_
  rintro e w2 ⟨rfl, rfl⟩
  go_wp2_with fail
  refine (CPH.out _).mono ?_
  rintro e w3 ⟨hb, g, q, rfl⟩
  have HQ := Lib.hid (gd_go (gd_go HQ1.out hb) ((Below.refl _ _).alloc (Nat.le_refl _) (.cells #[.int .u64 g.kind, .int .u64 g.id, .int .u64 g.off, .int .u64 g.max, .int .u64 g.code, .int .u64 g.seq, .int .u64 g.prior, .int .u64 g.delay, .bool g.fin, .string ⟨g.data.toArray⟩, .string ⟨g.cid.toArray⟩, .string ⟨g.token.toArray⟩, .slice g.set.a g.set.n g.set.c] 34)))
  clear hb
  go_upto_region 5 with (fail)
  generalize w3.alloc (.cells #[.int .u64 g.kind, .int .u64 g.id, .int .u64 g.off, .int .u64 g.max, .int .u64 g.code, .int .u64 g.seq, .int .u64 g.prior, .int .u64 g.delay, .bool g.fin, .string ⟨g.data.toArray⟩, .string ⟨g.cid.toArray⟩, .string ⟨g.token.toArray⟩, .slice g.set.a g.set.n g.set.c] 34) = w4 at HQ ⊢
  obtain ⟨d0, d1, d2, d3, d4, d5, d6, d7, d8, d9, d10, d11, d12⟩ := HQ.out.1.ats
  have df := HQ.out.1.fz
  go_wp2
  have HE : Hid (FrD w.heap.size frZ (rstF w.heap.size frZ w4) ∧ Below w.heap.size w (rstF w.heap.size frZ w4)) := Lib.hid ⟨rstF_frd HQ.out.1 frZ, HQ.out.2.trans ((rstF_only w.heap.size frZ w4).below HQ.out.2.size (fun k hk => by omega))⟩
  refine bodyPost_ret (v := .tuple #[.agg #[.int .u64 frZ.kind, .int .u64 frZ.id, .int .u64 frZ.off, .int .u64 frZ.max, .int .u64 frZ.code, .int .u64 frZ.seq, .int .u64 frZ.prior, .int .u64 frZ.delay, .bool frZ.fin, .string ⟨frZ.data.toArray⟩, .string ⟨frZ.cid.toArray⟩, .string ⟨frZ.token.toArray⟩, .slice frZ.set.a frZ.set.n frZ.set.c], .string ⟨([] : List UInt8).toArray⟩, .int .i64 60]) (by
    change Sem.run Tryd.prog (results _ _) (rstF w.heap.size frZ w4) = Result.ok _ (rstF w.heap.size frZ w4)
    obtain ⟨y0, y1, y2, y3, y4, y5, y6, y7, y8, y9, y10, y11, y12⟩ := HE.out.1.ats
    generalize (rstF w.heap.size frZ w4) = X at y0 y1 y2 y3 y4 y5 y6 y7 y8 y9 y10 y11 y12 ⊢
    simp [results, Tryd.results7, go_sem, y0, y1, y2, y3, y4, y5, y6, y7, y8, y9, y10, y11, y12]) rfl ?_
  exact ⟨HE.out.2, rfl⟩
set_option maxHeartbeats 8000000 in
theorem rGet_not (l : List UInt8) (f : Frm) (rs : List (Nat × Nat)) (q : List UInt8) (w : World) (hl : l.length ≤ 4000) (hg : gk l ≤ l.length) (hs : sz (gN l) = gk l) (CP : ∀ W, Calls Tryd.prog 22 #[.int .u64 (gN l : Nat), .string ⟨(gR l).toArray⟩] W (PtTo (some (f, rs, q)) W))
    (CM : ∀ (sl : Sl) W, sl.n = rs.length → Rd W (.slice sl.a sl.n sl.c) (ints rs) → Calls Tryd.prog 23 #[.agg #[.int .u64 f.kind, .int .u64 f.id, .int .u64 f.off, .int .u64 f.max, .int .u64 f.code, .int .u64 f.seq, .int .u64 f.prior, .int .u64 f.delay, .bool f.fin, .string ⟨f.data.toArray⟩, .string ⟨f.cid.toArray⟩, .string ⟨f.token.toArray⟩, .slice sl.a sl.n sl.c]] W fun e w' => e = .returned (.bool false) ∧ Below W.heap.size W w') : Calls Tryd.prog 7 #[.string ⟨l.toArray⟩] w (GetD none w) := by
  have CMH := Lib.hid CM
  clear CM
  have CN := Lib.hid (fun w => rnumber l w (by omega))
  rw [decide_eq_true hg] at CN
  have hgr : (gR l).length = l.length - gk l := by rw [(g_ok hg).2.1, List.length_drop]
  have CS := Lib.hid (fun w => rsize (gN l : Nat) w (by omega))
  rw [Int.toNat_natCast] at CS
  have hd : ((l.length : Int) - ((gR l).length : Int) != (sz (gN l) : Int)) = false := by rw [bne_eq_false_iff_eq]; omega
  have hsz : (⟨l.toArray⟩ : ByteArray).size = l.length := rfl
  have hsr : (⟨(gR l).toArray⟩ : ByteArray).size = (gR l).length := rfl
  have hr0 : (gR l).length ≤ l.length := by omega
  have hw : IntKind.i64.wrap ((l.length : Int) - ((gR l).length : Int)) = (l.length : Int) - ((gR l).length : Int) := by rw [IntKind.wrap_i64]; omega
  have CPH := Lib.hid CP
  clear CP
  generalize sz (gN l) = z at *
  generalize gN l = n at *
  generalize gR l = r at *
  have HQ0 := Lib.hid (gd_start w)
  clear hg hs hgr
  go_enter Tryd.func7, Tryd.ntmps7
  go_wp2_with fail
  refine (CN.out _).mono ?_
  rintro e w1 ⟨rfl, hb⟩
  have HQ1 := Lib.hid (gd_go HQ0.out hb)
  clear hb
  go_wp2_with fail
  refine (CS.out _).mono ?_
  rintro e w2 ⟨rfl, rfl⟩
  go_wp2_with fail
  refine (CPH.out _).mono ?_
  rintro e w3 ⟨hb, sl, h1, h2, hnew, rfl⟩
  have HQ2 := Lib.hid (gd_go HQ1.out hb)
  have HB4 := Lib.hid ((Below.refl w3.heap.size w3).alloc (Nat.le_refl _) (.cells #[.int .u64 f.kind, .int .u64 f.id, .int .u64 f.off, .int .u64 f.max, .int .u64 f.code, .int .u64 f.seq, .int .u64 f.prior, .int .u64 f.delay, .bool f.fin, .string ⟨f.data.toArray⟩, .string ⟨f.cid.toArray⟩, .string ⟨f.token.toArray⟩, .slice sl.a sl.n sl.c] 34))
  have HQ3 := Lib.hid (gd_go HQ2.out HB4.out)
  have CM4 := Lib.hid (CMH.out sl _ h1 (h2.below HB4.out))
  clear hb h1 h2 hnew
  go_wp2_with fail
  refine CM4.out.mono ?_
  rintro e w4 ⟨rfl, hb⟩
  have HQ := Lib.hid (gd_go HQ3.out hb)
  clear hb
  obtain ⟨d0, d1, d2, d3, d4, d5, d6, d7, d8, d9, d10, d11, d12⟩ := HQ.out.1.ats
  have df := HQ.out.1.fz
  go_wp2
  have HE : Hid (FrD w.heap.size frZ (rstF w.heap.size frZ w4) ∧ Below w.heap.size w (rstF w.heap.size frZ w4)) := Lib.hid ⟨rstF_frd HQ.out.1 frZ, HQ.out.2.trans ((rstF_only w.heap.size frZ w4).below HQ.out.2.size (fun k hk => by omega))⟩
  refine bodyPost_ret (v := .tuple #[.agg #[.int .u64 frZ.kind, .int .u64 frZ.id, .int .u64 frZ.off, .int .u64 frZ.max, .int .u64 frZ.code, .int .u64 frZ.seq, .int .u64 frZ.prior, .int .u64 frZ.delay, .bool frZ.fin, .string ⟨frZ.data.toArray⟩, .string ⟨frZ.cid.toArray⟩, .string ⟨frZ.token.toArray⟩, .slice frZ.set.a frZ.set.n frZ.set.c], .string ⟨([] : List UInt8).toArray⟩, .int .i64 60]) (by
    change Sem.run Tryd.prog (results _ _) (rstF w.heap.size frZ w4) = Result.ok _ (rstF w.heap.size frZ w4)
    obtain ⟨y0, y1, y2, y3, y4, y5, y6, y7, y8, y9, y10, y11, y12⟩ := HE.out.1.ats
    generalize (rstF w.heap.size frZ w4) = X at y0 y1 y2 y3 y4 y5 y6 y7 y8 y9 y10 y11 y12 ⊢
    simp [results, Tryd.results7, go_sem, y0, y1, y2, y3, y4, y5, y6, y7, y8, y9, y10, y11, y12]) rfl ?_
  exact ⟨HE.out.2, rfl⟩
set_option maxHeartbeats 8000000 in
theorem rGet_yes (l : List UInt8) (f : Frm) (rs : List (Nat × Nat)) (q : List UInt8) (w : World) (hl : l.length ≤ 4000) (hg : gk l ≤ l.length) (hs : sz (gN l) = gk l) (CP : ∀ W, Calls Tryd.prog 22 #[.int .u64 (gN l : Nat), .string ⟨(gR l).toArray⟩] W (PtTo (some (f, rs, q)) W))
    (CM : ∀ (sl : Sl) W, sl.n = rs.length → Rd W (.slice sl.a sl.n sl.c) (ints rs) → Calls Tryd.prog 23 #[.agg #[.int .u64 f.kind, .int .u64 f.id, .int .u64 f.off, .int .u64 f.max, .int .u64 f.code, .int .u64 f.seq, .int .u64 f.prior, .int .u64 f.delay, .bool f.fin, .string ⟨f.data.toArray⟩, .string ⟨f.cid.toArray⟩, .string ⟨f.token.toArray⟩, .slice sl.a sl.n sl.c]] W fun e w' => e = .returned (.bool true) ∧ Below W.heap.size W w') : Calls Tryd.prog 7 #[.string ⟨l.toArray⟩] w (GetD (some (f, rs, q)) w) := by
  have CMH := Lib.hid CM
  clear CM
  have CN := Lib.hid (fun w => rnumber l w (by omega))
  rw [decide_eq_true hg] at CN
  have hgr : (gR l).length = l.length - gk l := by rw [(g_ok hg).2.1, List.length_drop]
  have CS := Lib.hid (fun w => rsize (gN l : Nat) w (by omega))
  rw [Int.toNat_natCast] at CS
  have hd : ((l.length : Int) - ((gR l).length : Int) != (sz (gN l) : Int)) = false := by rw [bne_eq_false_iff_eq]; omega
  have hsz : (⟨l.toArray⟩ : ByteArray).size = l.length := rfl
  have hsr : (⟨(gR l).toArray⟩ : ByteArray).size = (gR l).length := rfl
  have hr0 : (gR l).length ≤ l.length := by omega
  have hw : IntKind.i64.wrap ((l.length : Int) - ((gR l).length : Int)) = (l.length : Int) - ((gR l).length : Int) := by rw [IntKind.wrap_i64]; omega
  have CPH := Lib.hid CP
  clear CP
  generalize sz (gN l) = z at *
  generalize gN l = n at *
  generalize gR l = r at *
  have HQ0 := Lib.hid (gd_start w)
  clear hg hs hgr
  go_enter Tryd.func7, Tryd.ntmps7
  go_wp2_with fail
  refine (CN.out _).mono ?_
  rintro e w1 ⟨rfl, hb⟩
  have HQ1 := Lib.hid (gd_go HQ0.out hb)
  clear hb
  go_wp2_with fail
  refine (CS.out _).mono ?_
  rintro e w2 ⟨rfl, rfl⟩
  go_wp2_with fail
  refine (CPH.out _).mono ?_
  rintro e w3 ⟨hb, sl, h1, h2, hnew, rfl⟩
  have HQ2 := Lib.hid (gd_go HQ1.out hb)
  obtain ⟨F, hF⟩ : ∃ F : Frm, ({ f with set := sl } : Frm) = F := ⟨_, rfl⟩
  have hFS : F.set = sl := by rw [← hF]
  have HB4 := Lib.hid ((Below.refl w3.heap.size w3).alloc (Nat.le_refl _) (.cells #[.int .u64 f.kind, .int .u64 f.id, .int .u64 f.off, .int .u64 f.max, .int .u64 f.code, .int .u64 f.seq, .int .u64 f.prior, .int .u64 f.delay, .bool f.fin, .string ⟨f.data.toArray⟩, .string ⟨f.cid.toArray⟩, .string ⟨f.token.toArray⟩, .slice sl.a sl.n sl.c] 34))
  have HQ3 := Lib.hid (gd_go HQ2.out HB4.out)
  have HFB : Hid (FrD w3.heap.size F (w3.alloc (.cells #[.int .u64 f.kind, .int .u64 f.id, .int .u64 f.off, .int .u64 f.max, .int .u64 f.code, .int .u64 f.seq, .int .u64 f.prior, .int .u64 f.delay, .bool f.fin, .string ⟨f.data.toArray⟩, .string ⟨f.cid.toArray⟩, .string ⟨f.token.toArray⟩, .slice sl.a sl.n sl.c] 34))) := Lib.hid (by rw [← hF]; exact World.alloc_heap_new w3 _)
  have CM4 := Lib.hid (CMH.out sl _ h1 (h2.below HB4.out))
  have HRD := Lib.hid (h2.below HB4.out)
  have HLT : Hid (w.heap.size < w3.heap.size) := Lib.hid HQ2.out.1.lt
  have HN := Lib.hid h1
  have HFF := Lib.hid hF
  have HNW := Lib.hid hnew
  have HL1 : Hid (w.heap.size < w1.heap.size) := Lib.hid HQ1.out.1.lt
  clear hb h1 h2 hnew hF hFS
  go_wp2_with fail
  refine CM4.out.mono ?_
  rintro e w4 ⟨rfl, hb⟩
  have HQ := Lib.hid (gd_go HQ3.out hb)
  have HF4 := Lib.hid (HFB.out.stay hb)
  have HR4 := Lib.hid (HRD.out.below hb)
  clear hb
  obtain ⟨c0, c1, c2, c3, c4, c5, c6, c7, c8, c9, c10, c11, c12⟩ := HF4.out.ats
  obtain ⟨d0, d1, d2, d3, d4, d5, d6, d7, d8, d9, d10, d11, d12⟩ := HQ.out.1.ats
  have df := HQ.out.1.fz
  go_wp2
  have HE : Hid (FrD w.heap.size F (rstF w.heap.size F w4) ∧ Below w.heap.size w (rstF w.heap.size F w4)) := Lib.hid ⟨rstF_frd HQ.out.1 F, HQ.out.2.trans ((rstF_only w.heap.size F w4).below HQ.out.2.size (fun k hk => by omega))⟩
  refine bodyPost_ret (v := .tuple #[.agg #[.int .u64 F.kind, .int .u64 F.id, .int .u64 F.off, .int .u64 F.max, .int .u64 F.code, .int .u64 F.seq, .int .u64 F.prior, .int .u64 F.delay, .bool F.fin, .string ⟨F.data.toArray⟩, .string ⟨F.cid.toArray⟩, .string ⟨F.token.toArray⟩, .slice F.set.a F.set.n F.set.c], .string ⟨q.toArray⟩, .int .i64 0]) (by
    change Sem.run Tryd.prog (results _ _) (rstF w.heap.size F w4) = Result.ok _ (rstF w.heap.size F w4)
    obtain ⟨y0, y1, y2, y3, y4, y5, y6, y7, y8, y9, y10, y11, y12⟩ := HE.out.1.ats
    generalize (rstF w.heap.size F w4) = X at y0 y1 y2 y3 y4 y5 y6 y7 y8 y9 y10 y11 y12 ⊢
    simp [results, Tryd.results7, go_sem, y0, y1, y2, y3, y4, y5, y6, y7, y8, y9, y10, y11, y12]) rfl ?_
  have hr := HR4.out
  have hn := HN.out
  have hw := HNW.out
  have hl := HL1.out
  have he := HE.out.2
  have hF := HFF.out
  subst hF
  exact ⟨he, sl, hn, Rd.only hr hw hl (rstF_only w.heap.size _ w4), fun x hx => by have := hw x hx; omega, rfl⟩
end
end Go.Proofs.YtfeecfdbncjmnaaDoor.Fm
