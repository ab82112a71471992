/- Layer 6's mathematics: a frame that may be, put, is got back. Nothing of the program is walked here. By hand. -/
import Derived.Test.YtfeecfdbncjmnaaDoorFmL
import Derived.Test.YtfeecfdbncjmnaaDoorFmN
import Derived.Test.YtfeecfdbncjmnaaDoorFmW
import Derived.Test.YtfeecfdbncjmnaaDoorFmY
namespace Go.Proofs.YtfeecfdbncjmnaaDoor.Fm
set_option maxRecDepth 20000
open Go.RowKit Vm
set_option linter.unusedVariables false
set_option linter.unusedSimpArgs false

/-- A set's ranges, as the program's numbers. -/
def ints (rs : List (Nat × Nat)) : List Ran := rs.map fun p => ((p.1 : Int), (p.2 : Int))
theorem ints_len (rs : List (Nat × Nat)) : (ints rs).length = rs.length := by simp [ints]
theorem ints_get (rs : List (Nat × Nat)) (i : Nat) : (ints rs).getD i (0, 0) = (((rs.getD i (0, 0)).1 : Int), ((rs.getD i (0, 0)).2 : Int)) := by
  simp only [ints, List.getD_eq_getElem?_getD, List.getElem?_map]
  cases rs[i]? <;> rfl
/-- The parts of an Ack behind its first range: each below the one ahead, from the greatest to the least. -/
def ackQ : Nat → List (Nat × Nat) → List UInt8
  | _, [] => []
  | lo, p :: t => pt (lo - p.2 - 2) ++ (pt (p.2 - p.1) ++ ackQ p.1 t)
/-- The parts of an Ack; d: its ranges from the greatest to the least. -/
def ackP (delay : Nat) : List (Nat × Nat) → List UInt8
  | [] => []
  | p :: t => pt p.2 ++ (pt delay ++ (pt t.length ++ (pt (p.2 - p.1) ++ ackQ p.1 t)))
/-- A bit added to a number that is less. -/
theorem bit_add (P i j : Nat) (hP : P < 2 ^ i) : (P + 2 ^ i).testBit j = (P.testBit j || decide (j = i)) := by
  rw [Nat.add_comm]
  rcases Nat.lt_trichotomy j i with h | h | h
  · rw [Nat.testBit_two_pow_add_gt h, decide_eq_false (by omega), Bool.or_false]
  · subst h
    rw [Nat.testBit_two_pow_add_eq, Nat.testBit_lt_two_pow hP]
    simp
  · have h1 : 2 ^ (i + 1) ≤ 2 ^ j := Nat.pow_le_pow_right (by decide) h
    rw [Nat.pow_succ] at h1
    rw [Nat.testBit_lt_two_pow (by omega), Nat.testBit_lt_two_pow (by omega), decide_eq_false (by omega)]
    rfl
theorem fN_bit (f : Frm) (j : Nat) : ∀ i, (fN f i).testBit j = (decide (j < i) && decide (nm f j ≠ 0))
  | 0 => by simp [fN]
  | i + 1 => by
    have ih := fN_bit f j i
    have hlt := fN_lt f i
    rw [fN]
    by_cases h : nm f i = 0
    · rw [if_pos h, ih]
      by_cases hj : j = i
      · subst hj; simp [h]
      · have : decide (j < i + 1) = decide (j < i) := by simp; omega
        rw [this]
    · rw [if_neg h, bit_add _ _ _ hlt, ih]
      by_cases hj : j = i
      · subst hj; simp [h]
      · have : decide (j < i + 1) = decide (j < i) := by simp; omega
        rw [this, decide_eq_false hj, Bool.or_false]
theorem fT_num (f : Frm) (j : Nat) (hj : j < 7) : ∀ i, (fT f i).testBit j = decide (nm f j ≠ 0)
  | 0 => by rw [fT, fN_bit, decide_eq_true hj, Bool.true_and]
  | i + 1 => by
    rw [fT]
    split
    · exact fT_num f j hj i
    · rw [bit_add _ _ _ (fT_lt f i), fT_num f j hj i, decide_eq_false (show ¬ j = 7 + i by omega), Bool.or_false]
theorem fT_txt (f : Frm) (j : Nat) : ∀ i, i ≤ 3 → (fT f i).testBit (7 + j) = (decide (j < i) && decide (txF f j ≠ []))
  | 0, _ => by rw [fT, fN_bit, decide_eq_false (show ¬ 7 + j < 7 by omega), decide_eq_false (show ¬ j < 0 by omega)]; rfl
  | i + 1, hi => by
    have ih := fT_txt f j i (by omega)
    rw [fT]
    by_cases h : txF f i = []
    · rw [if_pos h, ih]
      by_cases hj : j = i
      · subst hj; simp [h]
      · have : decide (j < i + 1) = decide (j < i) := by simp; omega
        rw [this]
    · rw [if_neg h, bit_add _ _ _ (fT_lt f i), ih]
      by_cases hj : j = i
      · subst hj; simp [h]
      · have e : decide (j < i + 1) = decide (j < i) := by simp; omega
        have e2 : decide (7 + j = 7 + i) = false := decide_eq_false (by omega)
        rw [e, e2, Bool.or_false]
theorem fil_bit (f : Frm) (j : Nat) : (filN f).testBit j = ((fT f 3).testBit j || (decide (j = 10) && f.fin) || (decide (j = 11) && decide (0 < f.set.n))) := by
  have h3 : fT f 3 < 2 ^ 10 := fT_lt f 3
  have e1 : (fT f 3 + (if f.fin = true then 1024 else 0)).testBit j = ((fT f 3).testBit j || (decide (j = 10) && f.fin)) := by
    cases f.fin with
    | true => rw [if_pos rfl, show (1024 : Nat) = 2 ^ 10 from rfl, bit_add _ _ _ h3, Bool.and_true]
    | false => rw [if_neg (by decide), Nat.add_zero, Bool.and_false, Bool.or_false]
  unfold filN
  by_cases h : 0 < f.set.n
  · rw [if_pos h, show (2048 : Nat) = 2 ^ 11 from rfl, bit_add _ _ _ (by split <;> omega), e1, decide_eq_true h, Bool.and_true]
  · rw [if_neg h, Nat.add_zero, e1, decide_eq_false h, Bool.and_false, Bool.or_false]
/-- What a frame has, its kind has. -/
structure Has (p : Nat) (f : Frm) : Prop where
  num : ∀ j, j < 7 → p.testBit j = false → nm f j = 0
  data : p.testBit 7 = false → f.data = []
  cid : p.testBit 8 = false → f.cid = []
  token : p.testBit 9 = false → f.token = []
  fin : p.testBit 10 = false → f.fin = false
  set : p.testBit 11 = false → f.set.n = 0
theorem has_sub {p : Nat} {f : Frm} (h : filN f &&& p = filN f) : Has p f := by
  have hb : ∀ j, p.testBit j = false → (filN f).testBit j = false := fun j hp => by rw [← h, Nat.testBit_and, hp, Bool.and_false]
  refine ⟨fun j hj hp => ?_, fun hp => ?_, fun hp => ?_, fun hp => ?_, fun hp => ?_, fun hp => ?_⟩
  · have := hb j hp
    rw [fil_bit, fT_num f j hj] at this
    simp only [Bool.or_eq_false_iff] at this
    simpa using this.1.1
  · have := hb 7 hp
    rw [fil_bit, show (fT f 3).testBit 7 = _ from fT_txt f 0 3 (by decide)] at this
    simpa [txF] using this
  · have := hb 8 hp
    rw [fil_bit, show (fT f 3).testBit 8 = _ from fT_txt f 1 3 (by decide)] at this
    simpa [txF] using this
  · have := hb 9 hp
    rw [fil_bit, show (fT f 3).testBit 9 = _ from fT_txt f 2 3 (by decide)] at this
    simpa [txF] using this
  · have := hb 10 hp
    rw [fil_bit, show (fT f 3).testBit 10 = _ from fT_txt f 3 3 (by decide)] at this
    simpa using this
  · have := hb 11 hp
    rw [fil_bit, show (fT f 3).testBit 11 = _ from fT_txt f 4 3 (by decide)] at this
    simpa using this
/-- What a number's bytes begin by is the number. -/
theorem vt_pt (n : Nat) (h : n < 4611686018427387904) (s : List UInt8) : vt (pt n ++ s) = some (n, s) := by
  have hp : pl n < 4 := by have := pl_cases n; omega
  obtain ⟨h1, h2, h3⟩ := back_get n hp s
  have hk : gk (pt n ++ s) ≤ (pt n ++ s).length := by
    rcases Nat.lt_or_ge (pt n ++ s).length (gk (pt n ++ s)) with h4 | h4
    · have := (g_no h4).2.2; rw [h3] at this; cases this
    · exact h4
  unfold vt
  rw [if_pos hk, h1, h2]
theorem step_pt (p j : Nat) (n : Nat) (h : n < 4611686018427387904) (s : List UInt8) (g : Frm) (hb : p.testBit j = true) : stepN p j (some (pt n ++ s, g)) = some (s, setN g j (n : Nat)) := by
  obtain ⟨h1, h2, h3⟩ := vt_some (vt_pt n h s)
  rw [stepN_some, if_pos hb, if_pos h1, h2, h3]
/-- A frame with the numbers that the parts have, of the first so many. -/
def stTo (f g : Frm) (p : Nat) : Nat → Frm
  | 0 => g
  | j + 1 => if p.testBit j = true then setN (stTo f g p j) j (nm f j) else stTo f g p j
theorem nums_back (f g : Frm) (p : Nat) (hz : ∀ j, j < 7 → 0 ≤ nm f j ∧ nm f j ≤ 4611686018427387903) : ∀ j, j ≤ 7 → ∀ s, numsN p (pcat (chN p f j) ++ s) g j = some (s, stTo f g p j)
  | 0, _, s => by rw [chN, pcat_nil]; rfl
  | j + 1, hj, s => by
    have hn := hz j (by omega)
    rw [numsN, stTo, chN]
    by_cases hb : p.testBit j = true
    · rw [if_pos hb, if_pos hb, pcat_append, List.append_assoc, nums_back f g p hz j (by omega), pcat_cons, pcat_nil, List.append_nil, step_pt p j _ (by omega) s _ hb]
      congr 3
      omega
    · rw [if_neg hb, if_neg hb, nums_back f g p hz j (by omega), stepN_some, if_neg hb]
theorem st_all (f : Frm) (p : Nat) (K : Int) (h : ∀ j, j < 7 → p.testBit j = false → nm f j = 0) : stTo f { frZ with kind := K } p 7 = { frZ with kind := K, id := f.id, off := f.off, code := f.code, max := f.max, seq := f.seq, prior := f.prior, delay := f.delay } := by
  have st : ∀ (g : Frm) (j : Nat), j < 7 → (p.testBit j = false → setN g j 0 = g) → (if p.testBit j = true then setN g j (nm f j) else g) = setN g j (nm f j) := by
    intro g j hj hg
    by_cases hb : p.testBit j = true
    · rw [if_pos hb]
    · have hb : p.testBit j = false := by simpa using hb
      rw [if_neg (by rw [hb]; decide), h j hj hb, hg hb]
  simp only [stTo]
  rw [st _ 0 (by decide) (fun _ => rfl), st _ 1 (by decide) (fun _ => rfl), st _ 2 (by decide) (fun _ => rfl), st _ 3 (by decide) (fun _ => rfl), st _ 4 (by decide) (fun _ => rfl), st _ 5 (by decide) (fun _ => rfl), st _ 6 (by decide) (fun _ => rfl)]
  rfl

/-- The texts of a frame that has these parts. -/
def txtL (p : Nat) (f : Frm) : List UInt8 := (if p.testBit 7 = true then pt f.data.length else []) ++ ((if p.testBit 8 = true then [UInt8.ofNat f.cid.length] else []) ++ (f.data ++ (f.cid ++ f.token)))
theorem texts_back (p : Nat) (f g : Frm) (s : List UInt8) (h : Has p f) (ho : okP p = true) (h12 : p.testBit 12 = false) (hd : f.data.length < 4611686018427387904)
    (h8 : p.testBit 8 = true → f.cid.length = 8 ∧ f.token.length = 16) (h9 : p.testBit 8 = false → p.testBit 9 = true → f.token.length = 8) (hg : g.data = [] ∧ g.cid = [] ∧ g.token = []) :
    textsN p (txtL p f ++ s) g = some (s, { g with data := f.data, cid := f.cid, token := f.token }) := by
  unfold okP at ho
  have eg : ({ g with data := [], cid := [], token := [] } : Frm) = g := by
    obtain ⟨h1, h2, h3⟩ := hg
    cases g; simp_all
  unfold textsN txtL
  by_cases h7 : p.testBit 7 = true
  · simp only [h7, if_true, Bool.and_eq_true, Bool.not_eq_true'] at ho
    have hc := h.cid ho.1.2
    have ht := h.token ho.2
    rw [if_pos h7, if_pos h7, ho.1.2, hc, ht]
    simp only [Bool.false_eq_true, if_false, List.nil_append, List.append_nil, List.append_assoc]
    obtain ⟨v1, v2, v3⟩ := vt_some (vt_pt f.data.length hd (f.data ++ s))
    rw [v2, v3, if_pos ⟨v1, by simp⟩]
    have e : ({ g with data := f.data, cid := [], token := [] } : Frm) = { g with data := f.data } := by
      obtain ⟨_, h2, h3⟩ := hg
      cases g; simp_all
    rw [e]
    simp
  · have h7 : p.testBit 7 = false := by simpa using h7
    have hdt := h.data h7
    rw [h7, h12, hdt]
    simp only [Bool.false_eq_true, if_false, List.nil_append]
    simp only [h7, h12, Bool.false_eq_true, if_false] at ho
    by_cases hb8 : p.testBit 8 = true
    · obtain ⟨hc, ht⟩ := h8 hb8
      rw [if_pos hb8, if_pos hb8, hc]
      simp only [List.cons_append, List.nil_append]
      have e1 : (UInt8.ofNat 8).toNat = 8 := rfl
      have e2 : (f.cid ++ f.token ++ s).drop 8 = f.token ++ s := by rw [List.append_assoc, ← hc, List.drop_left]
      have e3 : (f.cid ++ f.token ++ s).take 8 = f.cid := by rw [List.append_assoc, ← hc, List.take_left]
      have e4 : (f.token ++ s).drop 16 = s := by rw [← ht, List.drop_left]
      have e5 : (f.token ++ s).take 16 = f.token := by rw [← ht, List.take_left]
      rw [e1, e2, e3, e4, e5, if_pos ⟨by simp; omega, by simp; omega⟩]
      have e : ({ g with data := [], cid := f.cid, token := f.token } : Frm) = { g with cid := f.cid, token := f.token } := by
        obtain ⟨h1, _, _⟩ := hg
        cases g; simp_all
      rw [e]
    · have hb8 : p.testBit 8 = false := by simpa using hb8
      have hc := h.cid hb8
      rw [hb8, hc]
      simp only [Bool.false_eq_true, if_false, List.nil_append]
      by_cases hb9 : p.testBit 9 = true
      · have ht := h9 hb8 hb9
        have e4 : (f.token ++ s).drop 8 = s := by rw [← ht, List.drop_left]
        have e5 : (f.token ++ s).take 8 = f.token := by rw [← ht, List.take_left]
        rw [if_pos hb9, if_pos (by simp; omega), e4, e5]
        have e : ({ g with data := [], cid := [], token := f.token } : Frm) = { g with token := f.token } := by
          obtain ⟨h1, h2, _⟩ := hg
          cases g; simp_all
        rw [e]
      · have hb9 : p.testBit 9 = false := by simpa using hb9
        rw [if_neg (by rw [hb9]; decide), h.token hb9, eg]
        rfl
/-- Ranges that lie below a number, each below the one ahead. -/
def DescV : Nat → List (Nat × Nat) → Prop
  | _, [] => True
  | lo, p :: t => p.2 + 2 ≤ lo ∧ p.1 ≤ p.2 ∧ DescV p.1 t
theorem ackG_back : ∀ (t : List (Nat × Nat)) (lo : Nat) (acc : List (Nat × Nat)) (s : List UInt8), DescV lo t → lo < 4611686018427387904 → ackG t.length lo acc (ackQ lo t ++ s) = some (acc ++ t, s)
  | [], lo, acc, s, _, _ => by simp [ackG, ackQ]
  | (a, b) :: t, lo, acc, s, ⟨h1, h2, h3⟩, hl => by
    simp only at h1 h2 h3
    rw [ackQ, List.length_cons, ackG, List.append_assoc, vt_pt _ (by omega)]
    simp only
    rw [if_neg (by omega), List.append_assoc, vt_pt _ (by omega)]
    simp only
    have e1 : lo - (lo - b - 2 + 2) = b := by omega
    have e2 : b - (b - a) = a := by omega
    rw [e1, if_neg (by omega), e2, ackG_back t a (acc ++ [(a, b)]) s h3 (by omega), List.append_assoc]
    rfl
theorem ackN_back (dl : Nat) (hd : dl < 4611686018427387904) (a b : Nat) (t : List (Nat × Nat)) (s : List UInt8) (hab : a ≤ b) (hb : b < 4611686018427387904) (hv : DescV a t) (hl : t.length < 32) :
    ackN (ackP dl ((a, b) :: t) ++ s) = some (dl, ((a, b) :: t).reverse, s) := by
  unfold ackN ackP
  simp only [List.append_assoc]
  rw [vt_pt _ hb]
  simp only
  rw [vt_pt _ hd]
  simp only
  rw [vt_pt _ (by omega)]
  simp only
  rw [if_neg (by omega), vt_pt _ (by omega)]
  simp only
  have e : b - (b - a) = a := by omega
  rw [if_neg (by omega), e, ackG_back t a [(a, b)] s hv (by omega)]
  rfl
theorem desc_of (rs : List (Nat × Nat)) (h : MayP (ints rs)) : ∀ k, k < rs.length → DescV (rs.getD k (0, 0)).1 (rs.take k).reverse
  | 0, _ => by simp [DescV]
  | k + 1, hk => by
    have h1 := h k (by rw [ints_len]; omega)
    have h2 := (h (k + 1) (by rw [ints_len]; omega)).2.2 (by omega)
    rw [ints_get] at h1
    rw [ints_get, Nat.add_sub_cancel, ints_get] at h2
    have e : rs.take (k + 1) = rs.take k ++ [rs.getD k (0, 0)] := by
      rw [List.take_add_one, List.getD_eq_getElem?_getD, List.getElem?_eq_getElem (by omega)]
      rfl
    rw [e, List.reverse_append]
    exact ⟨by simp only at h1 h2 ⊢; omega, by simp only at h1 ⊢; omega, desc_of rs h k (by omega)⟩
/-- The bytes of a frame that may be. -/
def putL (f : Frm) (rs : List (Nat × Nat)) : List UInt8 :=
  pt (fstN f).toNat ++ (if (toldP (fstN f).toNat).testBit 11 = true then ackP f.delay.toNat rs.reverse else pcat (chN (toldP (fstN f).toNat) f 7) ++ txtL (toldP (fstN f).toNat) f)
/-- The frame that bytes begin by, its ranges, and what is behind it. -/
def frmN : List UInt8 → Option (Frm × List (Nat × Nat) × List UInt8)
  | [] => none
  | c :: t => if toldB c.toNat = true then
      (if (toldP c.toNat).testBit 11 = true then
        (match ackN t with
        | none => none
        | some (d, rs, r) => some ({ frZ with kind := (toldK c.toNat : Nat), delay := (d : Nat), set := ⟨none, rs.length, 0⟩ }, rs, r))
      else (match plainN c t with
        | none => none
        | some (r, f) => some (f, [], r)))
    else none
/-- The same, if it may be. -/
def getN (l : List UInt8) : Option (Frm × List (Nat × Nat) × List UInt8) :=
  match frmN l with
  | none => none
  | some (f, rs, r) => if mayF f.kind.toNat f (ints rs) = true then some (f, rs, r) else none
/-- A frame whose Set's place is left open. -/
def cn (f : Frm) (n : Nat) : Frm := { f with set := ⟨none, n, 0⟩ }
theorem may_cn (k : Nat) (f : Frm) (l : List Ran) (sl : Sl) (h : sl.n = f.set.n) : mayF k { f with set := sl } l = mayF k f l := by
  have e : filN { f with set := sl } = filN f := by
    unfold filN
    simp only [h]
    rfl
  unfold mayF
  rw [e]
  rfl
theorem plain_back (q p : Nat) (f : Frm) (s : List UInt8) (hq : q < 64) (hp : toldP q = p) (hB : toldB q = true) (hK : f.kind = (toldK q : Nat)) (h11 : p.testBit 11 = false) (h12 : p.testBit 12 = false)
    (hz : ∀ j, j < 7 → 0 ≤ nm f j ∧ nm f j ≤ 4611686018427387903) (h : Has p f) (hf : p.testBit 10 = f.fin) (hd : f.data.length < 4611686018427387904)
    (h8 : p.testBit 8 = true → f.cid.length = 8 ∧ f.token.length = 16) (h9 : p.testBit 8 = false → p.testBit 9 = true → f.token.length = 8) :
    frmN (pt q ++ (pcat (chN p f 7) ++ txtL p f) ++ s) = some (cn f 0, [], s) := by
  have e0 : pt q = [UInt8.ofNat q] := by
    have hpl : pl q = 0 := by unfold pl; rw [if_pos hq]
    unfold pt
    rw [hpl]
    simp [wd, fx]
    rw [Nat.mod_eq_of_lt (show q < 256 by omega)]
  have e1 : (UInt8.ofNat q).toNat = q := by rw [UInt8.toNat_ofNat']; omega
  rw [e0]
  show frmN (UInt8.ofNat q :: (pcat (chN p f 7) ++ txtL p f ++ s)) = _
  unfold frmN
  simp only [e1, hp]
  rw [if_pos hB, if_neg (by rw [h11]; decide)]
  unfold plainN
  simp only [e1, hp]
  rw [List.append_assoc, nums_back f _ p hz 7 (by decide), st_all f p _ h.num]
  simp only
  have ho : okP p = true := by rw [← hp]; exact toldP_ok q
  rw [texts_back p f _ s h ho h12 hd h8 h9 ⟨rfl, rfl, rfl⟩]
  simp only [Option.some.injEq, Prod.mk.injEq, and_true]
  rw [hf, ← hK]
  rfl

theorem vt_app {l : List UInt8} {n : Nat} {r : List UInt8} (h : vt l = some (n, r)) (y : List UInt8) : vt (l ++ y) = some (n, r ++ y) := by
  obtain ⟨h1, h2, h3⟩ := vt_some h
  match l, h1, h2, h3 with
  | [], h1, _, _ => simp [gk] at h1
  | b :: l, h1, h2, h3 =>
    have e : gk (b :: l ++ y) = gk (b :: l) := rfl
    have hk : gk (b :: l ++ y) ≤ (b :: l ++ y).length := by rw [e, List.length_append]; omega
    obtain ⟨a1, a2, _⟩ := g_ok h1
    obtain ⟨b1, b2, _⟩ := g_ok hk
    unfold vt
    rw [if_pos hk, b1, b2, e]
    rw [a1] at h2
    rw [a2] at h3
    unfold gn at h2 ⊢
    rw [List.take_append_of_le_length h1, List.drop_append_of_le_length h1, h2, h3]
theorem vt_suf {l : List UInt8} {n : Nat} {r : List UInt8} (h : vt l = some (n, r)) : ∃ pre, l = pre ++ r := by
  obtain ⟨h1, h2, h3⟩ := vt_some h
  refine ⟨l.take (gk l), ?_⟩
  rw [← h3, (g_ok h1).2.1, List.take_append_drop]
theorem stepN_vt (p i : Nat) (l : List UInt8) (f : Frm) : stepN p i (some (l, f)) = if p.testBit i = true then (match vt l with | some (n, r) => some (r, setN f i (n : Nat)) | none => none) else some (l, f) := by
  rw [stepN_some]
  unfold vt
  by_cases h : gk l ≤ l.length
  · rw [if_pos h, if_pos h]
  · rw [if_neg h, if_neg h]
theorem numsN_app {p : Nat} {l : List UInt8} {f : Frm} (y : List UInt8) : ∀ {i : Nat} {l2 : List UInt8} {f2 : Frm}, numsN p l f i = some (l2, f2) → numsN p (l ++ y) f i = some (l2 ++ y, f2)
  | 0, l2, f2, h => by
    simp only [numsN, Option.some.injEq, Prod.mk.injEq] at h ⊢
    exact ⟨by rw [h.1], h.2⟩
  | i + 1, l2, f2, h => by
    rw [numsN] at h ⊢
    match hn : numsN p l f i with
    | none => rw [hn] at h; cases h
    | some (l1, f1) =>
      rw [hn, stepN_vt] at h
      rw [numsN_app y hn, stepN_vt]
      by_cases hb : p.testBit i = true
      · rw [if_pos hb] at h ⊢
        match hv : vt l1 with
        | none => rw [hv] at h; cases h
        | some (n, r) =>
          rw [hv] at h
          simp only [Option.some.injEq, Prod.mk.injEq] at h
          rw [vt_app hv y, ← h.1, ← h.2]
      · rw [if_neg hb] at h ⊢
        cases h; rfl
theorem numsN_suf {p : Nat} {l : List UInt8} {f : Frm} : ∀ {i : Nat} {l2 : List UInt8} {f2 : Frm}, numsN p l f i = some (l2, f2) → ∃ pre, l = pre ++ l2
  | 0, l2, f2, h => by
    simp only [numsN, Option.some.injEq, Prod.mk.injEq] at h
    exact ⟨[], by rw [h.1]; rfl⟩
  | i + 1, l2, f2, h => by
    rw [numsN] at h
    match hn : numsN p l f i with
    | none => rw [hn] at h; cases h
    | some (l1, f1) =>
      obtain ⟨pre, hp⟩ := numsN_suf hn
      rw [hn, stepN_vt] at h
      by_cases hb : p.testBit i = true
      · rw [if_pos hb] at h
        match hv : vt l1 with
        | none => rw [hv] at h; cases h
        | some (n, r) =>
          rw [hv] at h
          simp only [Option.some.injEq, Prod.mk.injEq] at h
          obtain ⟨pre2, h2⟩ := vt_suf hv
          exact ⟨pre ++ pre2, by rw [hp, h2, ← h.1, List.append_assoc]⟩
      · rw [if_neg hb] at h
        cases h; exact ⟨pre, hp⟩
/-- A frame whose numbers are none below 0, whose texts are not told yet. -/
def Pos (f : Frm) : Prop := ∀ j, 0 ≤ nm f j
theorem setN_pos {f : Frm} (h : Pos f) (i n : Nat) : Pos (setN f i (n : Nat)) := by
  have hn : (0 : Int) ≤ (n : Nat) := Int.natCast_nonneg n
  have h0 := h 0; have h1 := h 1; have h2 := h 2; have h3 := h 3; have h4 := h 4; have h5 := h 5; have h6 := h 6
  intro j
  unfold setN
  split <;> (unfold nm at *; split <;> assumption)
theorem numsN_pos {p : Nat} {l : List UInt8} {f : Frm} (hf : Pos f) : ∀ {i : Nat} {l2 : List UInt8} {f2 : Frm}, numsN p l f i = some (l2, f2) → Pos f2
  | 0, l2, f2, h => by
    simp only [numsN, Option.some.injEq, Prod.mk.injEq] at h
    rw [← h.2]; exact hf
  | i + 1, l2, f2, h => by
    rw [numsN] at h
    match hn : numsN p l f i with
    | none => rw [hn] at h; cases h
    | some (l1, f1) =>
      have ih := numsN_pos hf hn
      rw [hn, stepN_some] at h
      split at h
      · split at h
        · cases h; exact setN_pos ih _ _
        · cases h
      · cases h; exact ih
theorem setN_rest (f : Frm) (i : Nat) (v : Int) : (setN f i v).data = f.data ∧ (setN f i v).set = f.set := by
  unfold setN
  split <;> exact ⟨rfl, rfl⟩
theorem numsN_rest {p : Nat} {l : List UInt8} {f : Frm} : ∀ {i : Nat} {l2 : List UInt8} {f2 : Frm}, numsN p l f i = some (l2, f2) → f2.data = f.data ∧ f2.set = f.set
  | 0, l2, f2, h => by
    simp only [numsN, Option.some.injEq, Prod.mk.injEq] at h
    rw [← h.2]; exact ⟨rfl, rfl⟩
  | i + 1, l2, f2, h => by
    rw [numsN] at h
    match hn : numsN p l f i with
    | none => rw [hn] at h; cases h
    | some (l1, f1) =>
      have ih := numsN_rest hn
      rw [hn, stepN_some] at h
      split at h
      · split at h
        · cases h
          exact ⟨(setN_rest _ _ _).1.trans ih.1, (setN_rest _ _ _).2.trans ih.2⟩
        · cases h
      · cases h; exact ih
theorem textsN_app {p : Nat} {l : List UInt8} {f : Frm} {l2 : List UInt8} {f2 : Frm} (y : List UInt8) (h12 : p.testBit 12 = false) (h : textsN p l f = some (l2, f2)) : textsN p (l ++ y) f = some (l2 ++ y, f2) := by
  unfold textsN at h ⊢
  rw [h12] at h ⊢
  by_cases h7 : p.testBit 7 = true
  · rw [if_pos h7] at h ⊢
    split at h
    · rename_i hg
      cases h
      have hv : vt l = some (gN l, gR l) := by unfold vt; rw [if_pos hg.1]
      obtain ⟨v1, v2, v3⟩ := vt_some (vt_app hv y)
      rw [v2, v3, if_pos ⟨v1, by rw [List.length_append]; omega⟩, List.drop_append_of_le_length hg.2, List.take_append_of_le_length hg.2]
    · cases h
  · rw [if_neg h7] at h ⊢
    simp only [Bool.false_eq_true, if_false] at h ⊢
    by_cases h8 : p.testBit 8 = true
    · rw [if_pos h8] at h ⊢
      match l, h with
      | [], h => cases h
      | c :: t, h =>
        simp only [List.cons_append] at h ⊢
        split at h
        · rename_i hg
          cases h
          rw [List.drop_append_of_le_length hg.1, if_pos ⟨by rw [List.length_append]; omega, by rw [List.length_append]; omega⟩, List.take_append_of_le_length hg.1, List.drop_append_of_le_length hg.2, List.take_append_of_le_length hg.2]
        · cases h
    · rw [if_neg h8] at h ⊢
      by_cases h9 : p.testBit 9 = true
      · rw [if_pos h9] at h ⊢
        split at h
        · rename_i hg
          cases h
          rw [if_pos (by rw [List.length_append]; omega), List.drop_append_of_le_length hg, List.take_append_of_le_length hg]
        · cases h
      · rw [if_neg h9] at h ⊢
        cases h; rfl
/-- What the texts leave, and how long they are. -/
theorem textsN_suf {p : Nat} {l : List UInt8} {f : Frm} {l2 : List UInt8} {f2 : Frm} (h : textsN p l f = some (l2, f2)) : (∃ pre, l = pre ++ l2) ∧ (f2.data.length ≤ f.data.length + l.length) ∧ (∀ j, nm f2 j = nm f j) ∧ f2.kind = f.kind ∧ f2.set = f.set := by
  unfold textsN at h
  split at h
  · split at h
    · rename_i hg
      cases h
      have hv : vt l = some (gN l, gR l) := by unfold vt; rw [if_pos hg.1]
      obtain ⟨pre, hp⟩ := vt_suf hv
      have hl := vt_len hv
      refine ⟨⟨pre ++ (gR l).take (gN l), ?_⟩, ?_, fun j => rfl, rfl, rfl⟩
      · rw [List.append_assoc, List.take_append_drop]; exact hp
      · simp only [List.length_take]; omega
    · cases h
  · split at h
    · cases h
      exact ⟨⟨l, by simp⟩, by simp only; omega, fun j => rfl, rfl, rfl⟩
    · split at h
      · match l, h with
        | [], h => cases h
        | c :: t, h =>
          simp only at h
          split at h
          · rename_i hg
            cases h
            refine ⟨⟨c :: (t.take c.toNat ++ (t.drop c.toNat).take 16), ?_⟩, by simp, fun j => rfl, rfl, rfl⟩
            rw [List.cons_append, List.append_assoc, List.take_append_drop, List.take_append_drop]
          · cases h
      · split at h
        · split at h
          · cases h
            exact ⟨⟨l.take 8, by rw [List.take_append_drop]⟩, by simp, fun j => rfl, rfl, rfl⟩
          · cases h
        · cases h
          exact ⟨⟨[], rfl⟩, by simp, fun j => rfl, rfl, rfl⟩
theorem ackG_app (y : List UInt8) : ∀ (m lo : Nat) (acc : List (Nat × Nat)) (l : List UInt8) (ac2 : List (Nat × Nat)) (l2 : List UInt8), ackG m lo acc l = some (ac2, l2) → ackG m lo acc (l ++ y) = some (ac2, l2 ++ y)
  | 0, lo, acc, l, ac2, l2, h => by
    simp only [ackG, Option.some.injEq, Prod.mk.injEq] at h ⊢
    exact ⟨h.1, by rw [h.2]⟩
  | m + 1, lo, acc, l, ac2, l2, h => by
    rw [ackG] at h ⊢
    match h1 : vt l with
    | none => rw [h1] at h; cases h
    | some (d, l1) =>
      rw [h1] at h
      rw [vt_app h1 y]
      simp only at h ⊢
      split at h
      · cases h
      rename_i hd
      rw [if_neg hd]
      match h2 : vt l1 with
      | none => rw [h2] at h; cases h
      | some (e, l3) =>
        rw [h2] at h
        rw [vt_app h2 y]
        simp only at h ⊢
        split at h
        · cases h
        rename_i he
        rw [if_neg he]
        exact ackG_app y m _ _ _ _ _ h
theorem ackG_suf : ∀ (m lo : Nat) (acc : List (Nat × Nat)) (l : List UInt8) (ac2 : List (Nat × Nat)) (l2 : List UInt8), ackG m lo acc l = some (ac2, l2) → (∃ pre, l = pre ++ l2) ∧ ac2.length = acc.length + m
  | 0, lo, acc, l, ac2, l2, h => by
    simp only [ackG, Option.some.injEq, Prod.mk.injEq] at h
    exact ⟨⟨[], by rw [h.2]; rfl⟩, by rw [h.1]; rfl⟩
  | m + 1, lo, acc, l, ac2, l2, h => by
    rw [ackG] at h
    match h1 : vt l with
    | none => rw [h1] at h; cases h
    | some (d, l1) =>
      rw [h1] at h
      simp only at h
      split at h
      · cases h
      match h2 : vt l1 with
      | none => rw [h2] at h; cases h
      | some (e, l3) =>
        rw [h2] at h
        simp only at h
        split at h
        · cases h
        obtain ⟨⟨p3, hp3⟩, hl⟩ := ackG_suf m _ _ _ _ _ h
        obtain ⟨p1, hp1⟩ := vt_suf h1
        obtain ⟨p2, hp2⟩ := vt_suf h2
        refine ⟨⟨p1 ++ p2 ++ p3, by rw [hp1, hp2, hp3]; simp⟩, ?_⟩
        rw [hl, List.length_append, List.length_singleton]; omega
theorem ackN_app {l : List UInt8} {d : Nat} {rs : List (Nat × Nat)} {l5 : List UInt8} (y : List UInt8) (h : ackN l = some (d, rs, l5)) : ackN (l ++ y) = some (d, rs, l5 ++ y) := by
  unfold ackN at h ⊢
  match h1 : vt l with
  | none => rw [h1] at h; cases h
  | some (hi, l1) =>
  rw [h1] at h; rw [vt_app h1 y]
  simp only at h ⊢
  match h2 : vt l1 with
  | none => rw [h2] at h; cases h
  | some (dl, l2) =>
  rw [h2] at h; rw [vt_app h2 y]
  simp only at h ⊢
  match h3 : vt l2 with
  | none => rw [h3] at h; cases h
  | some (more, l3) =>
  rw [h3] at h; rw [vt_app h3 y]
  simp only at h ⊢
  split at h
  · cases h
  rename_i hm
  rw [if_neg hm]
  match h4 : vt l3 with
  | none => rw [h4] at h; cases h
  | some (e, l4) =>
  rw [h4] at h; rw [vt_app h4 y]
  simp only at h ⊢
  split at h
  · cases h
  rename_i he
  rw [if_neg he]
  match h5 : ackG more (hi - e) [(hi - e, hi)] l4 with
  | none => rw [h5] at h; cases h
  | some (acc, l6) =>
  rw [h5] at h; rw [ackG_app y _ _ _ _ _ _ h5]
  simp only [Option.some.injEq, Prod.mk.injEq] at h ⊢
  exact ⟨h.1, h.2.1, by rw [h.2.2]⟩
theorem ackN_suf {l : List UInt8} {d : Nat} {rs : List (Nat × Nat)} {l5 : List UInt8} (h : ackN l = some (d, rs, l5)) : (∃ pre, l = pre ++ l5) ∧ 1 ≤ rs.length ∧ rs.length ≤ 32 := by
  unfold ackN at h
  match h1 : vt l with
  | none => rw [h1] at h; cases h
  | some (hi, l1) =>
  rw [h1] at h
  simp only at h
  match h2 : vt l1 with
  | none => rw [h2] at h; cases h
  | some (dl, l2) =>
  rw [h2] at h
  simp only at h
  match h3 : vt l2 with
  | none => rw [h3] at h; cases h
  | some (more, l3) =>
  rw [h3] at h
  simp only at h
  split at h
  · cases h
  rename_i hm
  match h4 : vt l3 with
  | none => rw [h4] at h; cases h
  | some (e, l4) =>
  rw [h4] at h
  simp only at h
  split at h
  · cases h
  match h5 : ackG more (hi - e) [(hi - e, hi)] l4 with
  | none => rw [h5] at h; cases h
  | some (acc, l6) =>
  rw [h5] at h
  simp only [Option.some.injEq, Prod.mk.injEq] at h
  obtain ⟨⟨p5, e5⟩, hl⟩ := ackG_suf _ _ _ _ _ _ h5
  obtain ⟨p1, e1⟩ := vt_suf h1
  obtain ⟨p2, e2⟩ := vt_suf h2
  obtain ⟨p3, e3⟩ := vt_suf h3
  obtain ⟨p4, e4⟩ := vt_suf h4
  refine ⟨⟨p1 ++ p2 ++ p3 ++ p4 ++ p5, ?_⟩, ?_⟩
  · rw [e1, e2, e3, e4, e5, h.2.2]; simp
  · rw [← h.2.1, List.length_reverse, hl, List.length_singleton]; omega
theorem frmN_cons (c : UInt8) (t : List UInt8) : frmN (c :: t) = if toldB c.toNat = true then
      (if (toldP c.toNat).testBit 11 = true then
        (match ackN t with
        | none => none
        | some (d, rs, r) => some ({ frZ with kind := (toldK c.toNat : Nat), delay := (d : Nat), set := ⟨none, rs.length, 0⟩ }, rs, r))
      else (match plainN c t with
        | none => none
        | some (r, f) => some (f, [], r)))
    else none := rfl
theorem frmN_app {c : UInt8} {t : List UInt8} {f : Frm} {rs : List (Nat × Nat)} {r : List UInt8} (y : List UInt8) (h12 : (toldP c.toNat).testBit 12 = false) (h : frmN (c :: t) = some (f, rs, r)) : frmN (c :: t ++ y) = some (f, rs, r ++ y) := by
  rw [List.cons_append, frmN_cons]
  rw [frmN_cons] at h
  split at h
  · rename_i hb
    rw [if_pos hb]
    split at h
    · rename_i h11
      rw [if_pos h11]
      match ha : ackN t with
      | none => rw [ha] at h; cases h
      | some (d, rs', r') =>
        rw [ha] at h; rw [ackN_app y ha]
        simp only [Option.some.injEq, Prod.mk.injEq] at h ⊢
        obtain ⟨h1, h2, h3⟩ := h
        subst h2; subst h3
        exact ⟨h1, rfl, rfl⟩
    · rename_i h11
      rw [if_neg h11]
      unfold plainN at h ⊢
      match hn : numsN (toldP c.toNat) t { frZ with kind := (toldK c.toNat : Nat) } 7 with
      | none => rw [hn] at h; cases h
      | some (l2, f2) =>
        rw [hn] at h; rw [numsN_app y hn]
        simp only at h ⊢
        match hx : textsN (toldP c.toNat) l2 { f2 with fin := (toldP c.toNat).testBit 10 } with
        | none => rw [hx] at h; cases h
        | some (r', f') =>
          rw [hx] at h; rw [textsN_app y h12 hx]
          simp only [Option.some.injEq, Prod.mk.injEq] at h ⊢
          obtain ⟨h1, h2, h3⟩ := h
          subst h2; subst h3
          exact ⟨h1, rfl, rfl⟩
  · cases h
/-- What a frame that was read is like. -/
structure Read (l : List UInt8) (f : Frm) (rs : List (Nat × Nat)) (r : List UInt8) : Prop where
  suf : ∃ pre, l = pre ++ r ∧ pre ≠ []
  pos : Pos f
  data : f.data.length ≤ l.length
  set : f.set = ⟨none, rs.length, 0⟩
  len : rs.length ≤ 32
  kind : ∃ k : Nat, f.kind = (k : Nat)
theorem frmN_read {l : List UInt8} {f : Frm} {rs : List (Nat × Nat)} {r : List UInt8} (h : frmN l = some (f, rs, r)) : Read l f rs r := by
  match l, h with
  | [], h => cases h
  | c :: t, h =>
    rw [frmN_cons] at h
    split at h
    · split at h
      · match ha : ackN t with
        | none => rw [ha] at h; cases h
        | some (d, rs', r') =>
          rw [ha] at h
          simp only [Option.some.injEq, Prod.mk.injEq] at h
          obtain ⟨h1, h2, h3⟩ := h
          subst h1; subst h2; subst h3
          obtain ⟨⟨pre, hp⟩, _, hl⟩ := ackN_suf ha
          refine ⟨⟨c :: pre, by rw [hp]; rfl, by simp⟩, fun j => ?_, by simp [frZ], rfl, hl, ⟨_, rfl⟩⟩
          unfold nm frZ
          split <;> simp
      · unfold plainN at h
        match hn : numsN (toldP c.toNat) t { frZ with kind := (toldK c.toNat : Nat) } 7 with
        | none => rw [hn] at h; cases h
        | some (l2, f2) =>
          rw [hn] at h
          simp only at h
          have hk2 := numsN_kind hn
          have hp2 := numsN_pos (f := { frZ with kind := (toldK c.toNat : Nat) }) (fun j => by unfold nm frZ; split <;> exact Int.le_refl 0) hn
          have hl2 := numsN_len hn
          obtain ⟨p1, e1⟩ := numsN_suf hn
          obtain ⟨e3, e4⟩ := numsN_rest hn
          match hx : textsN (toldP c.toNat) l2 { f2 with fin := (toldP c.toNat).testBit 10 } with
          | none => rw [hx] at h; cases h
          | some (r', f') =>
            rw [hx] at h
            simp only [Option.some.injEq, Prod.mk.injEq] at h
            obtain ⟨h1, h2, h3⟩ := h
            subst h1; subst h2; subst h3
            obtain ⟨⟨p2, e2⟩, hd, hnm, hkd, hst⟩ := textsN_suf hx
            refine ⟨⟨c :: (p1 ++ p2), by rw [e1, e2]; simp, by simp⟩, fun j => ?_, ?_, ?_, by simp, ⟨toldK c.toNat, ?_⟩⟩
            · rw [hnm]; exact hp2 j
            · simp only at hd
              rw [e3] at hd
              simp [frZ] at hd
              rw [List.length_cons]; omega
            · rw [hst]; exact e4
            · rw [hkd]; exact hk2
    · cases h

/-- What a frame that may be is like; k: its kind. -/
structure MayK (k : Nat) (f : Frm) (l : List Ran) : Prop where
  some : (partsN k).isSome = true
  has : Has ((partsN k).getD 0) f
  num : ∀ j, j < 7 → nm f j ≤ 4611686018427387903
  knd : kndB f l = true
theorem mayF_k {k : Nat} {f : Frm} {l : List Ran} (h : mayF k f l = true) : MayK k f l := by
  unfold mayF at h
  rw [Bool.and_eq_true, Bool.and_eq_true, decide_eq_true_iff] at h
  obtain ⟨h1, h2, h3⟩ := h
  unfold bndB at h3
  rw [Bool.and_eq_true] at h3
  exact ⟨h1, has_sub h2, fun j hj => of_decide_eq_true (List.all_eq_true.1 h3.1 j (List.mem_range.2 hj)), h3.2⟩
theorem nm_all {f : Frm} (h : ∀ j, j < 7 → 0 ≤ nm f j ∧ nm f j ≤ 4611686018427387903) : (0 ≤ f.id ∧ f.id ≤ 4611686018427387903) ∧ (0 ≤ f.off ∧ f.off ≤ 4611686018427387903) ∧ (0 ≤ f.code ∧ f.code ≤ 4611686018427387903) ∧ (0 ≤ f.max ∧ f.max ≤ 4611686018427387903) ∧ (0 ≤ f.seq ∧ f.seq ≤ 4611686018427387903) ∧ (0 ≤ f.prior ∧ f.prior ≤ 4611686018427387903) ∧ (0 ≤ f.delay ∧ f.delay ≤ 4611686018427387903) :=
  ⟨h 0 (by decide), h 1 (by decide), h 2 (by decide), h 3 (by decide), h 4 (by decide), h 5 (by decide), h 6 (by decide)⟩
theorem last_rev (rs : List (Nat × Nat)) (h : 1 ≤ rs.length) : rs.reverse = rs.getD (rs.length - 1) (0, 0) :: (rs.take (rs.length - 1)).reverse := by
  obtain ⟨n, hn⟩ : ∃ n, rs.length = n + 1 := ⟨rs.length - 1, by omega⟩
  have e : rs.take (n + 1) = rs.take n ++ [rs.getD n (0, 0)] := by
    rw [List.take_add_one, List.getD_eq_getElem?_getD, List.getElem?_eq_getElem (by omega)]
    rfl
  rw [List.take_of_length_le (by omega)] at e
  have e2 : rs.length - 1 = n := by omega
  rw [e2]
  conv => lhs; rw [e]
  rw [List.reverse_append]
  rfl
theorem fst_small {k : Nat} (hk : k ≠ 8) {f : Frm} (hf : f.kind = (k : Nat)) : (fstN f).toNat = k := by
  unfold fstN
  rw [if_neg (by omega), hf]
  omega
theorem toldP_k {k : Nat} (h : k < 8 ∨ 16 ≤ k) : toldP k = (partsN k).getD 0 := by
  unfold toldP
  split
  all_goals first | omega | rfl
theorem fin_f {f : Frm} (h : f.fin = false) : ∀ p : Nat, p.testBit 10 = false → p.testBit 10 = f.fin := fun p hp => by rw [hp, h]
/-- A frame whose kind has no Set and is none of Stream's. -/
theorem back_k (k p : Nat) (f : Frm) (s : List UInt8) (hk : k < 64) (hp : (partsN k).getD 0 = p) (hB : (partsN k).isSome = true) (hf : f.kind = (k : Nat)) (h8n : k < 8 ∨ 16 ≤ k) (hs : p.testBit 11 = false) (h12 : p.testBit 12 = false) (h10 : p.testBit 10 = false)
    (hz : ∀ j, j < 7 → 0 ≤ nm f j ∧ nm f j ≤ 4611686018427387903) (h : Has p f) (hd : f.data.length < 4611686018427387904)
    (h8 : p.testBit 8 = true → f.cid.length = 8 ∧ f.token.length = 16) (h9 : p.testBit 8 = false → p.testBit 9 = true → f.token.length = 8) :
    frmN (putL f [] ++ s) = some (cn f 0, [], s) := by
  have e1 := fst_small (by omega) hf
  have e2 := (toldP_k h8n).trans hp
  have e3 : toldK k = k := by unfold toldK; rw [if_neg (by omega)]
  unfold putL
  rw [e1, e2, if_neg (by rw [hs]; decide)]
  exact plain_back k p f s hk e2 (by unfold toldB; rw [hB, Bool.or_true]) (by rw [e3]; exact hf) hs h12 hz h (fin_f (h.fin h10) p h10) hd h8 h9
/-- A Stream frame. -/
theorem back_8 (q p : Nat) (f : Frm) (s : List UInt8) (hq : q / 8 = 1) (hf : f.kind = 8) (e1 : (fstN f).toNat = q) (e2 : toldP q = p) (h11 : p.testBit 11 = false) (h12 : p.testBit 12 = false) (h8 : p.testBit 8 = false) (h9 : p.testBit 9 = false)
    (hz : ∀ j, j < 7 → 0 ≤ nm f j ∧ nm f j ≤ 4611686018427387903) (h : Has p f) (hfin : p.testBit 10 = f.fin) (hd : f.data.length < 4611686018427387904) :
    frmN (putL f [] ++ s) = some (cn f 0, [], s) := by
  have e3 : toldK q = 8 := by unfold toldK; rw [if_pos hq]
  unfold putL
  rw [e1, e2, if_neg (by rw [h11]; decide)]
  exact plain_back q p f s (by omega) e2 (by unfold toldB; rw [decide_eq_true hq, Bool.true_or]) (by rw [e3]; exact hf) h11 h12 hz h hfin hd (fun x => by rw [h8] at x; cases x) (fun _ x => by rw [h9] at x; cases x)
theorem frm_ext {f g : Frm} (h1 : f.kind = g.kind) (h2 : ∀ j, j < 7 → nm f j = nm g j) (h3 : f.fin = g.fin) (h4 : f.data = g.data) (h5 : f.cid = g.cid) (h6 : f.token = g.token) (h7 : f.set = g.set) : f = g := by
  have a0 := h2 0 (by decide)
  have a1 := h2 1 (by decide)
  have a2 := h2 2 (by decide)
  have a3 := h2 3 (by decide)
  have a4 := h2 4 (by decide)
  have a5 := h2 5 (by decide)
  have a6 := h2 6 (by decide)
  simp only [nm] at a0 a1 a2 a3 a4 a5 a6
  cases f; cases g
  simp_all
/-- An Ack. -/
theorem back_ack (f : Frm) (rs : List (Nat × Nat)) (s : List UInt8) (hf : f.kind = 2) (hz : ∀ j, j < 7 → 0 ≤ nm f j ∧ nm f j ≤ 4611686018427387903) (h : Has 2112 f) (ha : ackB (ints rs) = true) :
    frmN (putL f rs ++ s) = some (cn f rs.length, rs, s) := by
  have e1 : (fstN f).toNat = 2 := fst_small (k := 2) (by decide) hf
  have e2 : toldP 2 = 2112 := rfl
  unfold ackB at ha
  rw [Bool.and_eq_true, Bool.and_eq_true, decide_eq_true_iff, decide_eq_true_iff, ints_len, ints_get] at ha
  obtain ⟨⟨hl1, hl2⟩, hm, hh⟩ := ha
  have hm : MayP (ints rs) := of_decide_eq_true hm
  unfold putL
  rw [e1, e2, if_pos (by decide), last_rev rs hl1]
  have hlast := hm (rs.length - 1) (by rw [ints_len]; omega)
  rw [ints_get] at hlast
  have hv := desc_of rs hm (rs.length - 1) (by omega)
  generalize hp : rs.getD (rs.length - 1) (0, 0) = p at *
  obtain ⟨a, b⟩ := p
  simp only at hh hlast hv
  have hdl := (nm_all hz).2.2.2.2.2.2
  have hN := ackN_back f.delay.toNat (by omega) a b (rs.take (rs.length - 1)).reverse s (by omega) (by omega) hv (by rw [List.length_reverse, List.length_take]; omega)
  have er : ((a, b) :: (rs.take (rs.length - 1)).reverse).reverse = rs := by
    rw [← hp, ← last_rev rs hl1, List.reverse_reverse]
  rw [er] at hN
  have e0 : pt 2 = [2] := rfl
  rw [e0]
  show frmN (2 :: (ackP f.delay.toNat ((a, b) :: (rs.take (rs.length - 1)).reverse) ++ s)) = _
  rw [frmN_cons, if_pos (by decide), if_pos (by decide), hN]
  simp only [Option.some.injEq, Prod.mk.injEq, and_true]
  refine frm_ext hf.symm (fun j hj => ?_) (h.fin (by decide)).symm (h.data (by decide)).symm (h.cid (by decide)).symm (h.token (by decide)).symm rfl
  have hj2 : j = 0 ∨ j = 1 ∨ j = 2 ∨ j = 3 ∨ j = 4 ∨ j = 5 ∨ j = 6 := by omega
  rcases hj2 with rfl | rfl | rfl | rfl | rfl | rfl | rfl
  · exact (h.num 0 (by decide) (by decide)).symm
  · exact (h.num 1 (by decide) (by decide)).symm
  · exact (h.num 2 (by decide) (by decide)).symm
  · exact (h.num 3 (by decide) (by decide)).symm
  · exact (h.num 4 (by decide) (by decide)).symm
  · exact (h.num 5 (by decide) (by decide)).symm
  · show ((f.delay.toNat : Nat) : Int) = f.delay
    omega

theorem kind_lt {k : Nat} (h : (partsN k).isSome = true) : k < 31 := by
  unfold partsN at h
  split at h
  all_goals first | omega | cases h
theorem rs_none {f : Frm} {rs : List (Nat × Nat)} {p : Nat} (h : Has p f) (hn : f.set.n = rs.length) (hp : p.testBit 11 = false) : rs = [] := by
  have := h.set hp
  exact List.eq_nil_of_length_eq_zero (by omega)
theorem frm_back (k : Nat) (f : Frm) (rs : List (Nat × Nat)) (s : List UInt8) (hf : f.kind = (k : Nat)) (hn : f.set.n = rs.length) (h0 : ∀ j, j < 7 → 0 ≤ nm f j) (hd : f.data.length ≤ 1000000) (hm : mayF k f (ints rs) = true) : frmN (putL f rs ++ s) = some (cn f rs.length, rs, s) := by
  obtain ⟨h1, h2, h3, h4⟩ := mayF_k hm
  have hz : ∀ j, j < 7 → 0 ≤ nm f j ∧ nm f j ≤ 4611686018427387903 := fun j hj => ⟨h0 j hj, h3 j hj⟩
  have hd2 : f.data.length < 4611686018427387904 := by omega
  have hk := kind_lt h1
  have hc : k = 0 ∨ k = 1 ∨ k = 2 ∨ k = 3 ∨ k = 4 ∨ k = 5 ∨ k = 6 ∨ k = 7 ∨ k = 8 ∨ k = 9 ∨ k = 10 ∨ k = 11 ∨ k = 12 ∨ k = 13 ∨ k = 14 ∨ k = 15 ∨ k = 16 ∨ k = 17 ∨ k = 18 ∨ k = 19 ∨ k = 20 ∨ k = 21 ∨ k = 22 ∨ k = 23 ∨ k = 24 ∨ k = 25 ∨ k = 26 ∨ k = 27 ∨ k = 28 ∨ k = 29 ∨ k = 30 := by omega
  clear hk hm
  rcases hc with rfl | rfl | rfl | rfl | rfl | rfl | rfl | rfl | rfl | rfl | rfl | rfl | rfl | rfl | rfl | rfl | rfl | rfl | rfl | rfl | rfl | rfl | rfl | rfl | rfl | rfl | rfl | rfl | rfl | rfl | rfl
  · obtain rfl := rs_none h2 hn (by decide)
    exact back_k 0 _ f s (by decide) rfl (by decide) hf (by decide) (by decide) (by decide) (by decide) hz h2 hd2 (fun x => absurd x (by decide)) (fun _ x => absurd x (by decide))
  · obtain rfl := rs_none h2 hn (by decide)
    exact back_k 1 _ f s (by decide) rfl (by decide) hf (by decide) (by decide) (by decide) (by decide) hz h2 hd2 (fun x => absurd x (by decide)) (fun _ x => absurd x (by decide))
  · have h2 : Has 2112 f := h2
    have ha : ackB (ints rs) = true := by
      unfold kndB at h4
      rw [hf] at h4
      exact h4
    exact back_ack f rs s hf hz h2 ha
  · exact absurd h1 (by decide)
  · obtain rfl := rs_none h2 hn (by decide)
    exact back_k 4 _ f s (by decide) rfl (by decide) hf (by decide) (by decide) (by decide) (by decide) hz h2 hd2 (fun x => absurd x (by decide)) (fun _ x => absurd x (by decide))
  · obtain rfl := rs_none h2 hn (by decide)
    exact back_k 5 _ f s (by decide) rfl (by decide) hf (by decide) (by decide) (by decide) (by decide) hz h2 hd2 (fun x => absurd x (by decide)) (fun _ x => absurd x (by decide))
  · obtain rfl := rs_none h2 hn (by decide)
    exact back_k 6 _ f s (by decide) rfl (by decide) hf (by decide) (by decide) (by decide) (by decide) hz h2 hd2 (fun x => absurd x (by decide)) (fun _ x => absurd x (by decide))
  · exact absurd h1 (by decide)
  · have h2 : Has 1155 f := h2
    obtain rfl := rs_none h2 hn (by decide)
    have ht := h2.token (by decide)
    have hcd := h2.cid (by decide)
    have hkd : f.kind = 8 := hf
    cases hfin : f.fin with
    | false =>
      by_cases ho : f.off = 0
      · have e1 : (fstN f).toNat = 10 := by unfold fstN; rw [if_pos hkd, hfin, if_pos ho]; rfl
        refine back_8 10 129 f s (by decide) hkd e1 rfl (by decide) (by decide) (by decide) (by decide) hz ⟨fun j hj hb => ?_, fun h => absurd h (by decide), fun _ => hcd, fun _ => ht, fun _ => hfin, fun _ => h2.set (by decide)⟩ (by rw [hfin]; decide) hd2
        have hj2 : j = 0 ∨ j = 1 ∨ j = 2 ∨ j = 3 ∨ j = 4 ∨ j = 5 ∨ j = 6 := by omega
        rcases hj2 with rfl | rfl | rfl | rfl | rfl | rfl | rfl
        · exact absurd hb (by decide)
        · exact ho
        all_goals exact h2.num _ (by decide) (by decide)
      · have e1 : (fstN f).toNat = 14 := by unfold fstN; rw [if_pos hkd, hfin, if_neg ho]; rfl
        refine back_8 14 131 f s (by decide) hkd e1 rfl (by decide) (by decide) (by decide) (by decide) hz ⟨fun j hj hb => ?_, fun h => absurd h (by decide), fun _ => hcd, fun _ => ht, fun _ => hfin, fun _ => h2.set (by decide)⟩ (by rw [hfin]; decide) hd2
        have hj2 : j = 0 ∨ j = 1 ∨ j = 2 ∨ j = 3 ∨ j = 4 ∨ j = 5 ∨ j = 6 := by omega
        rcases hj2 with rfl | rfl | rfl | rfl | rfl | rfl | rfl
        · exact absurd hb (by decide)
        · exact absurd hb (by decide)
        all_goals exact h2.num _ (by decide) (by decide)
    | true =>
      by_cases ho : f.off = 0
      · have e1 : (fstN f).toNat = 11 := by unfold fstN; rw [if_pos hkd, hfin, if_pos ho]; rfl
        refine back_8 11 1153 f s (by decide) hkd e1 rfl (by decide) (by decide) (by decide) (by decide) hz ⟨fun j hj hb => ?_, fun h => absurd h (by decide), fun _ => hcd, fun _ => ht, fun h => absurd h (by decide), fun _ => h2.set (by decide)⟩ (by rw [hfin]; decide) hd2
        have hj2 : j = 0 ∨ j = 1 ∨ j = 2 ∨ j = 3 ∨ j = 4 ∨ j = 5 ∨ j = 6 := by omega
        rcases hj2 with rfl | rfl | rfl | rfl | rfl | rfl | rfl
        · exact absurd hb (by decide)
        · exact ho
        all_goals exact h2.num _ (by decide) (by decide)
      · have e1 : (fstN f).toNat = 15 := by unfold fstN; rw [if_pos hkd, hfin, if_neg ho]; rfl
        exact back_8 15 1155 f s (by decide) hkd e1 rfl (by decide) (by decide) (by decide) (by decide) hz h2 (by rw [hfin]; decide) hd2
  · exact absurd h1 (by decide)
  · exact absurd h1 (by decide)
  · exact absurd h1 (by decide)
  · exact absurd h1 (by decide)
  · exact absurd h1 (by decide)
  · exact absurd h1 (by decide)
  · exact absurd h1 (by decide)
  · obtain rfl := rs_none h2 hn (by decide)
    exact back_k 16 _ f s (by decide) rfl (by decide) hf (by decide) (by decide) (by decide) (by decide) hz h2 hd2 (fun x => absurd x (by decide)) (fun _ x => absurd x (by decide))
  · obtain rfl := rs_none h2 hn (by decide)
    exact back_k 17 _ f s (by decide) rfl (by decide) hf (by decide) (by decide) (by decide) (by decide) hz h2 hd2 (fun x => absurd x (by decide)) (fun _ x => absurd x (by decide))
  · obtain rfl := rs_none h2 hn (by decide)
    exact back_k 18 _ f s (by decide) rfl (by decide) hf (by decide) (by decide) (by decide) (by decide) hz h2 hd2 (fun x => absurd x (by decide)) (fun _ x => absurd x (by decide))
  · obtain rfl := rs_none h2 hn (by decide)
    exact back_k 19 _ f s (by decide) rfl (by decide) hf (by decide) (by decide) (by decide) (by decide) hz h2 hd2 (fun x => absurd x (by decide)) (fun _ x => absurd x (by decide))
  · obtain rfl := rs_none h2 hn (by decide)
    exact back_k 20 _ f s (by decide) rfl (by decide) hf (by decide) (by decide) (by decide) (by decide) hz h2 hd2 (fun x => absurd x (by decide)) (fun _ x => absurd x (by decide))
  · obtain rfl := rs_none h2 hn (by decide)
    exact back_k 21 _ f s (by decide) rfl (by decide) hf (by decide) (by decide) (by decide) (by decide) hz h2 hd2 (fun x => absurd x (by decide)) (fun _ x => absurd x (by decide))
  · obtain rfl := rs_none h2 hn (by decide)
    exact back_k 22 _ f s (by decide) rfl (by decide) hf (by decide) (by decide) (by decide) (by decide) hz h2 hd2 (fun x => absurd x (by decide)) (fun _ x => absurd x (by decide))
  · obtain rfl := rs_none h2 hn (by decide)
    exact back_k 23 _ f s (by decide) rfl (by decide) hf (by decide) (by decide) (by decide) (by decide) hz h2 hd2 (fun x => absurd x (by decide)) (fun _ x => absurd x (by decide))
  · obtain rfl := rs_none h2 hn (by decide)
    have hx : f.cid.length = 8 ∧ f.token.length = 16 := by
      unfold kndB at h4
      rw [hf] at h4
      have h5 : (decide (f.prior ≤ f.seq) && decide (f.cid.length = 8) && decide (f.token.length = 16)) = true := h4
      rw [Bool.and_eq_true, Bool.and_eq_true] at h5
      exact ⟨of_decide_eq_true h5.1.2, of_decide_eq_true h5.2⟩
    exact back_k 24 _ f s (by decide) rfl (by decide) hf (by decide) (by decide) (by decide) (by decide) hz h2 hd2 (fun _ => hx) (fun x => absurd x (by decide))
  · obtain rfl := rs_none h2 hn (by decide)
    exact back_k 25 _ f s (by decide) rfl (by decide) hf (by decide) (by decide) (by decide) (by decide) hz h2 hd2 (fun x => absurd x (by decide)) (fun _ x => absurd x (by decide))
  · obtain rfl := rs_none h2 hn (by decide)
    have hx : f.token.length = 8 := by
      unfold kndB at h4
      rw [hf] at h4
      have h5 : decide (f.token.length = 8) = true := h4
      exact of_decide_eq_true h5
    exact back_k 26 _ f s (by decide) rfl (by decide) hf (by decide) (by decide) (by decide) (by decide) hz h2 hd2 (fun x => absurd x (by decide)) (fun _ _ => hx)
  · obtain rfl := rs_none h2 hn (by decide)
    have hx : f.token.length = 8 := by
      unfold kndB at h4
      rw [hf] at h4
      have h5 : decide (f.token.length = 8) = true := h4
      exact of_decide_eq_true h5
    exact back_k 27 _ f s (by decide) rfl (by decide) hf (by decide) (by decide) (by decide) (by decide) hz h2 hd2 (fun x => absurd x (by decide)) (fun _ _ => hx)
  · obtain rfl := rs_none h2 hn (by decide)
    exact back_k 28 _ f s (by decide) rfl (by decide) hf (by decide) (by decide) (by decide) (by decide) hz h2 hd2 (fun x => absurd x (by decide)) (fun _ x => absurd x (by decide))
  · obtain rfl := rs_none h2 hn (by decide)
    exact back_k 29 _ f s (by decide) rfl (by decide) hf (by decide) (by decide) (by decide) (by decide) hz h2 hd2 (fun x => absurd x (by decide)) (fun _ x => absurd x (by decide))
  · obtain rfl := rs_none h2 hn (by decide)
    exact back_k 30 _ f s (by decide) rfl (by decide) hf (by decide) (by decide) (by decide) (by decide) hz h2 hd2 (fun x => absurd x (by decide)) (fun _ x => absurd x (by decide))
theorem get_back (k : Nat) (f : Frm) (rs : List (Nat × Nat)) (s : List UInt8) (hf : f.kind = (k : Nat)) (hn : f.set.n = rs.length) (h0 : ∀ j, j < 7 → 0 ≤ nm f j) (hd : f.data.length ≤ 1000000) (hm : mayF k f (ints rs) = true) : getN (putL f rs ++ s) = some (cn f rs.length, rs, s) := by
  unfold getN
  rw [frm_back k f rs s hf hn h0 hd hm]
  have e : mayF k (cn f rs.length) (ints rs) = true := by
    rw [← hm]
    exact may_cn k f (ints rs) ⟨none, rs.length, 0⟩ hn.symm
  have ek : (cn f rs.length).kind.toNat = k := by
    show f.kind.toNat = k
    rw [hf]; omega
  simp only [ek, e, if_true]
theorem getN_frm {l : List UInt8} {x : Frm × List (Nat × Nat) × List UInt8} (h : getN l = some x) : frmN l = some x ∧ mayF x.1.kind.toNat x.1 (ints x.2.1) = true := by
  unfold getN at h
  split at h
  · cases h
  · rename_i f rs r hf
    split at h
    · rename_i hm
      cases h
      exact ⟨hf, hm⟩
    · cases h
/-- A frame's bytes, cut: none. -/
theorem cut_none (k : Nat) (f : Frm) (rs : List (Nat × Nat)) (hf : f.kind = (k : Nat)) (hn : f.set.n = rs.length) (h0 : ∀ j, j < 7 → 0 ≤ nm f j) (hd : f.data.length ≤ 1000000) (hm : mayF k f (ints rs) = true) (h12 : ∀ c t, putL f rs = c :: t → (toldP c.toNat).testBit 12 = false) (n : Nat) (hlt : n < (putL f rs).length) : frmN ((putL f rs).take n) = none := by
  have hb := frm_back k f rs [] hf hn h0 hd hm
  rw [List.append_nil] at hb
  match hx : frmN ((putL f rs).take n) with
  | none => rfl
  | some (g, rs', r) =>
    exfalso
    match ht : (putL f rs).take n with
    | [] => rw [ht] at hx; cases hx
    | c :: t =>
      obtain ⟨c', t', hc⟩ : ∃ c' t', putL f rs = c' :: t' := by
        cases hp : putL f rs with
        | nil => rw [hp] at hlt; exact absurd hlt (by simp)
        | cons c' t' => exact ⟨c', t', rfl⟩
      have hcc : c = c' := by
        cases n with
        | zero => rw [List.take_zero] at ht; cases ht
        | succ n => rw [hc, List.take_succ_cons] at ht; cases ht; rfl
      rw [ht] at hx
      have h2 := frmN_app ((putL f rs).drop n) (by rw [hcc]; exact h12 c' t' hc) hx
      rw [← ht, List.take_append_drop, hb] at h2
      simp only [Option.some.injEq, Prod.mk.injEq] at h2
      have h3 : ([] : List UInt8).length = (r ++ (putL f rs).drop n).length := by rw [h2.2.2]
      rw [List.length_append, List.length_drop] at h3
      simp at h3
      omega
end Go.Proofs.YtfeecfdbncjmnaaDoor.Fm
