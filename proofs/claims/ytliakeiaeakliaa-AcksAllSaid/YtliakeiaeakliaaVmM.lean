/- Plain mathematics of numbers as bytes, the highest first. Nothing of the program stands here. -/
namespace Go.Proofs.Ytliakeiaeakliaa.Vm
set_option maxRecDepth 20000

/-- The lowest k bytes of n, the highest first. -/
def fx (n : Nat) : Nat → List UInt8
  | 0 => []
  | k + 1 => UInt8.ofNat (n / 256 ^ k % 256) :: fx n k
/-- The number of bytes. -/
def bk (l : List UInt8) : Nat := l.foldl (fun a b => a * 256 + b.toNat) 0

theorem fx_length (n k : Nat) : (fx n k).length = k := by
  induction k with
  | zero => rfl
  | succ k ih => simp [fx, ih]
theorem bk_snoc (l : List UInt8) (b : UInt8) : bk (l ++ [b]) = bk l * 256 + b.toNat := by simp [bk]
theorem bk_nil : bk [] = 0 := rfl
theorem bk_acc (l : List UInt8) (a : Nat) : l.foldl (fun a b => a * 256 + b.toNat) a = a * 256 ^ l.length + bk l := by
  unfold bk
  induction l generalizing a with
  | nil => simp
  | cons b l ih =>
    simp only [List.foldl_cons, List.length_cons]
    rw [ih, ih (0 * 256 + b.toNat), Nat.pow_succ, Nat.add_mul, Nat.zero_mul, Nat.zero_add, Nat.mul_assoc, Nat.mul_comm 256]
    omega
theorem bk_cons (b : UInt8) (l : List UInt8) : bk (b :: l) = b.toNat * 256 ^ l.length + bk l := by
  have := bk_acc l (0 * 256 + b.toNat)
  simp only [Nat.zero_mul, Nat.zero_add] at this
  show List.foldl _ (0 * 256 + b.toNat) l = _
  simp only [Nat.zero_mul, Nat.zero_add]
  exact this
theorem bk_lt (l : List UInt8) : bk l < 256 ^ l.length := by
  induction l with
  | nil => simp [bk_nil]
  | cons b l ih =>
    rw [bk_cons, List.length_cons, Nat.pow_succ]
    have hb := b.toNat_lt
    have : b.toNat * 256 ^ l.length ≤ 255 * 256 ^ l.length := Nat.mul_le_mul_right _ (by omega)
    omega
theorem bk_fx (n k : Nat) : bk (fx n k) = n % 256 ^ k := by
  induction k with
  | zero => simp [fx, bk_nil, Nat.mod_one]
  | succ k ih =>
    rw [fx, bk_cons, fx_length, ih, Nat.pow_succ, Nat.mod_mul]
    have : (UInt8.ofNat (n / 256 ^ k % 256)).toNat = n / 256 ^ k % 256 := by
      rw [UInt8.toNat_ofNat']; omega
    rw [this, Nat.mul_comm]; omega
theorem fx_bk_step (P m x u : Nat) (hP : 0 < P) (hu : u < P) : m * (P * 256) + (x * P + u) = (m * 256 + x) * P + u ∧ ((m * 256 + x) * P + u) / P = m * 256 + x := by
  constructor
  · rw [Nat.add_mul, Nat.mul_assoc m 256, Nat.mul_comm 256]; omega
  · rw [Nat.mul_comm, Nat.mul_add_div hP, Nat.div_eq_of_lt hu, Nat.add_zero]
theorem fx_succ (n k : Nat) : fx n (k + 1) = UInt8.ofNat (n / 256 ^ k % 256) :: fx n k := rfl
theorem low_byte (m : Nat) (b : UInt8) : (m * 256 + b.toNat) % 256 = b.toNat := by
  have hb := b.toNat_lt
  omega
theorem fx_bk_aux (l : List UInt8) : ∀ m : Nat, fx (m * 256 ^ l.length + bk l) l.length = l := by
  induction l with
  | nil => intro m; simp [fx]
  | cons b l ih =>
    intro m
    have hp : 0 < 256 ^ l.length := Nat.pow_pos (by decide)
    have e := fx_bk_step (256 ^ l.length) m b.toNat (bk l) hp (bk_lt l)
    rw [bk_cons, List.length_cons, Nat.pow_succ, e.1, fx_succ, ih, e.2, low_byte m b, UInt8.ofNat_toNat]
theorem fx_bk (l : List UInt8) : fx (bk l) l.length = l := by
  have h := fx_bk_aux l 0
  rwa [Nat.zero_mul, Nat.zero_add] at h

/-- Byte strings of one length compare as their numbers do. -/
def less : List UInt8 → List UInt8 → Bool
  | [], [] => false
  | [], _ :: _ => true
  | _ :: _, [] => false
  | a :: l, b :: m => decide (a.toNat < b.toNat) || (a.toNat == b.toNat && less l m)
theorem less_bk (l m : List UInt8) (h : l.length = m.length) : less l m = decide (bk l < bk m) := by
  induction l generalizing m with
  | nil => cases m with
    | nil => simp [less]
    | cons b m => simp at h
  | cons a l ih => cases m with
    | nil => simp at h
    | cons b m =>
      have h' : l.length = m.length := by simpa using h
      rw [less, ih m h', bk_cons, bk_cons, ← h']
      have hl := bk_lt l
      have hm := bk_lt m
      rw [← h'] at hm
      generalize a.toNat = x; generalize b.toNat = y
      generalize 256 ^ l.length = p at *
      generalize bk l = u at *; generalize bk m = v at *
      rcases Nat.lt_trichotomy x y with hxy | hxy | hxy
      · have : (x + 1) * p ≤ y * p := Nat.mul_le_mul_right p hxy
        rw [Nat.add_mul] at this
        have h1 : x * p + u < y * p + v := by omega
        simp [hxy, h1]
      · subst hxy
        simp
      · have : (y + 1) * p ≤ x * p := Nat.mul_le_mul_right p hxy
        rw [Nat.add_mul] at this
        have h1 : ¬ x * p + u < y * p + v := by omega
        have h2 : ¬ x < y := by omega
        have h3 : x ≠ y := by omega
        simp [h1, h2, h3]
theorem fx_inj (a b k : Nat) (ha : a < 256 ^ k) (hb : b < 256 ^ k) : fx a k = fx b k ↔ a = b := by
  constructor
  · intro h
    have := congrArg bk h
    rw [bk_fx, bk_fx, Nat.mod_eq_of_lt ha, Nat.mod_eq_of_lt hb] at this
    exact this
  · intro h; rw [h]

/-- The place of the shortest form of n among 1, 2, 4 and 8 bytes; 4: none. -/
def pl (n : Nat) : Nat := if n < 64 then 0 else if n < 16384 then 1 else if n < 1073741824 then 2 else if n < 4611686018427387904 then 3 else 4
/-- How many bytes a place has. -/
def wd (p : Nat) : Nat := 2 ^ p
def sz (n : Nat) : Nat := if pl n = 4 then 0 else wd (pl n)
/-- The bytes of n. -/
def pt (n : Nat) : List UInt8 := fx (pl n * 2 ^ (8 * wd (pl n) - 2) + n) (wd (pl n))
def gw (b : UInt8) : Nat := wd (b.toNat / 64)
def gn (l : List UInt8) (k : Nat) : Nat := bk (l.take k) % 2 ^ (8 * k - 2)

theorem pl_cases (n : Nat) : (pl n = 0 ∧ n < 64) ∨ (pl n = 1 ∧ 64 ≤ n ∧ n < 16384) ∨ (pl n = 2 ∧ 16384 ≤ n ∧ n < 1073741824) ∨ (pl n = 3 ∧ 1073741824 ≤ n ∧ n < 4611686018427387904) ∨ (pl n = 4 ∧ 4611686018427387904 ≤ n) := by
  unfold pl
  split
  · omega
  · split
    · omega
    · split
      · omega
      · split <;> omega
theorem pl_le (n : Nat) : pl n ≤ 4 := by have := pl_cases n; omega
theorem pt_length (n : Nat) : (pt n).length = wd (pl n) := fx_length _ _
theorem pt_head (n : Nat) (h : pl n < 4) : ∃ b r, pt n = b :: r ∧ gw b = wd (pl n) ∧ r.length + 1 = wd (pl n) := by
  unfold pt gw
  have hp := pl_cases n
  rcases hp with ⟨hp, h1⟩ | ⟨hp, h1, h2⟩ | ⟨hp, h1, h2⟩ | ⟨hp, h1, h2⟩ | ⟨hp, h1⟩
  all_goals rw [hp]
  all_goals try (exfalso; omega)
  all_goals refine ⟨_, _, rfl, ?_, by rw [fx_length]; rfl⟩
  all_goals
    rw [UInt8.toNat_ofNat']
    simp only [wd]
    congr 1
    simp
    omega
theorem pt_back (n : Nat) (h : pl n < 4) (s : List UInt8) : gn (pt n ++ s) (wd (pl n)) = n := by
  unfold gn
  rw [show (pt n ++ s).take (wd (pl n)) = pt n by rw [← pt_length n]; simp]
  unfold pt
  rw [bk_fx]
  have hp := pl_cases n
  rcases hp with ⟨hp, h1⟩ | ⟨hp, h1, h2⟩ | ⟨hp, h1, h2⟩ | ⟨hp, h1, h2⟩ | ⟨hp, h1⟩
  all_goals rw [hp]
  all_goals simp [wd]
  all_goals omega
end Go.Proofs.Ytliakeiaeakliaa.Vm
