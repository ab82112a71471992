/- Plain mathematics of numbers as bytes, the highest first. Nothing of the program stands here. · Layer 9's mathematics: the blocks of a key, a nonce and a counter, on natural numbers; texts laid on such. Nothing of the program is walked here -/

namespace Go.Proofs.YtojoalmldapboaaGreatDoor.Vm
set_option maxRecDepth 20000

/-- The lowest k bytes of n, the highest first. -/
def fx (n : Nat) : Nat → List UInt8
  | 0 => []
  | k + 1 => UInt8.ofNat (n / 256 ^ k % 256) :: fx n k
/-- The number of bytes. -/
def bk (l : List UInt8) : Nat := l.foldl (fun a b => a * 256 + b.toNat) 0

theorem fx_length (n k : Nat) : (fx n k).length = k := by
  induction k with
  | zero => rfl
  | succ k ih => simp [fx, ih]
theorem bk_snoc (l : List UInt8) (b : UInt8) : bk (l ++ [b]) = bk l * 256 + b.toNat := by simp [bk]
theorem bk_nil : bk [] = 0 := rfl
theorem bk_acc (l : List UInt8) (a : Nat) : l.foldl (fun a b => a * 256 + b.toNat) a = a * 256 ^ l.length + bk l := by
  unfold bk
  induction l generalizing a with
  | nil => simp
  | cons b l ih =>
    simp only [List.foldl_cons, List.length_cons]
    rw [ih, ih (0 * 256 + b.toNat), Nat.pow_succ, Nat.add_mul, Nat.zero_mul, Nat.zero_add, Nat.mul_assoc, Nat.mul_comm 256]
    omega
theorem bk_cons (b : UInt8) (l : List UInt8) : bk (b :: l) = b.toNat * 256 ^ l.length + bk l := by
  have := bk_acc l (0 * 256 + b.toNat)
  simp only [Nat.zero_mul, Nat.zero_add] at this
  show List.foldl _ (0 * 256 + b.toNat) l = _
  simp only [Nat.zero_mul, Nat.zero_add]
  exact this
theorem bk_lt (l : List UInt8) : bk l < 256 ^ l.length := by
  induction l with
  | nil => simp [bk_nil]
  | cons b l ih =>
    rw [bk_cons, List.length_cons, Nat.pow_succ]
    have hb := b.toNat_lt
    have : b.toNat * 256 ^ l.length ≤ 255 * 256 ^ l.length := Nat.mul_le_mul_right _ (by omega)
    omega
theorem bk_fx (n k : Nat) : bk (fx n k) = n % 256 ^ k := by
  induction k with
  | zero => simp [fx, bk_nil, Nat.mod_one]
  | succ k ih =>
    rw [fx, bk_cons, fx_length, ih, Nat.pow_succ, Nat.mod_mul]
    have : (UInt8.ofNat (n / 256 ^ k % 256)).toNat = n / 256 ^ k % 256 := by
      rw [UInt8.toNat_ofNat']; omega
    rw [this, Nat.mul_comm]; omega
theorem fx_succ (n k : Nat) : fx n (k + 1) = UInt8.ofNat (n / 256 ^ k % 256) :: fx n k := rfl
/-- The place of the shortest form of n among 1, 2, 4 and 8 bytes; 4: none. -/
def pl (n : Nat) : Nat := if n < 64 then 0 else if n < 16384 then 1 else if n < 1073741824 then 2 else if n < 4611686018427387904 then 3 else 4
/-- How many bytes a place has. -/
def wd (p : Nat) : Nat := 2 ^ p
/-- The bytes of n. -/
def pt (n : Nat) : List UInt8 := fx (pl n * 2 ^ (8 * wd (pl n) - 2) + n) (wd (pl n))
def gw (b : UInt8) : Nat := wd (b.toNat / 64)
def gn (l : List UInt8) (k : Nat) : Nat := bk (l.take k) % 2 ^ (8 * k - 2)

theorem pl_cases (n : Nat) : (pl n = 0 ∧ n < 64) ∨ (pl n = 1 ∧ 64 ≤ n ∧ n < 16384) ∨ (pl n = 2 ∧ 16384 ≤ n ∧ n < 1073741824) ∨ (pl n = 3 ∧ 1073741824 ≤ n ∧ n < 4611686018427387904) ∨ (pl n = 4 ∧ 4611686018427387904 ≤ n) := by
  unfold pl
  split
  · omega
  · split
    · omega
    · split
      · omega
      · split <;> omega
theorem pl_le (n : Nat) : pl n ≤ 4 := by have := pl_cases n; omega
theorem pt_length (n : Nat) : (pt n).length = wd (pl n) := fx_length _ _
theorem pt_head (n : Nat) (h : pl n < 4) : ∃ b r, pt n = b :: r ∧ gw b = wd (pl n) ∧ r.length + 1 = wd (pl n) := by
  unfold pt gw
  have hp := pl_cases n
  rcases hp with ⟨hp, h1⟩ | ⟨hp, h1, h2⟩ | ⟨hp, h1, h2⟩ | ⟨hp, h1, h2⟩ | ⟨hp, h1⟩
  all_goals rw [hp]
  all_goals try (exfalso; omega)
  all_goals refine ⟨_, _, rfl, ?_, by rw [fx_length]; rfl⟩
  all_goals
    rw [UInt8.toNat_ofNat']
    simp only [wd]
    congr 1
    simp
    omega
theorem pt_back (n : Nat) (h : pl n < 4) (s : List UInt8) : gn (pt n ++ s) (wd (pl n)) = n := by
  unfold gn
  rw [show (pt n ++ s).take (wd (pl n)) = pt n by rw [← pt_length n]; simp]
  unfold pt
  rw [bk_fx]
  have hp := pl_cases n
  rcases hp with ⟨hp, h1⟩ | ⟨hp, h1, h2⟩ | ⟨hp, h1, h2⟩ | ⟨hp, h1, h2⟩ | ⟨hp, h1⟩
  all_goals rw [hp]
  all_goals simp [wd]
  all_goals omega
end Go.Proofs.YtojoalmldapboaaGreatDoor.Vm
namespace Go.Proofs.YtojoalmldapboaaGreatDoor.Se
set_option maxRecDepth 20000
set_option linter.unusedVariables false
set_option linter.unusedSimpArgs false

/-- A number of 32 bits, turned to the left. -/
def rl (x n : Nat) : Nat := x * 2 ^ n % 4294967296 + x / 2 ^ (32 - n)
theorem rl_lt (x n : Nat) (hx : x < 4294967296) (hn : n ≤ 32) : rl x n < 4294967296 := by
  unfold rl
  have e : (4294967296 : Nat) = 2 ^ n * 2 ^ (32 - n) := by rw [← Nat.pow_add, show n + (32 - n) = 32 by omega]
  have h1 : x * 2 ^ n % 4294967296 = x % 2 ^ (32 - n) * 2 ^ n := by
    rw [e, Nat.mul_comm (2 ^ n) (2 ^ (32 - n)), Nat.mul_mod_mul_right]
  have h2 : x / 2 ^ (32 - n) < 2 ^ n := by
    rw [Nat.div_lt_iff_lt_mul (Nat.two_pow_pos _), ← e]; exact hx
  have h3 : x % 2 ^ (32 - n) < 2 ^ (32 - n) := Nat.mod_lt _ (Nat.two_pow_pos _)
  rw [h1]
  have h4 : (x % 2 ^ (32 - n) + 1) * 2 ^ n ≤ 2 ^ (32 - n) * 2 ^ n := Nat.mul_le_mul_right _ h3
  rw [Nat.add_mul, Nat.one_mul, Nat.mul_comm (2 ^ (32 - n)), ← e] at h4
  omega
/-- Words that are mixed: one is added to another, the sum laid on a third, and that turned. -/
def mixW (w : List Nat) (s a o n : Nat) : List Nat :=
  let w1 := w.set s ((w.getD s 0 + w.getD a 0) % 4294967296)
  w1.set o (rl (w1.getD o 0 ^^^ w1.getD s 0) n)
def quarterW (w : List Nat) (a b c d : Nat) : List Nat := mixW (mixW (mixW (mixW w a b d 16) c d b 12) a b d 8) c d b 7
def twiceW (w : List Nat) : List Nat :=
  quarterW (quarterW (quarterW (quarterW (quarterW (quarterW (quarterW (quarterW w 0 4 8 12) 1 5 9 13) 2 6 10 14) 3 7 11 15) 0 5 10 15) 1 6 11 12) 2 7 8 13) 3 4 9 14
def rounds : Nat → List Nat → List Nat
  | 0, w => w
  | n + 1, w => twiceW (rounds n w)
theorem mixW_len (w : List Nat) (s a o n : Nat) : (mixW w s a o n).length = w.length := by simp [mixW]
theorem quarterW_len (w : List Nat) (a b c d : Nat) : (quarterW w a b c d).length = w.length := by simp [quarterW, mixW_len]
theorem twiceW_len (w : List Nat) : (twiceW w).length = w.length := by simp [twiceW, quarterW_len]
theorem rounds_len (n : Nat) (w : List Nat) : (rounds n w).length = w.length := by
  induction n with
  | zero => rfl
  | succ n ih => rw [rounds, twiceW_len, ih]
/-- All words are of 32 bits. -/
def W32 (w : List Nat) : Prop := ∀ x ∈ w, x < 4294967296
theorem W32.get {w : List Nat} (h : W32 w) (i : Nat) : w.getD i 0 < 4294967296 := by
  rw [List.getD_eq_getElem?_getD]
  by_cases hi : i < w.length
  · rw [List.getElem?_eq_getElem hi]; exact h _ (List.getElem_mem hi)
  · rw [List.getElem?_eq_none (by omega)]; decide
theorem W32.set {w : List Nat} (h : W32 w) (i x : Nat) (hx : x < 4294967296) : W32 (w.set i x) := by
  intro y hy
  rcases List.mem_or_eq_of_mem_set hy with h1 | rfl
  · exact h y h1
  · exact hx
theorem W32.mix {w : List Nat} (h : W32 w) (s a o n : Nat) (hn : n ≤ 32) : W32 (mixW w s a o n) := by
  have h1 := h.set s ((w.getD s 0 + w.getD a 0) % 4294967296) (Nat.mod_lt _ (by decide))
  exact h1.set o _ (rl_lt _ _ (Nat.xor_lt_two_pow (n := 32) (h1.get o) (h1.get s)) hn)
theorem W32.quarter {w : List Nat} (h : W32 w) (a b c d : Nat) : W32 (quarterW w a b c d) :=
  (((h.mix a b d 16 (by decide)).mix c d b 12 (by decide)).mix a b d 8 (by decide)).mix c d b 7 (by decide)
theorem W32.twice {w : List Nat} (h : W32 w) : W32 (twiceW w) :=
  (((((((h.quarter _ _ _ _).quarter _ _ _ _).quarter _ _ _ _).quarter _ _ _ _).quarter _ _ _ _).quarter _ _ _ _).quarter _ _ _ _).quarter _ _ _ _
theorem W32.rounds {w : List Nat} (h : W32 w) (n : Nat) : W32 (rounds n w) := by
  induction n with
  | zero => exact h
  | succ n ih => exact ih.twice
/-- A number's four bytes, the lowest one first. -/
def le4 (n : Nat) : List UInt8 := [UInt8.ofNat n, UInt8.ofNat (n / 256), UInt8.ofNat (n / 65536), UInt8.ofNat (n / 16777216)]
def les (w : List Nat) : List UInt8 := w.flatMap le4
theorem les_len (w : List Nat) : (les w).length = 4 * w.length := by
  induction w with
  | nil => rfl
  | cons x w ih =>
    have : les (x :: w) = le4 x ++ les w := by simp [les]
    rw [this, List.length_append, ih, show (le4 x).length = 4 from rfl, List.length_cons]; omega
/-- The number that four bytes of a text tell, the lowest one first; bytes behind its end are 0. -/
def lw (s : List UInt8) (i : Nat) : Nat := (s.getD (4 * i) 0).toNat + 256 * (s.getD (4 * i + 1) 0).toNat + 65536 * (s.getD (4 * i + 2) 0).toNat + 16777216 * (s.getD (4 * i + 3) 0).toNat
theorem lw_lt (s : List UInt8) (i : Nat) : lw s i < 4294967296 := by
  unfold lw
  have h0 := (s.getD (4 * i) 0).toNat_lt
  have h1 := (s.getD (4 * i + 1) 0).toNat_lt
  have h2 := (s.getD (4 * i + 2) 0).toNat_lt
  have h3 := (s.getD (4 * i + 3) 0).toNat_lt
  omega
/-- What a block is made of. -/
def ini (key nonce : List UInt8) (c : Nat) : List Nat := [1634760805, 857760878, 2036477234, 1797285236, lw key 0, lw key 1, lw key 2, lw key 3, lw key 4, lw key 5, lw key 6, lw key 7, c, lw nonce 0, lw nonce 1, lw nonce 2]
theorem ini_32 (key nonce : List UInt8) (c : Nat) (hc : c < 4294967296) : W32 (ini key nonce c) := by
  intro x hx
  simp only [ini, List.mem_cons, List.not_mem_nil, or_false] at hx
  rcases hx with rfl | rfl | rfl | rfl | rfl | rfl | rfl | rfl | rfl | rfl | rfl | rfl | rfl | rfl | rfl | rfl <;> first | decide | exact lw_lt _ _ | exact hc
def sumW (a b : List Nat) : List Nat := List.zipWith (fun x y => (x + y) % 4294967296) a b
theorem sumW_len (a b : List Nat) : (sumW a b).length = min a.length b.length := by simp [sumW]
/-- The block of a key, a nonce, a counter. -/
def blk (key nonce : List UInt8) (c : Nat) : List UInt8 := les (sumW (rounds 10 (ini key nonce c)) (ini key nonce c))
theorem blk_len (key nonce : List UInt8) (c : Nat) : (blk key nonce c).length = 64 := by
  unfold blk
  rw [les_len, sumW_len, rounds_len]
  rfl
/-- The known block begins so. -/
theorem blk_known : (blk [] [] 0).take 4 = [118, 184, 224, 173] := by decide +kernel
/-- A text laid on blocks, from a counter on. -/
def xr (a b : List UInt8) : List UInt8 := List.zipWith (· ^^^ ·) a b
theorem xr_len (a b : List UInt8) : (xr a b).length = min a.length b.length := by simp [xr]
def stm (key nonce : List UInt8) : Nat → Nat → List UInt8 → List UInt8
  | 0, _, _ => []
  | n + 1, c, s => if s = [] then [] else xr s (blk key nonce c) ++ stm key nonce n ((c + 1) % 4294967296) (s.drop 64)
theorem xr_xr : ∀ (a b : List UInt8), a.length ≤ b.length → xr (xr a b) b = a
  | [], _, _ => rfl
  | x :: a, [], h => by simp at h
  | x :: a, y :: b, h => by
    show (x ^^^ y ^^^ y) :: xr (xr a b) b = x :: a
    rw [xr_xr a b (by simpa using h), UInt8.xor_assoc, UInt8.xor_self, UInt8.xor_zero]
theorem xr_take : ∀ (k : Nat) (a b : List UInt8), (xr a b).take k = xr (a.take k) b
  | 0, _, _ => by simp [xr]
  | k + 1, [], b => by simp [xr]
  | k + 1, x :: a, [] => by simp [xr]
  | k + 1, x :: a, y :: b => by
    show (x ^^^ y) :: (xr a b).take k = (x ^^^ y) :: xr (a.take k) b
    rw [xr_take k a b]
theorem xr_cut (a b : List UInt8) : xr a b = xr (a.take b.length) b := by
  have h := xr_take b.length a b
  rw [List.take_of_length_le (by rw [xr_len]; omega)] at h
  exact h
/-- A text of so many bytes wants no more than that many rounds. -/
theorem stm_more (key nonce : List UInt8) : ∀ (n m c : Nat) (s : List UInt8), s.length ≤ 64 * n → s.length ≤ 64 * m → stm key nonce n c s = stm key nonce m c s
  | 0, 0, _, _, _, _ => rfl
  | 0, m + 1, c, s, h, _ => by
    have : s = [] := List.eq_nil_of_length_eq_zero (by omega)
    subst this; rfl
  | n + 1, 0, c, s, _, h => by
    have : s = [] := List.eq_nil_of_length_eq_zero (by omega)
    subst this; rfl
  | n + 1, m + 1, c, s, h1, h2 => by
    unfold stm
    split
    · rfl
    · rw [stm_more key nonce n m _ (s.drop 64) (by rw [List.length_drop]; omega) (by rw [List.length_drop]; omega)]
/-- A text laid on the blocks of a key and a nonce, from a counter on. -/
def stream (key nonce : List UInt8) (c : Nat) (s : List UInt8) : List UInt8 := stm key nonce (s.length / 64 + 1) c s
theorem stream_of (key nonce : List UInt8) (n c : Nat) (s : List UInt8) (h : s.length ≤ 64 * n) : stm key nonce n c s = stream key nonce c s := stm_more _ _ _ _ _ _ h (by omega)
theorem stream_nil (key nonce : List UInt8) (c : Nat) : stream key nonce c [] = [] := rfl
theorem stream_step (key nonce : List UInt8) (c : Nat) (s : List UInt8) (h : s ≠ []) : stream key nonce c s = xr s (blk key nonce c) ++ stream key nonce ((c + 1) % 4294967296) (s.drop 64) := by
  conv => lhs; unfold stream stm
  rw [if_neg h, stream_of _ _ _ _ _ (by rw [List.length_drop]; omega)]
theorem stream_len (key nonce : List UInt8) : ∀ (n c : Nat) (s : List UInt8), s.length ≤ 64 * n → (stream key nonce c s).length = s.length
  | 0, c, s, h => by
    have : s = [] := List.eq_nil_of_length_eq_zero (by omega)
    subst this; rfl
  | n + 1, c, s, h => by
    by_cases hs : s = []
    · subst hs; rfl
    · rw [stream_step _ _ _ _ hs, List.length_append, xr_len, blk_len, stream_len key nonce n _ (s.drop 64) (by rw [List.length_drop]; omega), List.length_drop]
      omega
theorem stream_length (key nonce : List UInt8) (c : Nat) (s : List UInt8) : (stream key nonce c s).length = s.length := stream_len key nonce (s.length / 64 + 1) c s (by omega)
/-- Behind its first block it is the one of the next counter. -/
theorem stream_drop (key nonce : List UInt8) (c : Nat) (s : List UInt8) : (stream key nonce c s).drop 64 = stream key nonce ((c + 1) % 4294967296) (s.drop 64) := by
  by_cases hs : s = []
  · subst hs; rfl
  · rw [stream_step _ _ _ _ hs]
    by_cases h64 : 64 ≤ s.length
    · rw [List.drop_append_of_le_length (by rw [xr_len, blk_len]; omega), List.drop_of_length_le (by rw [xr_len, blk_len]; omega), List.nil_append]
    · rw [List.drop_of_length_le (show s.length ≤ 64 by omega), stream_nil, List.append_nil]
      exact List.drop_of_length_le (by rw [xr_len, blk_len]; omega)
/-- However long it is, it begins the same. -/
theorem stream_take (key nonce : List UInt8) : ∀ (n k c : Nat) (s : List UInt8), s.length ≤ 64 * n → (stream key nonce c s).take k = stream key nonce c (s.take k)
  | 0, k, c, s, h => by
    have : s = [] := List.eq_nil_of_length_eq_zero (by omega)
    subst this
    rw [stream_nil, List.take_nil, stream_nil]
  | n + 1, k, c, s, h => by
    by_cases hs : s = []
    · subst hs
      rw [stream_nil, List.take_nil, stream_nil]
    by_cases hk : k = 0
    · subst hk
      rw [List.take_zero, List.take_zero, stream_nil]
    have ht : s.take k ≠ [] := by
      intro he
      have := congrArg List.length he
      rw [List.length_take, List.length_nil] at this
      have : s.length ≠ 0 := fun h0 => hs (List.eq_nil_of_length_eq_zero h0)
      omega
    rw [stream_step _ _ _ _ hs, stream_step _ _ _ _ ht]
    by_cases hk64 : k ≤ 64
    · have hd : (s.take k).drop 64 = [] := List.drop_of_length_le (by rw [List.length_take]; omega)
      rw [hd, stream_nil, List.append_nil, ← xr_take]
      by_cases h64 : s.length ≤ 64
      · rw [List.drop_of_length_le h64, stream_nil, List.append_nil]
      · rw [List.take_append_of_le_length (by rw [xr_len, blk_len]; omega)]
    · have e1 : xr (s.take k) (blk key nonce c) = xr s (blk key nonce c) := by
        rw [xr_cut (s.take k), xr_cut s, blk_len, List.take_take, Nat.min_eq_left (by omega)]
      rw [e1, List.drop_take, ← stream_take key nonce n (k - 64) _ (s.drop 64) (by rw [List.length_drop]; omega), List.take_append]
      rw [List.take_of_length_le (by rw [xr_len, blk_len]; omega)]
      by_cases h64 : 64 ≤ s.length
      · rw [xr_len, blk_len, Nat.min_eq_right h64]
      · rw [List.drop_of_length_le (by omega), stream_nil, List.take_nil, List.take_nil]
/-- Laid on again it comes back. -/
theorem stream_back (key nonce : List UInt8) : ∀ (n c : Nat) (s : List UInt8), s.length ≤ 64 * n → stream key nonce c (stream key nonce c s) = s
  | 0, c, s, h => by
    have : s = [] := List.eq_nil_of_length_eq_zero (by omega)
    subst this; rfl
  | n + 1, c, s, h => by
    by_cases hs : s = []
    · subst hs; rfl
    have h1 : stream key nonce c s ≠ [] := by
      intro he
      have := stream_length key nonce c s
      rw [he] at this
      exact hs (List.eq_nil_of_length_eq_zero this.symm)
    rw [stream_step _ _ _ _ h1, stream_drop, stream_back key nonce n _ (s.drop 64) (by rw [List.length_drop]; omega)]
    have e : xr (stream key nonce c s) (blk key nonce c) = s.take 64 := by
      rw [xr_cut, blk_len, stream_take key nonce (n + 1) 64 c s h]
      have ht : s.take 64 ≠ [] := by
        intro he
        have := congrArg List.length he
        rw [List.length_take, List.length_nil] at this
        have : s.length ≠ 0 := fun h0 => hs (List.eq_nil_of_length_eq_zero h0)
        omega
      rw [stream_step _ _ _ _ ht, List.drop_of_length_le (by rw [List.length_take]; omega), stream_nil, List.append_nil]
      exact xr_xr _ _ (by rw [List.length_take, blk_len]; omega)
    rw [e, List.take_append_drop]
end Go.Proofs.YtojoalmldapboaaGreatDoor.Se
