/- Layer 10's mathematics: no two numbers are mixed to the same one; what is drawn. Nothing of the program is walked here. By hand. -/
import Derived.Test.YtffjnfoleofffaaVmM
namespace Go.Proofs.Ytffjnfoleofffaa.Id
open Vm

/-- A number laid on its own highest bits. -/
def sx (k z : Nat) : Nat := z ^^^ z / 2 ^ k
def mixN (z : Nat) : Nat := sx 31 (sx 27 (sx 30 ((z + 11400714819323198485) % 18446744073709551616) * 13787848793156543929 % 18446744073709551616) * 10723151780598845931 % 18446744073709551616)
theorem div_bit (z k i : Nat) : (z / 2 ^ k).testBit i = z.testBit (k + i) := by
  rw [← Nat.shiftRight_eq_div_pow, Nat.testBit_shiftRight]
theorem sx_bit (k z i : Nat) : (sx k z).testBit i = (z.testBit i ^^ z.testBit (k + i)) := by
  unfold sx
  rw [Nat.testBit_xor, div_bit]
theorem sx_lt (k z : Nat) (h : z < 18446744073709551616) : sx k z < 18446744073709551616 := by
  have h1 : z / 2 ^ k < 2 ^ 64 := Nat.lt_of_le_of_lt (Nat.div_le_self _ _) h
  exact Nat.xor_lt_two_pow (n := 64) h h1
theorem sx_inj (k a b : Nat) (hk : 0 < k) (ha : a < 18446744073709551616) (hb : b < 18446744073709551616) (h : sx k a = sx k b) : a = b := by
  have top : ∀ i, 64 ≤ i → a.testBit i = b.testBit i := fun i hi => by
    have h2 : (2 : Nat) ^ 64 ≤ 2 ^ i := Nat.pow_le_pow_right (by decide) hi
    rw [Nat.testBit_lt_two_pow (Nat.lt_of_lt_of_le ha h2), Nat.testBit_lt_two_pow (Nat.lt_of_lt_of_le hb h2)]
  have all : ∀ n i, 64 ≤ i + n → a.testBit i = b.testBit i := by
    intro n
    induction n using Nat.strongRecOn with
    | _ n ih =>
      intro i hi
      by_cases h64 : 64 ≤ i
      · exact top i h64
      · have h1 := congrArg (fun z => z.testBit i) h
        simp only [sx_bit] at h1
        have h2 : a.testBit (k + i) = b.testBit (k + i) := by
          by_cases hn : n ≤ k
          · exact top (k + i) (by omega)
          · exact ih (n - k) (by omega) (k + i) (by omega)
        rw [h2] at h1
        cases ha' : a.testBit i <;> cases hb' : b.testBit i <;> cases hc : b.testBit (k + i) <;> simp_all
  exact Nat.eq_of_testBit_eq fun i => all 64 i (by omega)
theorem mul_inj (C D a b : Nat) (hCD : C * D % 18446744073709551616 = 1) (ha : a < 18446744073709551616) (hb : b < 18446744073709551616) (h : a * C % 18446744073709551616 = b * C % 18446744073709551616) : a = b := by
  have e : ∀ x : Nat, x < 18446744073709551616 → x * C % 18446744073709551616 * D % 18446744073709551616 = x := fun x hx => by
    rw [Nat.mod_mul_mod, Nat.mul_assoc, ← Nat.mul_mod_mod, hCD, Nat.mul_one, Nat.mod_eq_of_lt hx]
  rw [← e a ha, ← e b hb, h]
theorem mix_lt (z : Nat) : mixN z < 18446744073709551616 := sx_lt _ _ (Nat.mod_lt _ (by decide))
theorem m64 (x : Nat) : x % 18446744073709551616 < 18446744073709551616 := Nat.mod_lt x (by decide)
theorem inv1 : 13787848793156543929 * 10871156337175269513 % 18446744073709551616 = 1 := by decide
theorem inv2 : 10723151780598845931 * 3573116690164977347 % 18446744073709551616 = 1 := by decide
theorem add_inj (a b : Nat) (ha : a < 18446744073709551616) (hb : b < 18446744073709551616) (h : (a + 11400714819323198485) % 18446744073709551616 = (b + 11400714819323198485) % 18446744073709551616) : a = b := by omega
theorem mix_inj (a b : Nat) (ha : a < 18446744073709551616) (hb : b < 18446744073709551616) (h : mixN a = mixN b) : a = b := by
  unfold mixN at h
  have k1 := m64 (a + 11400714819323198485)
  have k2 := m64 (b + 11400714819323198485)
  have h0 := add_inj a b ha hb
  generalize (a + 11400714819323198485) % 18446744073709551616 = x at *
  generalize (b + 11400714819323198485) % 18446744073709551616 = y at *
  have h1 := sx_inj 31 _ _ (by decide) (m64 _) (m64 _) h
  have h2 := mul_inj _ _ _ _ inv2 (sx_lt _ _ (m64 _)) (sx_lt _ _ (m64 _)) h1
  have h3 := sx_inj 27 _ _ (by decide) (m64 _) (m64 _) h2
  have h4 := mul_inj _ _ _ _ inv1 (sx_lt _ _ k1) (sx_lt _ _ k2) h3
  exact h0 (sx_inj 30 _ _ (by decide) k1 k2 h4)
/-- Texts one behind the other. -/
def cat8 (g : Nat → List UInt8) : Nat → List UInt8
  | 0 => []
  | j + 1 => cat8 g j ++ g j
theorem cat8_succ (g : Nat → List UInt8) (j : Nat) : cat8 g (j + 1) = cat8 g j ++ g j := rfl
/-- The bytes of a number that is mixed, of those from b on. -/
def wrd (b j : Nat) : List UInt8 := fx (mixN ((b + j) % 18446744073709551616)) 8
theorem wrd_len (b j : Nat) : (wrd b j).length = 8 := fx_length _ _
def drw (b j : Nat) : List UInt8 := cat8 (wrd b) j
theorem drw_zero (b : Nat) : drw b 0 = [] := rfl
theorem drw_succ (b j : Nat) : drw b (j + 1) = drw b j ++ wrd b j := cat8_succ _ _
theorem drw_len (b : Nat) : ∀ j, (drw b j).length = 8 * j
  | 0 => by rw [drw_zero]; rfl
  | j + 1 => by rw [drw_succ, List.length_append, drw_len b j, wrd_len]; omega
theorem drw_pre (b : Nat) (j : Nat) : ∀ m, (drw b (j + m)).take (8 * j) = drw b j
  | 0 => by rw [Nat.add_zero, List.take_of_length_le (by rw [drw_len]; exact Nat.le_refl _)]
  | m + 1 => by
    rw [← Nat.add_assoc, drw_succ, List.take_append_of_le_length (by rw [drw_len]; omega)]
    exact drw_pre b j m
/-- What is drawn: so many bytes of them. -/
def drawN (b n : Nat) : List UInt8 := (drw b (n / 8 + 1)).take n
theorem drawN_len (b n : Nat) : (drawN b n).length = n := by
  unfold drawN
  rw [List.length_take, drw_len]
  omega
theorem drawN_of (b n j : Nat) (h : n ≤ 8 * j) : (drw b j).take n = drawN b n := by
  unfold drawN
  rcases Nat.le_total j (n / 8 + 1) with hj | hj
  · obtain ⟨m, hm⟩ : ∃ m, n / 8 + 1 = j + m := ⟨n / 8 + 1 - j, by omega⟩
    rw [hm, ← drw_pre b j m, List.take_take, Nat.min_eq_left h]
  · obtain ⟨m, hm⟩ : ∃ m, j = (n / 8 + 1) + m := ⟨j - (n / 8 + 1), by omega⟩
    rw [hm, ← drw_pre b (n / 8 + 1) m, List.take_take, Nat.min_eq_left (by omega)]
/-- A longer draw begins by a shorter one. -/
theorem drawN_take (b n k : Nat) (h : k ≤ n) : (drawN b n).take k = drawN b k := by
  rw [← drawN_of b k (n / 8 + 1) (by omega)]
  unfold drawN
  rw [List.take_take, Nat.min_eq_left h]
theorem draw8 (b : Nat) (hb : b < 18446744073709551616) : drawN b 8 = fx (mixN b) 8 := by
  rw [← drawN_of b 8 1 (by decide), show (1 : Nat) = 0 + 1 from rfl, drw_succ, drw_zero, List.nil_append, List.take_of_length_le (by rw [wrd_len]; exact Nat.le_refl _)]
  unfold wrd
  rw [Nat.add_zero, Nat.mod_eq_of_lt hb]
theorem fx8_inj (a b : Nat) (ha : a < 18446744073709551616) (hb : b < 18446744073709551616) : fx a 8 = fx b 8 ↔ a = b := fx_inj a b 8 ha hb
/-- The first eight bytes that are drawn of unlike bases are unlike. -/
theorem draw8_inj (a b : Nat) (ha : a < 18446744073709551616) (hb : b < 18446744073709551616) : drawN a 8 = drawN b 8 ↔ a = b := by
  rw [draw8 a ha, draw8 b hb, fx8_inj _ _ (mix_lt _) (mix_lt _)]
  exact ⟨mix_inj a b ha hb, fun h => by rw [h]⟩
/-- A seed's connection ID. -/
def idN (s i : Nat) : List UInt8 := fx (mixN ((s + i + 9223372036854775808) % 18446744073709551616)) 8
theorem idN_inj (s a b : Nat) (ha : a < 18446744073709551616) (hb : b < 18446744073709551616) : idN s a = idN s b ↔ a = b := by
  unfold idN
  rw [fx8_inj _ _ (mix_lt _) (mix_lt _)]
  constructor
  · intro h
    have := mix_inj _ _ (Nat.mod_lt _ (by decide)) (Nat.mod_lt _ (by decide)) h
    omega
  · intro h; rw [h]
/-- What bytes are drawn of, by the document's words: Mix of the sum of Mix of the seed, and of the index. -/
def baseN (s i : Nat) : Nat := mixN ((mixN s + i) % 18446744073709551616)
theorem baseN_lt (s i : Nat) : baseN s i < 18446744073709551616 := mix_lt _
theorem baseN_inj (s a b : Nat) (ha : a < 18446744073709551616) (hb : b < 18446744073709551616) : baseN s a = baseN s b ↔ a = b := by
  unfold baseN
  constructor
  · intro h
    have h1 := mix_inj _ _ (Nat.mod_lt _ (by decide)) (Nat.mod_lt _ (by decide)) h
    have h2 := mix_lt s
    omega
  · intro h; rw [h]
end Go.Proofs.Ytffjnfoleofffaa.Id
