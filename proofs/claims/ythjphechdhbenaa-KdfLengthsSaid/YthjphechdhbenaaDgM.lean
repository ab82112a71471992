/- Layer 7's plain mathematics: SHA-256 on natural numbers. By tools/gen-digest-m.py. -/
namespace Go.Proofs.Ythjphechdhbenaa.Dg
set_option maxRecDepth 20000

/-- A word of 32 bits, turned to the right. -/
def rr (x n : Nat) : Nat := x / 2 ^ n + x % 2 ^ n * 2 ^ (32 - n)
def sg0 (x : Nat) : Nat := rr x 7 ^^^ rr x 18 ^^^ x / 8
def sg1 (x : Nat) : Nat := rr x 17 ^^^ rr x 19 ^^^ x / 1024
def bs1 (x : Nat) : Nat := rr x 6 ^^^ rr x 11 ^^^ rr x 25
def bs0 (x : Nat) : Nat := rr x 2 ^^^ rr x 13 ^^^ rr x 22
def ch (e f g : Nat) : Nat := (e &&& f) ^^^ ((4294967295 - e) &&& g)
def mj (a b c : Nat) : Nat := (a &&& b) ^^^ (a &&& c) ^^^ (b &&& c)
/-- The eight words of a state. -/
structure V where
  a : Nat
  b : Nat
  c : Nat
  d : Nat
  e : Nat
  f : Nat
  g : Nat
  h : Nat
def V.ok (v : V) : Prop := v.a < 4294967296 ∧ v.b < 4294967296 ∧ v.c < 4294967296 ∧ v.d < 4294967296 ∧ v.e < 4294967296 ∧ v.f < 4294967296 ∧ v.g < 4294967296 ∧ v.h < 4294967296
def V.toL (v : V) : List Nat := [v.a, v.b, v.c, v.d, v.e, v.f, v.g, v.h]
def t1 (v : V) (x : Nat) : Nat := (v.h + bs1 v.e + ch v.e v.f v.g + x) % 4294967296
def t2 (v : V) : Nat := (bs0 v.a + mj v.a v.b v.c) % 4294967296
/-- One more round; x: the round's word and addend. -/
def rnd (v : V) (x : Nat) : V := ⟨(t1 v x + t2 v) % 4294967296, v.a, v.b, v.c, (v.d + t1 v x) % 4294967296, v.e, v.f, v.g⟩
def wk (w k : Nat) : Nat := (w + k) % 4294967296
def mix (ks ws : List Nat) (v : V) : V := (List.zipWith wk ws ks).foldl rnd v
theorem mix_cons (k w : Nat) (ks ws : List Nat) (v : V) : mix (k :: ks) (w :: ws) v = mix ks ws (rnd v (wk w k)) := by
  simp only [mix, List.zipWith_cons_cons, List.foldl_cons]
theorem mix_nil (ws : List Nat) (v : V) : mix [] ws v = v := by
  simp only [mix, List.zipWith_nil_right, List.foldl_nil]
def plus (v u : V) : V := ⟨(v.a + u.a) % 4294967296, (v.b + u.b) % 4294967296, (v.c + u.c) % 4294967296, (v.d + u.d) % 4294967296, (v.e + u.e) % 4294967296, (v.f + u.f) % 4294967296, (v.g + u.g) % 4294967296, (v.h + u.h) % 4294967296⟩
/-- The number of the first m of the four bytes of word j. -/
def pt (s : List UInt8) (j : Nat) : Nat → Nat
  | 0 => 0
  | m + 1 => pt s j m * 256 + (s.getD (4 * j + m) 0).toNat
def heads (s : List UInt8) : List Nat := [pt s 0 4, pt s 1 4, pt s 2 4, pt s 3 4, pt s 4 4, pt s 5 4, pt s 6 4, pt s 7 4, pt s 8 4, pt s 9 4, pt s 10 4, pt s 11 4, pt s 12 4, pt s 13 4, pt s 14 4, pt s 15 4]
def nx (l : List Nat) : Nat := (l.getD (l.length - 16) 0 + l.getD (l.length - 7) 0 + sg0 (l.getD (l.length - 15) 0) + sg1 (l.getD (l.length - 2) 0)) % 4294967296
/-- The words of the rounds: the first 16 and k more. -/
def ws (s : List UInt8) : Nat → List Nat
  | 0 => heads s
  | k + 1 => ws s k ++ [nx (ws s k)]
def K0 : List Nat := [1116352408, 1899447441, 3049323471, 3921009573, 961987163, 1508970993, 2453635748, 2870763221, 3624381080, 310598401, 607225278, 1426881987, 1925078388, 2162078206, 2614888103, 3248222580, 3835390401, 4022224774, 264347078, 604807628, 770255983, 1249150122, 1555081692, 1996064986, 2554220882, 2821834349, 2952996808, 3210313671, 3336571891, 3584528711, 113926993, 338241895, 666307205, 773529912, 1294757372, 1396182291, 1695183700, 1986661051, 2177026350, 2456956037, 2730485921, 2820302411, 3259730800, 3345764771, 3516065817, 3600352804, 4094571909, 275423344, 430227734, 506948616, 659060556, 883997877, 958139571, 1322822218, 1537002063, 1747873779, 1955562222, 2024104815, 2227730452, 2361852424, 2428436474, 2756734187, 3204031479, 3329325298]
def H0 : V := ⟨1779033703, 3144134277, 1013904242, 2773480762, 1359893119, 2600822924, 528734635, 1541459225⟩
def P0 : List Nat := [2, 3, 5, 7, 11, 13, 17, 19, 23, 29, 31, 37, 41, 43, 47, 53, 59, 61, 67, 71, 73, 79, 83, 89, 97, 101, 103, 107, 109, 113, 127, 131, 137, 139, 149, 151, 157, 163, 167, 173, 179, 181, 191, 193, 197, 199, 211, 223, 227, 229, 233, 239, 241, 251, 257, 263, 269, 271, 277, 281, 283, 293, 307, 311]
def take1 (v : V) (s : List UInt8) : V := plus v (mix K0 (ws s 48) v)
def it {α : Type} (f : α → α) : Nat → α → α
  | 0, a => a
  | n + 1, a => it f n (f a)
theorem it_succ {α : Type} (f : α → α) (n : Nat) (a : α) : it f (n + 1) a = it f n (f a) := rfl
theorem it_zero {α : Type} (f : α → α) (a : α) : it f 0 a = a := rfl
def stepB (p : List UInt8 × V) : List UInt8 × V := (p.1.drop 64, take1 p.2 (p.1.take 64))
def blocks (n : Nat) (s : List UInt8) (v : V) : V := (it stepB n (s, v)).2
theorem blocks_step (n : Nat) (s : List UInt8) (v : V) : blocks (n + 1) s v = blocks n (s.drop 64) (take1 v (s.take 64)) := by
  simp only [blocks, it_succ, stepB]
theorem blocks_none (s : List UInt8) (v : V) : blocks 0 s v = v := by
  simp only [blocks, it_zero]
/-- The bytes of a word, the highest first. -/
def be (x : Nat) : List UInt8 := [UInt8.ofNat (x / 16777216), UInt8.ofNat (x / 65536), UInt8.ofNat (x / 256), UInt8.ofNat x]
def bes (l : List Nat) : List UInt8 := l.flatMap be
def zs (n : Nat) : Nat := (64 - (n + 9) % 64) % 64
def pad (s : List UInt8) : List UInt8 := s ++ [128] ++ List.replicate (zs s.length) 0 ++ bes [8 * s.length / 4294967296, 8 * s.length % 4294967296]
def sha (s : List UInt8) : List UInt8 := bes (blocks ((pad s).length / 64) (pad s) H0).toL

/-- Whether n, which is no multiple of the primes ahead of l, is prime. -/
def isP (n : Nat) : List Nat → Bool
  | [] => true
  | p :: t => if n < p * p then true else if n % p = 0 then false else isP n t
def goP : Nat → Nat → List Nat → List Nat
  | 0, _, l => l
  | k + 1, n, l => if l.length < 64 then goP k (n + 1) (if isP n l = true then l ++ [n] else l) else l
theorem goP_all : goP 310 2 [] = P0 := by decide +kernel
def sq (n : Nat) : Nat := n * n / 18446744073709551616
def cb (n : Nat) : Nat := (n * n / 18446744073709551616 * n + n * n % 18446744073709551616 * n / 18446744073709551616) / 4294967296
def grt (f : Nat → Bool) : Nat → Nat → Nat
  | 0, n => n
  | k + 1, n => grt f k (if f (n ||| 2 ^ k) = true then n ||| 2 ^ k else n)
def rt (p : Nat → Nat) (q : Nat) : Nat := grt (fun n => decide (p n < q)) 35 0 % 4294967296
theorem rt_sq : (P0.take 8).map (rt sq) = H0.toL := by decide +kernel
theorem rt_cb : P0.map (rt cb) = K0 := by decide +kernel

theorem rr_lt {x n : Nat} (hx : x < 4294967296) (hn : n ≤ 32) : rr x n < 4294967296 := by
  unfold rr
  have h1 : x / 2 ^ n < 2 ^ (32 - n) := by
    rw [Nat.div_lt_iff_lt_mul (Nat.two_pow_pos n), ← Nat.pow_add, Nat.sub_add_cancel hn]; exact hx
  have h2 : x % 2 ^ n * 2 ^ (32 - n) ≤ (2 ^ n - 1) * 2 ^ (32 - n) := Nat.mul_le_mul_right _ (Nat.le_sub_one_of_lt (Nat.mod_lt _ (Nat.two_pow_pos n)))
  have h3 : (2 ^ n - 1) * 2 ^ (32 - n) = 4294967296 - 2 ^ (32 - n) := by
    rw [Nat.sub_mul, ← Nat.pow_add, Nat.add_sub_cancel' hn, Nat.one_mul]
  have h4 : 2 ^ (32 - n) ≤ 4294967296 := by
    have : 2 ^ (32 - n) ≤ 2 ^ 32 := Nat.pow_le_pow_right (by decide) (by omega)
    exact this
  omega
theorem xor_lt {x y : Nat} (hx : x < 4294967296) (hy : y < 4294967296) : x ^^^ y < 4294967296 := Nat.xor_lt_two_pow (n := 32) hx hy
theorem and_lt {x y : Nat} (hx : x < 4294967296) : x &&& y < 4294967296 := Nat.lt_of_le_of_lt Nat.and_le_left hx
theorem sha_len (s : List UInt8) : (sha s).length = 32 := by
  simp [sha, bes, V.toL, be]
theorem abc : sha [97, 98, 99] = [186, 120, 22, 191, 143, 1, 207, 234, 65, 65, 64, 222, 93, 174, 34, 35, 176, 3, 97, 163, 150, 23, 122, 156, 180, 16, 255, 97, 242, 0, 21, 173] := by decide +kernel
theorem empty : sha [] = [227, 176, 196, 66, 152, 252, 28, 20, 154, 251, 244, 200, 153, 111, 185, 36, 39, 174, 65, 228, 100, 155, 147, 76, 164, 149, 153, 27, 120, 82, 184, 85] := by decide +kernel
end Go.Proofs.Ythjphechdhbenaa.Dg
