/- The walks of layer 7: a round. -/
import Derived.Test.YthjphechdhbenaaDgA
import Derived.Deep.QuietTactic
import Derived.BigQuiet
namespace Go.Proofs.Ythjphechdhbenaa.Dg
set_option maxRecDepth 20000
open Go.RowKit
set_option linter.unusedVariables false
set_option linter.unusedSimpArgs false

theorem inv_nat (e : Nat) (he : e < 4294967296) : 4294967295 ^^^ e = 4294967295 - e := by
  apply Nat.eq_of_testBit_eq
  intro i
  have h1 : (4294967295 - e : Nat) = 2 ^ 32 - (e + 1) := by omega
  have h2 : (4294967295 : Nat) = 2 ^ 32 - 1 := by decide
  rw [h1, Nat.testBit_two_pow_sub_succ (by omega), h2, Nat.testBit_xor, Nat.testBit_two_pow_sub_one]
  by_cases hi : i < 32
  · simp [hi]
  · have : e.testBit i = false := Nat.testBit_lt_two_pow (Nat.lt_of_lt_of_le he (by have : 2 ^ 32 ≤ 2 ^ i := Nat.pow_le_pow_right (by decide) (by omega); exact this))
    simp [hi, this]
theorem inv32 (e : Nat) (he : e < 4294967296) : bits .xor .u32 IntKind.u32.max (e : Int) = ((4294967295 - e : Nat) : Int) := by
  have h := xor32 4294967295 e (by decide) he
  rw [inv_nat e he] at h
  exact h
theorem below_drewN {B : Nat} {a w : World} (h : Below B a w) (n : Nat) : Below B a (w.drewN n) := h.trans ⟨rfl, rfl, rfl, Nat.le_refl _, fun _ _ => rfl⟩
theorem agg8 {a b c d e f g h a' b' c' d' e' f' g' h' : Int} (h0 : a = a') (h1 : b = b') (h2 : c = c') (h3 : d = d') (h4 : e = e') (h5 : f = f') (h6 : g = g') (h7 : h = h') :
    Ending.returned (.agg #[.int .u32 a, .int .u32 b, .int .u32 c, .int .u32 d, .int .u32 e, .int .u32 f, .int .u32 g, .int .u32 h]) = .returned (.agg #[.int .u32 a', .int .u32 b', .int .u32 c', .int .u32 d', .int .u32 e', .int .u32 f', .int .u32 g', .int .u32 h']) := by
  rw [h0, h1, h2, h3, h4, h5, h6, h7]
set_option maxHeartbeats 4000000 in
theorem round_any (v : V) (x : Nat) (w : World) (hv : v.ok) (hx : x < 4294967296) :
    Calls Try.prog 63 #[.agg #[.int .u32 v.a, .int .u32 v.b, .int .u32 v.c, .int .u32 v.d, .int .u32 v.e, .int .u32 v.f, .int .u32 v.g, .int .u32 v.h], .int .u32 x] w fun e w' =>
      e = .returned (.agg #[.int .u32 (rnd v x).a, .int .u32 (rnd v x).b, .int .u32 (rnd v x).c, .int .u32 (rnd v x).d, .int .u32 (rnd v x).e, .int .u32 (rnd v x).f, .int .u32 (rnd v x).g, .int .u32 (rnd v x).h]) ∧ Below w.heap.size w w' := by
  obtain ⟨a, b, c, d, e, f, g, h⟩ := v
  obtain ⟨ha, hb, hc, hd, he, hf, hg, hh⟩ := hv
  simp only at ha hb hc hd he hf hg hh
  have CR3 := Lib.hid (fun w b c0 c1 c2 => right3 e 6 11 25 b w he (by decide) (by decide) (by decide) (by decide) (by decide) (by decide) c0 c1 c2)
  have CR2 := Lib.hid (fun w b c0 c1 c2 => right3 a 2 13 22 b w ha (by decide) (by decide) (by decide) (by decide) (by decide) (by decide) c0 c1 c2)
  obtain ⟨A, hA⟩ : ∃ A, A = (rnd ⟨a, b, c, d, e, f, g, h⟩ x).a := ⟨_, rfl⟩
  obtain ⟨E, hE⟩ : ∃ E, E = (rnd ⟨a, b, c, d, e, f, g, h⟩ x).e := ⟨_, rfl⟩
  rw [← hA, ← hE]
  show Calls _ _ _ _ fun r w' => r = .returned (.agg #[.int .u32 A, .int .u32 a, .int .u32 b, .int .u32 c, .int .u32 E, .int .u32 e, .int .u32 f, .int .u32 g]) ∧ Below w.heap.size w w'
  have HA : Hid (A = ((h + bs1 e + ch e f g + x) % 4294967296 + (bs0 a + mj a b c) % 4294967296) % 4294967296) := Lib.hid hA
  have HE : Hid (E = (d + (h + bs1 e + ch e f g + x) % 4294967296) % 4294967296) := Lib.hid hE
  clear hA hE
  unfold bs1 bs0 ch mj at HA
  unfold bs1 ch at HE
  have x0 := inv32 e he
  have x1 := and32 e f he hf
  have x3 := and32 (4294967295 - e) g (by omega) hg
  have x4 := xor32 (e &&& f) ((4294967295 - e) &&& g) (and_lt he) (and_lt (by omega))
  have y1 := and32 a b ha hb
  have y2 := and32 a c ha hc
  have y3 := and32 b c hb hc
  have y4 := xor32 (a &&& b) (a &&& c) (and_lt ha) (and_lt ha)
  have y5 := xor32 ((a &&& b) ^^^ (a &&& c)) (b &&& c) (xor_lt (and_lt ha) (and_lt ha)) (and_lt hb)
  go_enter Try.func63, Try.ntmps63
  go_wp2
  go_quiet (fail)
  go_wp2_with fail
  refine (CR3.out _ _ (by simp [go_sem]) (by simp [go_sem]) (by simp [go_sem])).mono ?_
  rintro e1 w1 ⟨rfl, rfl⟩
  go_wp2_with fail
  refine (CR2.out _ _ (by simp [go_sem]) (by simp [go_sem]) (by simp [go_sem])).mono ?_
  rintro e1 w1 ⟨rfl, rfl⟩
  go_wp2_with fail
  refine bodyPost_ret (v := .agg #[.int .u32 A, .int .u32 a, .int .u32 b, .int .u32 c, .int .u32 E, .int .u32 e, .int .u32 f, .int .u32 g]) ?_ rfl ⟨rfl, ?_⟩
  · simp [results, Try.results63, go_sem]
    have h1 := HA.out
    have h2 := HE.out
    omega
  · with_reducible refine Below.alloc ?_ (by simp; omega) _
    with_reducible refine Below.alloc ?_ (by simp; omega) _
    iterate 8 (with_reducible refine Below.setCell ?_ (Nat.le_succ _) _)
    with_reducible refine below_drewN ?_ _
    with_reducible refine Below.alloc ?_ (by simp) _
    with_reducible exact Below.alloc (Below.refl _ _) (Nat.le_refl _) _
end Go.Proofs.Ythjphechdhbenaa.Dg
