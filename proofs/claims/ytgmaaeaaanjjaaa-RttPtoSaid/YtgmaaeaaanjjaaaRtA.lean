/- Layer 11: an estimate as plain numbers; the walks of the small functions of both sides. By hand. -/
import Derived.Test.YtgmaaeaaanjjaaaRows
import Derived.WalkKit
import Derived.WalkSpells
import Derived.WalkLawsBesides
import Derived.Laws.ResultCell
import Derived.Lib.Hide
namespace Go.Proofs.Ytgmaaeaaanjjaaa.Rt
open Go.RowKit
set_option linter.unusedVariables false
set_option linter.unusedSimpArgs false

/-- What a number of ticks counts as. -/
def tk (n : Int) : Int := min (max n 0) 1099511627776
theorem tk_lo (n : Int) : 0 ≤ tk n := by unfold tk; omega
theorem tk_hi (n : Int) : tk n ≤ 1099511627776 := by unfold tk; omega
theorem tk_of {n : Int} (h0 : 0 ≤ n) (h1 : n ≤ 1099511627776) : tk n = n := by unfold tk; omega
/-- An estimate. -/
structure St where
  any : Bool
  la : Int
  sm : Int
  va : Int
  mn : Int
def St.val (s : St) : Value := .agg #[.bool s.any, .int .i64 s.la, .int .i64 s.sm, .int .i64 s.va, .int .i64 s.mn]
structure St.Ok (s : St) : Prop where
  la0 : 0 ≤ s.la
  la1 : s.la ≤ 1099511627776
  sm0 : 0 ≤ s.sm
  sm1 : s.sm ≤ 1099511627776
  va0 : 0 ≤ s.va
  va1 : s.va ≤ 1099511627776
  mn0 : 0 ≤ s.mn
  mn1 : s.mn ≤ 1099511627776
def new : St := ⟨false, 0, 10, 5, 0⟩
theorem new_ok : new.Ok := by constructor <;> decide
/-- A sample without what it was held back for. -/
def took (n d least : Int) : Int := if n - d < least then n else n - d
def apartN (a b : Int) : Int := max a b - min a b
def samp (s : St) (l d m : Int) : St :=
  if s.any then ⟨true, tk l, (7 * s.sm + took (tk l) (min (tk d) (tk m)) (min s.mn (tk l))) / 8, (3 * s.va + apartN s.sm (took (tk l) (min (tk d) (tk m)) (min s.mn (tk l)))) / 4, min s.mn (tk l)⟩
  else ⟨true, tk l, tk l, tk l / 2, tk l⟩
theorem took_in {n d least : Int} (hn : 0 ≤ n) (hn1 : n ≤ 1099511627776) (hd : 0 ≤ d) (hl : 0 ≤ least) : 0 ≤ took n d least ∧ took n d least ≤ 1099511627776 := by
  unfold took; split <;> omega
theorem samp_ok {s : St} (h : s.Ok) (l d m : Int) : (samp s l d m).Ok := by
  have h1 := tk_lo l; have h2 := tk_hi l
  obtain ⟨a, b, c, e, f, g, i, j⟩ := h
  unfold samp
  split
  · obtain ⟨u, v⟩ := took_in (n := tk l) (d := min (tk d) (tk m)) (least := min s.mn (tk l)) h1 h2 (by have := tk_lo d; have := tk_lo m; omega) (by omega)
    generalize took (tk l) (min (tk d) (tk m)) (min s.mn (tk l)) = t at *
    unfold apartN
    constructor <;> simp only <;> omega
  · constructor <;> simp only <;> omega
theorem ret_i64 {a b : Int} (h : a = b) : Ending.returned (.int .i64 a) = .returned (.int .i64 b) := by rw [h]
def ptoN (s : St) (m p : Int) : Int := (s.sm + max (4 * s.va) 1 + tk m) * 2 ^ (min (max p 0) 10).toNat
def thrN (s : St) : Int := max (9 * max s.sm s.la / 8) 1

set_option maxHeartbeats 1000000 in
theorem nearest_any (m n : Int) (w : World) : Calls Try.prog 23 #[.agg #[.int .i64 m], .int .i64 n] w fun e w' => e = .returned (.int .i64 (min (max n 0) m)) ∧ Below w.heap.size w w' := by
  go_enter Try.func23, Try.ntmps23
  go_wp2
  all_goals (go_ret; exact ⟨ret_i64 (by omega), (Below.refl _ _).alloc (Nat.le_refl _) _⟩)
set_option maxHeartbeats 1000000 in
theorem count_any (m n : Int) (w : World) : Calls Try.prog 22 #[.agg #[.int .i64 m, .int .i64 n]] w fun e w' => e = .returned (.int .i64 (min (max n 0) m)) ∧ Below w.heap.size w w' := by
  have C := Lib.hid (nearest_any m n)
  go_enter Try.func22, Try.ntmps22
  go_wp2_with fail
  with_reducible refine (C.out _).mono ?_
  rintro e w1 ⟨rfl, hb⟩
  have HB1 := Lib.hid hb
  clear hb
  go_wp2_with fail
  go_ret
  exact ⟨rfl, ((Below.refl _ _).alloc (Nat.le_refl _) _).trans (HB1.out.mono (by simp))⟩
set_option maxHeartbeats 1000000 in
theorem ticks_any (n : Int) (w : World) : Calls Try.prog 17 #[.int .i64 n] w fun e w' => e = .returned (.int .i64 (tk n)) ∧ Below w.heap.size w w' := by
  have C := Lib.hid (count_any 1099511627776 n)
  go_enter Try.func17, Try.ntmps17
  go_wp2_with fail
  with_reducible refine (C.out _).mono ?_
  rintro e w1 ⟨rfl, hb⟩
  have HB1 := Lib.hid hb
  clear hb
  go_wp2_with fail
  go_ret
  exact ⟨rfl, HB1.out⟩
set_option maxHeartbeats 1000000 in
theorem doublings_any (n : Int) (w : World) : Calls Try.prog 18 #[.int .i64 n] w fun e w' => e = .returned (.int .i64 (min (max n 0) 10)) ∧ Below w.heap.size w w' := by
  have C := Lib.hid (count_any 10 n)
  go_enter Try.func18, Try.ntmps18
  go_wp2_with fail
  with_reducible refine (C.out _).mono ?_
  rintro e w1 ⟨rfl, hb⟩
  have HB1 := Lib.hid hb
  clear hb
  go_wp2_with fail
  go_ret
  exact ⟨rfl, HB1.out⟩
set_option maxHeartbeats 1000000 in
theorem bound_any (n : Int) (w : World) : Calls Try.prog 19 #[.int .i64 n] w fun e w' => e = .returned (.int .i64 (tk n)) ∧ Below w.heap.size w w' := by
  go_enter Try.func19, Try.ntmps19
  go_wp2
  all_goals (go_ret; exact ⟨ret_i64 (by unfold tk; omega), Below.refl _ _⟩)
set_option maxHeartbeats 1000000 in
theorem adjusted_any (n d l : Int) (w : World) (hn : 0 ≤ n) (hn1 : n ≤ 1099511627776) (hd : 0 ≤ d) (hd1 : d ≤ 1099511627776) : Calls Try.prog 20 #[.int .i64 n, .int .i64 d, .int .i64 l] w fun e w' => e = .returned (.int .i64 (took n d l)) ∧ Below w.heap.size w w' := by
  unfold took
  by_cases h : n - d < l
  · rw [if_pos h]
    go_enter Try.func20, Try.ntmps20
    go_wp2
    go_ret
    exact ⟨rfl, Below.refl _ _⟩
  · rw [if_neg h]
    go_enter Try.func20, Try.ntmps20
    go_wp2
    go_ret
    exact ⟨rfl, Below.refl _ _⟩
set_option maxHeartbeats 1000000 in
theorem apart_any (a b : Int) (w : World) (ha : 0 ≤ a) (ha1 : a ≤ 1099511627776) (hb : 0 ≤ b) (hb1 : b ≤ 1099511627776) : Calls Try.prog 21 #[.int .i64 a, .int .i64 b] w fun e w' => e = .returned (.int .i64 (apartN a b)) ∧ Below w.heap.size w w' := by
  unfold apartN
  go_enter Try.func21, Try.ntmps21
  go_wp2
  all_goals (go_ret; exact ⟨ret_i64 (by omega), Below.refl _ _⟩)
set_option maxHeartbeats 1000000 in
theorem new_any (w : World) : Calls Try.prog 9 #[] w fun e w' => e = .returned new.val ∧ Below w.heap.size w w' := by
  go_enter Try.func9, Try.ntmps9
  go_wp2
  exact bodyPost_ret (v := new.val) (by simp [results, Try.results9, go_sem, new, St.val]) rfl ⟨rfl, (Below.refl _ _).alloc (Nat.le_refl _) _⟩
set_option maxHeartbeats 1000000 in
theorem newD_any (w : World) : Calls Try.prog 10 #[] w fun e w' => e = .returned new.val ∧ Below w.heap.size w w' := by
  go_enter Try.func10, Try.ntmps10
  go_wp2
  exact bodyPost_ret (v := new.val) (by simp [results, Try.results10, go_sem, new, St.val]) rfl ⟨rfl, (Below.refl _ _).alloc (Nat.le_refl _) _⟩
set_option maxHeartbeats 1000000 in
theorem threshold_any (s : St) (w : World) (h : s.Ok) : Calls Try.prog 13 #[s.val] w fun e w' => e = .returned (.int .i64 (thrN s)) ∧ Below w.heap.size w w' := by
  obtain ⟨a, b, c, d, e, f, g, i⟩ := h
  cases s
  unfold thrN St.val
  simp only at *
  go_enter Try.func13, Try.ntmps13
  go_wp2
  all_goals (go_ret; exact ⟨ret_i64 (by omega), (Below.refl _ _).alloc (Nat.le_refl _) _⟩)
set_option maxHeartbeats 1000000 in
theorem thresholdD_any (s : St) (w : World) (h : s.Ok) : Calls Try.prog 14 #[s.val] w fun e w' => e = .returned (.int .i64 (thrN s)) ∧ Below w.heap.size w w' := by
  obtain ⟨a, b, c, d, e, f, g, i⟩ := h
  cases s
  unfold thrN St.val
  simp only at *
  go_enter Try.func14, Try.ntmps14
  go_wp2
  all_goals (go_ret; exact ⟨ret_i64 (by omega), (Below.refl _ _).alloc (Nat.le_refl _) _⟩)
end Go.Proofs.Ytgmaaeaaanjjaaa.Rt
