/- The laws of layer 11: a row of samples as an argument; RttSamples, RttPto, RttBetween. By tools/gen-rtt-3.py. -/
import Derived.Test.YtgmaaeaaanjjaaaRtC
import Derived.ProofKit
import Derived.Deep.SlicePairs
import Derived.Deep.CutRange
namespace Go.Proofs.Ytgmaaeaaanjjaaa.Rt
open Go.RowKit Go.ChangeShapes Go.WideShapes Go.Deep
set_option linter.unusedVariables false
set_option linter.unusedSimpArgs false

/-- A row of samples. -/
def Sm (w : World) (v : Value) (l : List (Int × Int)) : Prop :=
  ∃ a cap, v = .slice a l.length cap ∧ l.length ≤ cap ∧ (l ≠ [] → ∃ b off, a = some ⟨b, off, none⟩ ∧
    ∀ i, i < l.length → w.cell? ⟨b, off + i * 2, none⟩ = some (.int .i64 (l.getD i (0, 0)).1) ∧ w.cell? ⟨b, off + i * 2 + 1, none⟩ = some (.int .i64 (l.getD i (0, 0)).2))
theorem add_plain (b o k : Nat) : (⟨b, o, none⟩ : Addr).add k = ⟨b, o + k, none⟩ := by unfold Addr.add; split <;> simp_all
theorem plain_addr {w : World} {a : Addr} {v : Value} (h : w.cell? a = some v) : a = ⟨a.block, a.off, none⟩ := by
  obtain ⟨b, o, s⟩ := a
  cases s with
  | none => rfl
  | some s =>
    unfold World.cell? at h
    simp only at h
    split at h
    · simp at h
    · cases h
theorem add_zero' (a : Addr) : a.add (0 * 2) = a := by simp [Addr.add]
def numAt (w : World) (a : Addr) : Int := match w.cell? a with | some (.int _ n) => n | _ => 0
theorem sams_of_trod {H : Type} {enc : TypeId × Value → H} {W : World} {held : Bool} {fuel : Nat} {t : TypeId} {a : Option Addr} {len cap : Nat} {x : DataW H × List MemPlace}
    (ht : Try.prog.underlying t = some (.slice 35)) (h : DataW.trod enc Try.prog W 0 (fun _ => true) held fuel t (Value.cells (.slice a len cap)).toList = some x) :
    ∃ l : List (Int × Int), l.length = len ∧ len ≤ maxLen ∧ Sm W (.slice a len cap) l := by
  rcases open_slice_pairs ht Try.underlying35 (by kernel_rfl) rfl rfl (by kernel_rfl) (by kernel_rfl) h with ⟨hcs, _⟩ | ⟨a', len', cap', m, n, V0, V1, D0, D1, P0, P1, hcs, hb, hl, hm, hmm, hx, hc⟩
  · simp [Value.cells] at hcs
    obtain ⟨rfl, rfl, rfl⟩ := hcs
    exact ⟨[], rfl, Nat.zero_le _, ⟨_, _, rfl, Nat.le_refl _, fun h => absurd rfl h⟩⟩
  · simp [Value.cells] at hcs
    obtain ⟨rfl, rfl, rfl⟩ := hcs
    have hml : len ≤ m := by rw [hmm]; simp; omega
    have hfact : ∀ i, i < len → W.cell? (a'.add (i * 2)) = some (.int .i64 (numAt W (a'.add (i * 2)))) ∧ W.cell? (a'.add (i * 2 + 1)) = some (.int .i64 (numAt W (a'.add (i * 2 + 1)))) := by
      intro i hi
      obtain ⟨h0, h1, h2, h3⟩ := hc i (by omega)
      obtain ⟨n0, e0, -, w0⟩ := DataW.trod_int Try.underlying3 h2
      obtain ⟨n1, e1, -, w1⟩ := DataW.trod_int Try.underlying3 h3
      simp at e0 e1
      rw [h0, h1]
      unfold numAt
      rw [h0, h1, e0, e1]
      exact ⟨rfl, rfl⟩
    refine ⟨(List.range len).map (fun i => (numAt W (a'.add (i * 2)), numAt W (a'.add (i * 2 + 1)))), by simp, by omega, ⟨some a', cap, by simp, by simpa using hl, fun hne => ?_⟩⟩
    have hpos : 0 < len := by have := List.length_pos_iff.2 hne; simpa using this
    obtain ⟨b, o, s⟩ := a'
    have hp0 := (hfact 0 hpos).1
    rw [add_zero'] at hp0
    have hp := plain_addr hp0
    simp only [Addr.mk.injEq, true_and] at hp
    subst hp
    refine ⟨b, o, rfl, fun i hi => ?_⟩
    have hi' : i < len := by simpa using hi
    obtain ⟨h0, h1⟩ := hfact i hi'
    rw [List.getD_eq_getElem?_getD, List.getElem?_map, List.getElem?_range hi']
    rw [add_plain] at h0 h1
    simp only [Option.map_some, Option.getD_some, add_plain]
    exact ⟨h0, h1⟩
theorem block_lt_of_cell {w : World} {b o : Nat} {v : Value} (h : w.cell? ⟨b, o, none⟩ = some v) : b < w.heap.size := World.block_lt_of_cell? _ _ h
/-- An element of a row, in a world behind. -/
theorem Sm.at {w : World} {a : Option Addr} {n c : Nat} {l : List (Int × Int)} (h : Sm w (.slice a n c) l) {j : Nat} (hj : j < l.length) :
    ∃ b o, a = some ⟨b, o, none⟩ ∧ n = l.length ∧ l.length ≤ c ∧ b < w.heap.size ∧ ∀ W, Below w.heap.size w W → W.cell? ⟨b, o + j * 2, none⟩ = some (.int .i64 (l.getD j (0, 0)).1) ∧ W.cell? ⟨b, o + j * 2 + 1, none⟩ = some (.int .i64 (l.getD j (0, 0)).2) := by
  obtain ⟨a', c', hv, hc, hr⟩ := h
  simp only [Value.slice.injEq] at hv
  obtain ⟨rfl, rfl, rfl⟩ := hv
  obtain ⟨b, o, rfl, hcell⟩ := hr (fun e => by rw [e] at hj; simp at hj)
  obtain ⟨h0, h1⟩ := hcell j hj
  have hb := block_lt_of_cell h0
  exact ⟨b, o, rfl, rfl, hc, hb, fun W hW => ⟨(hW.cell hb).trans h0, (hW.cell hb).trans h1⟩⟩
theorem Sm.len {w : World} {a : Option Addr} {n c : Nat} {l : List (Int × Int)} (h : Sm w (.slice a n c) l) : n = l.length := by
  obtain ⟨a', c', hv, hc, hr⟩ := h
  simp only [Value.slice.injEq] at hv
  exact hv.2.1
/-- The estimate behind so many samples. -/
def run (l : List (Int × Int)) (m : Int) : Nat → St
  | 0 => new
  | j + 1 => samp (run l m j) (l.getD j (0, 0)).1 (l.getD j (0, 0)).2 m
theorem run_ok (l : List (Int × Int)) (m : Int) (j : Nat) : (run l m j).Ok := by
  induction j with
  | zero => exact new_ok
  | succ j ih => exact samp_ok ih _ _ _
def BxS (W : World) (b : Nat) (T : TypeId) (s : St) : Prop := Bx W b T s.any s.la s.sm s.va s.mn
set_option maxHeartbeats 4000000 in
theorem samples_long (a : Option Addr) (n c : Nat) (m p : Int) (w : World) (hn : 100 < (n : Int)) (hm : n ≤ maxLen) :
    Calls Try.prog 3 #[.slice a n c, .int .i64 m, .int .i64 p] w fun e w' => e = .returned (.bool true) ∧ Below w.heap.size w w' := by
  have CS := Lib.hid shown_any
  go_enter Try.func3, Try.ntmps3
  go_wp2_with fail
  with_reducible refine (CS.out _).mono ?_
  rintro e w1 ⟨rfl, hb⟩
  have HB1 := Lib.hid hb
  clear hb
  go_wp2_with fail
  go_ret
  exact ⟨rfl, HB1.out⟩
set_option maxHeartbeats 8000000 in
theorem samples_round (a : Option Addr) (n c : Nat) (l : List (Int × Int)) (m p : Int) (w : World) (ha : n = l.length) (hl : l.length ≤ 100) (hr : Sm w (.slice a n c) l) :
    Calls Try.prog 3 #[.slice a n c, .int .i64 m, .int .i64 p] w fun e w' => e = .returned (.bool true) ∧ Below w.heap.size w w' := by
  have CS := Lib.hid shown_any
  have CN : Hid (∀ W : World, Calls Try.prog 9 #[] W fun e w' => e = .returned (.agg #[.bool false, .int .i64 0, .int .i64 10, .int .i64 5, .int .i64 0]) ∧ Below W.heap.size W w') := Lib.hid new_any
  have CND : Hid (∀ W : World, Calls Try.prog 10 #[] W fun e w' => e = .returned (.agg #[.bool false, .int .i64 0, .int .i64 10, .int .i64 5, .int .i64 0]) ∧ Below W.heap.size W w') := Lib.hid newD_any
  have HR := Lib.hid hr
  have hn100 : (n : Int) ≤ 100 := by omega
  have HL := Lib.hid ha
  clear hr ha
  go_enter Try.func3, Try.ntmps3
  go_wp2_with fail
  with_reducible refine (CS.out _).mono ?_
  rintro e w1 ⟨rfl, hb⟩
  have HB1 := Lib.hid hb
  clear hb
  go_wp2_with fail
  with_reducible refine (CN.out _).mono ?_
  rintro e w2 ⟨rfl, hb⟩
  have HB2 := Lib.hid (HB1.out.trans (hb.mono HB1.out.size))
  clear hb
  go_wp2_with fail
  with_reducible refine (CND.out _).mono ?_
  rintro e w3 ⟨rfl, hb⟩
  have H7 := Lib.hid ((Bx.made w2 25 false 0 10 5 0).keep hb (by simp))
  have HB3 := Lib.hid ((HB2.out.alloc HB2.out.size (.cells #[.bool false, .int .i64 0, .int .i64 10, .int .i64 5, .int .i64 0] 25)).trans (hb.mono (by have := HB2.out.size; simp; omega)))
  have hs2 := HB2.out.size
  clear hb
  go_wp2_with fail
  have h7' := H7.out.keep ((Below.refl _ _).alloc (Nat.le_refl _) (.cells #[.bool false, .int .i64 0, .int .i64 10, .int .i64 5, .int .i64 0] 27)) H7.out.lt
  have HW0 := Lib.hid (And.intro (And.intro h7' (Bx.made w3 27 false 0 10 5 0)) (HB3.out.alloc HB3.out.size (.cells #[.bool false, .int .i64 0, .int .i64 10, .int .i64 5, .int .i64 0] 27)))
  have hs3 := HB3.out.size
  have h78 : w2.heap.size < w3.heap.size := H7.out.lt
  clear h7' H7 HB3 HB2 HB1
  generalize w3.alloc (.cells #[.bool false, .int .i64 0, .int .i64 10, .int .i64 5, .int .i64 0] 27) = W0 at HW0 ⊢
  generalize w2.heap.size = b7 at *
  generalize w3.heap.size = b8 at *
  go_loopw [9] (fun iv wr => ∃ j : Nat, j ≤ n + 1 ∧ iv = .int .i64 j ∧ (j ≤ n → BxS wr b7 25 (run l m j) ∧ BxS wr b8 27 (run l m j)) ∧ Below w.heap.size w wr) (fun iv _ => n + 1 - (intOf iv).toNat)
  case atStart => exact ⟨0, Nat.zero_le _, rfl, fun _ => HW0.out.1, HW0.out.2⟩
  case round =>
    obtain ⟨j, hj1, rfl, hbx, hbb⟩ := hrel
    by_cases hj : ¬ j ≤ n
    · have hji : ¬ (j : Int) ≤ (n : Int) := by omega
      have HBB := Lib.hid hbb
      clear hbx hbb HW0
      go_wp2_with fail
      go_ret
      exact ⟨rfl, HBB.out⟩
    replace hj : j ≤ n := by omega
    replace hbx := hbx hj
    have hok := run_ok l m j
    have HN : Hid (∀ x y, (l.getD j (0, 0)).1 = x → (l.getD j (0, 0)).2 = y → samp (run l m j) x y m = run l m (j + 1)) := Lib.hid (fun x y hx hy => by rw [← hx, ← hy]; rfl)
    generalize run l m j = S at hbx hok HN
    obtain ⟨sa, sla, ssm, sva, smn⟩ := S
    have CP : Hid (∀ W : World, Calls Try.prog 11 #[.agg #[.bool sa, .int .i64 sla, .int .i64 ssm, .int .i64 sva, .int .i64 smn], .int .i64 m, .int .i64 p] W fun e w' => e = .returned (.int .i64 (ptoN ⟨sa, sla, ssm, sva, smn⟩ m p)) ∧ Below W.heap.size W w') := Lib.hid (fun W => pto_any ⟨sa, sla, ssm, sva, smn⟩ m p W hok)
    have CPD : Hid (∀ W : World, Calls Try.prog 12 #[.agg #[.bool sa, .int .i64 sla, .int .i64 ssm, .int .i64 sva, .int .i64 smn], .int .i64 m, .int .i64 p] W fun e w' => e = .returned (.int .i64 (ptoN ⟨sa, sla, ssm, sva, smn⟩ m p)) ∧ Below W.heap.size W w') := Lib.hid (fun W => ptoD_any ⟨sa, sla, ssm, sva, smn⟩ m p W hok)
    have CT : Hid (∀ W : World, Calls Try.prog 13 #[.agg #[.bool sa, .int .i64 sla, .int .i64 ssm, .int .i64 sva, .int .i64 smn]] W fun e w' => e = .returned (.int .i64 (thrN ⟨sa, sla, ssm, sva, smn⟩)) ∧ Below W.heap.size W w') := Lib.hid (fun W => threshold_any ⟨sa, sla, ssm, sva, smn⟩ W hok)
    have CTD : Hid (∀ W : World, Calls Try.prog 14 #[.agg #[.bool sa, .int .i64 sla, .int .i64 ssm, .int .i64 sva, .int .i64 smn]] W fun e w' => e = .returned (.int .i64 (thrN ⟨sa, sla, ssm, sva, smn⟩)) ∧ Below W.heap.size W w') := Lib.hid (fun W => thresholdD_any ⟨sa, sla, ssm, sva, smn⟩ W hok)
    generalize ptoN ⟨sa, sla, ssm, sva, smn⟩ m p = PT at CP CPD
    generalize thrN ⟨sa, sla, ssm, sva, smn⟩ = TH at CT CTD
    have HS0 : Hid ((Bx wr.drew b7 25 sa sla ssm sva smn ∧ Bx wr.drew b8 27 sa sla ssm sva smn) ∧ Below w.heap.size w wr.drew) := Lib.hid ⟨hbx, hbb.drew⟩
    have HOK := Lib.hid hok
    have hji : (j : Int) ≤ (n : Int) := by omega
    clear hbx hbb hok HW0
    go_wp2_with fail
    refine wp_region_noPanic ?_
    refine wp_region_held_drew (S := fun W : World => (Bx W b7 25 sa sla ssm sva smn ∧ Bx W b8 27 sa sla ssm sva smn) ∧ Below w.heap.size w W) (by kernel_rfl) ?_ (fun hHeld => ?_)
    · exact HS0.out
    refine wpAnyH_take (i := 0) (v := ?_) rfl (by kernel_rfl) (by kernel_rfl) (by kernel_rfl) (fun _ _ _ h => h) (Or.inl ⟨by rfl, ?_⟩) (by assumption) ?_
    rotate_left
    · (intro w hSw; obtain ⟨⟨hs7, hs8⟩, hsb⟩ := hSw; obtain ⟨q0, q1, q2, q3, q4⟩ := hs7.cells; obtain ⟨y0, y1, y2, y3, y4⟩ := hs8.cells; go_simp; (try with_reducible rfl))
    try simp only [Act.put, List.getElem_toArray, List.getElem_cons_zero, List.getElem_cons_succ, List.setIfInBounds_toArray, List.set_cons_zero, List.set_cons_succ]
    refine wpAnyH_take (i := 1) (v := ?_) rfl (by kernel_rfl) (by kernel_rfl) (by kernel_rfl) (fun _ _ _ h => h) (Or.inl ⟨by rfl, ?_⟩) (by assumption) ?_
    rotate_left
    · (intro w hSw; obtain ⟨⟨hs7, hs8⟩, hsb⟩ := hSw; obtain ⟨q0, q1, q2, q3, q4⟩ := hs7.cells; obtain ⟨y0, y1, y2, y3, y4⟩ := hs8.cells; go_simp; (try with_reducible rfl))
    try simp only [Act.put, List.getElem_toArray, List.getElem_cons_zero, List.getElem_cons_succ, List.setIfInBounds_toArray, List.set_cons_zero, List.set_cons_succ]
    refine wpAnyH_take (i := 2) (v := ?_) rfl (by kernel_rfl) (by kernel_rfl) (by kernel_rfl) (fun _ _ _ h => h) (Or.inl ⟨by rfl, ?_⟩) (by assumption) ?_
    rotate_left
    · (intro w hSw; obtain ⟨⟨hs7, hs8⟩, hsb⟩ := hSw; obtain ⟨q0, q1, q2, q3, q4⟩ := hs7.cells; obtain ⟨y0, y1, y2, y3, y4⟩ := hs8.cells; go_simp; (try with_reducible rfl))
    try simp only [Act.put, List.getElem_toArray, List.getElem_cons_zero, List.getElem_cons_succ, List.setIfInBounds_toArray, List.set_cons_zero, List.set_cons_succ]
    refine wpAnyH_take (i := 3) (v := ?_) rfl (by kernel_rfl) (by kernel_rfl) (by kernel_rfl) (fun _ _ _ h => h) (Or.inl ⟨by rfl, ?_⟩) (by assumption) ?_
    rotate_left
    · (intro w hSw; obtain ⟨⟨hs7, hs8⟩, hsb⟩ := hSw; obtain ⟨q0, q1, q2, q3, q4⟩ := hs7.cells; obtain ⟨y0, y1, y2, y3, y4⟩ := hs8.cells; go_simp; (try with_reducible rfl))
    try simp only [Act.put, List.getElem_toArray, List.getElem_cons_zero, List.getElem_cons_succ, List.setIfInBounds_toArray, List.set_cons_zero, List.set_cons_succ]
    refine wpAnyH_take (i := 4) (v := ?_) rfl (by kernel_rfl) (by kernel_rfl) (by kernel_rfl) (fun _ _ _ h => h) (Or.inl ⟨by rfl, ?_⟩) (by assumption) ?_
    rotate_left
    · (intro w hSw; obtain ⟨⟨hs7, hs8⟩, hsb⟩ := hSw; obtain ⟨q0, q1, q2, q3, q4⟩ := hs7.cells; obtain ⟨y0, y1, y2, y3, y4⟩ := hs8.cells; go_simp; (try with_reducible rfl))
    try simp only [Act.put, List.getElem_toArray, List.getElem_cons_zero, List.getElem_cons_succ, List.setIfInBounds_toArray, List.set_cons_zero, List.set_cons_succ]
    refine wpAnyH_take (i := 5) (v := ?_) rfl (by kernel_rfl) (by kernel_rfl) (by kernel_rfl) (fun _ _ _ h => h) (Or.inl ⟨by rfl, ?_⟩) (by assumption) ?_
    rotate_left
    · (intro w hSw; obtain ⟨⟨hs7, hs8⟩, hsb⟩ := hSw; obtain ⟨q0, q1, q2, q3, q4⟩ := hs7.cells; obtain ⟨y0, y1, y2, y3, y4⟩ := hs8.cells; go_simp; (try with_reducible rfl))
    try simp only [Act.put, List.getElem_toArray, List.getElem_cons_zero, List.getElem_cons_succ, List.setIfInBounds_toArray, List.set_cons_zero, List.set_cons_succ]
    refine wpAnyH_take (i := 6) (v := ?_) rfl (by kernel_rfl) (by kernel_rfl) (by kernel_rfl) (fun _ _ _ h => h) (Or.inl ⟨by rfl, ?_⟩) (by assumption) ?_
    rotate_left
    · (intro w hSw; obtain ⟨⟨hs7, hs8⟩, hsb⟩ := hSw; obtain ⟨q0, q1, q2, q3, q4⟩ := hs7.cells; obtain ⟨y0, y1, y2, y3, y4⟩ := hs8.cells; go_simp; (try with_reducible rfl))
    try simp only [Act.put, List.getElem_toArray, List.getElem_cons_zero, List.getElem_cons_succ, List.setIfInBounds_toArray, List.set_cons_zero, List.set_cons_succ]
    refine wpAnyH_take (i := 8) (v := ?_) rfl (by kernel_rfl) (by kernel_rfl) (by kernel_rfl) (fun _ _ _ h => h) (Or.inl ⟨by rfl, ?_⟩) (by assumption) ?_
    rotate_left
    · (intro w hSw; obtain ⟨⟨hs7, hs8⟩, hsb⟩ := hSw; obtain ⟨q0, q1, q2, q3, q4⟩ := hs7.cells; obtain ⟨y0, y1, y2, y3, y4⟩ := hs8.cells; go_simp; (try with_reducible rfl))
    try simp only [Act.put, List.getElem_toArray, List.getElem_cons_zero, List.getElem_cons_succ, List.setIfInBounds_toArray, List.set_cons_zero, List.set_cons_succ]
    refine wpAnyH_take (i := 9) (v := ?_) rfl (by kernel_rfl) (by kernel_rfl) (by kernel_rfl) (fun _ _ _ h => h) (Or.inl ⟨by rfl, ?_⟩) (by assumption) ?_
    rotate_left
    · (intro w hSw; obtain ⟨⟨hs7, hs8⟩, hsb⟩ := hSw; obtain ⟨q0, q1, q2, q3, q4⟩ := hs7.cells; obtain ⟨y0, y1, y2, y3, y4⟩ := hs8.cells; go_simp; (try with_reducible rfl))
    try simp only [Act.put, List.getElem_toArray, List.getElem_cons_zero, List.getElem_cons_succ, List.setIfInBounds_toArray, List.set_cons_zero, List.set_cons_succ]
    refine wpAnyH_take (i := 10) (v := ?_) rfl (by kernel_rfl) (by kernel_rfl) (by kernel_rfl) (fun _ _ _ h => h) (Or.inl ⟨by rfl, ?_⟩) (by assumption) ?_
    rotate_left
    · (intro w hSw; obtain ⟨⟨hs7, hs8⟩, hsb⟩ := hSw; obtain ⟨q0, q1, q2, q3, q4⟩ := hs7.cells; obtain ⟨y0, y1, y2, y3, y4⟩ := hs8.cells; go_simp; (try with_reducible rfl))
    try simp only [Act.put, List.getElem_toArray, List.getElem_cons_zero, List.getElem_cons_succ, List.setIfInBounds_toArray, List.set_cons_zero, List.set_cons_succ]
    refine wpAnyH_ready (rs := [7]) (by kernel_rfl) (by simp) ?_
    refine AllReadyH.cons rfl (fun K hK => ?_) AllReadyH.nil
    rw [if_pos (by rfl)]
    go_simp
    with_reducible refine (CP.out _).mono ?_
    rintro e1 x1 ⟨rfl, hb⟩
    have HS1 : Hid ((Bx x1 b7 25 sa sla ssm sva smn ∧ Bx x1 b8 27 sa sla ssm sva smn) ∧ Below w.heap.size w x1) := Lib.hid ⟨⟨HS0.out.1.1.keep hb HS0.out.1.1.lt, HS0.out.1.2.keep hb HS0.out.1.2.lt⟩, HS0.out.2.trans (hb.mono HS0.out.2.size)⟩
    clear hb
    refine hK.out _ _ ?_ (fun hHeld => ?_)
    · exact HS1.out
    clear hK K
    try simp only [Act.put, List.getElem_toArray, List.getElem_cons_zero, List.getElem_cons_succ, List.setIfInBounds_toArray, List.set_cons_zero, List.set_cons_succ]
    refine wpAnyH_ready (rs := [11]) (by kernel_rfl) (by simp) ?_
    refine AllReadyH.cons rfl (fun K hK => ?_) AllReadyH.nil
    rw [if_pos (by rfl)]
    go_simp
    with_reducible refine (CPD.out _).mono ?_
    rintro e2 x2 ⟨rfl, hb⟩
    have HS2 : Hid ((Bx x2 b7 25 sa sla ssm sva smn ∧ Bx x2 b8 27 sa sla ssm sva smn) ∧ Below w.heap.size w x2) := Lib.hid ⟨⟨HS1.out.1.1.keep hb HS1.out.1.1.lt, HS1.out.1.2.keep hb HS1.out.1.2.lt⟩, HS1.out.2.trans (hb.mono HS1.out.2.size)⟩
    clear hb
    refine hK.out _ _ ?_ (fun hHeld => ?_)
    · exact HS2.out
    clear hK K
    try simp only [Act.put, List.getElem_toArray, List.getElem_cons_zero, List.getElem_cons_succ, List.setIfInBounds_toArray, List.set_cons_zero, List.set_cons_succ]
    refine wpAnyH_take (i := 12) (v := ?_) rfl (by kernel_rfl) (by kernel_rfl) (by kernel_rfl) (fun _ _ _ h => h) (Or.inl ⟨by rfl, ?_⟩) (by assumption) ?_
    rotate_left
    · (intro w hSw; obtain ⟨⟨hs7, hs8⟩, hsb⟩ := hSw; obtain ⟨q0, q1, q2, q3, q4⟩ := hs7.cells; obtain ⟨y0, y1, y2, y3, y4⟩ := hs8.cells; go_simp; (try with_reducible rfl))
    try simp only [Act.put, List.getElem_toArray, List.getElem_cons_zero, List.getElem_cons_succ, List.setIfInBounds_toArray, List.set_cons_zero, List.set_cons_succ]
    refine wpAnyH_take (i := 13) (v := ?_) rfl (by kernel_rfl) (by kernel_rfl) (by kernel_rfl) (fun _ _ _ h => h) (Or.inl ⟨by rfl, ?_⟩) (by assumption) ?_
    rotate_left
    · (intro w hSw; obtain ⟨⟨hs7, hs8⟩, hsb⟩ := hSw; obtain ⟨q0, q1, q2, q3, q4⟩ := hs7.cells; obtain ⟨y0, y1, y2, y3, y4⟩ := hs8.cells; go_simp; (try with_reducible rfl))
    try simp only [Act.put, List.getElem_toArray, List.getElem_cons_zero, List.getElem_cons_succ, List.setIfInBounds_toArray, List.set_cons_zero, List.set_cons_succ]
    refine wpAnyH_take (i := 14) (v := ?_) rfl (by kernel_rfl) (by kernel_rfl) (by kernel_rfl) (fun _ _ _ h => h) (Or.inl ⟨by rfl, ?_⟩) (by assumption) ?_
    rotate_left
    · (intro w hSw; obtain ⟨⟨hs7, hs8⟩, hsb⟩ := hSw; obtain ⟨q0, q1, q2, q3, q4⟩ := hs7.cells; obtain ⟨y0, y1, y2, y3, y4⟩ := hs8.cells; go_simp; (try with_reducible rfl))
    try simp only [Act.put, List.getElem_toArray, List.getElem_cons_zero, List.getElem_cons_succ, List.setIfInBounds_toArray, List.set_cons_zero, List.set_cons_succ]
    refine wpAnyH_take (i := 15) (v := ?_) rfl (by kernel_rfl) (by kernel_rfl) (by kernel_rfl) (fun _ _ _ h => h) (Or.inl ⟨by rfl, ?_⟩) (by assumption) ?_
    rotate_left
    · (intro w hSw; obtain ⟨⟨hs7, hs8⟩, hsb⟩ := hSw; obtain ⟨q0, q1, q2, q3, q4⟩ := hs7.cells; obtain ⟨y0, y1, y2, y3, y4⟩ := hs8.cells; go_simp; (try with_reducible rfl))
    try simp only [Act.put, List.getElem_toArray, List.getElem_cons_zero, List.getElem_cons_succ, List.setIfInBounds_toArray, List.set_cons_zero, List.set_cons_succ]
    refine wpAnyH_take (i := 17) (v := ?_) rfl (by kernel_rfl) (by kernel_rfl) (by kernel_rfl) (fun _ _ _ h => h) (Or.inl ⟨by rfl, ?_⟩) (by assumption) ?_
    rotate_left
    · (intro w hSw; obtain ⟨⟨hs7, hs8⟩, hsb⟩ := hSw; obtain ⟨q0, q1, q2, q3, q4⟩ := hs7.cells; obtain ⟨y0, y1, y2, y3, y4⟩ := hs8.cells; go_simp; (try with_reducible rfl))
    try simp only [Act.put, List.getElem_toArray, List.getElem_cons_zero, List.getElem_cons_succ, List.setIfInBounds_toArray, List.set_cons_zero, List.set_cons_succ]
    refine wpAnyH_ready (rs := [16]) (by kernel_rfl) (by simp) ?_
    refine AllReadyH.cons rfl (fun K hK => ?_) AllReadyH.nil
    rw [if_pos (by rfl)]
    go_simp
    with_reducible refine (CT.out _).mono ?_
    rintro e3 x3 ⟨rfl, hb⟩
    have HS3 : Hid ((Bx x3 b7 25 sa sla ssm sva smn ∧ Bx x3 b8 27 sa sla ssm sva smn) ∧ Below w.heap.size w x3) := Lib.hid ⟨⟨HS2.out.1.1.keep hb HS2.out.1.1.lt, HS2.out.1.2.keep hb HS2.out.1.2.lt⟩, HS2.out.2.trans (hb.mono HS2.out.2.size)⟩
    clear hb
    refine hK.out _ _ ?_ (fun hHeld => ?_)
    · exact HS3.out
    clear hK K
    try simp only [Act.put, List.getElem_toArray, List.getElem_cons_zero, List.getElem_cons_succ, List.setIfInBounds_toArray, List.set_cons_zero, List.set_cons_succ]
    refine wpAnyH_ready (rs := [18]) (by kernel_rfl) (by simp) ?_
    refine AllReadyH.cons rfl (fun K hK => ?_) AllReadyH.nil
    rw [if_pos (by rfl)]
    go_simp
    with_reducible refine (CTD.out _).mono ?_
    rintro e4 x4 ⟨rfl, hb⟩
    have HS4 : Hid ((Bx x4 b7 25 sa sla ssm sva smn ∧ Bx x4 b8 27 sa sla ssm sva smn) ∧ Below w.heap.size w x4) := Lib.hid ⟨⟨HS3.out.1.1.keep hb HS3.out.1.1.lt, HS3.out.1.2.keep hb HS3.out.1.2.lt⟩, HS3.out.2.trans (hb.mono HS3.out.2.size)⟩
    clear hb
    refine hK.out _ _ ?_ (fun hHeld => ?_)
    · exact HS4.out
    clear hK K
    try simp only [Act.put, List.getElem_toArray, List.getElem_cons_zero, List.getElem_cons_succ, List.setIfInBounds_toArray, List.set_cons_zero, List.set_cons_succ]
    refine wpAnyH_take (i := 19) (v := ?_) rfl (by kernel_rfl) (by kernel_rfl) (by kernel_rfl) (fun _ _ _ h => h) (Or.inl ⟨by rfl, ?_⟩) (by assumption) ?_
    rotate_left
    · (intro w hSw; obtain ⟨⟨hs7, hs8⟩, hsb⟩ := hSw; obtain ⟨q0, q1, q2, q3, q4⟩ := hs7.cells; obtain ⟨y0, y1, y2, y3, y4⟩ := hs8.cells; go_simp; (try with_reducible rfl))
    try simp only [Act.put, List.getElem_toArray, List.getElem_cons_zero, List.getElem_cons_succ, List.setIfInBounds_toArray, List.set_cons_zero, List.set_cons_succ]
    refine wpAnyH_take (i := 20) (v := ?_) rfl (by kernel_rfl) (by kernel_rfl) (by kernel_rfl) (fun _ _ _ h => h) (Or.inl ⟨by rfl, ?_⟩) (by assumption) ?_
    rotate_left
    · (intro w hSw; obtain ⟨⟨hs7, hs8⟩, hsb⟩ := hSw; obtain ⟨q0, q1, q2, q3, q4⟩ := hs7.cells; obtain ⟨y0, y1, y2, y3, y4⟩ := hs8.cells; go_simp; (try with_reducible rfl))
    try simp only [Act.put, List.getElem_toArray, List.getElem_cons_zero, List.getElem_cons_succ, List.setIfInBounds_toArray, List.set_cons_zero, List.set_cons_succ]
    refine wpAnyH_done (by kernel_rfl) (NoPanic.normal ?_) _
    by_cases hlt : j < n
    · have hltI : (j : Int) < (n : Int) := by omega
      obtain ⟨ab, ao, ea, en, ec, hab, hcell⟩ := HR.out.at (j := j) (by have := HL.out; omega)
      subst ea
      have hnc : (n : Int) ≤ (c : Int) := by omega
      clear en ec
      generalize (l.getD j (0, 0)).1 = L0 at hcell HN
      generalize (l.getD j (0, 0)).2 = D0 at hcell HN
      have HC := Lib.hid hcell
      have HSN := Lib.hid (HN.out L0 D0 rfl rfl)
      have CA := Lib.hid (fun W => sample_any ⟨sa, sla, ssm, sva, smn⟩ L0 D0 m W HOK.out)
      have CAD := Lib.hid (fun W => sampleD_any ⟨sa, sla, ssm, sva, smn⟩ L0 D0 m W HOK.out)
      generalize samp ⟨sa, sla, ssm, sva, smn⟩ L0 D0 m = S2 at CA CAD HSN
      obtain ⟨ta, tla, tsm, tva, tmn⟩ := S2
      have CA : Hid (∀ W : World, Calls Try.prog 15 #[.agg #[.bool sa, .int .i64 sla, .int .i64 ssm, .int .i64 sva, .int .i64 smn], .int .i64 L0, .int .i64 D0, .int .i64 m] W fun e w' => e = .returned (.agg #[.bool ta, .int .i64 tla, .int .i64 tsm, .int .i64 tva, .int .i64 tmn]) ∧ Below W.heap.size W w') := CA
      have CAD : Hid (∀ W : World, Calls Try.prog 16 #[.agg #[.bool sa, .int .i64 sla, .int .i64 ssm, .int .i64 sva, .int .i64 smn], .int .i64 L0, .int .i64 D0, .int .i64 m] W fun e w' => e = .returned (.agg #[.bool ta, .int .i64 tla, .int .i64 tsm, .int .i64 tva, .int .i64 tmn]) ∧ Below W.heap.size W w') := CAD
      have h87 : b7 ≠ b8 := by omega
      have HS4' : Hid ((Bx x4.drew b7 25 sa sla ssm sva smn ∧ Bx x4.drew b8 27 sa sla ssm sva smn) ∧ Below w.heap.size w x4.drew) := Lib.hid ⟨HS4.out.1, HS4.out.2.drew⟩
      obtain ⟨k0, k1⟩ := HC.out x4 HS4.out.2
      obtain ⟨q0, q1, q2, q3, q4⟩ := HS4.out.1.1.cells
      clear hcell HN
      have HQ4 : Hid (∀ W, Below w.heap.size w W → W.cell? ⟨ab, ao + j * 2, none⟩ = some (.int .i64 L0) ∧ W.cell? ⟨ab, ao + j * 2 + 1, none⟩ = some (.int .i64 D0)) := HC
      go_wp2_with fail
      go_cut [9] from 51 to 63 (fun v9 W => v9 = .int .i64 j ∧ (Bx W b7 25 ta tla tsm tva tmn ∧ Bx W b8 27 sa sla ssm sva smn) ∧ Below w.heap.size w W)
      case first =>
        go_region_with (go_at_call 15; (with_reducible refine (CA.out _).mono ?_); rintro e5 x5 ⟨rfl, hb⟩; have HS5 : Hid ((Bx x5 b7 25 sa sla ssm sva smn ∧ Bx x5 b8 27 sa sla ssm sva smn) ∧ Below w.heap.size w x5) := Lib.hid ⟨⟨HS4'.out.1.1.keep hb HS4'.out.1.1.lt, HS4'.out.1.2.keep hb HS4'.out.1.2.lt⟩, HS4'.out.2.trans (hb.mono HS4'.out.2.size)⟩; obtain ⟨r0, r1, r2, r3, r4⟩ := HS5.out.1.1.cells; obtain ⟨f0, f1, f2, f3, f4⟩ := HS5.out.1.1.fz; clear hb)
        all_goals (
          go_wp2_with fail
          go_meet
          case rel => exact ⟨rfl, ⟨HS5.out.1.1.put _ _ _ _ _, HS5.out.1.2.put_other (by omega) _ _ _ _ _⟩, below_put HS5.out.2 (by omega) _ _ _ _ _⟩)
      case rest =>
        obtain ⟨rfl, hw, hwb⟩ := hcut
        have HS6' : Hid ((Bx wc.drew b7 25 ta tla tsm tva tmn ∧ Bx wc.drew b8 27 sa sla ssm sva smn) ∧ Below w.heap.size w wc.drew) := Lib.hid ⟨hw, hwb.drew⟩
        obtain ⟨k0, k1⟩ := HC.out wc hwb
        obtain ⟨q0, q1, q2, q3, q4⟩ := hw.2.cells
        clear hw hwb
        go_wp2_with fail
        go_region_with (go_at_call 16; (with_reducible refine (CAD.out _).mono ?_); rintro e5 x5 ⟨rfl, hb⟩; have HS5 : Hid ((Bx x5 b7 25 ta tla tsm tva tmn ∧ Bx x5 b8 27 sa sla ssm sva smn) ∧ Below w.heap.size w x5) := Lib.hid ⟨⟨HS6'.out.1.1.keep hb HS6'.out.1.1.lt, HS6'.out.1.2.keep hb HS6'.out.1.2.lt⟩, HS6'.out.2.trans (hb.mono HS6'.out.2.size)⟩; obtain ⟨r0, r1, r2, r3, r4⟩ := HS5.out.1.2.cells; obtain ⟨f0, f1, f2, f3, f4⟩ := HS5.out.1.2.fz; clear hb)
        all_goals (
          go_wp2_with fail
          go_roundw
          case rel => exact ⟨j + 1, by omega, by push_cast; rfl, fun _ => by rw [← HSN.out]; exact ⟨HS5.out.1.1.put_other (by omega) _ _ _ _ _, HS5.out.1.2.put _ _ _ _ _⟩, below_put HS5.out.2 (by omega) _ _ _ _ _⟩
          case measure => simp only [intOf]; omega)
    · have hltI : ¬ (j : Int) < (n : Int) := by omega
      go_wp2_with fail
      go_roundw
      case rel => exact ⟨j + 1, by omega, by push_cast; rfl, fun h => absurd h (by omega), HS4.out.2⟩
      case measure => simp only [intOf]; omega
end Go.Proofs.Ytgmaaeaaanjjaaa.Rt
