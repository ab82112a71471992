/- Layer 14: the walks of what is had, and lacking; of what is refused; a cursor. By tools/gen-gather-2.py. -/
import Derived.Test.YtndnlpohdimgaaaGaB
import Derived.Test.YtndnlpohdimgaaaGaO
import Derived.Test.YtndnlpohdimgaaaRgU
import Derived.Test.YtndnlpohdimgaaaRgW
namespace Go.Proofs.Ytndnlpohdimgaaa.Rg
set_option maxRecDepth 20000
open Go.RowKit Go.Shelf
set_option linter.unusedVariables false
set_option linter.unusedSimpArgs false

/-! ### The highest place -/
set_option maxHeartbeats 1000000 in
theorem high_nil (rd fin : Int) (kn : Bool) (a : Option Addr) (c : Nat) (w : World) (h0 : kn = true → rd ≤ fin) :
    Calls Try.prog 22 #[.agg #[.int .u64 rd, .slice a 0 c, .int .u64 fin, .bool kn]] w fun e w' => e = .returned (.int .u64 (if kn then fin else rd)) ∧ Below w.heap.size w w' := by
  cases kn with
  | true =>
    have h1 := h0 rfl
    clear h0
    go_enter Try.func22, Try.ntmps22
    go_wp2_with fail
    go_ret
    exact ⟨ret_u64 (by show _ = fin; omega), (Below.refl _ _).alloc (Nat.le_refl _) _⟩
  | false =>
    clear h0
    go_enter Try.func22, Try.ntmps22
    go_wp2_with fail
    go_ret
    exact ⟨rfl, (Below.refl _ _).alloc (Nat.le_refl _) _⟩
set_option maxHeartbeats 1000000 in
theorem high_row (rd fin x y : Int) (kn : Bool) (D : ByteArray) (b off m c : Nat) (w : World) (hm : m ≤ 1000) (hc : m + 1 ≤ c) (h1 : w.cell? ⟨b, off + m * 2, none⟩ = some (.int .u64 x)) (h2 : w.cell? ⟨b, off + m * 2 + 1, none⟩ = some (.string D))
    (hx : 0 ≤ x) (hD : D.size ≤ 1000) (hx1 : x ≤ 1000) (hy : x + (D.size : Int) = y) (hr : rd ≤ y) (h0 : kn = true → rd ≤ fin ∧ y ≤ fin) :
    Calls Try.prog 22 #[.agg #[.int .u64 rd, .slice (some ⟨b, off, none⟩) (m + 1) c, .int .u64 fin, .bool kn]] w fun e w' => e = .returned (.int .u64 (if kn then fin else y)) ∧ Below w.heap.size w w' := by
  have hb := block_lt_of_cell h1
  have CE := Lib.hid (fun W => end_any x D W hx (by omega) (by omega))
  rw [hy] at CE
  have v1 : IntKind.i64.wrap (((m + 1 : Nat) : Int) - 1) = m := by rw [show ((m + 1 : Nat) : Int) - 1 = m by omega]; exact IntWalk.i64_in _ (by omega)
  have d1 : decide ((0 : Int) < ((m + 1 : Nat) : Int)) = true := decide_eq_true (by omega)
  have HB := Lib.hid ((Below.refl w.heap.size w).alloc (Nat.le_refl _) (.cells #[.int .u64 rd, .slice (some ⟨b, off, none⟩) (m + 1) c, .int .u64 fin, .bool kn] 28))
  have HH := Lib.hid (And.intro hr h0)
  clear hx hD hx1 hy hr h0
  cases kn with
  | true =>
    go_enter Try.func22, Try.ntmps22
    go_wp2_with fail
    refine (CE.out _).mono ?_
    rintro e w1 ⟨rfl, hb⟩
    have HB1 := Lib.hid (nextG HB.out hb)
    clear hb
    go_wp2_with fail
    go_ret
    exact ⟨ret_u64 (by have := HH.out.1; have := HH.out.2 (by simp); show _ = fin; omega), HB1.out⟩
  | false =>
    go_enter Try.func22, Try.ntmps22
    go_wp2_with fail
    refine (CE.out _).mono ?_
    rintro e w1 ⟨rfl, hb⟩
    have HB1 := Lib.hid (nextG HB.out hb)
    clear hb
    go_wp2_with fail
    go_ret
    exact ⟨ret_u64 (by have := HH.out.1; show _ = y; omega), HB1.out⟩
/-- The highest place that is known of. -/
def hiS (s : GS) : Int := if s.kn then s.fin else if s.l = [] then s.rd else (s.l.getD (s.l.length - 1) (0, 0)).2 + 1
theorem hiS_le {T : ByteArray} {s : GS} (h : GsOk T s) : s.rd ≤ hiS s ∧ hiS s ≤ (T.size : Int) := by
  unfold hiS
  have := h.r1
  by_cases hk : s.kn = true
  · rw [if_pos hk, h.kn hk]
    omega
  · rw [if_neg hk]
    by_cases hl : s.l = []
    · rw [if_pos hl]; omega
    · rw [if_neg hl]
      have hn := List.length_pos_iff.2 hl
      have hx : s.l.getD (s.l.length - 1) (0, 0) ∈ s.l := by rw [getD_get (by omega)]; exact List.getElem_mem _
      have h1 := h.inn _ hx
      have h2 := h.inns _ hx
      unfold Inn at h2
      omega
theorem highest_any (T : ByteArray) (s : GS) (v : Value) (w : World) (hok : GsOk T s) (hT : T.size ≤ 900) (hr : RowG w v T s.l) :
    Calls Try.prog 22 #[.agg #[.int .u64 s.rd, v, .int .u64 s.fin, .bool s.kn]] w fun e w' => e = .returned (.int .u64 (hiS s)) ∧ Below w.heap.size w w' := by
  have hlen := hok.len
  have hin := hok.inn
  have hins := hok.inns
  have hkn := hok.kn
  have hr1 := hok.r1
  obtain ⟨rd, l, fin, kn⟩ := s
  obtain ⟨a, c, rfl, hc, hrow⟩ := hr
  simp only at hc hrow hlen hin hins hkn hr1 ⊢
  unfold hiS
  simp only
  by_cases hl : l = []
  · subst hl
    have := high_nil rd fin kn a c w (fun h => by rw [hkn h]; exact hr1)
    simpa using this
  · obtain ⟨b, off, rfl, hb, hcell⟩ := hrow hl
    obtain ⟨m, hm⟩ : ∃ m, l.length = m + 1 := ⟨l.length - 1, by have := List.length_pos_iff.2 hl; omega⟩
    have h1 := hcell m (by omega) 0 (by decide)
    have h2 := hcell m (by omega) 1 (by decide)
    have hx : l.getD m (0, 0) ∈ l := by rw [getD_get (by omega)]; exact List.getElem_mem _
    have i1 := hin _ hx
    have i2 := hins _ hx
    have i3 := bt_size i2
    obtain ⟨p0, p1, p2⟩ := i2
    rw [if_neg hl, hm, show m + 1 - 1 = m from rfl]
    rw [hm] at hc
    exact high_row rd fin _ _ kn (bt T (l.getD m (0, 0))) b off m c w (by omega) hc (by simpa [gcs] using h1) (by rw [Nat.add_assoc]; simpa [gcs] using h2) p0 (by omega) (by omega) (by omega) (by omega) (fun h => by rw [hkn h]; exact ⟨hr1, by omega⟩)
theorem highV {T : ByteArray} {s : GS} (h : GsOk T s) (hk : s.kn = true) : hiS s = (T.size : Int) := by unfold hiS; rw [if_pos hk, h.kn hk]
set_option maxHeartbeats 1000000 in
theorem Highest_any (T : ByteArray) (s : GS) (a : Option Addr) (n c : Nat) (w : World) (hok : GsOk T s) (hT : T.size ≤ 900) (hr : RowG w (.slice a n c) T s.l) :
    Calls Try.prog 12 #[.agg #[.int .u64 s.rd, .slice a n c, .int .u64 s.fin, .bool s.kn]] w fun e w' => e = .returned (.int .u64 (hiS s)) ∧ Below w.heap.size w w' := by
  have CH := Lib.hid (fun W h => highest_any T s (.slice a n c) W hok hT h)
  have HB := Lib.hid ((Below.refl w.heap.size w).alloc (Nat.le_refl _) (.cells #[.int .u64 s.rd, .slice a n c, .int .u64 s.fin, .bool s.kn] 28))
  have HR := Lib.hid (hr.go HB.out)
  clear hr hok
  go_enter Try.func12, Try.ntmps12
  go_wp2_with fail
  refine (CH.out _ HR.out).mono ?_
  rintro e w1 ⟨rfl, hb⟩
  have HB1 := Lib.hid (nextG HB.out hb)
  clear hb
  go_wp2_with fail
  go_ret
  exact ⟨rfl, HB1.out⟩
set_option maxHeartbeats 1000000 in
theorem held_one (rd fin : Int) (kn : Bool) (D : ByteArray) (x : Int) (b off c : Nat) (w : World) (hc : 1 ≤ c) (hD : D.size ≤ 1000) (h1 : w.cell? ⟨b, off, none⟩ = some (.int .u64 x)) (h2 : w.cell? ⟨b, off + 1, none⟩ = some (.string D)) :
    Calls Try.prog 11 #[.agg #[.int .u64 rd, .slice (some ⟨b, off, none⟩) 1 c, .int .u64 fin, .bool kn]] w fun e w' => e = .returned (.int .i64 (D.size : Int)) ∧ Below w.heap.size w w' := by
  have hb := block_lt_of_cell h1
  go_enter Try.func11, Try.ntmps11
  go_wp2_with fail
  refine wp_loop_rounds 2 ?_
  rw [rounds_succ]
  go_wp2_with fail
  rw [rounds_succ]
  go_wp2_with fail
  go_ret
  exact ⟨ret_i64 (by simp), ((Below.refl _ _).alloc (Nat.le_refl _) _).alloc (by simp) _⟩

/-! ### What is had -/
theorem rd_one (W : World) (Y : TypeId) (lo hi : Int) : Rd (W.alloc (.cells #[.int .u64 lo, .int .u64 hi] Y)) (.slice (some ⟨W.heap.size, 0, none⟩) 1 1) [(lo, hi)] :=
  ⟨_, 1, rfl, Nat.le_refl _, fun _ => ⟨_, 0, rfl, fun i hi => by
    obtain rfl : i = 0 := by simp at hi; omega
    simp [go_sem]⟩⟩
def HadRel (L : List Ran) (r : Ran) (B : Nat) (w1 : World) (n : Nat) (sv iv : Value) (wr : World) : Prop :=
  ∃ k : Nat, k ≤ n ∧ iv = .int .i64 k ∧ Ow wr B 72 sv ([r] ++ L.take k) ∧ Below w1.heap.size w1 wr ∧ B ≤ wr.heap.size
set_option maxHeartbeats 2000000 in
theorem had_any (T : ByteArray) (s : GS) (a : Option Addr) (n c : Nat) (w : World) (hok : GsOk T s) (hT : T.size ≤ 900) (hn : s.l.length = n) (hr : RowG w (.slice a n c) T s.l) :
    Calls Try.prog 29 #[.agg #[.int .u64 s.rd, .slice a n c, .int .u64 s.fin, .bool s.kn]] w fun e w' => ∃ u H, e = .returned u ∧ Can H ∧ (∀ k, mem H k ↔ (0 ≤ k ∧ k < s.rd) ∨ mem s.l k) ∧ H.length ≤ n + 1 ∧ Rd w' u H ∧ Below w.heap.size w w' := by
  have hlen := hok.len
  have hins := hok.inns
  have hcan := hok.can
  have r0 := hok.r0
  have r1 := hok.r1
  obtain ⟨rd, l, fin, kn⟩ := s
  simp only at hn hr hlen hins hcan r0 r1 ⊢
  have CS := Lib.hid (fun W => span_any 0 rd W (Int.le_refl _) (by omega))
  have CP : Hid (∀ k, k < n → ∀ W, Calls Try.prog 30 #[.agg #[.int .u64 (l.getD k (0, 0)).1, .string (bt T (l.getD k (0, 0)))]] W fun e w' => e = .returned (.agg #[.int .u64 (l.getD k (0, 0)).1, .int .u64 (l.getD k (0, 0)).2]) ∧ Below W.heap.size W w') := Lib.hid (fun k hk W => by
    have hx : l.getD k (0, 0) ∈ l := by rw [getD_get (by omega)]; exact List.getElem_mem _
    have hi := hins _ hx
    have hz := bt_size hi
    have hp := spn_part hi
    obtain ⟨p0, p1, p2⟩ := hi
    have := places_any (l.getD k (0, 0)).1 (bt T (l.getD k (0, 0))) W p0 (by omega) (by omega)
    rw [hp] at this
    exact this)
  have CO : Hid (∀ (a : Option Addr) (m c : Nat) W, m = n + 1 → Rd W (.slice a m c) ([spn 0 rd] ++ l) → Calls Try.prog 39 #[.slice a m c] W fun e w' => ∃ v l', e = .returned v ∧ Can l' ∧ (∀ k, mem l' k ↔ mem ([spn 0 rd] ++ l) k) ∧ l'.length ≤ ([spn 0 rd] ++ l).length ∧ Rd w' v l' ∧ Below W.heap.size W w') := Lib.hid (fun a m c W hm h => of_loop a m c ([spn 0 rd] ++ l) (by simp; omega) (fun x hx => by
    rcases List.mem_append.1 hx with hx | hx
    · rw [List.mem_singleton.1 hx]; exact spn_good (Int.le_refl _) (by omega)
    · have := hcan.good x hx; omega) W h)
  have HB0 := Lib.hid ((Below.refl w.heap.size w).alloc (Nat.le_refl _) (.cells #[.int .u64 rd, .slice a n c, .int .u64 fin, .bool kn] 28))
  have HG0 := Lib.hid (gb_made w 28 ⟨rd, l, fin, kn⟩ (.slice a n c))
  have HN := Lib.hid hn
  have HROW : Hid (∀ i, i < n → ∃ b off, a = some ⟨b, off, none⟩ ∧ n ≤ c ∧ ∀ V, Below w.heap.size w V → V.cell? ⟨b, off + i * 2, none⟩ = some (.int .u64 (l.getD i (0, 0)).1) ∧ V.cell? ⟨b, off + i * 2 + 1, none⟩ = some (.string (bt T (l.getD i (0, 0))))) := Lib.hid (fun i hi => by
    obtain ⟨a', c', e, hc, hrow⟩ := hr
    cases e
    obtain ⟨g, off, ha, hg, hcl⟩ := hrow (fun h => by subst h; simp at hi)
    refine ⟨g, off, ha, by omega, fun V hV => ?_⟩
    have hh := fun j hj => (hV.cell (p := ⟨g, off + (i * 2 + j), none⟩) hg).trans (hcl i (by omega) j hj)
    exact ⟨by simpa [gcs] using hh 0 (by decide), by rw [Nat.add_assoc]; simpa [gcs] using hh 1 (by decide)⟩)
  have hn0 : (n : Int) ≤ 900 := by omega
  obtain ⟨i0, hi, hz0, hz1, hz2⟩ := info_parts infoR
  have hz1 := Lib.hid hz1; have hz2 := Lib.hid hz2; have hz0 := Lib.hid hz0; have hi := Lib.hid hi
  obtain ⟨r, hrr⟩ : ∃ r, spn 0 rd = r := ⟨_, rfl⟩
  have HRR := Lib.hid hrr
  rw [hrr] at CS CO
  clear hr hlen hins hcan r0 r1 hrr hn
  obtain ⟨rl, rh⟩ := r
  simp only at CS
  go_enter Try.func29, Try.ntmps29
  go_wp2_with fail
  refine (CS.out _).mono ?_
  rintro e w1 ⟨rfl, hb⟩
  have HB1 := Lib.hid (nextG HB0.out hb)
  have HG1 := Lib.hid (HG0.out.go hb)
  have y1 := HG1.out.c1
  have HBL : Hid (w.heap.size < w1.heap.size) := Lib.hid HG1.out.lt
  have hbl := HBL.out
  clear hb CS
  go_wp2_with fail
  have HG2 := Lib.hid (HG1.out.go ((Below.refl _ _).alloc (Nat.le_refl _) (.cells #[.int .u64 rl, .int .u64 rh] 72)))
  have y2 := HG2.out.c1
  have HOW0 : Hid (Ow (w1.alloc (.cells #[.int .u64 rl, .int .u64 rh] 72)) w1.heap.size 72 (.slice (some ⟨w1.heap.size, 0, none⟩) 1 1) ([(rl, rh)] ++ l.take 0)) := Lib.hid ⟨rfl, .inr ⟨w1.heap.size, 1, #[.int .u64 rl, .int .u64 rh], rfl, Nat.le_refl _, heap_alloc_new w1 _, Nat.le_refl _, by unfold maxLen; omega, rfl, rfl⟩⟩
  have HB2 : Hid (Below w.heap.size w (w1.alloc (.cells #[.int .u64 rl, .int .u64 rh] 72))) := Lib.hid (HB1.out.alloc HB1.out.size _)
  have HSZ : Hid (w1.heap.size ≤ (w1.alloc (.cells #[.int .u64 rl, .int .u64 rh] 72)).heap.size) := Lib.hid (by simp)
  go_wp2_with fail
  generalize hw2 : w1.alloc (.cells #[.int .u64 rl, .int .u64 rh] 72) = w2 at *
  go_loopw [3, 5, 13] (fun sv _ iv wr => HadRel l (rl, rh) w1.heap.size w n sv iv wr) (fun _ _ iv _ => n - (intOf iv).toNat)
  case atStart => exact ⟨0, Nat.zero_le _, rfl, HOW0.out, HB2.out, HSZ.out⟩
  case round =>
    obtain ⟨k, hk, rfl, hown, hb, hsw⟩ := hrel
    have HOW := Lib.hid hown
    have HSR := Lib.hid hsw
    have HB := Lib.hid hb
    obtain ⟨a3, cap3, rfl⟩ := hown.form
    rw [show ([(rl, rh)] ++ l.take k).length = k + 1 by simp [HN.out]; omega] at HOW ⊢
    clear hown hb hsw
    by_cases hlt : k < n
    · obtain ⟨b, off, rfl, hnc, hc⟩ := HROW.out k hlt
      obtain ⟨hc1, hc2⟩ := hc wr HB.out
      have CPk := Lib.hid (CP.out k hlt)
      have HT := Lib.hid (take_succ_getD l (0, 0) (by have := HN.out; omega : k < l.length))
      clear hc
      generalize l.getD k (0, 0) = x at *
      obtain ⟨lo, hj⟩ := x
      generalize hD : bt T (lo, hj) = D at *
      simp only at hc1 hc2 CPk
      have HBa := Lib.hid (HB.out.alloc HB.out.size (.cells #[.int .u64 lo, .string D] 50))
      go_wp2_with fail
      refine (CPk.out _).mono ?_
      rintro e w3 ⟨rfl, hb⟩
      have HB3 := Lib.hid (nextG HBa.out hb)
      have HOW3 := Lib.hid (HOW.out.only ((Only.alloc (fun _ => False) wr (.cells #[.int .u64 lo, .string D] 50)).trans (Only.of_all hb _)) (fun _ _ h => h))
      have HSW : Hid (w1.heap.size ≤ w3.heap.size) := Lib.hid (by have h1 := hb.size; have h2 := HSR.out; rw [World.size_alloc] at h1; omega)
      have HOWx := Lib.hid (HOW3.out.only (Only.alloc (fun _ => False) w3 (.cells #[.int .u64 lo, .int .u64 hj] 72)) (fun _ _ h => h))
      have HRX := Lib.hid (rd_one w3 72 lo hj)
      have HB4 := Lib.hid (HB3.out.alloc HB3.out.size (.cells #[.int .u64 lo, .int .u64 hj] 72))
      have HL : Hid (([(rl, rh)] ++ l.take k).length + [(lo, hj)].length ≤ 100000) := Lib.hid (by simp; have := HN.out; omega)
      clear hb HB0 HG0 HG1 HG2 y1 y2
      go_wp2_with (at_builtin; refine wpList_append_rd _ rfl _ _ 67 rfl w1.heap.size 72 i0 (.agg #[.int .u64 0, .int .u64 0]) Try.underlying67 hi.out hz0.out hz1.out hz2.out rfl (.slice a3 (k + 1) cap3) rfl ([(rl, rh)] ++ l.take k) HOWx.out (.slice (some ⟨w3.heap.size, 0, none⟩) 1 1) rfl [(lo, hj)] HRX.out HL.out (by have := HSW.out; simp; omega) ?_)
      intro a5 n5 c5 w5 o5 g5 _
      have O5 : Hid (Ow w5 w1.heap.size 72 (.slice a5 n5 c5) ([(rl, rh)] ++ l.take (k + 1))) := Lib.hid (by rw [HT.out, ← List.append_assoc]; exact o5)
      have B5 := Lib.hid (HB4.out.grown g5 (HB4.out.size) (fun q hq => by have := (HOWx.out.lt hq).1; have := HBL.out; omega))
      have S5 : Hid (w1.heap.size ≤ w5.heap.size) := Lib.hid (by have h1 := g5.size; have h2 := HSW.out; rw [World.size_alloc] at h1; omega)
      clear o5 g5
      go_wp2_with fail
      go_roundw
      case rel => exact ⟨k + 1, by omega, by go_num, O5.out, B5.out, S5.out⟩
      case measure => simp [intOf]; omega
    · obtain rfl : k = n := by omega
      have HOF : Hid (Ow wr w1.heap.size 72 (.slice a3 (k + 1) cap3) ([(rl, rh)] ++ l)) := Lib.hid (by
        have h := HOW.out
        rw [List.take_of_length_le (by have := HN.out; omega)] at h
        exact h)
      have HRF := Lib.hid HOF.out.rd
      clear HB0 HG0 HG1 HG2 y1 y2
      go_wp2_with fail
      refine (CO.out _ _ _ _ rfl HRF.out).mono ?_
      rintro e w6 ⟨u, H, rfl, q1, q2, q3, q4, q5⟩
      have Q1 := Lib.hid q1
      have Q2 := Lib.hid q2
      have Q3 := Lib.hid q3
      have Q4 := Lib.hid q4
      have Q5 := Lib.hid (nextG HB.out q5)
      clear q1 q2 q3 q4 q5
      go_wp2_with fail
      go_ret
      refine ⟨_, H, rfl, Q1.out, fun x => ?_, ?_, Q4.out, Q5.out⟩
      · rw [Q2.out, mem_append, mem_single, ← HRR.out, inn_spn]
      · have := Q3.out; simp at this; have := HN.out; omega
end Go.Proofs.Ytndnlpohdimgaaa.Rg
