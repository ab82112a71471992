/- Layer 14: plain mathematics: parts of a text, laid among one another, and taken · The walks of layer 3: comparing, and the search. · The walks of layer 3: within, and its iterator. -/
import Derived.Test.YtoblmhpjendbfaaGreatDoorJb02
import Derived.Test.YtoblmhpjendbfaaGreatDoorJb01
import Derived.WalkSpells
import Derived.WalkLawsBesides
namespace Go.Proofs.YtoblmhpjendbfaaGreatDoor.Rg.Gt
set_option maxRecDepth 20000
set_option linter.unusedVariables false
set_option linter.unusedSimpArgs false

/-- The bytes of a text at the places of a range. -/
def bt (T : ByteArray) (x : Ran) : ByteArray := T.extract x.1.toNat (x.2 + 1).toNat
/-- A range of a text's places. -/
def Inn (T : ByteArray) (x : Ran) : Prop := 0 ≤ x.1 ∧ x.1 ≤ x.2 ∧ x.2 < (T.size : Int)
theorem bt_size {T : ByteArray} {x : Ran} (h : Inn T x) : ((bt T x).size : Int) = x.2 + 1 - x.1 := by
  obtain ⟨h0, h1, h2⟩ := h
  unfold bt
  rw [ByteArray.size_extract]
  omega
theorem bt_join {T : ByteArray} {a b c d : Int} (h0 : 0 ≤ a) (h1 : a ≤ b) (h2 : d = b + 1) (h3 : d ≤ c) : bt T (a, b) ++ bt T (d, c) = bt T (a, c) := by
  subst h2
  unfold bt
  simp only
  rw [← ByteArray.extract_eq_extract_append_extract _ (by omega) (by omega)]
theorem bt_cut {T : ByteArray} {x : Ran} {i j : Nat} (h : Inn T x) (hj : (j : Int) ≤ x.2 + 1 - x.1) : (bt T x).extract i j = T.extract (x.1.toNat + i) (x.1.toNat + j) := by
  obtain ⟨h0, h1, h2⟩ := h
  unfold bt
  rw [ByteArray.extract_extract, show min (x.1.toNat + j) (x.2 + 1).toNat = x.1.toNat + j by omega]
/-- The places from one on, below another one. -/
def spn (a b : Int) : Ran := if b ≤ a then (1, 0) else (a, b - 1)
theorem inn_spn {a b n : Int} : inn (spn a b) n ↔ a ≤ n ∧ n < b := by
  unfold spn
  split
  · constructor
    · rintro ⟨h1, h2⟩; simp only at h1 h2; omega
    · rintro ⟨h1, h2⟩; omega
  · constructor
    · rintro ⟨h1, h2⟩; simp only at h1 h2; omega
    · rintro ⟨h1, h2⟩; exact ⟨by simp only; omega, by simp only; omega⟩
theorem spn_good {a b : Int} (h0 : 0 ≤ a) (h1 : b < 9223372036854775808) : 0 ≤ (spn a b).1 ∧ (spn a b).2 < 9223372036854775808 := by
  unfold spn
  split
  · exact ⟨by decide, by decide⟩
  · exact ⟨h0, by simp only; omega⟩
theorem spn_part {T : ByteArray} {x : Ran} (h : Inn T x) : spn x.1 (x.1 + ((bt T x).size : Int)) = x := by
  rw [bt_size h]
  obtain ⟨h0, h1, h2⟩ := h
  unfold spn
  rw [if_neg (by omega), show x.1 + (x.2 + 1 - x.1) - 1 = x.2 by omega]

/-- A state: how much was read, where bytes are, the end. -/
structure GS where
  rd : Int
  l : List Ran
  fin : Int
  kn : Bool
/-- A state of a stream that is a text. -/
structure GsOk (T : ByteArray) (s : GS) : Prop where
  can : Can s.l
  r0 : 0 ≤ s.rd
  r1 : s.rd ≤ (T.size : Int)
  inn : ∀ x ∈ s.l, s.rd ≤ x.1 ∧ x.2 < (T.size : Int)
  f0 : 0 ≤ s.fin
  f1 : s.fin ≤ (T.size : Int)
  kn : s.kn = true → s.fin = (T.size : Int)
theorem GsOk.inns {T : ByteArray} {s : GS} (h : GsOk T s) : ∀ x ∈ s.l, Inn T x := fun x hx => ⟨(h.can.good x hx).1, (h.can.good x hx).2.1, (h.inn x hx).2⟩
theorem gs_zero (T : ByteArray) : GsOk T ⟨0, [], 0, false⟩ := ⟨Can.nil, Int.le_refl _, by simp, fun x h => (by cases h), Int.le_refl _, by simp, fun h => by cases h⟩
theorem can_len : ∀ {l : List Ran} {lo B : Int}, Can l → (∀ y ∈ l, lo ≤ y.1 ∧ y.2 < B) → lo ≤ B → (l.length : Int) ≤ B - lo
  | [], lo, B, _, _, h => by simp; omega
  | x :: l, lo, B, hc, hw, h => by
    have h1 := hc.head
    have h2 := hw x (List.mem_cons_self ..)
    have := can_len (l := l) (lo := x.2 + 1) (B := B) hc.tail (fun y hy => ⟨by have := hc.next y hy; omega, (hw y (List.mem_cons_of_mem _ hy)).2⟩) (by omega)
    rw [List.length_cons]
    omega
theorem GsOk.len {T : ByteArray} {s : GS} (h : GsOk T s) : (s.l.length : Int) ≤ T.size := by
  have := can_len h.can h.inn h.r1
  have := h.r0
  omega

/-! ### Laid among one another -/
def Dis (a b : Ran) : Prop := a.2 < b.1 ∨ b.2 < a.1
theorem dis_of {l g : List Ran} (hl : Can l) (hg : Can g) (h : ∀ n, mem g n → ¬ mem l n) : (l ++ g).Pairwise Dis := by
  refine List.pairwise_append.2 ⟨hl.rise.imp (fun h => .inl (by omega)), hg.rise.imp (fun h => .inl (by omega)), fun a ha b hb => ?_⟩
  have ga := hl.good a ha
  have gb := hg.good b hb
  apply Classical.byContradiction
  intro hn
  unfold Dis at hn
  refine h (max a.1 b.1) ⟨b, hb, ?_, ?_⟩ ⟨a, ha, ?_, ?_⟩ <;> omega
theorem rise_of {l s : List Ran} (hp : s.Perm l) (hd : l.Pairwise Dis) (hs : s.Pairwise (fun a b => a.1 ≤ b.1)) (hg : ∀ x ∈ s, x.1 ≤ x.2) : s.Pairwise (fun a b => a.2 < b.1) := by
  have h1 : s.Pairwise Dis := (hp.pairwise_iff (fun h => h.symm)).2 hd
  have h2 := List.pairwise_iff_getElem.1 h1
  have h3 := List.pairwise_iff_getElem.1 hs
  refine List.pairwise_iff_getElem.2 fun i j hi hj hij => ?_
  have a := h2 i j hi hj hij
  have b := h3 i j hi hj hij
  have c := hg _ (List.getElem_mem hj)
  rcases a with a | a
  · exact a
  · omega
/-- What was laid so far ends ahead of what comes next. -/
theorem fold_last {s t : List Ran} {y : Ran} {k : Nat} (hk : k < s.length) (hg : ∀ r ∈ s, 0 ≤ r.1 ∧ r.1 ≤ r.2 ∧ r.2 < 9223372036854775808) (hs : s.Pairwise (fun a b => a.2 < b.1)) (h : (s.take k).foldl join [] = t ++ [y]) :
    y.2 < (s.getD k (0, 0)).1 := by
  have hs1 : s.Pairwise (fun a b => a.1 ≤ b.1) := by
    refine List.pairwise_iff_getElem.2 fun i j hi hj hij => ?_
    have := List.pairwise_iff_getElem.1 hs i j hi hj hij
    have := hg _ (List.getElem_mem hi)
    omega
  obtain ⟨c1, c2⟩ := joins_can (s.take k) [] Can.nil (fun r hr => hg r (List.mem_of_mem_take hr)) (hs1.sublist (List.take_sublist k s)) (fun x hx => by cases hx)
  rw [h] at c1 c2
  have hy := c1.good y (by simp)
  have hm : mem (s.take k) y.2 := ((c2 y.2).1 ⟨y, by simp, hy.2.1, Int.le_refl _⟩).resolve_left (mem_nil _)
  obtain ⟨x, hx, h1, h2⟩ := hm
  obtain ⟨i, hi, rfl⟩ := List.getElem_of_mem hx
  rw [List.length_take] at hi
  have := List.pairwise_iff_getElem.1 hs i k (by omega) hk (by omega)
  rw [List.getElem_take] at h2
  have e : s.getD k (0, 0) = s[k] := by simp [List.getD, hk]
  rw [e]
  omega
theorem fold_inn {T : ByteArray} {s : List Ran} (hg : ∀ r ∈ s, Inn T r) (hT : (T.size : Int) < 9223372036854775808) (hs : s.Pairwise (fun a b => a.1 ≤ b.1)) (k : Nat) :
    ∀ y ∈ (s.take k).foldl join [], Inn T y := by
  obtain ⟨c1, c2⟩ := joins_can (s.take k) [] Can.nil (fun r hr => by have := hg r (List.mem_of_mem_take hr); unfold Inn at this; omega) (hs.sublist (List.take_sublist k s)) (fun x hx => by cases hx)
  intro y hy
  have h1 := c1.good y hy
  obtain ⟨x, hx, h2, h3⟩ := ((c2 y.2).1 ⟨y, hy, h1.2.1, Int.le_refl _⟩).resolve_left (mem_nil _)
  have := hg x (List.mem_of_mem_take hx)
  unfold Inn at *
  omega

/-! ### Taken -/
/-- How many bytes are ready. -/
def rdy (s : GS) : Int := match s.l with | x :: _ => if x.1 = s.rd then x.2 + 1 - x.1 else 0 | [] => 0
theorem rdy_nil {s : GS} (h : s.l = []) : rdy s = 0 := by unfold rdy; rw [h]
theorem rdy_no {s : GS} {x : Ran} {m : List Ran} (h : s.l = x :: m) (hx : x.1 ≠ s.rd) : rdy s = 0 := by unfold rdy; rw [h]; simp [hx]
theorem rdy_yes {s : GS} {x : Ran} {m : List Ran} (h : s.l = x :: m) (hx : x.1 = s.rd) : rdy s = x.2 + 1 - x.1 := by unfold rdy; rw [h]; simp [hx]
theorem rdy_range {T : ByteArray} {s : GS} (h : GsOk T s) : 0 ≤ rdy s ∧ s.rd + rdy s ≤ (T.size : Int) := by
  have := h.r1
  unfold rdy
  split
  · rename_i x m e
    have h1 := h.inns x (by rw [e]; simp)
    have h2 := h.inn x (by rw [e]; simp)
    unfold Inn at h1
    split <;> omega
  · omega
/-- How many are taken. -/
def tk (s : GS) (n : Int) : Int := min (max n 0) (rdy s)
def dropL (s : GS) (m : Int) : List Ran := match s.l with | x :: l => if m = 0 then x :: l else if m = rdy s then l else (s.rd + m, x.2) :: l | [] => []
/-- The state when m of the bytes that are ready were taken. -/
def takeS (s : GS) (m : Int) : GS := ⟨s.rd + m, dropL s m, s.fin, s.kn⟩
theorem dropL_zero (s : GS) : dropL s 0 = s.l := by unfold dropL; split <;> rename_i e <;> rw [e]; simp
theorem takeS_zero (s : GS) : takeS s 0 = s := by
  unfold takeS
  rw [dropL_zero, Int.add_zero]
theorem dropL_all {s : GS} {x : Ran} {l : List Ran} (h : s.l = x :: l) {m : Int} (hm : m ≠ 0) (hr : m = rdy s) : dropL s m = l := by
  unfold dropL; rw [h]; simp only; rw [if_neg hm, if_pos hr]
theorem dropL_some {s : GS} {x : Ran} {l : List Ran} (h : s.l = x :: l) {m : Int} (hm : m ≠ 0) (hr : m ≠ rdy s) : dropL s m = (s.rd + m, x.2) :: l := by
  unfold dropL; rw [h]; simp only; rw [if_neg hm, if_neg hr]
theorem take_ok {T : ByteArray} {s : GS} (h : GsOk T s) {m : Int} (h0 : 0 ≤ m) (h1 : m ≤ rdy s) : GsOk T (takeS s m) ∧ ∀ n, mem (takeS s m).l n ↔ mem s.l n ∧ s.rd + m ≤ n := by
  have hr := rdy_range h
  by_cases hm : m = 0
  · subst hm
    rw [takeS_zero]
    refine ⟨h, fun n => ⟨fun h' => ⟨h', ?_⟩, fun h' => h'.1⟩⟩
    obtain ⟨x, hx, h2, h3⟩ := h'
    have := h.inn x hx
    omega
  · obtain ⟨x, l, hl, hx⟩ : ∃ x l, s.l = x :: l ∧ x.1 = s.rd := by
      rcases hsl : s.l with _ | ⟨x, l⟩
      · rw [rdy_nil hsl] at h1; omega
      · by_cases hx : x.1 = s.rd
        · exact ⟨x, l, rfl, hx⟩
        · rw [rdy_no hsl hx] at h1; omega
    have hy := rdy_yes hl hx
    have hc := h.can
    have hin := h.inn
    rw [hl] at hc hin
    have gx := hc.head
    have ix := hin x (List.mem_cons_self ..)
    have gnext := hc.next
    by_cases hq : m = rdy s
    · refine ⟨⟨?_, ?_, ?_, ?_, h.f0, h.f1, h.kn⟩, ?_⟩
      · show Can (dropL s m)
        rw [dropL_all hl hm hq]; exact hc.tail
      · show 0 ≤ s.rd + m
        have := h.r0; omega
      · show s.rd + m ≤ _
        omega
      · show ∀ y ∈ dropL s m, s.rd + m ≤ y.1 ∧ y.2 < _
        rw [dropL_all hl hm hq]
        intro y hy'
        have := gnext y hy'
        have := hin y (List.mem_cons_of_mem _ hy')
        omega
      · intro n
        show mem (dropL s m) n ↔ _
        rw [dropL_all hl hm hq, hl, mem_cons]
        constructor
        · rintro ⟨y, hy', h2, h3⟩
          have := gnext y hy'
          exact ⟨.inr ⟨y, hy', h2, h3⟩, by omega⟩
        · rintro ⟨h2 | h2, h3⟩
          · have := h2.2; omega
          · exact h2
    · have hlt : s.rd + m ≤ x.2 := by omega
      refine ⟨⟨?_, ?_, ?_, ?_, h.f0, h.f1, h.kn⟩, ?_⟩
      · show Can (dropL s m)
        rw [dropL_some hl hm hq]
        exact hc.tail.cons ⟨by have := h.r0; simp only; omega, hlt, gx.2.2⟩ gnext
      · show 0 ≤ s.rd + m
        have := h.r0; omega
      · show s.rd + m ≤ _
        omega
      · show ∀ y ∈ dropL s m, s.rd + m ≤ y.1 ∧ y.2 < _
        rw [dropL_some hl hm hq]
        intro y hy'
        rcases List.mem_cons.1 hy' with rfl | hy'
        · exact ⟨Int.le_refl _, ix.2⟩
        · have := gnext y hy'
          have := hin y (List.mem_cons_of_mem _ hy')
          omega
      · intro n
        show mem (dropL s m) n ↔ _
        rw [dropL_some hl hm hq, hl, mem_cons, mem_cons]
        constructor
        · rintro (h2 | ⟨y, hy', h2, h3⟩)
          · have a := h2.1; have b := h2.2
            simp only at a b
            exact ⟨.inl ⟨by omega, b⟩, a⟩
          · have := gnext y hy'
            exact ⟨.inr ⟨y, hy', h2, h3⟩, by omega⟩
        · rintro ⟨h2 | h2, h3⟩
          · exact .inl ⟨h3, h2.2⟩
          · exact .inr h2
end Go.Proofs.YtoblmhpjendbfaaGreatDoor.Rg.Gt
namespace Go.Proofs.YtoblmhpjendbfaaGreatDoor.Rg
set_option maxRecDepth 20000
open Go.RowKit
set_option linter.unusedVariables false

/-- How two numbers compare. -/
def cv (x y : Int) : Int := if x < y then -1 else if y < x then 1 else 0
theorem cv_lt {x y : Int} (h : x < y) : cv x y = -1 := by unfold cv; rw [if_pos h]
theorem cv_gt {x y : Int} (h : y < x) : cv x y = 1 := by unfold cv; rw [if_neg (by omega), if_pos h]
theorem cv_eq {x y : Int} (h : x = y) : cv x y = 0 := by unfold cv; rw [if_neg (by omega), if_neg (by omega)]
theorem cv_neg {x y : Int} : cv x y < 0 ↔ x < y := by unfold cv; split <;> (try split) <;> omega

set_option maxHeartbeats 400000 in
theorem nan_any (x : Int) (w : World) : Calls Tryz.prog 165 #[.int .u64 x] w fun e w' => e = .returned (.bool false) ∧ w = w' := by
  go_enter Tryz.func165, Tryz.ntmps165
  go_wp2
  go_ret
  exact ⟨rfl, rfl⟩

set_option maxHeartbeats 1000000 in
theorem compare_any (x y : Int) (w : World) : Calls Tryz.prog 137 #[.int .u64 x, .int .u64 y] w fun e w' => e = .returned (.int .i64 (cv x y)) ∧ w = w' := by
  rcases Int.lt_trichotomy x y with h | h | h
  · rw [cv_lt h]
    go_enter Tryz.func137, Tryz.ntmps137
    go_wp2_with (go_at_call 165; refine (nan_any _ _).mono ?_; rintro e w1 ⟨rfl, rfl⟩)
    go_ret
    exact ⟨rfl, rfl⟩
  · rw [cv_eq h]
    subst h
    go_enter Tryz.func137, Tryz.ntmps137
    go_wp2_with (go_at_call 165; refine (nan_any _ _).mono ?_; rintro e w1 ⟨rfl, rfl⟩)
    go_ret
    exact ⟨rfl, rfl⟩
  · rw [cv_gt h]
    go_enter Tryz.func137, Tryz.ntmps137
    go_wp2_with (go_at_call 165; refine (nan_any _ _).mono ?_; rintro e w1 ⟨rfl, rfl⟩)
    go_ret
    exact ⟨rfl, rfl⟩

set_option maxHeartbeats 400000 in
theorem cmpHi_any (lo hi y : Int) (w : World) : Calls Tryz.prog 215 #[.agg #[.int .u64 lo, .int .u64 hi], .int .u64 y] w fun e w' => e = .returned (.int .i64 (cv hi y)) ∧ Below w.heap.size w w' := by
  go_enter Tryz.func215, Tryz.ntmps215
  go_wp2_with (go_at_call 137; refine (compare_any _ _ _).mono ?_; rintro e w1 ⟨rfl, rfl⟩)
  go_ret
  exact ⟨rfl, (Below.refl _ _).alloc (Nat.le_refl _) _⟩

set_option maxHeartbeats 400000 in
theorem cmpLo_any (lo hi lo2 hi2 : Int) (w : World) : Calls Tryz.prog 174 #[.agg #[.int .u64 lo, .int .u64 hi], .agg #[.int .u64 lo2, .int .u64 hi2]] w fun e w' => e = .returned (.int .i64 (cv lo lo2)) ∧ w' = (w.alloc (.cells #[.int .u64 lo, .int .u64 hi] 153)).alloc (.cells #[.int .u64 lo2, .int .u64 hi2] 153) := by
  go_enter Tryz.func174, Tryz.ntmps174
  go_wp2_with (go_at_call 137; refine (compare_any _ _ _).mono ?_; rintro e w1 ⟨rfl, rfl⟩)
  go_ret
  exact ⟨rfl, rfl⟩

set_option maxHeartbeats 1000000 in
theorem search_row (b off cap n : Nat) (l : List Ran) (y : Int) (w : World) (hl : l.length = n) (hn : n ≤ 1000) (hb : b < w.heap.size)
    (hc : ∀ i, i < n → w.cell? ⟨b, off + i * 2, none⟩ = some (.int .u64 (l.getD i (0, 0)).1) ∧ w.cell? ⟨b, off + i * 2 + 1, none⟩ = some (.int .u64 (l.getD i (0, 0)).2))
    (hm : ∀ i j, i ≤ j → j < n → (l.getD i (0, 0)).2 ≤ (l.getD j (0, 0)).2) :
    Calls Tryz.prog 214 #[.slice (some ⟨b, off, none⟩) n cap, .int .u64 y, .func (.func 215) #[] #[]] w fun e w' =>
      (∃ (k : Nat) (t : Bool), e = .returned (.tuple #[.int .i64 k, .bool t]) ∧ k ≤ n ∧ (∀ i, i < k → (l.getD i (0, 0)).2 < y) ∧ (∀ i, k ≤ i → i < n → y ≤ (l.getD i (0, 0)).2)) ∧ Below w.heap.size w w' := by
  have HC := Lib.hid hc
  have HM := Lib.hid hm
  clear hc hm
  go_enter Tryz.func214, Tryz.ntmps214
  go_wp2
  go_loopw [9, 10, 11] (fun iv jv _ wr => ∃ i j : Nat, i ≤ j ∧ j ≤ n ∧ iv = .int .i64 i ∧ jv = .int .i64 j ∧ Hid ((∀ q, q < i → (l.getD q (0, 0)).2 < y) ∧ (∀ q, j ≤ q → q < n → y ≤ (l.getD q (0, 0)).2)) ∧ Below w.heap.size w wr) (fun iv jv _ _ => (intOf jv - intOf iv).toNat)
  case atStart => exact ⟨0, n, Nat.zero_le _, Nat.le_refl _, rfl, rfl, Lib.hid ⟨fun q h => by omega, fun q h h' => by omega⟩, Below.refl _ _⟩
  case round =>
    obtain ⟨i, j, hij, hjn, rfl, rfl, HR, hbl⟩ := hrel
    have hsz := hbl.size
    by_cases hlt : i < j
    · have hcx := HC.out ((i + j) / 2) (by omega)
      have hc1 := cell_below hbl hcx.1 hb
      have hc2 := cell_below hbl hcx.2 hb
      have hlo : Hid (∀ q, q ≤ (i + j) / 2 → (l.getD q (0, 0)).2 ≤ (l.getD ((i + j) / 2) (0, 0)).2) := Lib.hid (fun q hq => HM.out q _ hq (by omega))
      have hup : Hid (∀ q, (i + j) / 2 ≤ q → q < n → (l.getD ((i + j) / 2) (0, 0)).2 ≤ (l.getD q (0, 0)).2) := Lib.hid (fun q hq hq' => HM.out _ q hq hq')
      clear hcx
      generalize l.getD ((i + j) / 2) (0, 0) = x at hc1 hc2 hlo hup
      obtain ⟨lo, hi⟩ := x
      go_wp2_with fail
      refine (cmpHi_any lo hi y _).mono ?_
      rintro e w1 ⟨rfl, hb1⟩
      have hb2 := Lib.hid (hbl.trans (hb1.mono hsz))
      clear hc1 hc2 hb1
      by_cases hh : hi < y
      · rw [cv_lt hh]
        have hh := Lib.hid hh
        go_wp2
        go_roundw
        case rel => exact ⟨(i + j) / 2 + 1, j, by omega, by omega, by go_num, rfl, Lib.hid ⟨fun q hq => Int.lt_of_le_of_lt (hlo.out q (by omega)) hh.out, HR.out.2⟩, hb2.out⟩
        case measure => simp [intOf]; omega
      · have hge : Hid (y ≤ hi) := Lib.hid (by omega)
        by_cases hq : y < hi
        · rw [cv_gt hq]
          clear hh hq
          go_wp2
          go_roundw
          case rel => exact ⟨i, (i + j) / 2, by omega, by omega, rfl, by go_num, Lib.hid ⟨HR.out.1, fun q hq hq' => Int.le_trans hge.out (hup.out q hq hq')⟩, hb2.out⟩
          case measure => simp [intOf]; omega
        · rw [cv_eq (by omega)]
          clear hh hq
          go_wp2
          go_roundw
          case rel => exact ⟨i, (i + j) / 2, by omega, by omega, rfl, by go_num, Lib.hid ⟨HR.out.1, fun q hq hq' => Int.le_trans hge.out (hup.out q hq hq')⟩, hb2.out⟩
          case measure => simp [intOf]; omega
    · obtain rfl : i = j := by omega
      by_cases hin : i < n
      · have hcx := HC.out i hin
        have hc1 := cell_below hbl hcx.1 hb
        have hc2 := cell_below hbl hcx.2 hb
        clear hcx
        generalize l.getD i (0, 0) = x at hc1 hc2
        obtain ⟨lo, hi⟩ := x
        go_wp2_with fail
        refine (cmpHi_any lo hi y _).mono ?_
        rintro e w1 ⟨rfl, hb1⟩
        have hb2 := Lib.hid (hbl.trans (hb1.mono hsz))
        clear hc1 hc2 hb1
        go_wp2
        go_ret2
        exact ⟨⟨i, _, rfl, hjn, HR.out⟩, hb2.out⟩
      · go_wp2
        go_ret2
        exact ⟨⟨i, _, rfl, hjn, HR.out⟩, hbl⟩
end Go.Proofs.YtoblmhpjendbfaaGreatDoor.Rg
namespace Go.Proofs.YtoblmhpjendbfaaGreatDoor.Rg
set_option maxRecDepth 20000
open Go.RowKit Go.Shelf
set_option linter.unusedVariables false

theorem getD_get {l : List Ran} {i : Nat} (h : i < l.length) : l.getD i (0, 0) = l[i] := by simp [List.getD, List.getElem?_eq_getElem h]

set_option maxHeartbeats 400000 in
theorem search_nil (a : Option Addr) (cap : Nat) (y : Int) (w : World) :
    Calls Tryz.prog 214 #[.slice a 0 cap, .int .u64 y, .func (.func 215) #[] #[]] w fun e w' => e = .returned (.tuple #[.int .i64 0, .bool false]) ∧ w = w' := by
  go_enter Tryz.func214, Tryz.ntmps214
  go_wp2
  refine wp_loop_rounds 1 ?_
  rw [rounds_succ]
  go_wp2
  go_ret2
  exact ⟨rfl, rfl⟩

theorem search_any (v : Value) (l : List Ran) (y : Int) (w : World) (hrd : Rd w v l) (hl : l.length ≤ 1000) (hcan : Can l) :
    Calls Tryz.prog 214 #[v, .int .u64 y, .func (.func 215) #[] #[]] w fun e w' =>
      (∃ (k : Nat) (t : Bool), e = .returned (.tuple #[.int .i64 k, .bool t]) ∧ k ≤ l.length ∧ (∀ x ∈ l.take k, x.2 < y) ∧ (∀ x ∈ l.drop k, y ≤ x.2)) ∧ Below w.heap.size w w' := by
  obtain ⟨a, cap, rfl, hcap, hrow⟩ := hrd
  by_cases hnil : l = []
  · subst hnil
    refine (search_nil a cap y w).mono ?_
    rintro e w' ⟨rfl, rfl⟩
    exact ⟨⟨0, false, rfl, Nat.le_refl _, by simp, by simp⟩, Below.refl _ _⟩
  · obtain ⟨b, off, rfl, hc⟩ := hrow hnil
    have hlen : 0 < l.length := List.length_pos_iff.2 hnil
    have hm : ∀ i j, i ≤ j → j < l.length → (l.getD i (0, 0)).2 ≤ (l.getD j (0, 0)).2 := by
      intro i j hij hj
      rw [getD_get hj, getD_get (by omega)]
      rcases Nat.lt_or_ge i j with h | h
      · have h1 := (List.pairwise_iff_getElem.1 hcan.rise) i j (by omega) hj h
        have h2 := hcan.good l[j] (List.getElem_mem _)
        omega
      · obtain rfl : i = j := by omega
        exact Int.le_refl _
    refine (search_row b off cap l.length l y w rfl hl (World.block_lt_of_cell? w ⟨b, off + 0 * 2, none⟩ (hc 0 hlen).1) hc hm).mono ?_
    rintro e w' ⟨⟨k, t, rfl, hk, h1, h2⟩, hb⟩
    refine ⟨⟨k, t, rfl, hk, ?_, ?_⟩, hb⟩
    · intro x hx
      obtain ⟨i, hi, rfl⟩ := List.getElem_of_mem hx
      rw [List.length_take] at hi
      have := h1 i (by omega)
      rw [getD_get (by omega)] at this
      simpa using this
    · intro x hx
      obtain ⟨i, hi, rfl⟩ := List.getElem_of_mem hx
      rw [List.length_drop] at hi
      have := h2 (k + i) (by omega) (by omega)
      rw [getD_get (by omega)] at this
      simpa using this

/-- What lies behind the first ones of a slice. -/
theorem Rd.drop {w : World} {a : Option Addr} {n cap : Nat} {l : List Ran} (h : Rd w (.slice a n cap) l) {k : Nat} (hk : k ≤ n) :
    Rd w (.slice (if cap = k then a else a.map (·.add (k * 2))) (n - k) (cap - k)) (l.drop k) := by
  obtain ⟨a', cap', e, hcap, hrow⟩ := h
  cases e
  refine ⟨_, cap - k, by rw [List.length_drop], by rw [List.length_drop]; omega, fun hne => ?_⟩
  have hlt : k < l.length := by
    rcases Nat.lt_or_ge k l.length with h | h
    · exact h
    · exact absurd (List.drop_eq_nil_of_le h) hne
  obtain ⟨b, off, rfl, hc⟩ := hrow (fun e => by rw [e] at hlt; simp at hlt)
  refine ⟨b, off + k * 2, ?_, fun i hi => ?_⟩
  · rw [if_neg (by omega)]
    rw [Option.map_some, Addr.add_lit]
  · rw [List.length_drop] at hi
    have := hc (k + i) (by omega)
    have e1 : off + k * 2 + i * 2 = off + (k + i) * 2 := by omega
    have e2 : (l.drop k).getD i (0, 0) = l.getD (k + i) (0, 0) := by simp [List.getD]
    rw [e1, e2]
    exact this
theorem Blk.drop {a : Option Addr} {n cap k q : Nat} {c : Nat} (h : Blk (.slice (if cap = k then a else a.map (·.add (k * 2))) (n - k) c) q) : Blk (.slice a n cap) q := by
  by_cases e : cap = k
  · rw [if_pos e] at h
    cases a with
    | none => exact h
    | some a => exact ⟨by have := h.1; omega, h.2⟩
  · rw [if_neg e] at h
    cases a with
    | none => exact h
    | some a =>
      refine ⟨by have := h.1; omega, ?_⟩
      rw [← h.2]
      simp only [Addr.add]
      split <;> rfl
theorem Rd.blk {w : World} {v : Value} {l : List Ran} (h : Rd w v l) {q : Nat} (hq : Blk v q) : q < w.heap.size := by
  obtain ⟨a, cap, rfl, hcap, hrow⟩ := h
  cases a with
  | none => exact hq.elim
  | some a =>
    obtain ⟨b, off, e, hc⟩ := hrow (List.length_pos_iff.1 hq.1)
    cases e
    rw [← hq.2]
    exact World.block_lt_of_cell? w _ (hc 0 hq.1).1
theorem Rd.below {w w' : World} {v : Value} {l : List Ran} (h : Rd w v l) {n : Nat} (hb : Below n w w') (hn : w.heap.size ≤ n) : Rd w' v l := by
  obtain ⟨a, cap, rfl, hcap, hrow⟩ := h
  refine ⟨a, cap, rfl, hcap, fun hne => ?_⟩
  obtain ⟨b, off, rfl, hc⟩ := hrow hne
  refine ⟨b, off, rfl, fun i hi => ⟨cell_below hb (hc i hi).1 ?_, cell_below hb (hc i hi).2 ?_⟩⟩
  · have := World.block_lt_of_cell? w _ (hc i hi).1; simp only at this; omega
  · have := World.block_lt_of_cell? w _ (hc i hi).1; simp only at this; omega
/-- It reads the same where its block lies as it lay. -/
theorem Rd.keep {w w' : World} {v : Value} {l : List Ran} (h : Rd w v l) (hb : ∀ k, Blk v k → w'.heap[k]? = w.heap[k]?) : Rd w' v l := by
  obtain ⟨a, cap, rfl, hcap, hrow⟩ := h
  refine ⟨a, cap, rfl, hcap, fun hne => ?_⟩
  obtain ⟨b, off, rfl, hc⟩ := hrow hne
  have hb := hb b ⟨List.length_pos_iff.2 hne, rfl⟩
  exact ⟨b, off, rfl, fun i hi => ⟨(World.cell?_of_block (a := ⟨b, off + i * 2, none⟩) hb).trans (hc i hi).1, (World.cell?_of_block (a := ⟨b, off + i * 2 + 1, none⟩) hb).trans (hc i hi).2⟩⟩

/-- Parts of the first ones, that end ahead of r. -/
theorem parts_take {l : List Ran} {r : Ran} {k : Nat} (h : ∀ x ∈ l.take k, x.2 < r.1) : parts l r = parts (l.drop k) r := by
  have e : l = l.take k ++ l.drop k := (List.take_append_drop k l).symm
  have h2 : parts (l.take k) r = [] := by
    unfold parts
    refine List.filter_eq_nil_iff.2 (fun y hy => ?_)
    obtain ⟨x, hx, rfl⟩ := List.mem_map.1 hy
    have := h x hx
    intro ho
    have ho : ok (clip r x) := of_decide_eq_true ho
    simp only [ok, clip] at ho
    omega
  conv => lhs; rw [e]
  have : parts (l.take k ++ l.drop k) r = parts (l.take k) r ++ parts (l.drop k) r := by unfold parts; rw [List.map_append, List.filter_append]
  rw [this, h2, List.nil_append]
theorem parts_append (l m : List Ran) (r : Ran) : parts (l ++ m) r = parts l r ++ parts m r := by simp [parts]
theorem parts_prefix {l m : List Ran} (h : l <+: m) (r : Ran) : parts l r <+: parts m r := by
  obtain ⟨t, rfl⟩ := h
  exact ⟨parts t r, (parts_append l t r).symm⟩
/-- Behind a part that has no number there is none. -/
theorem parts_end {pre t : List Ran} {x r : Ran} (hcan : Can (pre ++ x :: t)) (hx : r.1 ≤ x.2) (hno : ¬ ok (clip r x)) : parts (pre ++ x :: t) r = parts pre r := by
  have h2 : parts (x :: t) r = [] := by
    unfold parts
    have hp := (List.pairwise_append.1 hcan.rise).2.1
    have hxg := hcan.good x (by simp)
    refine List.filter_eq_nil_iff.2 (fun y hy => ?_)
    obtain ⟨z, hz, rfl⟩ := List.mem_map.1 hy
    rcases List.mem_cons.1 hz with rfl | hz
    · simpa using hno
    · have := (List.pairwise_cons.1 hp).1 z hz
      intro ho
      have ho : ok (clip r z) := of_decide_eq_true ho
      simp only [ok, clip] at hno ho
      omega
  rw [parts_append, h2, List.append_nil]

set_option maxHeartbeats 400000 in
theorem within_any (a : Option Addr) (n cap : Nat) (lo hi : Int) (w : World) : Calls Tryz.prog 194 #[.slice a n cap, .agg #[.int .u64 lo, .int .u64 hi]] w fun e w' =>
    e = .returned (.func (.func 213) #[] #[.pointer (some ⟨w.heap.size, 0, none⟩), .pointer (some ⟨w.heap.size + 1, 0, none⟩)]) ∧ w' = (w.alloc (.cells #[.slice a n cap] 28)).alloc (.cells #[.int .u64 lo, .int .u64 hi] 153) := by
  go_enter Tryz.func194, Tryz.ntmps194
  go_wp2
  go_ret
  exact ⟨rfl, rfl⟩

/-- What stands of others' blocks stands with some more of ours. -/
theorem stab_own {β : Type} {J : β → (Nat → Prop) → World → Prop} (hJ : Stable J) (own : Nat → Prop) {s : β} {O O' : Nat → Prop} {A B : World} (h : J s (fun q => O q ∨ own q) A) (ho : Only O A B)
    (h2 : ∀ k, O' k → O k ∨ (A.heap.size ≤ k ∧ k < B.heap.size)) : J s (fun q => O' q ∨ own q) B :=
  hJ s _ _ A B h (ho.mono (fun _ => .inl)) (fun k hk => hk.elim (fun h => (h2 k h).imp .inl id) (fun h => .inl (.inr h)))

/-- Between two rounds of within's loop. -/
def WithinI (J : List Ran → (Nat → Prop) → World → Prop) (r : Ran) (lp Y N : Nat) (own R : Nat → Prop) (W : World) (pre : List Ran) (O : Nat → Prop) (A : World) : Prop :=
  J (parts pre r) (fun q => O q ∨ own q) A ∧ (∀ q, O q → N ≤ q) ∧ N ≤ A.heap.size ∧ A.heap[Y]? = some (.cells #[.func (.yield lp) #[] #[]] 249 (0, 0)) ∧ ∀ q, R q → A.heap[q]? = W.heap[q]?
/-- Where a round has left it. -/
def WithinX (J Jx : List Ran → (Nat → Prop) → World → Prop) (l : List Ran) (r : Ran) (N : Nat) (own : Nat → Prop) (c : Code) (pre : List Ran) (O : Nat → Prop) (A : World) : Prop :=
  c = .ret ∧ (J (parts l r) (fun q => O q ∨ own q) A ∨ ∃ p, p <+: parts l r ∧ Jx p (fun q => O q ∨ own q) A) ∧ (∀ q, O q → N ≤ q) ∧ N ≤ A.heap.size
theorem grow_ge {O O' : Nat → Prop} {A B : World} {N : Nat} (h : ∀ q, O q → N ≤ q) (hA : N ≤ A.heap.size) (h2 : ∀ k, O' k → O k ∨ (A.heap.size ≤ k ∧ k < B.heap.size)) : ∀ q, O' q → N ≤ q :=
  fun q hq => (h2 q hq).elim (h q) (fun h' => Nat.le_trans hA h'.1)
theorem withinI_stable {J : List Ran → (Nat → Prop) → World → Prop} (hJ : Stable J) {r : Ran} {lp Y N : Nat} {own R : Nat → Prop} {W : World} (hY : Y < N) (hR : ∀ q, R q → q < N) : Stable (WithinI J r lp Y N own R W) := by
  rintro pre O O' A B ⟨h1, h2, h3, h4, h5⟩ ho g2
  have hn : ∀ q, q < N → ¬ O q := fun q hq h => by have := h2 q h; omega
  exact ⟨stab_own hJ own h1 ho g2, grow_ge h2 h3 g2, Nat.le_trans h3 ho.size, ho.heap h4 (hn Y hY), fun q hq => (ho.block q (by have := hR q hq; omega) (hn q (hR q hq))).trans (h5 q hq)⟩
theorem withinX_stable {J Jx : List Ran → (Nat → Prop) → World → Prop} (hJ : Stable J) (hJx : Stable Jx) {l : List Ran} {r : Ran} {N : Nat} {own : Nat → Prop} (c : Code) : Stable (WithinX J Jx l r N own c) := by
  rintro pre O O' A B ⟨h1, h2, h3, h4⟩ ho g2
  refine ⟨h1, ?_, grow_ge h3 h4 g2, Nat.le_trans h4 ho.size⟩
  rcases h2 with h2 | ⟨p, hp, h2⟩
  · exact .inl (stab_own hJ own h2 ho g2)
  · exact .inr ⟨p, hp, stab_own hJx own h2 ho g2⟩

theorem max_run (x y z : Int) (h : max x y = z) (ts : Array TypeId) (t : TypeId) (w : World) : (Builtin.max_ ts t #[.int .u64 x, .int .u64 y]).run Tryz.prog w = .ok (.int .u64 z) w := by
  rw [run_max_int2, ← h]
  by_cases h : y > x
  · rw [if_pos h, show max x y = y by omega]
  · rw [if_neg h, show max x y = x by omega]
theorem min_run (x y z : Int) (h : min x y = z) (ts : Array TypeId) (t : TypeId) (w : World) : (Builtin.min_ ts t #[.int .u64 x, .int .u64 y]).run Tryz.prog w = .ok (.int .u64 z) w := by
  rw [run_min_int2, ← h]
  by_cases h : y < x
  · rw [if_pos h, show min x y = y by omega]
  · rw [if_neg h, show min x y = x by omega]
theorem round_in {F : Fence} {n : Nat} {P : Program} {l : Nat} {f : FuncId} {tmps : Array Value} {assign body : Code} {w : World} {R : Ending → World → Prop} (l' : Nat) (h : RoundIn F n P l f tmps assign body w R) :
    RoundIn (F.inRound l') n P l f tmps assign body w R := h
theorem Can.drop {l : List Ran} (h : Can l) (k : Nat) : Can (l.drop k) := ⟨fun x hx => h.good x (List.mem_of_mem_drop hx), h.rise.sublist (List.drop_sublist k l)⟩
attribute [local go_sem] Oper.semAt_some
set_option maxHeartbeats 2000000 in
/-- The iterator that within tells. -/
theorem within_iter (Bs Br : Nat) (v : Value) (l : List Ran) (lo hi : Int) (w : World) (hl : l.length ≤ 1000) (hcan : Can l) (hBs : w.cell? ⟨Bs, 0, none⟩ = some v) (hrd : Rd w v l)
    (hB1 : w.cell? ⟨Br, 0, none⟩ = some (.int .u64 lo)) (hB2 : w.cell? ⟨Br, 1, none⟩ = some (.int .u64 hi)) :
    Iter Tryz.prog 213 #[.pointer (some ⟨Bs, 0, none⟩), .pointer (some ⟨Br, 0, none⟩)] (parts l (lo, hi)) (fun k => k = Bs ∨ k = Br ∨ Blk v k) w := by
  intro lp J Jx W hR hsz hJ hJx hY h0
  have hs : W.cell? ⟨Bs, 0, none⟩ = some v := (World.cell?_of_block (a := ⟨Bs, 0, none⟩) (hR Bs (.inl rfl))).trans hBs
  have hr1 : W.cell? ⟨Br, 0, none⟩ = some (.int .u64 lo) := (World.cell?_of_block (a := ⟨Br, 0, none⟩) (hR Br (.inr (.inl rfl)))).trans hB1
  have hr2 : W.cell? ⟨Br, 1, none⟩ = some (.int .u64 hi) := (World.cell?_of_block (a := ⟨Br, 1, none⟩) (hR Br (.inr (.inl rfl)))).trans hB2
  have hrd' : Rd W v l := hrd.keep (fun k hk => hR k (.inr (.inr hk)))
  have hBsl : Bs < W.heap.size := World.block_lt_of_cell? W _ hs
  have hBrl : Br < W.heap.size := World.block_lt_of_cell? W _ hr1
  obtain ⟨a, cap, rfl, hcap, -⟩ := id hrd'
  have HRD := Lib.hid hrd'
  clear hrd hBs hB1 hB2 hrd'
  have HY := Lib.hid hY
  have HJ := Lib.hid hJ
  have HJx := Lib.hid hJx
  have H0 := Lib.hid h0
  have HR := Lib.hid hR
  clear hY hJ hJx h0 hR
  refine callsIn_of_wp_marks Tryz.func213 rfl trivial ?_ rfl
  simp only [Tryz.ntmps213, List.size_toArray, List.length_cons, List.length_nil, Nat.reduceAdd, Nat.reduceSub, Array.replicate_succ, Array.replicate_zero, List.push_toArray, List.append_toArray, List.nil_append, List.cons_append]
  gi_wp2_with fail
  refine ⟨trivial, rfl, (callsIn_wide.2 (search_any (.slice a l.length cap) l lo _ (HRD.out.below ((Below.refl W.heap.size _).alloc (Nat.le_refl _) _) (Nat.le_refl _)) hl hcan)).mono ?_⟩
  rintro e w2 ⟨⟨k, t, rfl, hk, hk1, hk2⟩, hb2⟩
  have hz2 := hb2.size
  rw [World.size_alloc] at hz2 hb2
  have HK1 := Lib.hid hk1
  have HK2 := Lib.hid hk2
  have hs2 : w2.cell? ⟨Bs, 0, none⟩ = some (.slice a l.length cap) := cell_below hb2 (by simp [go_sem, hBsl, hs]) (by omega)
  clear hk1 hk2
  obtain ⟨a2, c2, ha2⟩ : ∃ a2 c2, (if cap = k then a else a.map (·.add (k * 2))) = a2 ∧ cap - k = c2 := ⟨_, _, rfl, rfl⟩
  have hsl : ∀ w : World, (Instr.sliceAt 28 (.slice a l.length cap) (some (.int .i64 k)) none none).run Tryz.prog w = .ok (.slice a2 (l.length - k) c2) w := by
    intro w
    rw [← ha2.1, ← ha2.2]
    simp [go_sem, hk]
  have hrd2 : Rd w2 (.slice a2 (l.length - k) c2) (l.drop k) := by
    rw [← ha2.1, ← ha2.2]
    exact ((HRD.out.below ((Below.refl W.heap.size _).alloc (Nat.le_refl _) _) (Nat.le_refl _)).below hb2 (by simp)).drop hk
  have hblk : Hid (∀ q, Blk (.slice a2 (l.length - k) c2) q → Blk (.slice a l.length cap) q) := Lib.hid (fun q hq => by rw [← ha2.1] at hq; exact Blk.drop hq)
  have HRD2 := Lib.hid hrd2
  clear ha2 hrd2
  gi_wp2_with fail
  refine ⟨trivial, rfl, (callsIn_wide.2 (walk_any _ _ _ _)).mono ?_⟩
  rintro e w3 ⟨rfl, rfl⟩
  have hRN : Hid (∀ q, (q = Bs ∨ q = Br ∨ Blk (.slice a l.length cap) q) → q < W.heap.size) := Lib.hid (fun q hq => by rcases hq with rfl | rfl | hq; (exact hBsl); (exact hBrl); (exact HRD.out.blk hq))
  gi_wp2_with fail
  have hit := walk_iter w2.heap.size _ (l.drop k) (w2.alloc (.cells #[.slice a2 (l.length - k) c2] 27)) (by rw [List.length_drop]; omega) (by simp [go_sem]) (HRD2.out.below ((Below.refl w2.heap.size _).alloc (Nat.le_refl _) _) (Nat.le_refl _))
  refine wp_range rfl (enters_of Tryz.func199 (by kernel_rfl) rfl) hit (fun q hq => ⟨?_, rfl⟩) (Nat.le_refl _) rfl
    (WithinI J (lo, hi) lp W.heap.size (w2.heap.size + 1) (fun q => q = W.heap.size ∨ q = w2.heap.size) (fun q => q = Bs ∨ q = Br ∨ Blk (.slice a l.length cap) q) W)
    (WithinX J Jx l (lo, hi) (w2.heap.size + 1) (fun q => q = W.heap.size ∨ q = w2.heap.size))
    (withinI_stable HJ.out (by omega) (fun q hq => by have := hRN.out q hq; omega)) (fun c => withinX_stable HJ.out HJx.out c) ?h0 ?round ?done ?stop
  case round =>
    rintro lq pre ⟨x1, x2⟩ O A hpx hw hOl ⟨hi1, hi2, hi3, hi4, hi5⟩
    have hA1 := hw.1
    rw [World.size_alloc] at hA1
    simp only [enc]
    gi_wp2_with fail
    refine ⟨Only.alloc _ _ _, ?_⟩
    intro A2 ho2 hsz2
    have hx1 : A2.cell? ⟨A.heap.size, 0, none⟩ = some (.int .u64 x1) := ho2.cell (by simp [go_sem]) (fun h => by have := (hw.2 _ h).2; simp only at this; omega)
    have hx2 : A2.cell? ⟨A.heap.size, 1, none⟩ = some (.int .u64 x2) := ho2.cell (by simp [go_sem]) (fun h => by have := (hw.2 _ h).2; simp only at this; omega)
    have old : ∀ q, q < w2.heap.size + 1 → A2.heap[q]? = A.heap[q]? := fun q hq =>
      (ho2.block q (by simp; omega) (fun h => by have := hi2 q h; omega)).trans (Below.heap_alloc A _ q (by omega))
    have hb1 : A2.cell? ⟨Br, 0, none⟩ = some (.int .u64 lo) := (World.cell?_of_block (a := ⟨Br, 0, none⟩) ((old Br (by omega)).trans (hi5 Br (.inr (.inl rfl))))).trans hr1
    have hb2' : A2.cell? ⟨Br, 1, none⟩ = some (.int .u64 hi) := (World.cell?_of_block (a := ⟨Br, 1, none⟩) ((old Br (by omega)).trans (hi5 Br (.inr (.inl rfl))))).trans hr2
    have hyb := (old W.heap.size (by omega)).trans hi4
    have HYB := Lib.hid hyb
    have HR5 : Hid (∀ q, (q = Bs ∨ q = Br ∨ Blk (.slice a l.length cap) q) → A2.heap[q]? = W.heap[q]?) := Lib.hid (fun q hq => (old q (by have := hRN.out q hq; omega)).trans (hi5 q hq))
    have hpx' : pre ++ [(x1, x2)] <+: l.drop k := by have h := hpx; rwa [(hcan.drop k).ok] at h
    have HI2 := Lib.hid hi2
    have HO2 := Lib.hid ho2
    have HI1 := Lib.hid hi1
    have HW := Lib.hid hw
    have HPX := Lib.hid hpx'
    have hBrA : Br < A2.heap.size := by omega
    have hAA : A.heap.size < A2.heap.size := by omega
    have HSZ2 := Lib.hid hsz2
    clear old ho2 hi1 hi2 hi4 hi5 hw hpx hpx' hsz2
    obtain ⟨p1, hp1⟩ : ∃ p1, max x1 lo = p1 := ⟨_, rfl⟩
    obtain ⟨p2, hp2⟩ : ∃ p2, min x2 hi = p2 := ⟨_, rfl⟩
    have hmx := max_run x1 lo p1 hp1
    have hmn := min_run x2 hi p2 hp2
    have HP : Hid (clip (lo, hi) (x1, x2) = (p1, p2)) := Lib.hid (by simp only [clip]; rw [hp1, hp2])
    clear hp1 hp2
    gi_wp2_with fail
    refine ⟨trivial, rfl, (CallsIn.inRound _ (callsIn_wide.2 (none_any p1 p2 _))).mono ?_⟩
    rintro e w4 ⟨rfl, hb4⟩
    have hz4 := hb4.size
    rw [World.size_alloc] at hz4 hb4
    have hq1 : w4.cell? ⟨A2.heap.size, 0, none⟩ = some (.int .u64 p1) := cell_below hb4 (by simp [go_sem]) (by omega)
    have hq2 : w4.cell? ⟨A2.heap.size, 1, none⟩ = some (.int .u64 p2) := cell_below hb4 (by simp [go_sem]) (by omega)
    have hyc : w4.cell? ⟨W.heap.size, 0, none⟩ = some (.func (.yield lp) #[] #[]) := cell_below hb4 ((World.cell?_alloc_past _ _ _ (by omega)).trans (by simp [World.cell?, hyb])) (by omega)
    have ho4 : Hid (Only (fun _ => False) A2 w4) := Lib.hid ((Only.alloc _ _ _).trans (Only.of_all (by rw [World.size_alloc]; exact hb4) _))
    clear hb4 hyb
    have hz := HSZ2.out
    have HA2 : Hid (Only O A w4) := Lib.hid (((Only.alloc O A _).trans HO2.out).trans (ho4.out.mono (fun _ h => h.elim)))
    clear hz
    have hj4 := Lib.hid (stab_own HJ.out (fun q => q = W.heap.size ∨ q = w2.heap.size) HI1.out HA2.out (fun _ h => .inl h))
    have hle4 : w2.heap.size + 1 ≤ w4.heap.size := by have := HSZ2.out; omega
    by_cases hok : p1 ≤ p2
    · have d1 : decide (p2 < p1) = false := decide_eq_false (by omega)
      have hpp : Hid (parts (pre ++ [(x1, x2)]) (lo, hi) = parts pre (lo, hi) ++ [(p1, p2)]) := Lib.hid (by rw [parts_append]; congr 1; simp only [parts, List.map_cons, List.map_nil, HP.out]; simp [ok, hok])
      have hpre : Hid (parts (pre ++ [(x1, x2)]) (lo, hi) <+: parts l (lo, hi)) := Lib.hid (by rw [parts_take (l := l) (r := (lo, hi)) HK1.out]; exact parts_prefix HPX.out _)
      obtain ⟨fn, tmps, assign, body, hy, hR⟩ := HY.out _ (p1, p2) _ w4 (by rw [← hpp.out]; exact hpre.out) ⟨by omega, fun q hq => (by rcases hq with hq | rfl | rfl; (have := HI2.out q hq; have := (HW.out.2 q hq).2; have := HSZ2.out; omega); all_goals omega)⟩ hj4.out
      have hy : (Instr.yield lp #[.agg #[.int .u64 p1, .int .u64 p2]]).run Tryz.prog w4 = .ok (.round lp fn tmps assign body) w4 := hy
      gi_wp2_with fail
      refine ⟨rfl, (round_in lq hR).mono ?_⟩
      rintro e B ⟨ho5, h5⟩
      have HO5 := Lib.hid ho5
      have hz5 := ho5.size
      have HO6 : Hid (Only (Not O fun q => q = w2.heap.size ∨ Blk (.slice a2 (l.length - k) c2) q) A2 B) := Lib.hid ((ho4.out.mono (fun _ h => h.elim)).trans (ho5.mono (fun q hq => ⟨fun h => hq.1 (.inl h), fun h => (by
        rcases h with rfl | h
        · exact hq.1 (.inr (.inr rfl))
        · exact hq.2 (.inr (.inr (hblk.out q h))))⟩)))
      clear ho5
      rcases h5 with ⟨rfl, h5⟩ | ⟨rfl, h5⟩
      · have H5 := Lib.hid h5
        clear h5
        gi_wp2_with fail
        refine ⟨HO6.out, by rw [hpp.out]; exact H5.out, HI2.out, by omega, ?_, fun q hq => ?_⟩
        · exact HO5.out.heap (ho4.out.heap HYB.out (fun h => h)) (fun h => h.1 (.inr (.inl rfl)))
        · exact (HO5.out.block q (by have := hRN.out q hq; omega) (fun h => h.2 hq)).trans ((ho4.out.block q (by have := hRN.out q hq; omega) (fun h => h)).trans (HR5.out q hq))
      · have H5 := Lib.hid h5
        clear h5
        gi_wp2_with fail
        exact ⟨HO6.out, rfl, .inr ⟨_, by rw [← hpp.out]; exact hpre.out, H5.out⟩, HI2.out, by omega⟩
    · have d1 : decide (p2 < p1) = true := decide_eq_true (by omega)
      have hall : Hid (parts l (lo, hi) = parts pre (lo, hi)) := Lib.hid (by
        obtain ⟨t, ht⟩ := HPX.out
        have e : l.drop k = pre ++ (x1, x2) :: t := by rw [← ht]; simp
        rw [parts_take (l := l) (r := (lo, hi)) HK1.out, e]
        refine parts_end (by rw [← e]; exact hcan.drop k) (HK2.out _ (by rw [e]; simp)) ?_
        rw [HP.out]; exact hok)
      gi_wp2_with fail
      refine ⟨fun _ h => (by cases h), ?_⟩
      gi_wp2_with fail
      exact ⟨ho4.out.mono (fun _ h => h.elim), rfl, .inl (by rw [hall.out]; exact hj4.out), HI2.out, by omega⟩
  case done =>
    rintro D O B hw hOD hD ⟨hi1, hi2, hi3, hi4, hi5⟩
    gi_wp2_with fail
    refine ⟨by simp, .inl ⟨_, _, rfl, run_takeDeferred hD, ?_⟩⟩
    refine ⟨_, results_none rfl _ _ _, ⟨_, rfl⟩, fun q => O q ∨ q = W.heap.size ∨ q = w2.heap.size, ⟨by simp; omega, fun q hq => ?_⟩, .inl ?_⟩
    · rcases hq with hq | rfl | rfl
      · have := hi2 q hq; have := (hw.2 q hq).2; simp; omega
      · simp; omega
      · simp; omega
    · rw [(hcan.drop k).ok, ← parts_take (l := l) (r := (lo, hi)) HK1.out] at hi1
      exact stab_own HJ.out _ hi1 (Only.putObj hOD _ _) (fun _ h => .inl h)
  case stop =>
    rintro D c pre O B hw hOD hD hpre ⟨rfl, hx, hx2, hx3⟩
    gi_wp2_with fail
    refine ⟨by simp, .inl ⟨_, _, rfl, run_takeDeferred hD, ?_⟩⟩
    refine ⟨_, results_none rfl _ _ _, ⟨_, rfl⟩, fun q => O q ∨ q = W.heap.size ∨ q = w2.heap.size, ⟨by simp; omega, fun q hq => ?_⟩, ?_⟩
    · rcases hq with hq | rfl | rfl
      · have := hx2 q hq; have := (hw.2 q hq).2; simp; omega
      · simp; omega
      · simp; omega
    · rcases hx with hx | ⟨p, hp, hx⟩
      · exact .inl (stab_own HJ.out _ hx (Only.putObj hOD _ _) (fun _ h => .inl h))
      · exact .inr ⟨p, hp, stab_own HJx.out _ hx (Only.putObj hOD _ _) (fun _ h => .inl h)⟩
  case h0 =>
    refine ⟨HJ.out _ _ _ W _ H0.out (((Only.alloc _ _ _).trans (Only.of_all (by rw [World.size_alloc]; exact hb2) _)).trans (Only.alloc _ _ _)) (fun q hq => .inr ?_), fun _ h => h.elim, by simp, ?_, fun q hq => ?_⟩
    · rcases hq with hq | rfl | rfl
      · exact hq.elim
      · simp; omega
      · simp; omega
    · refine (Below.heap_alloc w2 _ _ (by omega)).trans ((hb2.block _ (by omega)).trans (World.alloc_heap_new W _))
    · have := hRN.out q hq
      exact (Below.heap_alloc w2 _ _ (by omega)).trans ((hb2.block _ (by omega)).trans (Below.heap_alloc W _ q this))
  · rcases hq with rfl | hq
    · simp
    · have := hRN.out q (.inr (.inr (hblk.out q hq)))
      simp; omega
end Go.Proofs.YtoblmhpjendbfaaGreatDoor.Rg
