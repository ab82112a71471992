/- Layer 14: plain mathematics: parts of a text, laid among one another, and taken. By hand. -/
import Derived.Test.YtndnlpohdimgaaaRgM
namespace Go.Proofs.Ytndnlpohdimgaaa.Rg
set_option maxRecDepth 20000
set_option linter.unusedVariables false
set_option linter.unusedSimpArgs false

/-- The bytes of a text at the places of a range. -/
def bt (T : ByteArray) (x : Ran) : ByteArray := T.extract x.1.toNat (x.2 + 1).toNat
/-- A range of a text's places. -/
def Inn (T : ByteArray) (x : Ran) : Prop := 0 ≤ x.1 ∧ x.1 ≤ x.2 ∧ x.2 < (T.size : Int)
theorem bt_size {T : ByteArray} {x : Ran} (h : Inn T x) : ((bt T x).size : Int) = x.2 + 1 - x.1 := by
  obtain ⟨h0, h1, h2⟩ := h
  unfold bt
  rw [ByteArray.size_extract]
  omega
theorem bt_join {T : ByteArray} {a b c d : Int} (h0 : 0 ≤ a) (h1 : a ≤ b) (h2 : d = b + 1) (h3 : d ≤ c) : bt T (a, b) ++ bt T (d, c) = bt T (a, c) := by
  subst h2
  unfold bt
  simp only
  rw [← ByteArray.extract_eq_extract_append_extract _ (by omega) (by omega)]
theorem bt_cut {T : ByteArray} {x : Ran} {i j : Nat} (h : Inn T x) (hj : (j : Int) ≤ x.2 + 1 - x.1) : (bt T x).extract i j = T.extract (x.1.toNat + i) (x.1.toNat + j) := by
  obtain ⟨h0, h1, h2⟩ := h
  unfold bt
  rw [ByteArray.extract_extract, show min (x.1.toNat + j) (x.2 + 1).toNat = x.1.toNat + j by omega]
/-- The places from one on, below another one. -/
def spn (a b : Int) : Ran := if b ≤ a then (1, 0) else (a, b - 1)
theorem inn_spn {a b n : Int} : inn (spn a b) n ↔ a ≤ n ∧ n < b := by
  unfold spn
  split
  · constructor
    · rintro ⟨h1, h2⟩; simp only at h1 h2; omega
    · rintro ⟨h1, h2⟩; omega
  · constructor
    · rintro ⟨h1, h2⟩; simp only at h1 h2; omega
    · rintro ⟨h1, h2⟩; exact ⟨by simp only; omega, by simp only; omega⟩
theorem spn_good {a b : Int} (h0 : 0 ≤ a) (h1 : b < 9223372036854775808) : 0 ≤ (spn a b).1 ∧ (spn a b).2 < 9223372036854775808 := by
  unfold spn
  split
  · exact ⟨by decide, by decide⟩
  · exact ⟨h0, by simp only; omega⟩
theorem spn_part {T : ByteArray} {x : Ran} (h : Inn T x) : spn x.1 (x.1 + ((bt T x).size : Int)) = x := by
  rw [bt_size h]
  obtain ⟨h0, h1, h2⟩ := h
  unfold spn
  rw [if_neg (by omega), show x.1 + (x.2 + 1 - x.1) - 1 = x.2 by omega]

/-- A state: how much was read, where bytes are, the end. -/
structure GS where
  rd : Int
  l : List Ran
  fin : Int
  kn : Bool
/-- A state of a stream that is a text. -/
structure GsOk (T : ByteArray) (s : GS) : Prop where
  can : Can s.l
  r0 : 0 ≤ s.rd
  r1 : s.rd ≤ (T.size : Int)
  inn : ∀ x ∈ s.l, s.rd ≤ x.1 ∧ x.2 < (T.size : Int)
  f0 : 0 ≤ s.fin
  f1 : s.fin ≤ (T.size : Int)
  kn : s.kn = true → s.fin = (T.size : Int)
theorem GsOk.inns {T : ByteArray} {s : GS} (h : GsOk T s) : ∀ x ∈ s.l, Inn T x := fun x hx => ⟨(h.can.good x hx).1, (h.can.good x hx).2.1, (h.inn x hx).2⟩
theorem gs_zero (T : ByteArray) : GsOk T ⟨0, [], 0, false⟩ := ⟨Can.nil, Int.le_refl _, by simp, fun x h => (by cases h), Int.le_refl _, by simp, fun h => by cases h⟩
theorem can_len : ∀ {l : List Ran} {lo B : Int}, Can l → (∀ y ∈ l, lo ≤ y.1 ∧ y.2 < B) → lo ≤ B → (l.length : Int) ≤ B - lo
  | [], lo, B, _, _, h => by simp; omega
  | x :: l, lo, B, hc, hw, h => by
    have h1 := hc.head
    have h2 := hw x (List.mem_cons_self ..)
    have := can_len (l := l) (lo := x.2 + 1) (B := B) hc.tail (fun y hy => ⟨by have := hc.next y hy; omega, (hw y (List.mem_cons_of_mem _ hy)).2⟩) (by omega)
    rw [List.length_cons]
    omega
theorem GsOk.len {T : ByteArray} {s : GS} (h : GsOk T s) : (s.l.length : Int) ≤ T.size := by
  have := can_len h.can h.inn h.r1
  have := h.r0
  omega

/-! ### Laid among one another -/
def Dis (a b : Ran) : Prop := a.2 < b.1 ∨ b.2 < a.1
theorem dis_of {l g : List Ran} (hl : Can l) (hg : Can g) (h : ∀ n, mem g n → ¬ mem l n) : (l ++ g).Pairwise Dis := by
  refine List.pairwise_append.2 ⟨hl.rise.imp (fun h => .inl (by omega)), hg.rise.imp (fun h => .inl (by omega)), fun a ha b hb => ?_⟩
  have ga := hl.good a ha
  have gb := hg.good b hb
  apply Classical.byContradiction
  intro hn
  unfold Dis at hn
  refine h (max a.1 b.1) ⟨b, hb, ?_, ?_⟩ ⟨a, ha, ?_, ?_⟩ <;> omega
theorem rise_of {l s : List Ran} (hp : s.Perm l) (hd : l.Pairwise Dis) (hs : s.Pairwise (fun a b => a.1 ≤ b.1)) (hg : ∀ x ∈ s, x.1 ≤ x.2) : s.Pairwise (fun a b => a.2 < b.1) := by
  have h1 : s.Pairwise Dis := (hp.pairwise_iff (fun h => h.symm)).2 hd
  have h2 := List.pairwise_iff_getElem.1 h1
  have h3 := List.pairwise_iff_getElem.1 hs
  refine List.pairwise_iff_getElem.2 fun i j hi hj hij => ?_
  have a := h2 i j hi hj hij
  have b := h3 i j hi hj hij
  have c := hg _ (List.getElem_mem hj)
  rcases a with a | a
  · exact a
  · omega
/-- What was laid so far ends ahead of what comes next. -/
theorem fold_last {s t : List Ran} {y : Ran} {k : Nat} (hk : k < s.length) (hg : ∀ r ∈ s, 0 ≤ r.1 ∧ r.1 ≤ r.2 ∧ r.2 < 9223372036854775808) (hs : s.Pairwise (fun a b => a.2 < b.1)) (h : (s.take k).foldl join [] = t ++ [y]) :
    y.2 < (s.getD k (0, 0)).1 := by
  have hs1 : s.Pairwise (fun a b => a.1 ≤ b.1) := by
    refine List.pairwise_iff_getElem.2 fun i j hi hj hij => ?_
    have := List.pairwise_iff_getElem.1 hs i j hi hj hij
    have := hg _ (List.getElem_mem hi)
    omega
  obtain ⟨c1, c2⟩ := joins_can (s.take k) [] Can.nil (fun r hr => hg r (List.mem_of_mem_take hr)) (hs1.sublist (List.take_sublist k s)) (fun x hx => by cases hx)
  rw [h] at c1 c2
  have hy := c1.good y (by simp)
  have hm : mem (s.take k) y.2 := ((c2 y.2).1 ⟨y, by simp, hy.2.1, Int.le_refl _⟩).resolve_left (mem_nil _)
  obtain ⟨x, hx, h1, h2⟩ := hm
  obtain ⟨i, hi, rfl⟩ := List.getElem_of_mem hx
  rw [List.length_take] at hi
  have := List.pairwise_iff_getElem.1 hs i k (by omega) hk (by omega)
  rw [List.getElem_take] at h2
  have e : s.getD k (0, 0) = s[k] := by simp [List.getD, hk]
  rw [e]
  omega
theorem fold_inn {T : ByteArray} {s : List Ran} (hg : ∀ r ∈ s, Inn T r) (hT : (T.size : Int) < 9223372036854775808) (hs : s.Pairwise (fun a b => a.1 ≤ b.1)) (k : Nat) :
    ∀ y ∈ (s.take k).foldl join [], Inn T y := by
  obtain ⟨c1, c2⟩ := joins_can (s.take k) [] Can.nil (fun r hr => by have := hg r (List.mem_of_mem_take hr); unfold Inn at this; omega) (hs.sublist (List.take_sublist k s)) (fun x hx => by cases hx)
  intro y hy
  have h1 := c1.good y hy
  obtain ⟨x, hx, h2, h3⟩ := ((c2 y.2).1 ⟨y, hy, h1.2.1, Int.le_refl _⟩).resolve_left (mem_nil _)
  have := hg x (List.mem_of_mem_take hx)
  unfold Inn at *
  omega

/-! ### Taken -/
/-- How many bytes are ready. -/
def rdy (s : GS) : Int := match s.l with | x :: _ => if x.1 = s.rd then x.2 + 1 - x.1 else 0 | [] => 0
theorem rdy_nil {s : GS} (h : s.l = []) : rdy s = 0 := by unfold rdy; rw [h]
theorem rdy_no {s : GS} {x : Ran} {m : List Ran} (h : s.l = x :: m) (hx : x.1 ≠ s.rd) : rdy s = 0 := by unfold rdy; rw [h]; simp [hx]
theorem rdy_yes {s : GS} {x : Ran} {m : List Ran} (h : s.l = x :: m) (hx : x.1 = s.rd) : rdy s = x.2 + 1 - x.1 := by unfold rdy; rw [h]; simp [hx]
theorem rdy_range {T : ByteArray} {s : GS} (h : GsOk T s) : 0 ≤ rdy s ∧ s.rd + rdy s ≤ (T.size : Int) := by
  have := h.r1
  unfold rdy
  split
  · rename_i x m e
    have h1 := h.inns x (by rw [e]; simp)
    have h2 := h.inn x (by rw [e]; simp)
    unfold Inn at h1
    split <;> omega
  · omega
/-- The bytes that are ready. -/
theorem rdy_text {T : ByteArray} {s : GS} {x : Ran} {m : List Ran} (h : GsOk T s) (hl : s.l = x :: m) (hx : x.1 = s.rd) : bt T x = T.extract s.rd.toNat (s.rd + rdy s).toNat := by
  rw [rdy_yes hl hx]
  unfold bt
  rw [hx, show s.rd + (x.2 + 1 - s.rd) = x.2 + 1 by omega]
/-- How many are taken. -/
def tk (s : GS) (n : Int) : Int := min (max n 0) (rdy s)
def dropL (s : GS) (m : Int) : List Ran := match s.l with | x :: l => if m = 0 then x :: l else if m = rdy s then l else (s.rd + m, x.2) :: l | [] => []
/-- The state when m of the bytes that are ready were taken. -/
def takeS (s : GS) (m : Int) : GS := ⟨s.rd + m, dropL s m, s.fin, s.kn⟩
theorem dropL_zero (s : GS) : dropL s 0 = s.l := by unfold dropL; split <;> rename_i e <;> rw [e]; simp
theorem takeS_zero (s : GS) : takeS s 0 = s := by
  unfold takeS
  rw [dropL_zero, Int.add_zero]
theorem dropL_all {s : GS} {x : Ran} {l : List Ran} (h : s.l = x :: l) {m : Int} (hm : m ≠ 0) (hr : m = rdy s) : dropL s m = l := by
  unfold dropL; rw [h]; simp only; rw [if_neg hm, if_pos hr]
theorem dropL_some {s : GS} {x : Ran} {l : List Ran} (h : s.l = x :: l) {m : Int} (hm : m ≠ 0) (hr : m ≠ rdy s) : dropL s m = (s.rd + m, x.2) :: l := by
  unfold dropL; rw [h]; simp only; rw [if_neg hm, if_neg hr]
theorem take_ok {T : ByteArray} {s : GS} (h : GsOk T s) {m : Int} (h0 : 0 ≤ m) (h1 : m ≤ rdy s) : GsOk T (takeS s m) ∧ ∀ n, mem (takeS s m).l n ↔ mem s.l n ∧ s.rd + m ≤ n := by
  have hr := rdy_range h
  by_cases hm : m = 0
  · subst hm
    rw [takeS_zero]
    refine ⟨h, fun n => ⟨fun h' => ⟨h', ?_⟩, fun h' => h'.1⟩⟩
    obtain ⟨x, hx, h2, h3⟩ := h'
    have := h.inn x hx
    omega
  · obtain ⟨x, l, hl, hx⟩ : ∃ x l, s.l = x :: l ∧ x.1 = s.rd := by
      rcases hsl : s.l with _ | ⟨x, l⟩
      · rw [rdy_nil hsl] at h1; omega
      · by_cases hx : x.1 = s.rd
        · exact ⟨x, l, rfl, hx⟩
        · rw [rdy_no hsl hx] at h1; omega
    have hy := rdy_yes hl hx
    have hc := h.can
    have hin := h.inn
    rw [hl] at hc hin
    have gx := hc.head
    have ix := hin x (List.mem_cons_self ..)
    have gnext := hc.next
    by_cases hq : m = rdy s
    · refine ⟨⟨?_, ?_, ?_, ?_, h.f0, h.f1, h.kn⟩, ?_⟩
      · show Can (dropL s m)
        rw [dropL_all hl hm hq]; exact hc.tail
      · show 0 ≤ s.rd + m
        have := h.r0; omega
      · show s.rd + m ≤ _
        omega
      · show ∀ y ∈ dropL s m, s.rd + m ≤ y.1 ∧ y.2 < _
        rw [dropL_all hl hm hq]
        intro y hy'
        have := gnext y hy'
        have := hin y (List.mem_cons_of_mem _ hy')
        omega
      · intro n
        show mem (dropL s m) n ↔ _
        rw [dropL_all hl hm hq, hl, mem_cons]
        constructor
        · rintro ⟨y, hy', h2, h3⟩
          have := gnext y hy'
          exact ⟨.inr ⟨y, hy', h2, h3⟩, by omega⟩
        · rintro ⟨h2 | h2, h3⟩
          · have := h2.2; omega
          · exact h2
    · have hlt : s.rd + m ≤ x.2 := by omega
      refine ⟨⟨?_, ?_, ?_, ?_, h.f0, h.f1, h.kn⟩, ?_⟩
      · show Can (dropL s m)
        rw [dropL_some hl hm hq]
        exact hc.tail.cons ⟨by have := h.r0; simp only; omega, hlt, gx.2.2⟩ gnext
      · show 0 ≤ s.rd + m
        have := h.r0; omega
      · show s.rd + m ≤ _
        omega
      · show ∀ y ∈ dropL s m, s.rd + m ≤ y.1 ∧ y.2 < _
        rw [dropL_some hl hm hq]
        intro y hy'
        rcases List.mem_cons.1 hy' with rfl | hy'
        · exact ⟨Int.le_refl _, ix.2⟩
        · have := gnext y hy'
          have := hin y (List.mem_cons_of_mem _ hy')
          omega
      · intro n
        show mem (dropL s m) n ↔ _
        rw [dropL_some hl hm hq, hl, mem_cons, mem_cons]
        constructor
        · rintro (h2 | ⟨y, hy', h2, h3⟩)
          · have a := h2.1; have b := h2.2
            simp only at a b
            exact ⟨.inl ⟨by omega, b⟩, a⟩
          · have := gnext y hy'
            exact ⟨.inr ⟨y, hy', h2, h3⟩, by omega⟩
        · rintro ⟨h2 | h2, h3⟩
          · exact .inl ⟨h3, h2.2⟩
          · exact .inr h2
end Go.Proofs.Ytndnlpohdimgaaa.Rg
