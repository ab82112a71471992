/- The walks of layer 3: what comes of an iterator, appended. -/
import Derived.Test.YtedijfcagkedaaaRgJ
import Derived.WalkSmall
import Derived.Maps.OwnIn
namespace Go.Proofs.Ytedijfcagkedaaa.Rg
set_option maxRecDepth 20000
open Go.RowKit Go.Shelf
set_option linter.unusedVariables false

/-- The cells of ranges. -/
def cellsOf (l : List Ran) : List Value := l.flatMap fun x => [.int .u64 x.1, .int .u64 x.2]
theorem cellsOf_append (l m : List Ran) : cellsOf (l ++ m) = cellsOf l ++ cellsOf m := by simp [cellsOf]
theorem cellsOf_length (l : List Ran) : (cellsOf l).length = l.length * 2 := by
  induction l with
  | nil => rfl
  | cons x l ih => rw [show x :: l = [x] ++ l from rfl, cellsOf_append, List.length_append, ih, List.length_append]; simp [cellsOf]; omega
theorem cellsOf_get : ∀ (l : List Ran) (i : Nat), i < l.length → (cellsOf l)[i * 2]? = some (.int .u64 (l.getD i (0, 0)).1) ∧ (cellsOf l)[i * 2 + 1]? = some (.int .u64 (l.getD i (0, 0)).2)
  | [], i, h => by simp at h
  | x :: l, 0, _ => by simp [cellsOf]
  | x :: l, i + 1, h => by
    have := cellsOf_get l i (by simpa using h)
    have e1 : (i + 1) * 2 = i * 2 + 1 + 1 := by omega
    have e2 : cellsOf (x :: l) = .int .u64 x.1 :: .int .u64 x.2 :: cellsOf l := by simp [cellsOf]
    rw [e1, e2]
    simpa using this
theorem set_one {A : World} {B : Nat} {u : Value} {t : TypeId} (h : A.heap[B]? = some (.cells #[u] t (0, 0))) (u' : Value) : (A.setCell ⟨B, 0, none⟩ u').heap[B]? = some (.cells #[u'] t (0, 0)) := by
  obtain ⟨hlt, hk⟩ := Array.getElem?_eq_some_iff.1 h
  show (A.heap.modify B _)[B]? = _
  rw [Array.getElem?_eq_getElem (by rw [Array.size_modify]; exact hlt), Array.getElem_modify_self, hk]
  rfl
/-- A slice that owns these ranges. -/
def Ow (w : World) (base : Nat) (e : TypeId) (v : Value) (l : List Ran) : Prop := w.ownsRow base e 2 v l.length (cellsOf l)
theorem Ow.rd {w : World} {base : Nat} {e : TypeId} {v : Value} {l : List Ran} (h : Ow w base e v l) : Rd w v l := by
  have h0 := h
  rcases h.2 with ⟨rfl, hn⟩ | ⟨g, cap, cur, rfl, _, _, hcap, _⟩
  · exact ⟨none, 0, by rw [hn], by omega, fun hne => absurd (List.eq_nil_of_length_eq_zero hn) hne⟩
  · refine ⟨some ⟨g, 0, none⟩, cap, rfl, hcap, fun hne => ⟨g, 0, rfl, fun i hi => ?_⟩⟩
    have := cellsOf_get l i hi
    rw [Nat.zero_add]
    exact ⟨(World.ownsRow.cellAt h0 (i * 2) (by omega)).trans this.1, (World.ownsRow.cellAt h0 (i * 2 + 1) (by omega)).trans this.2⟩
theorem Ow.lt {w : World} {base : Nat} {e : TypeId} {v : Value} {l : List Ran} (h : Ow w base e v l) {k : Nat} (hk : v.ownBlock = some k) : base ≤ k ∧ k < w.heap.size := World.ownsRow.lt h k hk
theorem Ow.only {w w' : World} {base : Nat} {e : TypeId} {v : Value} {l : List Ran} (h : Ow w base e v l) {O : Nat → Prop} (ho : Only O w w') (hn : ∀ k, v.ownBlock = some k → ¬ O k) : Ow w' base e v l := by
  refine ⟨h.1, ?_⟩
  rcases h.2 with h2 | ⟨g, cap, cur, rfl, hb, hgg, rest⟩
  · exact .inl h2
  · exact .inr ⟨g, cap, cur, rfl, hb, ho.heap hgg (hn g rfl), rest⟩
theorem Ow.nil (w : World) (base : Nat) (e : TypeId) : Ow w base e (.slice none 0 0) [] := World.ownsRow_nil w base e 2
theorem ownBlock_of {b n cap : Nat} {o : Nat} : (Value.slice (some ⟨b, o, none⟩) n cap).ownBlock = some b := rfl
theorem Ow.form {w : World} {base : Nat} {e : TypeId} {v : Value} {l : List Ran} (h : Ow w base e v l) : ∃ a cap, v = .slice a l.length cap := by
  rcases h.2 with ⟨rfl, hn⟩ | ⟨g, cap, cur, rfl, _⟩
  · exact ⟨none, 0, by rw [hn]⟩
  · exact ⟨_, cap, rfl⟩

theorem infoR : (Try.prog.info? 68).map (fun i => (i.zero, i.size, i.bytes)) = some (some (.agg #[.int .u64 0, .int .u64 0]), 2, 16) := by kernel_rfl

/-- Between two rounds of AppendSeq's loop. -/
def SeqI37 (w : World) (base : Nat) (v : Value) (l0 : List Ran) (R : Nat → Prop) (pre : List Ran) (O : Nat → Prop) (A : World) : Prop :=
  ∃ v', A.heap[w.heap.size]? = some (.cells #[v'] 27 (0, 0)) ∧ Ow A base 68 v' (l0 ++ pre) ∧ (∀ k, v'.ownBlock = some k → ¬ O k ∧ ¬ R k ∧ (v.ownBlock = some k ∨ w.heap.size < k)) ∧ (∀ q, O q → w.heap.size + 1 ≤ q) ∧ w.heap.size + 1 ≤ A.heap.size ∧ Only (fun k => v.ownBlock = some k ∨ w.heap.size ≤ k) w A
theorem seqI37_stable (w : World) (base : Nat) (v : Value) (l0 : List Ran) (R : Nat → Prop) : Stable (SeqI37 w base v l0 R) := by
  rintro pre O O' A B ⟨v', h1, h2, h3, h4, h5, h6⟩ ho g2
  refine ⟨v', ho.heap h1 (fun h => by have := h4 _ h; omega), h2.only ho (fun k hk => (h3 k hk).1), fun k hk => ⟨fun h => ?_, (h3 k hk).2⟩, grow_ge h4 h5 g2, Nat.le_trans h5 ho.size, h6.trans' ho (fun i hi h => by have := h4 i h; omega)⟩
  rcases g2 k h with h' | h'
  · exact (h3 k hk).1 h'
  · have := (h2.lt hk).2; omega

attribute [local go_sem] Oper.semAt_some
set_option maxHeartbeats 2000000 in
theorem appendSeq37 (a0 : Option Addr) (n0 cap0 : Nat) (l0 : List Ran) (base : Nat) (g : Nat) (lb : Array Value) (xs : List Ran) (R : Nat → Prop) (w0 w : World) (eg : ∀ args w, (callFunc g args).run Try.prog w = .ok (.enter g args) w)
    (hit : Iter Try.prog g lb xs R w0) (hR : ∀ k, R k → k < w0.heap.size ∧ w.heap[k]? = w0.heap[k]?) (hsz : w0.heap.size ≤ w.heap.size) (hbase : base ≤ w.heap.size)
    (hown : Ow w base 68 (.slice a0 n0 cap0) l0) (hnR : ∀ k, (Value.slice a0 n0 cap0).ownBlock = some k → ¬ R k) (hlen : l0.length + xs.length ≤ 100000) :
    Calls Try.prog 53 #[.slice a0 n0 cap0, .func (.func g) #[] lb] w fun e w' => ∃ v', e = .returned v' ∧ Ow w' base 68 v' (l0 ++ xs) ∧ Only (fun k => (Value.slice a0 n0 cap0).ownBlock = some k) w w' ∧ (∀ k, v'.ownBlock = some k → ((Value.slice a0 n0 cap0).ownBlock = some k ∨ w.heap.size ≤ k)) := by
  refine (callsIn_wide (n := 0)).1 ?_
  obtain ⟨i0, hi, hz0, hz1, hz2⟩ := info_parts infoR
  have hz1 := Lib.hid hz1; have hz2 := Lib.hid hz2; have hz0 := Lib.hid hz0; have hi := Lib.hid hi
  have HIT := Lib.hid hit
  have HR := Lib.hid hR
  have HN := Lib.hid hnR
  have HOW := Lib.hid hown
  have HNS : Hid ((Value.slice a0 n0 cap0).ownBlock ≠ some w.heap.size) := Lib.hid (fun h => by have := (hown.lt h).2; omega)
  clear hit hR hnR hown
  refine callsIn_of_wp_marks Try.func53 rfl trivial ?_ rfl
  simp only [Try.ntmps53, List.size_toArray, List.length_cons, List.length_nil, Nat.reduceAdd, Nat.reduceSub, Array.replicate_succ, Array.replicate_zero, List.push_toArray, List.append_toArray, List.nil_append, List.cons_append]
  gi_wp2_with fail
  have hRs : Hid (∀ k, R k → k < w.heap.size) := Lib.hid (fun k hk => by have := (HR.out k hk).1; omega)
  refine wp_range rfl eg HIT.out (fun q hq => ⟨(HR.out q hq).1, (Below.heap_alloc w _ q (hRs.out q hq)).trans (HR.out q hq).2⟩) (by simp; omega) rfl
    (SeqI37 w base (.slice a0 n0 cap0) l0 R) (fun _ _ _ _ => False) (seqI37_stable _ _ _ _ _) (fun _ _ _ _ _ _ h _ _ => h) ?h0 ?round ?done ?stop
  case h0 =>
    refine ⟨_, World.alloc_heap_new w _, by rw [List.append_nil]; exact HOW.out.only (Only.alloc (fun _ => False) _ _) (fun _ _ h => h), fun k hk => ⟨fun h => h, HN.out k hk, .inl hk⟩, fun _ h => h.elim, by simp, Only.alloc _ _ _⟩
  case round =>
    rintro lq pre ⟨x1, x2⟩ O A hpx hw hOl ⟨v', h1, h2, h3, h4, h5, h6⟩
    have hplen : pre.length + 1 ≤ xs.length := by have := hpx.length_le; simpa using this
    simp only [enc]
    gi_wp2_with fail
    refine ⟨Only.alloc _ _ _, ?_⟩
    intro A2 ho2 hsz2
    have hx1 : A2.cell? ⟨A.heap.size, 0, none⟩ = some (.int .u64 x1) := ho2.cell (by simp [go_sem]) (fun h => by have := (hw.2 _ h).2; simp only at this; omega)
    have hx2 : A2.cell? ⟨A.heap.size, 1, none⟩ = some (.int .u64 x2) := ho2.cell (by simp [go_sem]) (fun h => by have := (hw.2 _ h).2; simp only at this; omega)
    have hbx := ho2.heap ((Below.heap_alloc A (.cells #[.int .u64 x1, .int .u64 x2] 68) w.heap.size (by omega)).trans h1) (fun h => by have := h4 _ h; omega)
    have hOW := (h2.only (Only.alloc (fun _ => False) A (.cells #[.int .u64 x1, .int .u64 x2] 68)) (fun _ _ h => h)).only ho2 (fun k hk => (h3 k hk).1)
    have hcb : A2.cell? ⟨w.heap.size, 0, none⟩ = some v' := by simp [World.cell?, hbx]
    have hz2' : A2.heap.size = A.heap.size + 1 := by simpa using hsz2
    have hAw := hw.1
    have HBX := Lib.hid hbx
    have HH3 := Lib.hid h3
    have HH4 := Lib.hid h4
    have HH6 : Hid (Only (fun k => (Value.slice a0 n0 cap0).ownBlock = some k ∨ w.heap.size ≤ k) w A2) := Lib.hid ((h6.trans (Only.alloc _ _ _)).trans' ho2 (fun i hi h => by have := h4 i h; omega))
    have HK3 : Hid (∀ k, v'.ownBlock = some k → k < A.heap.size) := Lib.hid (fun k hk => (h2.lt hk).2)
    have HL : Hid ((l0 ++ pre).length = l0.length + pre.length) := Lib.hid (by simp)
    have HOA : Hid (∀ q, O q → q < A.heap.size) := Lib.hid (fun q hq => (hw.2 q hq).2)
    have HZ2 := Lib.hid hz2'
    have hle : w.heap.size + 1 ≤ A2.heap.size := by omega
    have hltA : A.heap.size < A2.heap.size := by omega
    have hltw : w.heap.size < A2.heap.size := by omega
    have HOW2 := Lib.hid hOW
    clear h1 h2 h3 h4 h6 ho2 hsz2 hz2' hbx hOW hw hpx
    gi_wp2_with (gi_at_builtin; refine wpListIn_append_own_at _ rfl _ _ 27 rfl base 68 i0 (.agg #[.int .u64 0, .int .u64 0]) 2 16 Try.underlying27 hi.out hz0.out hz1.out hz2.out rfl (by decide) v' (l0 ++ pre).length (cellsOf (l0 ++ pre)) rfl (World.ownsRow.alloc HOW2.out _) ⟨A2.heap.size, 0, none⟩ 1 1 [.int .u64 x1, .int .u64 x2] rfl rfl (cell_two_new _ _ _ _) (by simp [Value.oneCell']) (by unfold maxLen; have := HL.out; omega) (by have := HL.out; omega) (by simp; omega) ?_)
    intro v'' w1 hown' hgrow _ hat
    obtain ⟨g', cap', rfl⟩ := ownsRow_succ hown'
    have hbw : w1.heap[w.heap.size]? = some (.cells #[v'] 27 (0, 0)) := by
      refine (hgrow.block _ (by rw [World.size_alloc]; omega) (fun e => ?_)).trans ((Below.heap_alloc A2 _ _ hltw).trans HBX.out)
      rcases (HH3.out _ e.symm).2.2 with h | h
      · exact HNS.out h
      · omega
    have hcw : w1.cell? ⟨w.heap.size, 0, none⟩ = some v' := by simp [World.cell?, hbw]
    have hfw : w1.frozen? ⟨w.heap.size, 0, none⟩ = false := by simp [World.frozen?, hbw]
    have hO1 : Only (Not O R) A2 w1 := (Only.alloc _ _ _).trans (Only.of_grown hgrow (fun k hk => ⟨(HH3.out k hk).1, (HH3.out k hk).2.1⟩))
    have hO2 : Only (fun k => (Value.slice a0 n0 cap0).ownBlock = some k ∨ w.heap.size ≤ k) A2 w1 := (Only.alloc _ _ _).trans (Only.of_grown hgrow (fun k hk => by rcases (HH3.out k hk).2.2 with h | h; (exact .inl h); (exact .inr (by omega))))
    have hOw1 : Ow w1 base 68 (.slice (some ⟨g', 0, none⟩) (l0.length + pre.length + 1) cap') (l0 ++ (pre ++ [(x1, x2)])) := by
      have e1 : (l0 ++ (pre ++ [(x1, x2)])).length = (l0 ++ pre).length + 1 := by simp; omega
      have e2 : cellsOf (l0 ++ (pre ++ [(x1, x2)])) = cellsOf (l0 ++ pre) ++ [.int .u64 x1, .int .u64 x2] := by rw [← List.append_assoc, cellsOf_append]; rfl
      unfold Ow
      rw [e1, e2]
      have h := hown'
      try simp only [HL.out] at h
      rw [HL.out]
      exact h
    have hg1 : Hid (¬ O g' ∧ ¬ R g' ∧ ((Value.slice a0 n0 cap0).ownBlock = some g' ∨ w.heap.size < g')) := by
      rcases hat with h | h
      · exact Lib.hid (HH3.out g' h.symm)
      · have h : g' = A2.heap.size + 1 := by simpa using Option.some.inj h
        exact Lib.hid ⟨fun h' => (by have := HOA.out _ h'; omega), fun h' => (by have := hRs.out _ h'; omega), .inr (by omega)⟩
    have HO1 := Lib.hid hO1
    have HO2' := Lib.hid hO2
    have HOw1 := Lib.hid hOw1
    have HBW := Lib.hid hbw
    have hz1' := hO1.size
    clear hO1 hO2 hOw1 hbw hown' hgrow hx1 hx2 hcb
    gi_wp2_with fail
    refine ⟨HO1.out.trans (Only.setCell ⟨fun h => (by have := HH4.out _ h; simp only at this; omega), fun h => (by have := hRs.out _ h; simp only at this; omega)⟩ _ _), .slice (some ⟨g', 0, none⟩) (l0.length + pre.length + 1) cap', ?_, ?_, fun k hk => ?_, HH4.out, by simp; omega, ?_⟩
    · exact set_one HBW.out _
    · refine HOw1.out.only (Only.setCell (O := fun k => k = w.heap.size) rfl _ _) (fun k hk => ?_)
      obtain rfl : g' = k := Option.some.inj hk
      rcases hg1.out.2.2 with h | h
      · exact fun e => HNS.out (by rw [← e]; exact h)
      · omega
    · have := Option.some.inj hk
      subst this
      exact hg1.out
    · exact ((HH6.out.trans' HO2'.out (fun i hi h => h)).trans (Only.setCell (.inr (Nat.le_refl _)) _ _))
  case done =>
    rintro D O B hw hOD hD ⟨v', h1, h2, h3, h4, h5, h6⟩
    have hcb : B.cell? ⟨w.heap.size, 0, none⟩ = some v' := by simp [World.cell?, h1]
    have H3 := Lib.hid h3
    clear h3
    gi_wp2_with fail
    refine ⟨by simp, .inl ⟨_, _, rfl, run_takeDeferred hD, ?_⟩⟩
    refine ⟨_, results_tmp rfl _ _ _, v', rfl, h2.only (Only.putObj hOD _ _) (fun k hk => (H3.out k hk).1), ?_, fun k hk => ((H3.out k hk).2.2).imp id Nat.le_of_lt⟩
    have hDw := (hw.2 D hOD).1
    have hq := h6.trans (Only.putObj (O := fun k => (Value.slice a0 n0 cap0).ownBlock = some k ∨ w.heap.size ≤ k) (l := D) (.inr (by rw [World.size_alloc] at hDw; omega)) B (.deferred none))
    exact ⟨hq.os, hq.tape, hq.output, hq.size, fun k hk hn => hq.block k hk (fun h => h.elim hn (fun h => by omega))⟩
  case stop =>
    rintro D c pre O B hw hOD hD hpre h
    exact h.elim

/-- Between two rounds of AppendSeq's loop. -/
def SeqI48 (w : World) (base : Nat) (v : Value) (l0 : List Ran) (R : Nat → Prop) (pre : List Ran) (O : Nat → Prop) (A : World) : Prop :=
  ∃ v', A.heap[w.heap.size]? = some (.cells #[v'] 26 (0, 0)) ∧ Ow A base 68 v' (l0 ++ pre) ∧ (∀ k, v'.ownBlock = some k → ¬ O k ∧ ¬ R k ∧ (v.ownBlock = some k ∨ w.heap.size < k)) ∧ (∀ q, O q → w.heap.size + 1 ≤ q) ∧ w.heap.size + 1 ≤ A.heap.size ∧ Only (fun k => v.ownBlock = some k ∨ w.heap.size ≤ k) w A
theorem seqI48_stable (w : World) (base : Nat) (v : Value) (l0 : List Ran) (R : Nat → Prop) : Stable (SeqI48 w base v l0 R) := by
  rintro pre O O' A B ⟨v', h1, h2, h3, h4, h5, h6⟩ ho g2
  refine ⟨v', ho.heap h1 (fun h => by have := h4 _ h; omega), h2.only ho (fun k hk => (h3 k hk).1), fun k hk => ⟨fun h => ?_, (h3 k hk).2⟩, grow_ge h4 h5 g2, Nat.le_trans h5 ho.size, h6.trans' ho (fun i hi h => by have := h4 i h; omega)⟩
  rcases g2 k h with h' | h'
  · exact (h3 k hk).1 h'
  · have := (h2.lt hk).2; omega

attribute [local go_sem] Oper.semAt_some
set_option maxHeartbeats 2000000 in
theorem appendSeq48 (a0 : Option Addr) (n0 cap0 : Nat) (l0 : List Ran) (base : Nat) (g : Nat) (lb : Array Value) (xs : List Ran) (R : Nat → Prop) (w0 w : World) (eg : ∀ args w, (callFunc g args).run Try.prog w = .ok (.enter g args) w)
    (hit : Iter Try.prog g lb xs R w0) (hR : ∀ k, R k → k < w0.heap.size ∧ w.heap[k]? = w0.heap[k]?) (hsz : w0.heap.size ≤ w.heap.size) (hbase : base ≤ w.heap.size)
    (hown : Ow w base 68 (.slice a0 n0 cap0) l0) (hnR : ∀ k, (Value.slice a0 n0 cap0).ownBlock = some k → ¬ R k) (hlen : l0.length + xs.length ≤ 100000) :
    Calls Try.prog 75 #[.slice a0 n0 cap0, .func (.func g) #[] lb] w fun e w' => ∃ v', e = .returned v' ∧ Ow w' base 68 v' (l0 ++ xs) ∧ Only (fun k => (Value.slice a0 n0 cap0).ownBlock = some k) w w' ∧ (∀ k, v'.ownBlock = some k → ((Value.slice a0 n0 cap0).ownBlock = some k ∨ w.heap.size ≤ k)) := by
  refine (callsIn_wide (n := 0)).1 ?_
  obtain ⟨i0, hi, hz0, hz1, hz2⟩ := info_parts infoR
  have hz1 := Lib.hid hz1; have hz2 := Lib.hid hz2; have hz0 := Lib.hid hz0; have hi := Lib.hid hi
  have HIT := Lib.hid hit
  have HR := Lib.hid hR
  have HN := Lib.hid hnR
  have HOW := Lib.hid hown
  have HNS : Hid ((Value.slice a0 n0 cap0).ownBlock ≠ some w.heap.size) := Lib.hid (fun h => by have := (hown.lt h).2; omega)
  clear hit hR hnR hown
  refine callsIn_of_wp_marks Try.func75 rfl trivial ?_ rfl
  simp only [Try.ntmps75, List.size_toArray, List.length_cons, List.length_nil, Nat.reduceAdd, Nat.reduceSub, Array.replicate_succ, Array.replicate_zero, List.push_toArray, List.append_toArray, List.nil_append, List.cons_append]
  gi_wp2_with fail
  have hRs : Hid (∀ k, R k → k < w.heap.size) := Lib.hid (fun k hk => by have := (HR.out k hk).1; omega)
  refine wp_range rfl eg HIT.out (fun q hq => ⟨(HR.out q hq).1, (Below.heap_alloc w _ q (hRs.out q hq)).trans (HR.out q hq).2⟩) (by simp; omega) rfl
    (SeqI48 w base (.slice a0 n0 cap0) l0 R) (fun _ _ _ _ => False) (seqI48_stable _ _ _ _ _) (fun _ _ _ _ _ _ h _ _ => h) ?h0 ?round ?done ?stop
  case h0 =>
    refine ⟨_, World.alloc_heap_new w _, by rw [List.append_nil]; exact HOW.out.only (Only.alloc (fun _ => False) _ _) (fun _ _ h => h), fun k hk => ⟨fun h => h, HN.out k hk, .inl hk⟩, fun _ h => h.elim, by simp, Only.alloc _ _ _⟩
  case round =>
    rintro lq pre ⟨x1, x2⟩ O A hpx hw hOl ⟨v', h1, h2, h3, h4, h5, h6⟩
    have hplen : pre.length + 1 ≤ xs.length := by have := hpx.length_le; simpa using this
    simp only [enc]
    gi_wp2_with fail
    refine ⟨Only.alloc _ _ _, ?_⟩
    intro A2 ho2 hsz2
    have hx1 : A2.cell? ⟨A.heap.size, 0, none⟩ = some (.int .u64 x1) := ho2.cell (by simp [go_sem]) (fun h => by have := (hw.2 _ h).2; simp only at this; omega)
    have hx2 : A2.cell? ⟨A.heap.size, 1, none⟩ = some (.int .u64 x2) := ho2.cell (by simp [go_sem]) (fun h => by have := (hw.2 _ h).2; simp only at this; omega)
    have hbx := ho2.heap ((Below.heap_alloc A (.cells #[.int .u64 x1, .int .u64 x2] 68) w.heap.size (by omega)).trans h1) (fun h => by have := h4 _ h; omega)
    have hOW := (h2.only (Only.alloc (fun _ => False) A (.cells #[.int .u64 x1, .int .u64 x2] 68)) (fun _ _ h => h)).only ho2 (fun k hk => (h3 k hk).1)
    have hcb : A2.cell? ⟨w.heap.size, 0, none⟩ = some v' := by simp [World.cell?, hbx]
    have hz2' : A2.heap.size = A.heap.size + 1 := by simpa using hsz2
    have hAw := hw.1
    have HBX := Lib.hid hbx
    have HH3 := Lib.hid h3
    have HH4 := Lib.hid h4
    have HH6 : Hid (Only (fun k => (Value.slice a0 n0 cap0).ownBlock = some k ∨ w.heap.size ≤ k) w A2) := Lib.hid ((h6.trans (Only.alloc _ _ _)).trans' ho2 (fun i hi h => by have := h4 i h; omega))
    have HK3 : Hid (∀ k, v'.ownBlock = some k → k < A.heap.size) := Lib.hid (fun k hk => (h2.lt hk).2)
    have HL : Hid ((l0 ++ pre).length = l0.length + pre.length) := Lib.hid (by simp)
    have HOA : Hid (∀ q, O q → q < A.heap.size) := Lib.hid (fun q hq => (hw.2 q hq).2)
    have HZ2 := Lib.hid hz2'
    have hle : w.heap.size + 1 ≤ A2.heap.size := by omega
    have hltA : A.heap.size < A2.heap.size := by omega
    have hltw : w.heap.size < A2.heap.size := by omega
    have HOW2 := Lib.hid hOW
    clear h1 h2 h3 h4 h6 ho2 hsz2 hz2' hbx hOW hw hpx
    gi_wp2_with (gi_at_builtin; refine wpListIn_append_own_at _ rfl _ _ 26 rfl base 68 i0 (.agg #[.int .u64 0, .int .u64 0]) 2 16 Try.underlying26 hi.out hz0.out hz1.out hz2.out rfl (by decide) v' (l0 ++ pre).length (cellsOf (l0 ++ pre)) rfl (World.ownsRow.alloc HOW2.out _) ⟨A2.heap.size, 0, none⟩ 1 1 [.int .u64 x1, .int .u64 x2] rfl rfl (cell_two_new _ _ _ _) (by simp [Value.oneCell']) (by unfold maxLen; have := HL.out; omega) (by have := HL.out; omega) (by simp; omega) ?_)
    intro v'' w1 hown' hgrow _ hat
    obtain ⟨g', cap', rfl⟩ := ownsRow_succ hown'
    have hbw : w1.heap[w.heap.size]? = some (.cells #[v'] 26 (0, 0)) := by
      refine (hgrow.block _ (by rw [World.size_alloc]; omega) (fun e => ?_)).trans ((Below.heap_alloc A2 _ _ hltw).trans HBX.out)
      rcases (HH3.out _ e.symm).2.2 with h | h
      · exact HNS.out h
      · omega
    have hcw : w1.cell? ⟨w.heap.size, 0, none⟩ = some v' := by simp [World.cell?, hbw]
    have hfw : w1.frozen? ⟨w.heap.size, 0, none⟩ = false := by simp [World.frozen?, hbw]
    have hO1 : Only (Not O R) A2 w1 := (Only.alloc _ _ _).trans (Only.of_grown hgrow (fun k hk => ⟨(HH3.out k hk).1, (HH3.out k hk).2.1⟩))
    have hO2 : Only (fun k => (Value.slice a0 n0 cap0).ownBlock = some k ∨ w.heap.size ≤ k) A2 w1 := (Only.alloc _ _ _).trans (Only.of_grown hgrow (fun k hk => by rcases (HH3.out k hk).2.2 with h | h; (exact .inl h); (exact .inr (by omega))))
    have hOw1 : Ow w1 base 68 (.slice (some ⟨g', 0, none⟩) (l0.length + pre.length + 1) cap') (l0 ++ (pre ++ [(x1, x2)])) := by
      have e1 : (l0 ++ (pre ++ [(x1, x2)])).length = (l0 ++ pre).length + 1 := by simp; omega
      have e2 : cellsOf (l0 ++ (pre ++ [(x1, x2)])) = cellsOf (l0 ++ pre) ++ [.int .u64 x1, .int .u64 x2] := by rw [← List.append_assoc, cellsOf_append]; rfl
      unfold Ow
      rw [e1, e2]
      have h := hown'
      try simp only [HL.out] at h
      rw [HL.out]
      exact h
    have hg1 : Hid (¬ O g' ∧ ¬ R g' ∧ ((Value.slice a0 n0 cap0).ownBlock = some g' ∨ w.heap.size < g')) := by
      rcases hat with h | h
      · exact Lib.hid (HH3.out g' h.symm)
      · have h : g' = A2.heap.size + 1 := by simpa using Option.some.inj h
        exact Lib.hid ⟨fun h' => (by have := HOA.out _ h'; omega), fun h' => (by have := hRs.out _ h'; omega), .inr (by omega)⟩
    have HO1 := Lib.hid hO1
    have HO2' := Lib.hid hO2
    have HOw1 := Lib.hid hOw1
    have HBW := Lib.hid hbw
    have hz1' := hO1.size
    clear hO1 hO2 hOw1 hbw hown' hgrow hx1 hx2 hcb
    gi_wp2_with fail
    refine ⟨HO1.out.trans (Only.setCell ⟨fun h => (by have := HH4.out _ h; simp only at this; omega), fun h => (by have := hRs.out _ h; simp only at this; omega)⟩ _ _), .slice (some ⟨g', 0, none⟩) (l0.length + pre.length + 1) cap', ?_, ?_, fun k hk => ?_, HH4.out, by simp; omega, ?_⟩
    · exact set_one HBW.out _
    · refine HOw1.out.only (Only.setCell (O := fun k => k = w.heap.size) rfl _ _) (fun k hk => ?_)
      obtain rfl : g' = k := Option.some.inj hk
      rcases hg1.out.2.2 with h | h
      · exact fun e => HNS.out (by rw [← e]; exact h)
      · omega
    · have := Option.some.inj hk
      subst this
      exact hg1.out
    · exact ((HH6.out.trans' HO2'.out (fun i hi h => h)).trans (Only.setCell (.inr (Nat.le_refl _)) _ _))
  case done =>
    rintro D O B hw hOD hD ⟨v', h1, h2, h3, h4, h5, h6⟩
    have hcb : B.cell? ⟨w.heap.size, 0, none⟩ = some v' := by simp [World.cell?, h1]
    have H3 := Lib.hid h3
    clear h3
    gi_wp2_with fail
    refine ⟨by simp, .inl ⟨_, _, rfl, run_takeDeferred hD, ?_⟩⟩
    refine ⟨_, results_tmp rfl _ _ _, v', rfl, h2.only (Only.putObj hOD _ _) (fun k hk => (H3.out k hk).1), ?_, fun k hk => ((H3.out k hk).2.2).imp id Nat.le_of_lt⟩
    have hDw := (hw.2 D hOD).1
    have hq := h6.trans (Only.putObj (O := fun k => (Value.slice a0 n0 cap0).ownBlock = some k ∨ w.heap.size ≤ k) (l := D) (.inr (by rw [World.size_alloc] at hDw; omega)) B (.deferred none))
    exact ⟨hq.os, hq.tape, hq.output, hq.size, fun k hk hn => hq.block k hk (fun h => h.elim hn (fun h => by omega))⟩
  case stop =>
    rintro D c pre O B hw hOD hD hpre h
    exact h.elim
end Go.Proofs.Ytedijfcagkedaaa.Rg
